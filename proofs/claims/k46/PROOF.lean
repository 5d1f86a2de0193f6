import PyProof.Rows.All
import Wide.All
import OpenK.AllK
import Wide.FinOn
import PySem.Challenge.RW_fieldrows_k46_steps_and_tired
import Lean
set_option Elab.async false
set_option linter.all false
set_option maxRecDepth 100000
set_option maxHeartbeats 4100000
set_option bootstrap.genMatcherCode false
set_option compiler.extract_closed false
noncomputable section
open Option renaming bind_some → aa, map_some → be, isSome_some → mq, bind_eq_some_iff → nk
open PySem renaming wpAny_bind → ac, sizeLine → af, starEach → ag, wpAny_pure → ah, mainGlobals → ay, attributeBase → cb, wpAny_field → cr, compareOp → cz, wpAny_newObj_type → dj, backTo → dq, wpAny_holding → ee, behindInMarks → eg, foldedSetIterable → fg, wpAny_callSpecial?_slot → fq, keywordEach → fu, wpAny_call_entry → ge, mem_of_lookup → gj, wpAny_of_eq → gr, builtinLookup_eq_fast → gt, wpAny_mono → gv, swapsWith → gx, wpAny_truthy_bool → ig, wpAny_specialOf → ii, sysModules → ik, assignEach → io, wpAny_setField_rec → jb, wpAny_seqItems → jc, backToKw → jd, wpAny_passesOwn → jk, typeLookup_type → jl, codeAny_builtin → jm, wpAny_attempt → jx, isSubtype_type → kh, plainId_quiet → lh, wpAny_updateSeq → lr, wpAny_typeOf → mi, wpAny_Call_Name_kw → mj, wpAny_isInstance → nj, wpAny_rule → nw, wpAny_pyNext_list_item → og, call_meets → oi, wpAny_execs_nil → ou, wpAny_pyNext_list_end → oz, wpAny_updateSeq_pair → pe, sizeLine_eq → pi, wpAny_onRaise → qm, wpAny_pyIter_list → qr, slot_list_getitem → qt, codeAny_mono → qu, wpAny_setField → rn, isSubtype_stop → ro, wpAny_standAt → sr, wpAny_getItem_list_slice → su, wpAny_comprehension_free → sw, evalPart_none → sx, wpAny_pyNext_range_end → uh, wpAny_pyIter_rangeiter → ui, concat_meets → uk, wpAny_isTrue_Compare1 → uz, wpAny_pyIter_revIter → vm, wpAny_loadName_local → vn, wpAny_letGo → vo, wpAny_loadName_cell → wf
open Nat renaming le_refl → ae, lt_of_lt_of_le → bh, ne_of_lt → bq, le_trans → bv, zero_le → cg, ne_of_gt → gf, lt_irrefl → iw, le_of_eq → jj, succ_le_succ → jv, le_of_lt → ki, le_of_not_lt → lg, lt_succ_self → nr, lt_trans → om, zero_add → qw, zero_lt_succ → rb, le_add_right → re, min_eq_left → ri, add_comm → ut, sub_min_sub_right → vg
open List renaming length_map → ak, size_toArray → am, length_cons → ao, map_cons → aq, getElem?_eq_some_iff → av, mem_singleton → ba, length_append → bb, mem_append → bf, getElem?_append_left → bg, mem_cons_of_mem → bm, getElem?_map → bn, getElem?_eq_getElem → bt, length_nil → bu, mem_cons → ca, getElem?_replicate → cj, filterMap_cons → cn, getElem?_append_right → cu, map_append → cy, mem_append_right → dk, nodup_cons → dl, append_nil → dm, mem_cons_self → dw, length_reverse → eh, mem_map → fo, lookup_cons → gh, map_map → gm, find?_cons → gn, length_take → gp, append_assoc → gq, getElem?_set_ne → gy, length_drop → ja, foldl_cons → jf, reverse_cons → jh, all_cons → ji, any_cons → jn, dropLast_eq_take → jq, nodup_nil → jt, mem_of_mem_take → ju, map_nil → jw, take_of_length_le → kj, mem_range → kl, length_range → km, drop_of_length_le → ko, drop_eq_nil_of_le → kq, getElem?_reverse → ku, getElem?_eq_none → kz, mem_of_getElem? → lq, mem_filter → lu, forIn_cons → lw, getElem?_take_of_lt → ng, mem_of_mem_drop → pj, mem_append_left → pq, getElem?_of_mem → pz, forIn_nil → qc, map_congr_left → qh, length_pos_iff → qi, getElem?_range → qk, mem_filterMap → qq, nodup_append → qx, eraseIdxIfInBounds_toArray → ra, all_eq_true → rh, of_mem_zip → rj, length_set → rl, dropLast_concat_getLast → rm, getD_eq_getElem?_getD → sg, drop_zero → si, mem_of_find?_eq_some → sk, getElem?_zip_eq_some → sn, drop_eq_getElem_cons → so, map_take → tm, length_erase_of_mem → tq, getElem?_cons_succ → ua, filter_cons_of_pos → ub, filter_cons_of_neg → uc, length_pos_of_mem → uv, getElem?_set_self → uw, take_append_drop → vh, length_replicate → vi, length_filter_le → vj, getElem?_zipWith → vk, range_eq_range' → vp, mem_erase_of_ne → vq, forall_mem_cons → vt, dropLast_concat → vw, forall_mem_nil → wp
open PySem.Heap renaming get?_push_of_some → al, lt_size → au, get?_push_size → bo, get?_update_self → jr, get?_update_other → kr, size_push → qd
open Bool renaming false_ne_true → ax, false_eq_true → bx, and_eq_true → cw, eq_iff_iff → ma, not_true → qp
open Option.some renaming inj → bw, injEq → gk
open Int renaming emod_lt_of_pos → ck, emod_nonneg → cq, zero_add → on, ediv_nonneg → oy, toNat_natCast → qy, eq_ofNat_of_zero_le → ue, add_mul_ediv_right → ux, le_refl → vz
open PySem.W renaming mg_none_of → dg, kia_one → dz, mg_of → ir, callWith_K → kf, methodCall_KW → pb, plainGet_of → qg, kitx_list → qv, cellsFrom_some → um
open PySem.F renaming plainAttrs_list → di, slot_zip_next → jg, type_list_pop → jo, slot_list_pop → jp, slot_NoneType_hash → js, type_list_append → jy, slot_list_append → ke, plain_extend_loop → mh, args_zip_next_1 → my, slot_list_getattribute → nh, entry_zip_next → nv, slot_tuple_getitem → se, args_tuple_add_2 → sy, plainAttrs_dict → tw, entry_tuple_add → tx, slot_tuple_add → uo, slot_dict_pop → va, slot_dict_get → vb, plain_reversed_new → wb, args_object_init_2 → wd, args_list_extend_2 → we, entry_list_extend → wq, entry_extend_loop → wr
open PyProof.Rows renaming callWith_type1 → fi, slot_tuple_getitem → ft, subscriptTail_builtinR → oh, slicePart_none → ph, Subscript_ → rq, boot_reversed → sf, boot_tuple → tz, boot_dict → ur, boot_max → vc, entry_tuple_getitem → wg
open Array renaming getElem?_toList → gu, length_toList → iq, toArray_toList → qf, getElem?_push → wu
open PySem.Around renaming under_plainId → ie
open Classical renaming choose_spec → je
open PySem.Calls renaming spliced_cons → kg, callWith_builtin → kt, spliced_nil → mz, evalArgs_plain → qe, Name_function_global → sj
open Ne renaming symm → lm
open PySem.Obj renaming data_mapFields → mw, isFreed_of_fields → vf
open Nat.succ renaming inj → oj
open Iff renaming rfl → oq
open PySem.PassesOwn renaming never → ox
open PySem.Heap.SameBut renaming update → ql, refl → qz
open PySem.Paired renaming length → qo
open PySem.AutoSeq1 renaming sub_tuple_tuple → tt, sub_tuple_list → uf, sub_list_tuple → ug, sub_list_list → uy
open PyProof.Rows.IsTup renaming new → ud
open PyProof renaming noPylong_small → uq
open PySem.SeqAt.EqAt renaming str_none → wj, none_str → wl, none_int → wm, int_none → wo
noncomputable abbrev Fg:=PySem.W.Frag
namespace L2
open PySem PySem.Spec PyProof.Rows
noncomputable abbrev Key:=Sum Int Str
def gU:Key->Value->Bool
 |.inl k,v=>Value.isInt k v
 |.inr x,v=>Value.isStrOf x v
def zRJ(w:World):Key->Int
 |.inl k=>hashInt k
 |.inr x=>hashStr w x
theorem yJ:∀{k:Key} {v:Value},gU k v=true->(∃i t,k=Sum.inl i/\v=Value.int i t)\/(∃x t,k=Sum.inr x/\v=Value.str x t)
 |.inl i,v,h=>by
  obtain⟨t,e⟩:=Value.isInt_shape (k:=i) (v:=v) h;exact .inl ⟨i,t,rfl,e⟩
 |.inr x,v,h=>by
  obtain⟨t,e⟩:=Value.isStrOf_shape (x:=x) (v:=v) h;exact .inr ⟨x,t,rfl,e⟩
theorem X0(i:Int)(t:Tok):gU (.inl i) (.int i t)=true:=by simp[gU,Value.isInt]
theorem XZ(x:Str)(t:Tok):gU (.inr x) (.str x t)=true:=by simp[gU,Value.isStrOf]
theorem zLZ(a b:Int):decide ((Sum.inl a:Key)=Sum.inl b)=(a == b):=by
 by_cases e:a=b
 ·subst e;simp
 ·have h:¬(Sum.inl a:Key)=Sum.inl b:=λq=>e (Sum.inl.inj q)
  rw[decide_eq_false h];exact(beq_eq_false_iff_ne.mpr e).symm
theorem zLW(a b:Str):decide ((Sum.inr a:Key)=Sum.inr b)=decide (a=b):=by
 by_cases e:a=b
 ·subst e;simp
 ·have h:¬(Sum.inr a:Key)=Sum.inr b:=λq=>e (Sum.inr.inj q)
  rw[decide_eq_false h,decide_eq_false e]
theorem zLY(a:Int)(b:Str):decide ((Sum.inl a:Key)=Sum.inr b)=false:=decide_eq_false (λq=>nomatch q)
theorem zLX(a:Str)(b:Int):decide ((Sum.inr a:Key)=Sum.inl b)=false:=decide_eq_false (λq=>nomatch q)
def yE(prog:Program)(w:World):PySem.KeyKind prog w Key where
 is:=gU
 hash:=zRJ w
 inj:=λv a b ha hb=>by
  rcases yJ ha with⟨i,t,rfl,rfl⟩|⟨x,t,rfl,rfl⟩
  ·rcases yJ hb with⟨j,u,rfl,e⟩|⟨y,u,rfl,e⟩
   ·injection e with e1 _;rw[e1]
   ·exact nomatch e
  ·rcases yJ hb with⟨j,u,rfl,e⟩|⟨y,u,rfl,e⟩
   ·exact nomatch e
   ·injection e with e1 _;rw[e1]
 byValue:=λk v h=>by
  rcases yJ h with⟨i,t,rfl,rfl⟩|⟨x,t,rfl,rfl⟩<;>rfl
 pyHash:=λhv h=>by
  rcases yJ hv with⟨i,t,rfl,rfl⟩|⟨x,t,rfl,rfl⟩
  ·exact wpAny_pyHash_int h
  ·exact wpAny_pyHash_str h
 eqBool:=λhu hv h=>by
  rcases yJ hu with⟨i,t,rfl,rfl⟩|⟨x,t,rfl,rfl⟩
  ·rcases yJ hv with⟨j,u,rfl,rfl⟩|⟨y,u,rfl,rfl⟩
   ·rw[zLZ] at h;exact wpAny_eqBool_int h
   ·rw[zLY] at h;exact SeqAt.EqAt.int_str i t y u _ _ _ _ h
  ·rcases yJ hv with⟨j,u,rfl,rfl⟩|⟨y,u,rfl,rfl⟩
   ·rw[zLX] at h;exact SeqAt.EqAt.str_int x t j u _ _ _ _ h
   ·rw[zLW] at h;exact wpAny_eqBool_str h
 «strs»:=λk x t v h=>by
  rcases yJ h with⟨i,u,rfl,e⟩|⟨y,u,rfl,e⟩
  ·exact nomatch e
  ·injection e with e1 _
   subst e1;cases v<;>rfl
theorem nM(prog:Program)(w:World)(i:Int)(t:Tok):(yE prog w).is (.inl i) (.int i t)=true:=X0 i t
theorem nL(prog:Program)(w:World)(x:Str)(t:Tok):(yE prog w).is (.inr x) (.str x t)=true:=XZ x t
end L2
namespace L2
open PySem PySem.Spec PyProof.Rows
inductive V where
 |non|bl (b:Bool)|int (i:Int)|str (x:Str)|byt (b:Array UInt8)|flt (b:UInt64)|ref (a:Addr)|ty (n:String)
 deriving DecidableEq
def RelV:V->Value->Prop
 |.non,u=>u=Value.none
 |.bl b,u=>u=Value.bool b
 |.int i,u=>∃t,u=Value.int i t
 |.str x,u=>∃t,u=Value.str x t
 |.byt b,u=>∃t,u=Value.bytes b t
 |.flt b,u=>∃t,u=Value.float b t
 |.ref a,u=>u=Value.ref a
 |.ty n,u=>u=Value.type n
abbrev Vals:List V->List Value->Prop:=Paired RelV
theorem Vals.length(r:Vals xs us):xs.length=us.length:=qo r
theorem Vals.get:∀{xs:List V} {us:List Value} {i:Nat} {x:V},Vals xs us->xs[i]?=some x->∃u,us[i]?=some u/\RelV x u
 |_,_,_,_,.nil,e=>by simp at e
 |_,_,0,_,.cons r _,e=>by simp at e;subst e;exact⟨_,rfl,r⟩
 |_,_,i+1,x,.cons _ t,e=>by
  obtain⟨u,h1,h2⟩:=Vals.get (i:=i) (x:=x) t (by simpa using e);exact⟨u,by simpa using h1,h2⟩
theorem Vals.append:∀{xs ys:List V} {us ws:List Value},Vals xs us->Vals ys ws->Vals (xs++ys) (us++ws)
 |_,_,_,_,.nil,s=>s
 |_,_,_,_,.cons r t,s=>.cons r (Vals.append t s)
theorem Vals.take:∀{xs:List V} {us:List Value} (n:Nat),Vals xs us->Vals (xs.take n) (us.take n)
 |_,_,0,_=>.nil
 |_,_,_+1,.nil=>.nil
 |_,_,n+1,.cons r t=>.cons r (Vals.take n t)
theorem Vals.drop:∀{xs:List V} {us:List Value} (n:Nat),Vals xs us->Vals (xs.drop n) (us.drop n)
 |_,_,0,r=>r
 |_,_,_+1,.nil=>.nil
 |_,_,n+1,.cons _ t=>Vals.drop n t
def RelO:Option V->Option Value->Prop
 |some v,some u=>RelV v u
 |none,none=>True
 |_,_=>False
def KV:List (κ×V)->List (κ×Value)->Prop:=Paired λ(p:κ×V) (q:κ×Value)=>p.1=q.1/\RelV p.2 q.2
def kV:Key->V
 |.inl i=>.int i
 |.inr x=>.str x
inductive HO where
 |lst (xs:List V)
 |tup (xs:List V)
 |dK (kvs:List (Key×V))|dT (kvs:List (List Key×V))
 |set (S:Int->Bool) (n:Nat)
 |ins (C dx:Addr) (fs:List (Str×V))
 |own (x:Addr)
 |xd (fs:List (Str×V))
 |met (f x:Addr)
 |rng (lo hi:Int)
 |frz (o:Obj) (u:HO)
 |tbl (ps:Array Value)
 |ext (φ:Heap->Prop)
noncomputable abbrev Hp:=Addr->Option HO
def upd(H:Hp)(a:Addr)(o:HO):Hp:=λb=>if b=a then some o else H b
theorem zJ:upd H a o a=some o:=by unfold upd;rw[if_pos rfl]
theorem zI(h:b≠a):upd H a o b=H b:=by unfold upd;rw[if_neg h]
theorem zIZ{H:Hp}{a b:Addr}{o u:HO}(h:H a=some o)(h':H b=some u)(d:o≠u):a≠b:=by
 intro e;subst e;rw[h] at h';exact d (bw h')
theorem wX{H:Hp}{a b:Addr}{o:HO}(h:H a=some o)(h':H b=none):a≠b:=by
 intro e;subst e;rw[h] at h';cases h'
noncomputable def qOf(ps:Array Value):Str:=match (ps[0]?:Option Value) with
 |some (.str q _)=>q
 |_=>""
def zSO(q:Str)(o:Obj):Prop:=∃vs t,o.data=.fields vs/\vs[1]?=some (.str q t)
def zP9(H:Hp)(h:Heap)(a:Addr)(q:Str):Prop:=∃ts:Array Value,h.get? a=some (PySem.W.tabObj ts)/\TriplesOk ts.toList/\∀pos cv,codeAmong pos ts.toList=some cv->∃c oc u,cv=.ref c/\H c=some (.frz oc u)/\zSO q oc
section
variable(P:Program)(w:World)
def ObjOk(H:Hp)(h:Heap)(a:Addr):HO->Prop
 |.lst xs=>xs.length<=af/\∃(its:List Value) (n:Nat),Vals xs its/\h.get? a=some { cls:=.type "list",data:=.seq its.toArray n }
 |.tup xs=>xs.length<=af/\∃its:List Value,Vals xs its/\IsTup h a its.toArray
 |.dK kvs=>kvs.length<=af/\(a == ik)=false/\∃vs,KV kvs vs/\h.DictOf (yE P w) a vs
 |.dT kvs=>kvs.length<=af/\(a == ik)=false/\∃xs:List (List Key×Addr×Value),
   Paired (λ(p:List Key×V) (q:List Key×Addr×Value)=>p.1=q.1/\H q.2.1=some (.tup (p.1.map kV))/\RelV p.2 q.2.2) kvs xs /\
   ∃o es ep,h.get? a=some o/\o.ExactDict/\o.data=.dict es ep/\es.toList=xs.map (entryOfKey (tupleKind (yE P w)))/\(xs.map (·.1)).Nodup
 |.set S n=>h.SetOf (intKind P w) a S n
 |.ins C dx fs=>H dx=some (.own a)/\fs.length<=1000/\dx≠a/\h.get? a=some (PySem.W.instObj C dx) /\
   ∃mA,h.Ns1 dx mA/\(∀f,RelO (fs.lookup f) (mA f))/\PySem.Within mA (fs.map (·.1))
 |.own _=>∃o,h.get? a=some o
 |.xd fs=>∃mA,h.Ns1 a mA/\∀f,RelO (fs.lookup f) (mA f)
 |.rng lo hi=>∃t u v,h.get? a=some { cls:=.type "range",data:=.fields #[.int lo t,.int hi u,.int 1 v] }
 |.frz o u=>h.get? a=some o/\ObjOk H h a u
 |.tbl ps=>zP9 H h a (qOf ps)
 |.met f x=>h.get? a=some (PySem.W.methodObj (.ref f) (.ref x))
 |.ext φ=>φ h/\(∃o,h.get? a=some o)/\∀h1 h2:Heap,φ h1->(∀o,h1.get? a=some o->h2.get? a=some o)->φ h2
def HOk(H:Hp)(h:Heap):Prop:=∀a o,H a=some o->ObjOk P w H h a o
end
theorem ObjOk.lt(x:ObjOk P w H h a o):a<h.objs.size:=by
 cases o with
 |lst xs=>obtain⟨_,_,_,_,e⟩:=x;exact au e
 |tup xs=>obtain⟨_,_,_,p⟩:=x;exact p.lt
 |dK kvs=>obtain⟨_,_,_,_,o,_,_,e,_⟩:=x;exact au e
 |dT kvs=>obtain⟨_,_,_,_,o,_,_,e,_⟩:=x;exact au e
 |set S n=>obtain⟨o,_,_,_,e,_⟩:=x;exact au e
 |ins C dx fs=>obtain⟨_,_,_,e,_⟩:=x;exact au e
 |own y=>obtain⟨_,e⟩:=x;exact au e
 |xd fs=>obtain⟨_,⟨_,_,_,e,_⟩,_⟩:=x;exact au e
 |rng lo hi=>obtain⟨_,_,_,e⟩:=x;exact au e
 |frz ob u=>obtain⟨e,_⟩:=x;exact au e
 |tbl ps=>obtain⟨_,e,_⟩:=x;exact au e
 |met f y=>exact au (show h.get? a=some _ from x)
 |ext φ=>obtain⟨_,⟨_,e⟩,_⟩:=x;exact au e
theorem Paired.mapP:∀{l₁:List α} {l₂:List β},Paired F l₁ l₂->(∀a b,F a b->G a b)->Paired G l₁ l₂
 |_,_,.nil,_=>.nil
 |_,_,.cons r t,f=>.cons (f _ _ r) (Paired.mapP t f)
theorem ObjOk.stay(x:ObjOk P w H h a o)(k:∀b u,(b=a\/H b=some (.own a))->h.get? b=some u->h'.get? b=some u)(ho:∀b,H b=some (.own a)->H' b=some (.own a))(ht:∀b xs,H b=some (.tup xs)->H' b=some (.tup xs))(hf:∀b o u,H b=some (.frz o u)->H' b=some (.frz o u)):ObjOk P w H' h' a o:=by
 induction o with
 |lst xs=>obtain⟨z,its,n,r,e⟩:=x;exact⟨z,its,n,r,k _ _ (.inl rfl) e⟩
 |tup xs=>obtain⟨z,its,r,ob,e,c⟩:=x;exact⟨z,its,r,ob,k _ _ (.inl rfl) e,c⟩
 |dK kvs=>obtain⟨z,y,vs,r,ob,es,ep,e,c⟩:=x;exact⟨z,y,vs,r,ob,es,ep,k _ _ (.inl rfl) e,c⟩
 |dT kvs=>
  obtain⟨z,y,xs,r,ob,es,ep,e,c⟩:=x;exact⟨z,y,xs,Paired.mapP r λp q z=>⟨z.1,ht _ _ z.2.1,z.2.2⟩,ob,es,ep,k _ _ (.inl rfl) e,c⟩
 |set S n=>obtain⟨ob,es,ep,t,e,c⟩:=x;exact⟨ob,es,ep,t,k _ _ (.inl rfl) e,c⟩
 |ins C dx fs=>
  obtain⟨d,z,ne,e,mA,⟨od,es,ep,e2,c⟩,r⟩:=x;exact⟨ho _ d,z,ne,k _ _ (.inl rfl) e,mA,⟨od,es,ep,k _ _ (.inr d) e2,c⟩,r⟩
 |own y=>obtain⟨ob,e⟩:=x;exact⟨ob,k _ _ (.inl rfl) e⟩
 |xd fs=>obtain⟨mA,⟨od,es,ep,e,c⟩,r⟩:=x;exact⟨mA,⟨od,es,ep,k _ _ (.inl rfl) e,c⟩,r⟩
 |rng lo hi=>obtain⟨t,u,v,e⟩:=x;exact⟨t,u,v,k _ _ (.inl rfl) e⟩
 |frz ob u ih=>obtain⟨e,q⟩:=x;exact⟨k _ _ (.inl rfl) e,ih q⟩
 |tbl ps=>obtain⟨ts,e,z,r⟩:=x;exact⟨ts,k _ _ (.inl rfl) e,z,λp v q=>let ⟨c,oc,u,e1,e2,e3⟩:=r p v q;⟨c,oc,u,e1,hf _ _ _ e2,e3⟩⟩
 |met f y=>
  have e:h.get? a=some (PySem.W.methodObj (.ref f) (.ref y)):=x;show h'.get? a=some (PySem.W.methodObj (.ref f) (.ref y));exact k a _ (.inl rfl) e
 |ext φ=>obtain⟨p,⟨o,e⟩,st⟩:=x;exact⟨st _ _ p λo q=>k _ _ (.inl rfl) q,⟨o,k _ _ (.inl rfl) e⟩,st⟩
theorem HOk.lt(x:HOk P w H h)(e:H a=some o):a<h.objs.size:=(x a o e).lt
theorem HOk.fresh(x:HOk P w H h)(e:h.objs.size<=a):H a=none:=by
 cases q:H a with
 |none=>rfl
 |some u=>exact absurd (bh (x.lt q) e) (iw _)
theorem HOk.kept(x:HOk P w H h)(k:∀b u,h.get? b=some u->h'.get? b=some u):HOk P w H h':=λa o e=>
 (x a o e).stay (λb u _ q=>k b u q) (λ_ q=>q) (λ_ _ q=>q) λ_ _ _ q=>q
theorem HOk.laid(x:HOk P w H h)(k:∀b u,h.get? b=some u->h'.get? b=some u)(hp:h.objs.size<=a)(new:ObjOk P w (upd H a o) h' a o):HOk P w (upd H a o) h':=λb u e=>by
 have hn:=x.fresh hp;by_cases hb:b=a
 ·subst hb;rw[zJ] at e;cases e;exact new
 ·rw[zI hb] at e;exact(x b u e).stay (λc v _ q=>k c v q) (λc q=>by rw[zI (wX q hn)];exact q) (λc xs q=>by rw[zI (wX q hn)];exact q) λc o u q=>by rw[zI (wX q hn)];exact q
def Rd(H:Hp)(a:Addr)(u:HO):Prop:=H a=some u\/∃o,H a=some (.frz o u)
theorem Rd.ok(r:Rd H a u)(x:HOk P w H h):ObjOk P w H h a u:=by
 rcases r with r|⟨o,r⟩
 ·exact x a u r
 ·obtain⟨_,q⟩:=x a _ r;exact q
def Mut:Option HO->Prop
 |some (.lst _)=>True
 |some (.dK _)=>True
 |some (.dT _)=>True
 |some (.set _ _)=>True
 |some (.ins _ _ _)=>True
 |some (.ext _)=>True
 |_=>False
theorem HOk.write(ok:HOk P w H h)(mu:Mut (H x))(he:e=x\/H e=some (.own x))(k:∀b u,b≠e->h.get? b=some u->h'.get? b=some u)(heo:∃u,h'.get? e=some u)(new:ObjOk P w (upd H x o') h' x o'):HOk P w (upd H x o') h':=λb u q=>by
 have nown:∀c y,H c=some (.own y)->c≠x:=λc y r z=>by subst z;rw[r] at mu;exact mu
 have ntup:∀c xs,H c=some (.tup xs)->c≠x:=λc xs r z=>by subst z;rw[r] at mu;exact mu
 by_cases hb:b=x
 ·subst hb;rw[zJ] at q;cases q;exact new
 ·rw[zI hb] at q;by_cases hbe:b=e
  ·have q':H b=some (.own x):=by
    rcases he with z|z
    ·exact absurd (hbe.trans z) hb
    ·rw[hbe];exact z
   rw[q] at q';cases q';obtain⟨v,hv⟩:=heo;exact⟨v,by rw[hbe];exact hv⟩
  ·refine(ok b u q).stay (λc v hc r=>k c v ?_ r) (λc r=>by rw[zI (nown c b r)];exact r) (λc xs r=>by rw[zI (ntup c xs r)];exact r) λc o u r=>by rw[zI (λz=>by subst z;rw[r] at mu;exact mu)];exact r
   rcases hc with rfl|hc
   ·exact hbe
   ·rintro rfl;rcases he with z|z
    ·exact nown c b hc z
    ·rw[hc] at z;cases z;exact hb rfl
structure Un(fs ex:List Addr)(H H':Hp)(h h':Heap):Prop where
 keep:∀b o,h.get? b=some o->H b=none->b∉fs->b∉ex->h'.get? b=some o
 slot:∀b o,h.get? b=some o->H b=none->b∈fs->b∉ex->∃sl,h'.get? b=some { o with slots:=sl }
 free:∀b o,h.get? b=some o->H b=none->b∉ex->H' b=none
 there:∀b o,h.get? b=some o->b∉ex->∃o',h'.get? b=some o'
 tups:∀b xs,H b=some (.tup xs)->H' b=some (.tup xs)
 frzs:∀b o u,H b=some (.frz o u)->H' b=some (.frz o u)
 tbls:∀b ps,H b=some (.tbl ps)->∃more,H' b=some (.tbl (ps++more))
theorem Un.any(u:Un fs ex H H1 h h1)(q:h.get? b=some ob)(n:H b=none)(hx:b∉ex):∃sl,h1.get? b=some { ob with slots:=sl }:=by
 by_cases hb:b∈fs
 ·exact u.slot b ob q n hb hx
 ·exact⟨ob.slots,u.keep b ob q n hb hx⟩
theorem Un.kept(k:∀b u,h.get? b=some u->h'.get? b=some u):Un fs ex H H h h':=
 ⟨λb ob q _ _ _=>k b ob q,λb ob q _ _ _=>⟨ob.slots,k b ob q⟩,λ_ _ _ n _=>n,λb ob q _=>⟨ob,k b ob q⟩,λ_ _ q=>q,λ_ _ _ q=>q,λ_ ps q=>⟨#[],by rw[q];simp⟩⟩
theorem Un.refl:Un fs ex H H h h:=Un.kept λ_ _ q=>q
theorem Un.laid(k:∀b u,h.get? b=some u->h'.get? b=some u)(hp:h.objs.size<=a)(hn:H a=none):Un fs ex H (upd H a o) h h' where
 keep:=λb u q _ _ _=>k b u q
 slot:=λb u q _ _ _=>⟨u.slots,k b u q⟩
 free:=λb u q n _=>by rw[zI (bq (bh (au q) hp))];exact n
 there:=λb u q _=>⟨u,k b u q⟩
 tups:=λb xs q=>by rw[zI (wX q hn)];exact q
 frzs:=λb u xs q=>by rw[zI (wX q hn)];exact q
 tbls:=λb ps q=>⟨#[],by rw[zI (wX q hn),q];simp⟩
theorem Un.write(mu:Mut (H x))(he:e=x\/H e=some (.own x))(k:∀b u,b≠e->h.get? b=some u->h'.get? b=some u)(heo:∃u,h'.get? e=some u):Un fs ex H (upd H x o) h h':=by
 have hx:∀b,H b=none->b≠x:=λb n z=>by subst z;rw[n] at mu;exact mu
 have hb:∀b,H b=none->b≠e:=λb n z=>by
  subst z;rcases he with r|r
  ·exact hx b n r
  ·rw[n] at r;cases r
 have hm:∀b u,H b=some u->¬Mut (some u)->b≠x:=λb u q nm z=>by subst z;rw[q] at mu;exact nm mu
 refine⟨λb u q n _ _=>k b u (hb b n) q,λb u q n _ _=>⟨u.slots,k b u (hb b n) q⟩,λb u q n _=>by rw[zI (hx b n)];exact n,λb u q _=>?_,
  λb xs q=>by rw[zI (hm b _ q λz=>z)];exact q,λb u xs q=>by rw[zI (hm b _ q λz=>z)];exact q,λb ps q=>⟨#[],by rw[zI (hm b _ q λz=>z),q];simp⟩⟩
 by_cases hbe:b=e
 ·subst hbe;exact heo
 ·exact⟨u,k b u hbe q⟩
def trk(h:Heap)(H:Hp):List Addr:=(List.range h.objs.size).filter λa=>(H a).isSome
def zIL(h:Heap)(H:Hp):Heap:=PySem.W.hideAll h (trk h H)
theorem X5(h:Heap)(H:Hp):(zIL h H).objs.size=h.objs.size:=PySem.W.hideAll_size _ _
theorem zBO(e:h.get? b=some o)(n:H b=none):(zIL h H).get? b=some o:=
 PySem.W.hideAll_get _ e λhm=>by
  have q:(H b).isSome=true:=(lu.mp hm).2;rw[n] at q;simp at q
theorem zFG(e:(zIL h H).get? b=some o):h.get? b=some o/\H b=none:=by
 have e':h.get? b=some o:=PySem.W.of_hideAll (trk h H) e;refine⟨e',?_⟩;cases q:H b with
 |none=>rfl
 |some x=>
  have hm:b∈trk h H:=lu.mpr ⟨kl.mpr (au e'),by simp[q]⟩;have z:(zIL h H).get? b=none:=PySem.W.hideAll_none (trk h H) hm;rw[z] at e;cases e
end L2
namespace L2
open PySem PySem.Spec PyProof.Rows
structure Mod(K:Fg)(mg:Str->Option Value)(base:Heap):Prop where
 kin:K.In base
 glob:base.Ns ay mg
 blt:∃mb,base.Ns builtinsNs mb/\∀x:Str,x ≠ "__name__" -> mb x=bootBuiltins x
 nolimit:base.NoLimit
structure Cx where
 prog:Program
 w:World
 K:Fg
 mg:Str->Option Value
 base:Heap
 A:Around
 N:List Str
 s₀:Shared
 H₀:Hp
 env:Env
 outer:List Env
 stack:List Env
 ex:List Addr
 fn:Str->Bool
 calm:Bool
 pn:List (Addr×Obj)
 xe:Value->Shared->Prop
noncomputable def frs(l:List Env):List Addr:=l.filterMap (·.frame)
abbrev Cx.fs(X:Cx):List Addr:=frs X.outer
def Vis(sc:Scope)(x:Str):Prop:=sc.names.lookup x=some .local\/sc.names.lookup x=some .cell\/sc.names.lookup x=some .free
def Loc(sc:Scope)(x:Str):Prop:=sc.names.lookup x=some .local\/sc.names.lookup x=some .cell
def zSN(env:Env)(h:Heap)(m:Str->Option Value)(x:Str)(u:Value):Prop:=
 (env.kindOf x=some .local/\m x=some u)\/((env.kindOf x=some .cell\/env.kindOf x=some .free)/\∃c,env.cells.lookup x=some c/\h.IsCell c (some u))
def zN4(K:Fg)(H:Hp):Prop:=True
structure FrF(K:Fg)(l:List Env)(H:Hp):Prop where
 fr:∀b∈frs l,H b=none
 tb:zN4 K H
structure Cx.Ok(X:Cx):Prop where
 mod:Mod X.K X.mg X.base
 kind:X.env.scope.kind=.function
 glob:X.env.globals=ay
 blt:X.env.builtins=builtinsNs
 above:X.s₀.heap.objs.size<=X.env.locals
 inj:∀x y c,X.env.cells.lookup x=some c->X.env.cells.lookup y=some c->x=y
 has:∀x,(X.env.kindOf x=some .cell\/X.env.kindOf x=some .free)->∃c,X.env.cells.lookup x=some c
 cab:∀x c,X.fn x=true->X.env.cells.lookup x=some c->X.s₀.heap.objs.size<=c
 hd:X.calm=true->X.A.handled=none
 frames:X.A.frames=some X.stack
 stk:X.stack=X.outer\/(X.stack=X.env::X.outer/\X.env.frame=some X.env.locals)
 exf:∀b∈X.ex,b≠X.env.locals/\∀x c,X.env.cells.lookup x=some c->c≠b
 bs:∀b o,X.base.get? b=some o->X.s₀.heap.get? b=some o/\X.H₀ b=none
 bsz:X.base.objs.size<=X.s₀.heap.objs.size
 noex:∀b o,X.base.get? b=some o->b∉X.ex
 exfs:∀b∈X.ex,b∉X.fs
 funs:X.s₀.heap.FunFrames X.base X.outer
 frf:FrF X.K X.outer X.H₀
structure Inv(X:Cx)(pZ:List (Addr×Obj))(σ:List (Option V))(H:Hp)(s:Shared):Prop where
 ok:X.Ok
 os:s.os=X.s₀.os
 bare:AllBare s.gens
 base:Un X.fs X.ex X.H₀ H X.s₀.heap s.heap
 loc:∃m,s.heap.Ns X.env.locals m/\∀(i:Nat) (x:Str) (v:V),X.N[i]?=some x->σ[i]?=some (some v)->Vis X.env.scope x->∃u,RelV v u/\zSN X.env s.heap m x u
 cell:∀x c,X.env.cells.lookup x=some c->∃v,s.heap.IsCell c v
 free:H X.env.locals=none
 freeC:∀x c,X.env.cells.lookup x=some c->H c=none
 pin:∀p∈X.pn++pZ,s.heap.get? p.1=some p.2/\H p.1=none/\p.1≠X.env.locals/\p.1∉X.fs/\∀v,p.2.data≠.cell v
 hok:HOk X.prog X.w H s.heap
 len:σ.length=X.N.length
section
variable{X:Cx}{pZ:List (Addr×Obj)}{σ:List (Option V)}{H H':Hp}{s:Shared}{h':Heap}
theorem Cx.Ok.nofr(ok:X.Ok){b:Addr}{o:Obj}(e:X.base.get? b=some o):b∉X.fs:=λhb=>by
 have:=(ok.funs.mem hb).1
 rw[e] at this;cases this
theorem Inv.bs(I:Inv X pZ σ H s):∀b o,X.base.get? b=some o->s.heap.get? b=some o/\H b=none:=λb o e=>
 ⟨I.base.keep b o (I.ok.bs b o e).1 (I.ok.bs b o e).2 (I.ok.nofr e) (I.ok.noex b o e),I.base.free b o (I.ok.bs b o e).1 (I.ok.bs b o e).2 (I.ok.noex b o e)⟩
theorem Inv.bk(I:Inv X pZ σ H s):∀b o,X.base.get? b=some o->s.heap.get? b=some o:=λb o e=>(I.bs b o e).1
theorem Inv.mod(I:Inv X pZ σ H s):Mod X.K X.mg X.base:=I.ok.mod
theorem Inv.kIn(I:Inv X pZ σ H s):X.K.In s.heap:=I.ok.mod.kin.keeps I.bk
theorem Inv.lt(I:Inv X pZ σ H s):X.env.locals<s.heap.objs.size:=let ⟨_,hn,_⟩:=I.loc;hn.lt
theorem Inv.sz(I:Inv X pZ σ H s):X.s₀.heap.objs.size<=s.heap.objs.size:=bv I.ok.above (ki I.lt)
theorem Inv.nofs(I:Inv X pZ σ H s)(h:s.heap.objs.size<=a):a∉X.fs:=λhb=>by
 obtain⟨_,o,ho,_⟩:=I.ok.funs.mem hb;exact absurd (bh (au ho) (bv I.sz h)) (iw _)
theorem Inv.cne(I:Inv X pZ σ H s):∀x c,X.env.cells.lookup x=some c->c≠X.env.locals:=λx c e z=>by
 obtain⟨v,o,ho,hd⟩:=I.cell x c e;obtain⟨m,⟨o',es,ep,ho',hd',_⟩,_⟩:=I.loc;rw[z,ho'] at ho;cases ho;rw[hd'] at hd;cases hd
theorem Inv.funs(I:Inv X pZ σ H s):s.heap.FunFrames X.base X.outer:=by
 have all:∀(l:List Env),(∀b∈frs l,b∈X.fs)->X.s₀.heap.FunFrames X.base l->s.heap.FunFrames X.base l:=by
  intro l
  induction l with
  |nil=>intro _ _;trivial
  |cons env r ih=>
   intro hs hl;obtain⟨hk,⟨L,o,hf,hn,ho,hd⟩,hr⟩:=hl;have hL:L∈X.fs:=hs L (by unfold frs;rw[cn,hf];exact dw);obtain⟨sl,e⟩:=I.base.slot L o ho (I.ok.frf.fr L hL) hL λz=>I.ok.exfs L z hL
   exact⟨hk,⟨L,_,hf,hn,e,hd⟩,ih (λb hb=>hs b (by unfold frs;rw[cn,hf];exact bm _ hb)) hr⟩
 exact all X.outer (λ_ hb=>hb) I.ok.funs
theorem Inv.stack(I:Inv X pZ σ H s):s.heap.FunFrames X.base X.stack:=by
 rcases I.ok.stk with e|⟨e,hf⟩
 ·rw[e];exact I.funs
 ·rw[e];obtain⟨m,hn,_⟩:=I.loc;refine .cons (by rw[I.ok.kind];decide) hf hn ?_ I.funs;exact Heap.get?_none_of_le (bv I.ok.bsz I.ok.above)
theorem Inv.stkSub(I:Inv X pZ σ H s):∀b∈frs X.stack,b∈X.env.locals::X.fs:=λb hb=>by
 rcases I.ok.stk with e|⟨e,hf⟩
 ·rw[e] at hb;exact bm _ hb
 ·rw[e] at hb;unfold frs at hb;rw[cn,hf] at hb;exact hb
theorem Inv.stkFree(I:Inv X pZ σ H s):∀b∈frs X.stack,H b=none:=λb hb=>by
 rcases ca.mp (I.stkSub b hb) with e|hb
 ·rw[e];exact I.free
 ·obtain⟨_,o,ho,_⟩:=I.ok.funs.mem hb;exact I.base.free b o ho (I.ok.frf.fr b hb) λz=>I.ok.exfs b z hb
theorem Inv.tabIn(I:Inv X pZ σ H s):zN4 X.K H:=
 trivial
theorem Inv.step{ch:List Addr}(I:Inv X pZ σ H s)(hch:∀b∈ch,(b∈X.ex\/X.s₀.heap.objs.size<=b)/\b≠X.env.locals/\(∀x c,X.env.cells.lookup x=some c->c≠b)/\∀p∈X.pn++pZ,p.1≠b)(keep:∀b o,b≠X.env.locals->b∉X.fs->b∉ch->s.heap.get? b=some o->H b=none->h'.get? b=some o)(slot:∀b o,b≠X.env.locals->b∈X.fs->b∉ch->s.heap.get? b=some o->H b=none->∃sl,h'.get? b=some { o with slots:=sl })(free:∀b o,b∉ch->s.heap.get? b=some o->H b=none->H' b=none)(there:∀b o,b∉ch->s.heap.get? b=some o->∃o',h'.get? b=some o')(tups:∀b xs,H b=some (.tup xs)->H' b=some (.tup xs))(frzs:∀b o u,H b=some (.frz o u)->H' b=some (.frz o u))(tbls:∀b ps,H b=some (.tbl ps)->∃more,H' b=some (.tbl (ps++more)))(ns:∀m,s.heap.Ns X.env.locals m->h'.Ns X.env.locals m)(hok:HOk X.prog X.w H' h')(hg:AllBare g'):Inv X pZ σ H' { s with heap:=h',gens:=g',drawn:=d',toks:=t' }:=by
 have neL:∀b o,X.s₀.heap.get? b=some o->b≠X.env.locals:=λb o e=>bq (bh (au e) I.ok.above)
 have neC:∀b o,X.s₀.heap.get? b=some o->b∉X.ex->b∉ch:=λb o e hx hb=>by
  rcases(hch b hb).1 with z|z
  ·exact hx z
  ·exact absurd (bh (au e) z) (iw _)
 have cellK:∀x c,X.env.cells.lookup x=some c->∀v,s.heap.IsCell c v->h'.IsCell c v:=λx c e v ⟨o,ho,hd⟩=>by
  have nch:c∉ch:=λz=>(hch c z).2.2.1 x c e rfl
  by_cases hc:c∈X.fs
  ·obtain⟨sl,q⟩:=slot c o (I.cne x c e) hc nch ho (I.freeC x c e);exact⟨_,q,hd⟩
  ·exact⟨o,keep c o (I.cne x c e) hc nch ho (I.freeC x c e),hd⟩
 refine⟨I.ok,I.os,hg,⟨λb o e n hb hx=>?_,λb o e n hb hx=>?_,λb o e n hx=>?_,λb o e hx=>?_,λb xs e=>tups b xs (I.base.tups b xs e),λb o xs e=>frzs b o xs (I.base.frzs b o xs e),λb ps e=>?_⟩,?_,λx c e=>?_,?_,λx c e=>?_,λp hp=>?_,hok,I.len⟩
 ·exact keep b o (neL b o e) hb (neC b o e hx) (I.base.keep b o e n hb hx) (I.base.free b o e n hx)
 ·obtain⟨sl,e1⟩:=I.base.slot b o e n hb hx;obtain⟨sl',e2⟩:=slot b _ (neL b o e) hb (neC b o e hx) e1 (I.base.free b o e n hx);exact⟨sl',e2⟩
 ·obtain⟨o',e1⟩:=I.base.there b o e hx;exact free b o' (neC b o e hx) e1 (I.base.free b o e n hx)
 ·obtain⟨o',e1⟩:=I.base.there b o e hx;exact there b o' (neC b o e hx) e1
 ·obtain⟨m1,e1⟩:=I.base.tbls b ps e;obtain⟨m2,e2⟩:=tbls b _ e1;exact⟨m1++m2,by rw[e2,Array.append_assoc]⟩
 ·obtain⟨m,hn,hl⟩:=I.loc;refine⟨m,ns m hn,λi x v e1 e2 e3=>?_⟩;obtain⟨u,r,l⟩:=hl i x v e1 e2 e3;refine⟨u,r,?_⟩;rcases l with l|⟨k,c,e,z⟩
  ·exact .inl l
  ·exact .inr ⟨k,c,e,cellK x c e _ z⟩
 ·obtain⟨v,z⟩:=I.cell x c e;exact⟨v,cellK x c e v z⟩
 ·obtain⟨m,⟨o,_,_,ho,_⟩,_⟩:=I.loc;exact free _ o (λz=>(hch _ z).2.1 rfl) ho I.free
 ·obtain⟨v,o,ho,hd⟩:=I.cell x c e;exact free c o (λz=>(hch c z).2.2.1 x c e rfl) ho (I.freeC x c e)
 ·obtain⟨e,n,ne,nf,d⟩:=I.pin p hp;have nch:p.1∉ch:=λz=>(hch p.1 z).2.2.2 p hp rfl
  exact⟨keep p.1 p.2 ne nf nch e n,free p.1 p.2 nch e n,ne,nf,d⟩
theorem Inv.un(I:Inv X pZ σ H s)(u:Un X.fs [] H H' s.heap h')(hok:HOk X.prog X.w H' h'):Inv X pZ σ H' { s with heap:=h',toks:=t' }:=by
 obtain⟨m,⟨o,es,ep,ho,r⟩,_⟩:=id I.loc;obtain⟨sl,hL⟩:=u.any ho I.free (by simp);exact I.step (g':=s.gens) (d':=s.drawn) (ch:=[]) (λ_ z=>nomatch z) (λb o _ hb _ e n=>u.keep b o e n hb (by simp)) (λb o _ hb _ e n=>u.slot b o e n hb (by simp)) (λb o _ e n=>u.free b o e n (by simp)) (λb o _ e=>u.there b o e (by simp)) u.tups u.frzs u.tbls (λm' hm=>by
  obtain⟨o',es',ep',ho',r'⟩:=hm;rw[ho] at ho';cases ho';exact⟨_,es',ep',hL,r'⟩) hok I.bare
theorem Inv.call{ch:List Addr}(I:Inv X pZ σ H s)(u:Un (frs X.stack) ch H H' s.heap h')(hok:HOk X.prog X.w H' h')(hg:AllBare g')(hch:∀b∈ch,(b∈X.ex\/X.s₀.heap.objs.size<=b)/\b≠X.env.locals/\(∀x c,X.env.cells.lookup x=some c->c≠b)/\∀p∈X.pn++pZ,p.1≠b):Inv X pZ σ H' { s with heap:=h',gens:=g',drawn:=d',toks:=t' }:=by
 obtain⟨m,⟨o,es,ep,ho,r⟩,_⟩:=id I.loc;obtain⟨sl,hL⟩:=u.any ho I.free λz=>(hch _ z).2.1 rfl
 exact I.step (ch:=ch) hch (λb o hL hb hc e n=>u.keep b o e n (λz=>(ca.mp (I.stkSub b z)).elim hL hb) hc) (λb o _ _ hc e n=>u.any e n hc) (λb o hc e n=>u.free b o e n hc) (λb o hc e=>u.there b o e hc) u.tups u.frzs u.tbls (λm' hm=>by
  obtain⟨o',es',ep',ho',r'⟩:=hm;rw[ho] at ho';cases ho';exact⟨_,es',ep',hL,r'⟩) hok hg
theorem Inv.turned(I:Inv X pZ σ H s)(k:∀b o,b≠it->s.heap.get? b=some o->h'.get? b=some o)(hn:H it=none)(hL:it≠X.env.locals)(h1:it∈X.ex\/X.s₀.heap.objs.size<=it)(h2:∀x c,X.env.cells.lookup x=some c->c≠it)(h3:∀p∈X.pn++pZ,p.1≠it):Inv X pZ σ H { s with heap:=h',toks:=t' }:=by
 have nit:∀b u,H b=some u->b≠it:=λb u e z=>by rw[z,hn] at e;cases e
 refine I.step (g':=s.gens) (d':=s.drawn) (ch:=[it]) (λb hb=>?_) (λb o _ _ hc e _=>k b o (λz=>hc (by simp[z])) e) (λb o _ _ hc e _=>⟨o.slots,k b o (λz=>hc (by simp[z])) e⟩) (λ_ _ _ _ n=>n)
  (λb o hc e=>⟨o,k b o (λz=>hc (by simp[z])) e⟩) (λ_ _ e=>e) (λ_ _ _ e=>e) (λb ps e=>⟨#[],by rw[e];simp⟩) (λm hm=>?_) (λb u e=>?_) I.bare
 ·have e:b=it:=by simpa using hb
  subst e;exact⟨h1,hL,h2,h3⟩
 ·obtain⟨o,es,ep,ho,r⟩:=hm;exact⟨o,es,ep,k _ o (lm hL) ho,r⟩
 ·refine(I.hok b u e).stay (λc v hc q=>k c v ?_ q) (λ_ q=>q) (λ_ _ q=>q) λ_ _ _ q=>q
  rcases hc with z|z
  ·rw[z];exact nit b u e
  ·exact nit c _ z
theorem Inv.tok(I:Inv X pZ σ H s)(t:Nat):Inv X pZ σ H { s with toks:=t }:=I.un (h':=s.heap) (t':=t) Un.refl I.hok
theorem Inv.kept(I:Inv X pZ σ H s)(k:∀b u,s.heap.get? b=some u->h'.get? b=some u):Inv X pZ σ H { s with heap:=h',toks:=t' }:=I.un (Un.kept k) (I.hok.kept k)
theorem Inv.laid(I:Inv X pZ σ H s)(k:∀b u,s.heap.get? b=some u->h'.get? b=some u)(hp:s.heap.objs.size<=a)(new:ObjOk X.prog X.w (upd H a o) h' a o):Inv X pZ σ (upd H a o) { s with heap:=h',toks:=t' }:=I.un (Un.laid k hp (I.hok.fresh hp)) (I.hok.laid k hp new)
theorem Inv.write(I:Inv X pZ σ H s)(mu:Mut (H x))(he:e=x\/H e=some (.own x))(k:∀b u,b≠e->s.heap.get? b=some u->h'.get? b=some u)(heo:∃u,h'.get? e=some u)(new:ObjOk X.prog X.w (upd H x o) h' x o):Inv X pZ σ (upd H x o) { s with heap:=h',toks:=t' }:=I.un (Un.write mu he k heo) (I.hok.write mu he k heo new)
theorem Inv.pins_of(I:Inv X pZ σ H s)(h:∀p∈pZ',s.heap.get? p.1=some p.2/\H p.1=none/\p.1≠X.env.locals/\p.1∉X.fs/\∀v,p.2.data≠.cell v):Inv X pZ' σ H s:=
 ⟨I.ok,I.os,I.bare,I.base,I.loc,I.cell,I.free,I.freeC,λp hp=>(bf.mp hp).elim (λz=>I.pin p (pq _ z)) (h p),I.hok,I.len⟩
theorem tZ{N:List Str}(hN:N.Nodup){i j:Nat}{x:Str}(a:N[i]?=some x)(b:N[j]?=some x):i=j:=by
 obtain⟨h1,e1⟩:=av.mp a;obtain⟨h2,e2⟩:=av.mp b;exact(List.getElem_inj hN).mp (e1.trans e2.symm)
theorem mO{M:Model}{A:Around}{E:Value->Shared->Prop}{i:Nat}{x:Str}{v:V}{u:Value}{Q:Unit->Shared->Prop}(I:Inv X pZ σ H s)(hN:X.N.Nodup)(hi:X.N[i]?=some x)(hx:Loc X.env.scope x)(r:RelV v u)(h:∀s',Inv X pZ (σ.set i (some v)) H s'->(∃a,Heap.SameBut a s.heap s'.heap/\(a=X.env.locals\/X.env.cells.lookup x=some a))->Q () s')(hf:X.fn x=true\/X.env.scope.names.lookup x=some .local:=by first|exact .inl rfl|exact .inr rfl|assumption):wpAny M A (storeName X.env x u) Q E s:=by
 obtain⟨m,hn,hl⟩:=id I.loc;have hcls:(X.env.scope.kind == .class || (X.env.scope.kind == .module && X.env.locals != X.env.globals))=false:=by rw[I.ok.kind];rfl
 have hiσ:i<σ.length:=by rw[I.len];exact(av.mp hi).1
 have cne:=I.cne;have tracked:∀{a:Addr} {h':Heap},(∃o,s.heap.get? a=some o/\H a=none)->Heap.SameBut a s.heap h'->HOk X.prog X.w H h':=λ{a h'} ha hs b ob e=>by
  obtain⟨_,_,hfree⟩:=ha;refine(I.hok b ob e).stay (λc w' hc q=>(hs.2 c ?_).trans q) (λ_ q=>q) (λ_ _ q=>q) λ_ _ _ q=>q
  rintro rfl;rcases hc with rfl|hc
  ·rw[hfree] at e;cases e
  ·rw[hfree] at hc;cases hc
 rcases hx with hk|hk
 ·refine wpAny_storeName_local hk hn (λh' hn' hs=>?_) hcls;obtain⟨oL,_,_,hoL,_⟩:=id hn;refine h _ ⟨I.ok,I.os,I.bare,⟨λb o e n hb hx=>?_,λb o e n hb hx=>?_,I.base.free,λb o e hx=>?_,I.base.tups,I.base.frzs,I.base.tbls⟩,⟨_,hn',λj y v' e1 e2 e3=>?_⟩,λy c e=>?_,I.free,I.freeC,λp hp=>?_,tracked ⟨oL,hoL,I.free⟩ hs,by simpa using I.len⟩ ⟨_,hs,.inl rfl⟩
  ·exact(hs.2 b (bq (bh (au e) I.ok.above))).trans (I.base.keep b o e n hb hx)
  ·obtain⟨sl,e1⟩:=I.base.slot b o e n hb hx;exact⟨sl,(hs.2 b (bq (bh (au e) I.ok.above))).trans e1⟩
  ·obtain⟨o',e1⟩:=I.base.there b o e hx;exact⟨o',(hs.2 b (bq (bh (au e) I.ok.above))).trans e1⟩
  ·by_cases hj:j=i
   ·subst hj;rw[hi] at e1;cases e1;rw[uw hiσ] at e2;cases e2;exact⟨u,r,.inl ⟨hk,by simp⟩⟩
   ·rw[gy (lm hj)] at e2;obtain⟨u',r',q⟩:=hl j y v' e1 e2 e3;refine⟨u',r',?_⟩;rcases q with⟨k,e⟩|⟨k,c,e,z⟩
    ·refine .inl ⟨k,?_⟩
     have:y≠x:=λe=>hj (tZ hN e1 (e ▸ hi))
     simp[this,e]
    ·exact .inr ⟨k,c,e,z.sameBut hs (cne y c e)⟩
  ·obtain⟨w',z⟩:=I.cell y c e;exact⟨w',z.sameBut hs (cne y c e)⟩
  ·obtain⟨e,n,ne,nf,d⟩:=I.pin p hp;exact⟨(hs.2 p.1 ne).trans e,n,ne,nf,d⟩
 ·have hfn:X.fn x=true:=by
   rcases hf with z|z
   ·exact z
   ·rw[z] at hk;cases hk
  obtain⟨c,hc⟩:=I.ok.has x (.inl hk);obtain⟨w',z⟩:=I.cell x c hc;refine wpAny_storeName_cell I.ok.kind hk hc z (λh' hc' hs=>?_);obtain⟨oc,hoc,hocd⟩:=id z;refine h { s with heap:=h' } ⟨I.ok,I.os,I.bare,⟨λb o e n hb hx=>?_,λb o e n hb hx=>?_,I.base.free,λb o e hx=>?_,I.base.tups,I.base.frzs,I.base.tbls⟩,⟨m,hn.sameBut hs (lm (cne x c hc)),λj y v' e1 e2 e3=>?_⟩,λy c' e=>?_,I.free,I.freeC,λp hp=>?_,tracked ⟨oc,hoc,I.freeC x c hc⟩ hs,by simpa using I.len⟩ ⟨c,hs,.inr hc⟩
  ·exact(hs.2 b (bq (bh (au e) (I.ok.cab x c hfn hc)))).trans (I.base.keep b o e n hb hx)
  ·obtain⟨sl,e1⟩:=I.base.slot b o e n hb hx;exact⟨sl,(hs.2 b (bq (bh (au e) (I.ok.cab x c hfn hc)))).trans e1⟩
  ·obtain⟨o',e1⟩:=I.base.there b o e hx;exact⟨o',(hs.2 b (bq (bh (au e) (I.ok.cab x c hfn hc)))).trans e1⟩
  ·by_cases hj:j=i
   ·subst hj;rw[hi] at e1;cases e1;rw[uw hiσ] at e2;cases e2;exact⟨u,r,.inr ⟨.inl hk,c,hc,hc'⟩⟩
   ·rw[gy (lm hj)] at e2;obtain⟨u',r',q⟩:=hl j y v' e1 e2 e3;refine⟨u',r',?_⟩;rcases q with q|⟨k,c',e,z'⟩
    ·exact .inl q
    ·refine .inr ⟨k,c',e,z'.sameBut hs ?_⟩;rintro rfl;exact hj (tZ hN e1 (I.ok.inj _ _ _ e hc ▸ hi))
  ·by_cases hcc:c'=c
   ·subst hcc;exact⟨_,hc'⟩
   ·obtain⟨w2,z2⟩:=I.cell y c' e;exact⟨w2,z2.sameBut hs hcc⟩
  ·obtain⟨e,n,ne,nf,d⟩:=I.pin p hp;refine⟨(hs.2 p.1 ?_).trans e,n,ne,nf,d⟩;intro q;rw[q,hoc] at e;have q':oc=p.2:=bw e;exact d w' (by rw[<-q'];exact hocd)
theorem gW(I:Inv X pZ σ H s)(hN:X.N.Nodup)(hi:X.N[i]?=some x)(hx:Loc X.env.scope x)(r:RelV v u)(h:∀s',Inv X pZ (σ.set i (some v)) H s'->Q () s')(hf:X.fn x=true\/X.env.scope.names.lookup x=some .local:=by first|exact .inl rfl|exact .inr rfl|assumption):wpAny M A (storeName X.env x u) Q E s:=
 mO I hN hi hx r (λs' I' _=>h s' I') hf
theorem Inv.call'{ch:List Addr}(I:Inv X pZ σ H s)(ho:s'.os=s.os)(u:Un (frs X.stack) ch H H' s.heap s'.heap)(hok:HOk X.prog X.w H' s'.heap)(hg:AllBare s'.gens)(hch:∀b∈ch,(b∈X.ex\/X.s₀.heap.objs.size<=b)/\b≠X.env.locals/\(∀x c,X.env.cells.lookup x=some c->c≠b)/\∀p∈X.pn++pZ,p.1≠b):Inv X pZ σ H' s':=by
 obtain⟨h',g',d',t',o'⟩:=s';have e:o'=s.os:=ho;subst e;exact I.call (g':=g') (t':=t') (d':=d') u hok hg hch
end
abbrev XK:=Value->Option Addr->Hp->Prop
noncomputable abbrev St:=List (Option V)
abbrev VK:=V->Hp->Prop
abbrev TE:=St->Hp->VK->Prop
abbrev TT:=St->Hp->(Bool->Hp->Prop)->Prop
abbrev TA:=St->Hp->(List V->Hp->Prop)->Prop
structure Ends where
 nx:St->Hp->Prop
 rt:VK
 bk:St->Hp->Prop:=λ_ _=>False
 ct:St->Hp->Prop:=λ_ _=>False
abbrev TS:=Ends->St->Hp->Prop
def EP(X:Cx)(pZ:List (Addr×Obj))(σ:St)(Q:VK)(u:Value)(s':Shared):Prop:=∃v H',Inv X pZ σ H' s'/\RelV v u/\Q v H'
def TP(X:Cx)(pZ:List (Addr×Obj))(σ:St)(Q:Bool->Hp->Prop)(b:Bool)(s':Shared):Prop:=∃H',Inv X pZ σ H' s'/\Q b H'
def AP(X:Cx)(pZ:List (Addr×Obj))(σ:St)(Q:List V->Hp->Prop)(us:List Value)(s':Shared):Prop:=∃vs H',Inv X pZ σ H' s'/\Vals vs us/\Q vs H'
def SP(X:Cx)(pZ:List (Addr×Obj))(D:Ends)(f:Flow)(s':Shared):Prop:=
 match f with
 |.next=>∃σ' H',Inv X pZ σ' H' s'/\D.nx σ' H'
 |.brk=>∃σ' H',Inv X pZ σ' H' s'/\D.bk σ' H'
 |.cont=>∃σ' H',Inv X pZ σ' H' s'/\D.ct σ' H'
 |.ret u=>∃v σ' H',Inv X pZ σ' H' s'/\RelV v u/\D.rt v H'
def PE(X:Cx)(e:Expr)(t:TE):Prop:=
 ∀(pZ:List (Addr×Obj)) (s:Shared) (σ:St) (H:Hp) (Q:VK),Inv X pZ σ H s->t σ H Q->wpAny (model X.prog X.w) X.A (eval e X.env) (EP X pZ σ Q) X.xe s
def PT(X:Cx)(e:Expr)(t:TT):Prop:=
 ∀(pZ:List (Addr×Obj)) (s:Shared) (σ:St) (H:Hp) (Q:Bool->Hp->Prop),Inv X pZ σ H s->t σ H Q->wpAny (model X.prog X.w) X.A (isTrue e X.env (eval e X.env)) (TP X pZ σ Q) X.xe s
def PW(X:Cx)(e:Expr)(t:TT):Prop:=
 ∀(whole:Sem Value) (pZ:List (Addr×Obj)) (s:Shared) (σ:St) (H:Hp) (Q:Bool->Hp->Prop),Inv X pZ σ H s->t σ H Q->wpAny (model X.prog X.w) X.A (isTrue e X.env whole) (TP X pZ σ Q) X.xe s
theorem PW.pt(h:PW X e t):PT X e t:=h _
def PA(X:Cx)(es:List Expr)(t:TA):Prop:=
 ∀(pos:Pos) (pZ:List (Addr×Obj)) (s:Shared) (σ:St) (H:Hp) (Q:List V->Hp->Prop),Inv X pZ σ H s->t σ H Q->wpAny (model X.prog X.w) X.A (spliced (dq pos (ag es X.env))) (AP X pZ σ Q) X.xe s
def PS(X:Cx)(st:Stmt)(t:TS):Prop:=
 ∀(pZ:List (Addr×Obj)) (s:Shared) (σ:St) (H:Hp) (D:Ends),Inv X pZ σ H s->t D σ H->wpAny (model X.prog X.w) X.A (exec st X.env) (SP X pZ D) X.xe s
def PSs(X:Cx)(st:List Stmt)(t:TS):Prop:=
 ∀(pZ:List (Addr×Obj)) (s:Shared) (σ:St) (H:Hp) (D:Ends),Inv X pZ σ H s->t D σ H->wpAny (model X.prog X.w) X.A (execs st X.env) (SP X pZ D) X.xe s
theorem thn(h:wpAny M A t Q E s)(hQ:∀a s,Q a s->Q' a s):wpAny M A t Q' E s:=gv h hQ λ_ _ x=>x
end L2
namespace L2
open PySem PySem.Spec PyProof.Rows
section
noncomputable def vG(i:Nat):TE:=λσ H Q=>∃v,σ[i]?=some (some v)/\Q v H
noncomputable def tC(v:V):TE:=λ_ H Q=>Q v H
theorem zKO(hN:X.N[i]?=some x)(hv:Vis X.env.scope x)(hd:(x == ("__debug__" : Str))=false:=by decide)(hcd:(x == ("__classdict__" : Str))=false:=by decide):PE X (.Name x pos) (vG i):=by
 intro pZ s σ H Q I h;obtain⟨v,e,h⟩:=h;obtain⟨m,hn,hl⟩:=I.loc;obtain⟨u,r,l⟩:=hl i x v hN e hv;have fin:EP X pZ σ Q u s:=⟨v,H,I,r,h⟩;rcases l with⟨hk,hm⟩|⟨hk,c,hc,hcell⟩
 ·exact wpAny_Name (vn I.ok.kind hk hn hm fin) hd
 ·rcases hk with hk|hk
  ·exact wpAny_Name (wf I.ok.kind hk hc hcell fin) hd
  ·exact wpAny_Name (wpAny_loadName_free I.ok.kind hk hc hcell fin hcd) hd
theorem pH{i j pos}:PE X (.Constant (.int i) j pos) (tC (.int i)):=λ_ _ _ H _ I h=>wpAny_Constant_int ⟨.int i,H,I.tok _,⟨_,rfl⟩,h⟩
theorem zO8{b j pos}:PE X (.Constant (.bool b) j pos) (tC (.bl b)):=λ_ _ _ H _ I h=>Constant_bool ⟨.bl b,H,I,rfl,h⟩
theorem zEZ{j pos}:PE X (.Constant .none j pos) (tC .non):=λ_ _ _ H _ I h=>Constant_none ⟨.non,H,I,rfl,h⟩
theorem zKP{x j pos}:PE X (.Constant (.str x) j pos) (tC (.str x)):=λ_ _ _ H _ I h=>Calls.Constant_str ⟨.str x,H,I.tok _,⟨_,rfl⟩,h⟩
def Gl(X:Cx)(x:Str):Prop:=X.env.kindOf x=some .globalImplicit
theorem nR(I:Inv X pZ σ H s)(hg:Gl X x)(hm:X.mg x=some u)(h:Q u s)(hd:(x == ("__debug__" : Str))=false:=by decide):wpAny (model X.prog X.w) X.A (eval (.Name x pos) X.env) Q E s:=
 sj I.ok.kind hg (Calls.loadGlobal_global (by rw[I.ok.glob];exact I.mod.glob.keeps I.bk) hm h) hd
theorem bB(I:Inv X pZ σ H s)(hg:Gl X x)(hm:X.mg x=none)(hv:bootBuiltins x=some u)(h:Q u s)(hn:x ≠ "__name__" := by decide)(hd:(x == ("__debug__" : Str))=false:=by decide):wpAny (model X.prog X.w) X.A (eval (.Name x pos) X.env) Q E s:=by
 obtain⟨mb,h1,h2⟩:=I.mod.blt;exact sj I.ok.kind hg (Calls.loadGlobal_builtin (by rw[I.ok.glob];exact I.mod.glob.keeps I.bk) hm (by rw[I.ok.blt];exact h1.keeps I.bk) ((h2 x hn).trans hv) h) hd
theorem QO(hg:Gl X x)(hm:X.mg x=some u)(r:RelV v u)(hd:(x == ("__debug__" : Str))=false:=by decide):PE X (.Name x pos) (tC v):=
 λ_ _ _ H _ I h=>nR I hg hm ⟨v,H,I,r,h⟩ hd
theorem tU(hg:Gl X x)(hm:X.mg x=none)(hv:bootBuiltins x=some u)(r:RelV v u)(hn:x ≠ "__name__" := by decide)(hd:(x == ("__debug__" : Str))=false:=by decide):PE X (.Name x pos) (tC v):=
 λ_ _ _ H _ I h=>bB I hg hm hv ⟨v,H,I,r,h⟩ hn hd
def PC(X:Cx)(op:CmpOp)(a b:Expr)(t:TE):Prop:=
 ∀(pZ:List (Addr×Obj)) (s:Shared) (σ:St) (H:Hp) (Q:VK),Inv X pZ σ H s->t σ H Q ->
  wpAny (model X.prog X.w) X.A (eval a X.env) (λv s₁=>wpAny (model X.prog X.w) X.A (eval b X.env) (λu s₂=>wpAny (model X.prog X.w) X.A (cz op v u) (EP X pZ σ Q) X.xe s₂) X.xe s₁) X.xe s
theorem t9(b:Expr)(h:op≠.In)(h2:op≠.NotIn):eg op b=false:=by
 have e1:(op == CmpOp.In)=false:=by cases op<;>first|rfl|exact absurd rfl h
 have e2:(op == CmpOp.NotIn)=false:=by cases op<;>first|rfl|exact absurd rfl h2
 cases b<;>simp[eg,e1,e2]
noncomputable def zRY(ta:TE):TE:=λσ H Q=>ta σ H λx H1=>Q (.bl (decide (x=.non))) H1
theorem RelV.none_iff(r:RelV x v):(v == Value.none)=decide (x=.non):=by
 cases x with
 |non=>cases r;rfl
 |bl _=>cases r;rfl
 |int _=>obtain⟨t,rfl⟩:=r;rfl
 |str _=>obtain⟨t,rfl⟩:=r;rfl
 |byt _=>obtain⟨t,rfl⟩:=r;rfl
 |flt _=>obtain⟨t,rfl⟩:=r;rfl
 |ref _=>cases r;rfl
 |ty _=>cases r;rfl
theorem zKS{j pos'}(ha:PE X a ta):PC X .Is a (.Constant .none j pos') (zRY ta):=by
 intro pZ s σ H Q I h;refine thn (ha pZ s σ H _ I h) λv s1 ⟨x,H1,I1,r1,q1⟩=>?_
 exact Constant_none (is_none_gen ⟨.bl _,H1,I1,by rw[r1.none_iff];rfl,q1⟩)
noncomputable def tB(t:TE):TT:=λσ H Q=>t σ H λx H1=>∃c,x=.bl c/\Q c H1
theorem zE4(h:PC X op a b t)(h1:eg op b=false:=by first|exact t9 _ (by decide) (by decide)|rfl):PE X (.Compare a [op] [b] pos) t:=λpZ s σ H Q I hw=>wpAny_Compare1 (h pZ s σ H Q I hw) h1
theorem zEK(h:PC X op a b t)(h1:eg op b=false:=by first|exact t9 _ (by decide) (by decide)|rfl):PT X (.Compare a [op] [b] pos) (tB t):=by
 intro pZ s σ H Q I hw;refine uz (thn (h pZ s σ H _ I hw) λv s1 h1=>thn h1 λu s2 h2=>thn h2 λc s3 ⟨x,H1,I1,r1,q1⟩=>?_) h1;obtain⟨d,rfl,q⟩:=q1;cases r1;exact ig ⟨H1,I1,q⟩
theorem zKI(h:PE X e t)(he:∀whole,isTrue e X.env whole=(do let v <- whole;standAt e.pos;holding [v] (truthy v)):=by intro _;rfl):PT X e (tB t):=by
 intro pZ s σ H Q I hw;refine isTrue_plain (thn (h pZ s σ H _ I hw) λv s1 ⟨x,H1,I1,r1,q1⟩=>?_) (he _);obtain⟨d,rfl,q⟩:=q1;cases r1;exact ig ⟨H1,I1,q⟩
variable{rest:List Expr}
noncomputable def zR2(t u:TT):TT:=λσ H Q=>t σ H λc H1=>if c=true then u σ H1 Q else Q false H1
noncomputable def tOr(t u:TT):TT:=λσ H Q=>t σ H λc H1=>if c=true then Q true H1 else u σ H1 Q
noncomputable def zRX(t:TT):TT:=λσ H Q=>t σ H λc H1=>Q (!c) H1
theorem QK(ha:PT X a tA):PW X (.BoolOp .And [a] pos) tA:=by
 intro wh pZ s σ H Q I h;refine isTrue_and (thn (ha pZ s σ H Q I h) λc s1 e=>?_);cases c with
 |true=>exact isTrue_and_nil e
 |false=>exact e
theorem zKG(ha:PT X a tA):PW X (.BoolOp .Or [a] pos) tA:=by
 intro wh pZ s σ H Q I h;refine isTrue_or (thn (ha pZ s σ H Q I h) λc s1 e=>?_);cases c with
 |false=>exact isTrue_or_nil e
 |true=>exact e
theorem zEI(ha:PT X a tA)(hb:PW X (.BoolOp .And (b::rest) pos) tB'):PW X (.BoolOp .And (a::b::rest) pos) (zR2 tA tB'):=by
 intro wh pZ s σ H Q I h;refine isTrue_and (thn (ha pZ s σ H _ I h) λc s1 ⟨H1,I1,q1⟩=>?_);cases c with
 |true=>exact hb wh pZ s1 σ H1 Q I1 q1
 |false=>exact⟨H1,I1,q1⟩
theorem zO5(ha:PT X a tA)(hb:PW X (.BoolOp .Or (b::rest) pos) tB'):PW X (.BoolOp .Or (a::b::rest) pos) (tOr tA tB'):=by
 intro wh pZ s σ H Q I h;refine isTrue_or (thn (ha pZ s σ H _ I h) λc s1 ⟨H1,I1,q1⟩=>?_);cases c with
 |true=>exact⟨H1,I1,q1⟩
 |false=>exact hb wh pZ s1 σ H1 Q I1 q1
theorem zKJ(ha:PT X a tA):PT X (.UnaryOp .Not a pos) (zRX tA):=by
 intro pZ s σ H Q I h;exact isTrue_not (ha pZ s σ H (λc H1=>Q (!c) H1) I h)
noncomputable def zOR(ta tb:TE):TE:=λσ H Q=>ta σ H λx H1=>∃c,x=.bl c/\if c=true then tb σ H1 Q else Q (.bl false) H1
noncomputable def zON(ta:TE):TE:=λσ H Q=>ta σ H λx H1=>∃c,x=.bl c/\Q (.bl (!c)) H1
theorem zKR(ha:PE X a ta)(hb:PE X (.BoolOp .And (b::rest) pos) tb):PE X (.BoolOp .And (a::b::rest) pos) (zOR ta tb):=by
 intro pZ s σ H Q I h;refine BoolOp_and (thn (ha pZ s σ H _ I h) λv s1 ⟨x,H1,I1,r1,q1⟩=>?_);obtain⟨c,rfl,q1⟩:=q1;cases r1;refine ig ?_;cases c with
 |true=>exact hb pZ s1 σ H1 Q I1 q1
 |false=>exact⟨.bl false,H1,I1,rfl,q1⟩
theorem zKQ(ha:PE X a ta):PE X (.UnaryOp .Not a pos) (zON ta):=by
 intro pZ s σ H Q I h;refine UnaryOp_ (thn (ha pZ s σ H _ I h) λv s1 ⟨x,H1,I1,r1,q1⟩=>?_);obtain⟨c,rfl,q1⟩:=q1;cases r1;exact not_of (ig ⟨.bl (!c),H1,I1,rfl,q1⟩)
noncomputable def tIf(t:TT)(ta tb:TE):TE:=λσ H Q=>t σ H λc H1=>if c=true then ta σ H1 Q else tb σ H1 Q
theorem zAT(hc:PT X c tA)(ha:PE X a ta)(hb:PE X b tb):PE X (.IfExp c a b pos) (tIf tA ta tb):=by
 intro pZ s σ H Q I h;refine wpAny_IfExp (thn (hc pZ s σ H _ I h) λd s1 ⟨H1,I1,q1⟩=>?_);cases d with
 |true=>exact ha pZ s1 σ H1 Q I1 q1
 |false=>exact hb pZ s1 σ H1 Q I1 q1
end
end L2
namespace L2
open PySem PySem.Spec PyProof.Rows
def SqL(K:Fg)(H:Hp)(a:Addr)(xs:List V):Prop:=
 Rd H a (.lst xs) \/
  ∃(o:Obj) (its:Array Value) (n:Nat),K.lookup a=some o/\o.cls=.type "list" /\ o.dict=none/\o.data=.seq its n/\its.size<=af/\Vals xs its.toList
def SqT(K:Fg)(H:Hp)(a:Addr)(xs:List V):Prop:=
 Rd H a (.tup xs) \/
  ∃(o:Obj) (its:Array Value) (n:Nat),K.lookup a=some o/\o.cls=.type "tuple" /\ o.data=.seq its n/\its.size<=af/\Vals xs its.toList
noncomputable def zSL:Value->Option V
 |.none=>some .non
 |.bool b=>some (.bl b)
 |.int i _=>some (.int i)
 |.str x _=>some (.str x)
 |.bytes b _=>some (.byt b)
 |.float b _=>some (.flt b)
 |.ref a=>some (.ref a)
 |.type n=>some (.ty n)
 |_=>none
theorem RelV.abs(r:RelV x u):zSL u=some x:=by
 cases x with
 |non=>cases r;rfl
 |bl _=>cases r;rfl
 |int _=>obtain⟨t,rfl⟩:=r;rfl
 |str _=>obtain⟨t,rfl⟩:=r;rfl
 |byt _=>obtain⟨t,rfl⟩:=r;rfl
 |flt _=>obtain⟨t,rfl⟩:=r;rfl
 |ref _=>cases r;rfl
 |ty _=>cases r;rfl
theorem RelV.inj(r:RelV x u)(q:RelV y u):x=y:=bw (r.abs.symm.trans q.abs)
theorem Vals.inj:∀{xs ys:List V} {us:List Value},Vals xs us->Vals ys us->xs=ys
 |_,_,_,.nil,.nil=>rfl
 |_,_,_,.cons r t,.cons r' t'=>by rw[r.inj r',Vals.inj t t']
theorem SqL.of{K:Fg}(h:H a=some (.lst xs)):SqL K H a xs:=.inl (.inl h)
theorem SqT.of{K:Fg}(h:H a=some (.tup xs)):SqT K H a xs:=.inl (.inl h)
theorem Inv.list(I:Inv X pZ σ H s)(h:SqL X.K H a xs):∃its:List Value,Vals xs its/\PlainL s.heap a its.toArray/\xs.length<=af:=by
 rcases h with h|⟨o,its,n,hk,hc,hd,hs,hz,r⟩
 ·obtain⟨z,its,n,r,e⟩:=h.ok I.hok;exact⟨its,r,⟨_,n,e,rfl,rfl,rfl⟩,z⟩
 ·refine⟨its.toList,r,⟨o,n,I.kIn a o hk,hc,hd,by simpa using hs⟩,?_⟩;have e:=r.length;simp only[iq] at e;omega
theorem Inv.tuple(I:Inv X pZ σ H s)(h:SqT X.K H a xs):∃its:List Value,Vals xs its/\IsTup s.heap a its.toArray/\xs.length<=af:=by
 rcases h with h|⟨o,its,n,hk,hc,hs,hz,r⟩
 ·obtain⟨z,its,r,p⟩:=h.ok I.hok;exact⟨its,r,p,z⟩
 ·refine⟨its.toList,r,⟨o,I.kIn a o hk,hc,n,by simpa using hs⟩,?_⟩;have e:=r.length;simp only[iq] at e;omega
theorem Inv.list_inj(I:Inv X pZ σ H s)(h:SqL X.K H a xs)(h':SqL X.K H a ys):xs=ys:=by
 obtain⟨its,r,⟨o,n,e,_,_,d⟩,_⟩:=I.list h;obtain⟨its',r',⟨o',n',e',_,_,d'⟩,_⟩:=I.list h';rw[e] at e';cases e';rw[d] at d'
 injection d' with d1 _
 have:its=its':=by simpa using congrArg Array.toList d1
 subst this;exact r.inj r'
theorem Inv.tuple_inj(I:Inv X pZ σ H s)(h:SqT X.K H a xs)(h':SqT X.K H a ys):xs=ys:=by
 obtain⟨its,r,⟨o,e,_,n,d⟩,_⟩:=I.tuple h;obtain⟨its',r',⟨o',e',_,n',d'⟩,_⟩:=I.tuple h';rw[e] at e';cases e';rw[d] at d'
 injection d' with d1 _
 have:its=its':=by simpa using congrArg Array.toList d1
 subst this;exact r.inj r'
noncomputable abbrev Cx.wish(X:Cx)(E:Value->Shared->Prop):Cx:={ X with xe:=E }
abbrev Cx.nox(X:Cx):Cx:=X.wish λ_ _=>False
theorem Cx.Ok.wish{X:Cx}(ok:X.Ok)(E:Value->Shared->Prop):(X.wish E).Ok:=
 ⟨ok.mod,ok.kind,ok.glob,ok.blt,ok.above,ok.inj,ok.has,ok.cab,ok.hd,ok.frames,ok.stk,ok.exf,ok.bs,ok.bsz,ok.noex,ok.exfs,ok.funs,ok.frf⟩
theorem Cx.Ok.unwish{X:Cx}{E:Value->Shared->Prop}(ok:(X.wish E).Ok):X.Ok:=
 ⟨ok.mod,ok.kind,ok.glob,ok.blt,ok.above,ok.inj,ok.has,ok.cab,ok.hd,ok.frames,ok.stk,ok.exf,ok.bs,ok.bsz,ok.noex,ok.exfs,ok.funs,ok.frf⟩
theorem Inv.wish(I:Inv X pZ σ H s)(E:Value->Shared->Prop):Inv (X.wish E) pZ σ H s:=⟨I.ok.wish E,I.os,I.bare,I.base,I.loc,I.cell,I.free,I.freeC,I.pin,I.hok,I.len⟩
theorem Inv.unwish(I:Inv (X.wish E) pZ σ H s):Inv X pZ σ H s:=⟨I.ok.unwish,I.os,I.bare,I.base,I.loc,I.cell,I.free,I.freeC,I.pin,I.hok,I.len⟩
theorem SP.unwish{D:Ends}(h:SP (X.wish E) pZ D f s'):SP X pZ D f s':=by
 cases f with
 |next=>obtain⟨σ',H',I,q⟩:=h;exact⟨σ',H',I.unwish,q⟩
 |brk=>obtain⟨σ',H',I,q⟩:=h;exact⟨σ',H',I.unwish,q⟩
 |cont=>obtain⟨σ',H',I,q⟩:=h;exact⟨σ',H',I.unwish,q⟩
 |ret u=>obtain⟨v,σ',H',I,r,q⟩:=h;exact⟨v,σ',H',I.unwish,r,q⟩
theorem PSs.nox{st:List Stmt}(h:PSs X.nox st t):PSs X st t:=λpZ s σ H D I hw=>
 gv (h pZ s σ H D (I.wish _) hw) (λ_ _ q=>q.unwish) λ_ _ z=>False.elim z
section
variable{st:Stmt}{rest:List Stmt}
noncomputable def zOO:TS:=λD σ H=>D.nx σ H
noncomputable def zNA(t u:TS):TS:=λD σ H=>t { D with nx:=u D } σ H
theorem QN:PSs X [] zOO:=λ_ _ σ H _ I h=>ou ⟨σ,H,I,h⟩
theorem jO(h1:PS X st t)(h2:PSs X rest u):PSs X (st::rest) (zNA t u):=by
 intro pZ s σ H D I h;refine wpAny_execs_cons (thn (h1 pZ s σ H { D with nx:=u D } I h) λf s1 q=>?_);cases f with
 |next=>
  obtain⟨σ',H',I',q⟩:=q;exact h2 pZ s1 σ' H' D I' q
 |ret v=>exact q
 |brk=>exact q
 |cont=>exact q
theorem mZ(h1:PS X st t):PSs X [st] t:=by
 intro pZ s σ H D I h;refine wpAny_execs_cons (thn (h1 pZ s σ H D I h) λf s1 q=>?_);cases f with
 |next=>exact ou q
 |ret v=>exact q
 |brk=>exact q
 |cont=>exact q
theorem Inv.quiet(I:Inv X pZ σ H s):interactive X.env=false:=by simp[interactive,I.ok.kind]
noncomputable def zNC(te:TE):TS:=λD σ H=>te σ H λ_ H1=>D.nx σ H1
theorem tP(he:PE X e te)(hs:gx e none pos.line X.env=pure false:=by rfl):PS X (.Expr e pos) (zNC te):=by
 intro pZ s σ H D I h;exact wpAny_Expr_any (thn (he pZ s σ H _ I h) λv s1 ⟨x,H1,I1,r1,q1⟩=>⟨σ,H1,I1,q1⟩) I.quiet hs
noncomputable def zRW(te:TE):TS:=λD σ H=>te σ H D.rt
theorem Y4(he:PE X e te):PS X (.Return (some e) pos) (zRW te):=by
 intro pZ s σ H D I h;exact wpAny_Return_some (thn (he pZ s σ H _ I h) λv s1 ⟨x,H1,I1,r1,q1⟩=>⟨x,σ,H1,I1,r1,q1⟩)
noncomputable def zRZ(c:TT)(t u:TS):TS:=λD σ H=>c σ H λb H1=>if b=true then t D σ H1 else u D σ H1
theorem zNJ(hc:PT X c tc)(ha:PSs X a t)(hb:PSs X b u):PS X (.If c a b pos) (zRZ tc t u):=by
 intro pZ s σ H D I h;refine wpAny_If (thn (hc pZ s σ H _ I h) λd s1 ⟨H1,I1,q1⟩=>?_);cases d with
 |true=>exact ha pZ s1 σ H1 D I1 q1
 |false=>exact hb pZ s1 σ H1 D I1 q1
end
abbrev TG:=V->St->Hp->(St->Hp->Prop)->Prop
abbrev TGs:=List V->St->Hp->(St->Hp->Prop)->Prop
def PG(X:Cx)(target:Expr)(t:TG):Prop:=
 ∀(pZ:List (Addr×Obj)) (s:Shared) (σ:St) (H:Hp) (v:V) (u:Value) (Q:St->Hp->Prop),Inv X pZ σ H s->RelV v u->t v σ H Q ->
  wpAny (model X.prog X.w) X.A (assign target X.env u) (λ_ s'=>∃σ' H',Inv X pZ σ' H' s'/\Q σ' H') X.xe s
def PGs(X:Cx)(ts:List Expr)(t:TGs):Prop:=
 ∀(pZ:List (Addr×Obj)) (s:Shared) (σ:St) (H:Hp) (vs:List V) (us:List Value) (Q:St->Hp->Prop),Inv X pZ σ H s->Vals vs us->t vs σ H Q ->
  wpAny (model X.prog X.w) X.A (assignInOrder ((io ts X.env).map (·.2)) us) (λ_ s'=>∃σ' H',Inv X pZ σ' H' s'/\Q σ' H') X.xe s
abbrev TIp:=V->V->Hp->VK->Prop
def PIp(X:Cx)(op:Operator)(t:TIp):Prop:=
 ∀(pZ:List (Addr×Obj)) (s:Shared) (σ:St) (H:Hp) (x y:V) (v u:Value) (Q:VK),Inv X pZ σ H s->RelV x v->RelV y u->t x y H Q ->
  wpAny (model X.prog X.w) X.A (inplaceOp op v u) (EP X pZ σ Q) X.xe s
noncomputable def X7(i:Nat):TG:=λv σ H Q=>Q (σ.set i (some v)) H
theorem tT(hN:X.N.Nodup)(hi:X.N[i]?=some x)(hx:Loc X.env.scope x)(hf:X.fn x=true\/X.env.scope.names.lookup x=some .local:=by first|exact .inl rfl|exact .inr rfl|assumption):PG X (.Name x pos) (X7 i):=by
 intro pZ s σ H v u Q I r h;exact wpAny_assign_Name (gW I hN hi hx r (λs' I'=>⟨_,H,I',h⟩) hf)
noncomputable def zSB:TGs:=λvs σ H Q=>vs=[]/\Q σ H
noncomputable def zPR(t:TG)(u:TGs):TGs:=λvs σ H Q=>∃v r,vs=v::r/\t v σ H λσ' H'=>u r σ' H' Q
theorem zEW:PGs X [] zSB:=by
 intro pZ s σ H vs us Q I r h;obtain⟨e,h⟩:=h;subst e;cases r;exact assignInOrder_nil ⟨σ,H,I,h⟩
theorem zAP(h1:PG X e t)(h2:PGs X es u)(hs:(io (e::es) X.env).map (·.2)=assign e X.env::(io es X.env).map (·.2):=by rfl):PGs X (e::es) (zPR t u):=by
 intro pZ s σ H vs us Q I r h;obtain⟨v,vr,e1,h⟩:=h;subst e1;cases r with
 |cons r rr=>
  rw[hs];refine assignInOrder_cons (thn (h1 pZ s σ H _ _ _ I r h) λ_ s1 ⟨σ1,H1,I1,q1⟩=>?_);exact h2 pZ s1 σ1 H1 _ _ Q I1 rr q1
def zSA(K:Fg)(n:Nat)(t:TGs):TG:=λv σ H Q=>∃a xs,v=.ref a/\SqT K H a xs/\xs.length=n/\t xs σ H Q
theorem zKM(hc:X.calm=true)(h:PGs X es t)(hn:(io es X.env).length=n:=by rfl)(hst:(io es X.env).findIdx? (·.1)=none:=by rfl):PG X (.Tuple es k pos) (zSA X.K n t):=by
 intro pZ s σ H v u Q I r hw;obtain⟨a,xs,e1,hq,hl,hw⟩:=hw;subst e1;cases r;obtain⟨its,rv,ht,hz⟩:=I.tuple hq;refine assign_Tuple_tuple (I.ok.hd hc) ht (by simp[hn,<-hl,rv.length]) hst λh' hx=>?_
 have I1:Inv X pZ σ H { s with heap:=h' }:=I.kept (t':=s.toks) λb o e=>hx b o (bq (au e)) e
 exact h pZ _ σ H xs _ Q I1 (by simpa using rv) hw
noncomputable def zQH(te:TE)(g:TG):TS:=λD σ H=>te σ H λx H1=>g x σ H1 D.nx
theorem zKL(he:PE X e te)(hg:PG X tg g)(hs:swapsWithSole [tg] e pos.line X.env=pure false:=by rfl)(hw:swappedStores [tg] e X.env=pure none:=by rfl)(h1:(io [tg] X.env).map (·.2)=[assign tg X.env]:=by rfl):PS X (.Assign [tg] e pos) (zQH te g):=by
 intro pZ s σ H D I h;refine wpAny_Assign_stores (thn (he pZ s σ H _ I h) λv s1 ⟨x,H1,I1,r1,q1⟩=>?_) hs hw;rw[h1];exact thn (hg pZ s1 σ H1 x v _ I1 r1 q1) λ_ s2 q=>q
theorem m5(hN:X.N.Nodup)(hi:X.N[i]?=some x)(hx:Loc X.env.scope x)(he:PE X e te)(hs:gx e (some (.Name x pos')) pos.line X.env=pure false:=by rfl)(hf:X.fn x=true\/X.env.scope.names.lookup x=some .local:=by first|exact .inl rfl|exact .inr rfl|assumption):PS X (.Assign [.Name x pos'] e pos) (zQH te (X7 i)):=by
 intro pZ s σ H D I h;refine wpAny_Assign_Name (thn (he pZ s σ H _ I h) λv s1 ⟨y,H1,I1,r1,q1⟩=>?_) hs;exact gW I1 hN hi hx r1 (λs2 I2=>⟨_,H1,I2,q1⟩) hf
noncomputable def zR1(i:Nat)(te:TE)(ti:TIp):TS:=λD σ H=>∃x,σ[i]?=some (some x)/\te σ H λy H1=>ti x y H1 λz H2=>D.nx (σ.set i (some z)) H2
theorem zKK(hN:X.N.Nodup)(hi:X.N[i]?=some x)(hx:Loc X.env.scope x)(he:PE X e te)(ho:PIp X op ti)(hf:X.fn x=true\/X.env.scope.names.lookup x=some .local:=by first|exact .inl rfl|exact .inr rfl|assumption):PS X (.AugAssign (.Name x pos') op e pos) (zR1 i te ti):=by
 intro pZ s σ H D I h;obtain⟨v,e1,h⟩:=h;obtain⟨m,hn,hl⟩:=I.loc;have vis:Vis X.env.scope x:=by rcases hx with k|k;exact .inl k;exact .inr (.inl k)
 obtain⟨u,r,l⟩:=hl i x v hi e1 vis;refine wpAny_AugAssign_Name ?_;have go:wpAny (model X.prog X.w) X.A (eval e X.env) (λw s₂=>wpAny (model X.prog X.w) X.A (inplaceOp op u w) (λr s₃=>wpAny (model X.prog X.w) X.A (storeName X.env x r) (λ_=>SP X pZ D .next) X.xe s₃) X.xe s₂) X.xe s:=by
  refine thn (he pZ s σ H _ I h) λw s1 ⟨y,H1,I1,r1,q1⟩=>?_
  refine thn (ho pZ s1 σ H1 v y u w _ I1 r r1 q1) λz s2 ⟨zv,H2,I2,r2,q2⟩=>?_
  exact gW I2 hN hi hx r2 (λs3 I3=>⟨_,H2,I3,q2⟩) hf
 rcases l with⟨hk,hm⟩|⟨hk,c,hc,hcell⟩
 ·exact vn I.ok.kind hk hn hm go
 ·rcases hk with hk|hk
  ·exact wf I.ok.kind hk hc hcell go
  ·rcases hx with k|k
   ·have:X.env.scope.names.lookup x=some .free:=hk
    rw[k] at this;cases this
   ·have:X.env.scope.names.lookup x=some .free:=hk
    rw[k] at this;cases this
noncomputable def ipI(f:Int->Int->Int):TIp:=λx y H Q=>∃i j,x=.int i/\y=.int j/\Q (.int (f i j)) H
theorem zL4:PIp X .Add (ipI λi j=>i+j):=by
 intro pZ s σ H x y v u Q I r1 r2 h;obtain⟨i,j,e1,e2,q⟩:=h;subst e1;subst e2;obtain⟨t,rfl⟩:=r1;obtain⟨t',rfl⟩:=r2;exact iadd_int ⟨.int _,H,I.tok _,⟨_,rfl⟩,q⟩
def zJT(c:TT)(tb:TS):TS:=λD σ H=>∃W:Nat->St->Hp->Prop,(∃m,W m σ H)/\∀m σ H,W m σ H ->
 c σ H λb H1=>if b=true then ∃N:St->Hp->Prop,(∀σ' H',N σ' H'->∃m',m'<m/\W m' σ' H')/\tb { D with nx:=N,ct:=N,bk:=D.nx } σ H1 else D.nx σ H1
theorem tN(hp:PassesOwn (model X.prog X.w) X.A X.env X.xe)(hc:PT X c tc)(hb:PSs X body tb):PS X (.While c body [] pos) (zJT tc tb):=by
 intro pZ s σ H D I h;obtain⟨W,⟨m0,w0⟩,turn⟩:=h;refine wpAny_While (codeAny_whileLoop (λn s'=>∃σ' H',Inv X pZ σ' H' s'/\W n σ' H') ?_ m0 ⟨σ,H,I,w0⟩);rintro n s1 ⟨σ1,H1,I1,w1⟩;refine jk hp (thn (hc pZ s1 σ1 H1 _ I1 (turn n σ1 H1 w1)) λb s2 ⟨H2,I2,q2⟩=>?_);cases b with
 |true=>
  obtain⟨N,hN,q2⟩:=q2;rw[if_pos rfl];refine jk hp (thn (hb pZ s2 σ1 H2 _ I2 q2) λf s3 q3=>?_);cases f with
  |next=>
   obtain⟨σ3,H3,I3,n3⟩:=q3;obtain⟨m',hm,w3⟩:=hN σ3 H3 n3;exact⟨m',hm,σ3,H3,I3,w3⟩
  |cont=>
   obtain⟨σ3,H3,I3,n3⟩:=q3;obtain⟨m',hm,w3⟩:=hN σ3 H3 n3;exact⟨m',hm,σ3,H3,I3,w3⟩
  |brk=>exact q3
  |ret v=>exact q3
 |false=>
  rw[if_neg ax];exact ou ⟨σ1,H2,I2,q2⟩
structure It where
 go:Nat->Hp->Prop
 yld:Nat->Hp->V->Hp->Prop
 stop:Nat->Hp->Prop
def W1(X:Cx)(pZ:List (Addr×Obj))(H:Hp)(b:Addr):Prop:=
 H b=none/\b≠X.env.locals/\b∉X.fs/\(b∈X.ex\/X.s₀.heap.objs.size<=b)/\(∀x c,X.env.cells.lookup x=some c->c≠b)/\∀p∈X.pn++pZ,p.1≠b
theorem Inv.fpOk(I:Inv X pZ σ H s)(hb:s.heap.objs.size<=b)(hn:H' b=none):W1 X pZ H' b:=by
 refine⟨hn,gf (bh I.lt hb),I.nofs hb,.inr (bv I.sz hb),λx c e z=>?_,λp hp z=>?_⟩
 ·obtain⟨v,q⟩:=I.cell x c e;exact absurd (bh q.lt (by rw[z];exact hb)) (iw _)
 ·exact absurd (bh (au (I.pin p hp).1) (by rw[z];exact hb)) (iw _)
structure Turn(P:Program)(w:World)(K:Fg)(tg:Expr)(J:It)(fp:List Addr)(it:Addr)(tn:Nat->Heap->Prop):Prop where
 mem:it∈fp
 obj:∀i h,tn i h->∀b∈fp,∃o,h.get? b=some o/\∀v,o.data≠.cell v
 keep:∀i h h',tn i h->(∀b∈fp,∀o,h.get? b=some o->h'.get? b=some o)->tn i h'
 item:∀(X:Cx),X.prog=P->X.w=w->X.K=K->X.calm=true->∀(i:Nat) (pZ:List (Addr×Obj)) (s:Shared) (σ:St) (H:Hp) (E:Value->Shared->Prop),Inv X pZ σ H s->(∀b∈fp,W1 X pZ H b)->tn i s.heap->J.go i H ->
  wpAny (model P w) X.A (pyNext (.ref it)) (λr s1=>∃u,r=some u /\
   wpAny (model P w) X.A (letOwnedTupleGo tg (.ref it) u) (λ_ s2=>∃x H',Inv X pZ σ H' s2/\RelV x u/\J.yld i H x H'/\tn (i+1) s2.heap/\∀b∈fp,H' b=none) E s1) E s
 done:∀(X:Cx),X.prog=P->X.w=w->X.K=K->X.calm=true->∀(i:Nat) (pZ:List (Addr×Obj)) (s:Shared) (σ:St) (H:Hp) (E:Value->Shared->Prop),Inv X pZ σ H s->(∀b∈fp,W1 X pZ H b)->tn i s.heap->J.stop i H ->
  wpAny (model P w) X.A (pyNext (.ref it)) (λr s1=>r=none/\Inv X pZ σ H s1) E s
 self:∀(A:Around) (i:Nat) (s:Shared) (Q:Value->Shared->Prop) (E:Value->Shared->Prop),tn i s.heap->Q (.ref it) s->wpAny (model P w) A (pyIter (.ref it)) Q E s
abbrev TI:=St->Hp->(It->Hp->Prop)->Prop
def PIE(X:Cx)(pZ:List (Addr×Obj))(σ:St)(tg:Expr)(R:It->Hp->Prop)(itv:Value)(s2:Shared):Prop:=
 ∃(it:Addr) (fp:List Addr) (tn:Nat->Heap->Prop) (J:It) (H':Hp),itv=.ref it/\Inv X pZ σ H' s2/\Turn X.prog X.w X.K tg J fp it tn/\tn 0 s2.heap/\(∀b∈fp,W1 X pZ H' b)/\R J H'
def PI(X:Cx)(tg iter:Expr)(wi:TI):Prop:=
 ∀(pZ:List (Addr×Obj)) (s:Shared) (σ:St) (H:Hp) (R:It->Hp->Prop),Inv X pZ σ H s->wi σ H R ->
  wpAny (model X.prog X.w) X.A (eval iter X.env) (λv s1=>wpAny (model X.prog X.w) X.A (pyIter v) (PIE X pZ σ tg R) X.xe s1) X.xe s
theorem Q8(ho:s.heap.get? it=some o)(hc:o.cls=.type n)(hd:o.data=.fields vs)(hn:["enumerate", "zip", "dict_itemiterator", "dict_reverseitemiterator", "odict_iterator", "itertools.zip_longest", "itertools.pairwise"].contains n=false)(hQ:Q () s):wpAny M A (letOwnedTupleGo tg (.ref it) u) Q E s:=by
 unfold letOwnedTupleGo;cases tg<;>first
  |exact ah hQ
  |(cases u<;>first
    |exact ah hQ
    |(refine ac (wpAny_load ho ?_)
      rw[hc,hd];show wpAny M A (if (["enumerate", "zip", "dict_itemiterator", "dict_reverseitemiterator", "odict_iterator", "itertools.zip_longest", "itertools.pairwise"].contains n && vs[0]? == some (rawInt _))=true then _ else _) Q E s;rw[if_neg (by intro h;rw[hn,Bool.false_and] at h;cases h)];exact ah hQ))
def Itl(K:Fg)(a:Addr):It:=
 ⟨λi H=>∃xs x,SqL K H a xs/\xs[i]?=some x,λi H x H'=>H'=H/\∀xs,SqL K H a xs->xs[i]?=some x,λi H=>∃xs,SqL K H a xs/\xs.length<=i⟩
def Itt(K:Fg)(a:Addr):It:=
 ⟨λi H=>∃xs x,SqT K H a xs/\xs[i]?=some x,λi H x H'=>H'=H/\∀xs,SqT K H a xs->xs[i]?=some x,λi H=>∃xs,SqT K H a xs/\xs.length<=i⟩
noncomputable def Itr(lo:Int)(n:Nat):It:=⟨λi _=>i<n,λi H x H'=>H'=H/\x=.int (lo+i),λi _=>n<=i⟩
theorem YR{K:Fg}(a it:Addr):Turn P w K tg (Itl K a) [it] it (λi h=>h.IsListIter it a i) where
 mem:=by simp
 obj:=λi h st b hb=>by
  have e:b=it:=by simpa using hb
  subst e;obtain⟨o,e,c,d⟩:=st;exact⟨o,e,λv z=>by rw[d] at z;cases z⟩
 keep:=λi h h' st k=>st.at λo e=>k it (by simp) o e
 item:=by
  intro X hP hw hK hc i pZ s σ H E I hf st hg;subst hP hw hK;obtain⟨xs,x,hq,hx⟩:=hg;obtain⟨its,rv,p,hz⟩:=I.list hq;obtain⟨u,hu,ru⟩:=rv.get hx;obtain⟨f0,f1,f2,f3,f4,f5⟩:=hf it (by simp);refine og st p.isList (x:=u) (by simpa using hu) λh' st' sb=>?_
  have I1:Inv X pZ σ H { s with heap:=h' }:=I.turned (t':=s.toks) (λb o hb e=>(sb.2 b hb).trans e) f0 f1 f3 f4 f5;obtain⟨o,e,c,d⟩:=id st';exact⟨u,rfl,Q8 (s:={ s with heap:=h' }) e c d (by decide) ⟨x,H,I1,ru,⟨rfl,λys hy=>by rw[I.list_inj hy hq];exact hx⟩,st',λb hb=>(hf b hb).1⟩⟩
 done:=by
  intro X hP hw hK hc i pZ s σ H E I hf st hg;subst hP hw hK;obtain⟨xs,hq,hx⟩:=hg;obtain⟨its,rv,p,hz⟩:=I.list hq;obtain⟨f0,f1,f2,f3,f4,f5⟩:=hf it (by simp);have hl:=rv.length;exact oz (I.ok.hd hc) st p.isList (by simp;omega) λh' eb=>⟨rfl,I.turned (t':=s.toks) (λb o hb e=>eb b o hb e) f0 f1 f3 f4 f5⟩
 self:=λ_ _ _ _ _ st h=>wpAny_pyIter_listiter st h
theorem o8{K:Fg}(a it:Addr):Turn P w K tg (Itt K a) [it] it (λi h=>h.IsTupleIter it a i) where
 mem:=by simp
 obj:=λi h st b hb=>by
  have e:b=it:=by simpa using hb
  subst e;obtain⟨o,e,c,d⟩:=st;exact⟨o,e,λv z=>by rw[d] at z;cases z⟩
 keep:=λi h h' st k=>st.at λo e=>k it (by simp) o e
 item:=by
  intro X hP hw hK hc i pZ s σ H E I hf st hg;subst hP hw hK;obtain⟨xs,x,hq,hx⟩:=hg;obtain⟨its,rv,p,hz⟩:=I.tuple hq;obtain⟨u,hu,ru⟩:=rv.get hx;obtain⟨f0,f1,f2,f3,f4,f5⟩:=hf it (by simp);refine wpAny_pyNext_tuple_item st (show s.heap.IsTuple a its.toArray from p) (x:=u) (by simpa using hu) λh' st' sb=>?_
  have I1:Inv X pZ σ H { s with heap:=h' }:=I.turned (t':=s.toks) (λb o hb e=>(sb.2 b hb).trans e) f0 f1 f3 f4 f5;obtain⟨o,e,c,d⟩:=id st';exact⟨u,rfl,Q8 (s:={ s with heap:=h' }) e c d (by decide) ⟨x,H,I1,ru,⟨rfl,λys hy=>by rw[I.tuple_inj hy hq];exact hx⟩,st',λb hb=>(hf b hb).1⟩⟩
 done:=by
  intro X hP hw hK hc i pZ s σ H E I hf st hg;subst hP hw hK;obtain⟨xs,hq,hx⟩:=hg;obtain⟨its,rv,p,hz⟩:=I.tuple hq;obtain⟨f0,f1,f2,f3,f4,f5⟩:=hf it (by simp);have hl:=rv.length;exact wpAny_pyNext_tuple_end (I.ok.hd hc) st (show s.heap.IsTuple a its.toArray from p) (by simp;omega) λh' eb=>⟨rfl,I.turned (t':=s.toks) (λb o hb e=>eb b o hb e) f0 f1 f3 f4 f5⟩
 self:=λ_ _ _ _ _ st h=>wpAny_pyIter_tupleiter st h
theorem o9{K:Fg}(it:Addr)(lo:Int)(n:Nat):Turn P w K tg (Itr lo n) [it] it (λi h=>IsRangeIter h it (lo+(i:Nat)*1) ((n:Int)-(i:Nat)) 1) where
 mem:=by simp
 obj:=λi h st b hb=>by
  have e:b=it:=by simpa using hb
  subst e;exact⟨_,st,λv z=>by
   have z':Data.fields _=Data.cell v:=z;cases z'⟩
 keep:=λi h h' st k=>k it (by simp) _ st
 item:=by
  intro X hP hw hK hc i pZ s σ H E I hf st hg;subst hP hw hK;obtain⟨f0,f1,f2,f3,f4,f5⟩:=hf it (by simp);have W:=Walks.range (prog:=X.prog) (w:=X.w) (I.ok.hd hc) it lo 1 n;refine W.item i s _ _ hg st λv h' tk hv st' kk=>?_
  obtain⟨t,rfl⟩:=hv;have I1:Inv X pZ σ H { s with heap:=h',toks:=tk }:=I.turned (λb o hb e=>kk b o (by simpa using hb) e) f0 f1 f3 f4 f5;refine⟨_,rfl,Q8 (s:={ s with heap:=h',toks:=tk }) (n:="range_iterator") st' rfl rfl (by decide) ⟨.int (lo+i),H,I1,⟨t,?_⟩,⟨rfl,rfl⟩,st',λb hb=>(hf b hb).1⟩⟩;rw[Int.mul_one]
 done:=by
  intro X hP hw hK hc i pZ s σ H E I hf st hg;subst hP hw hK;obtain⟨f0,f1,f2,f3,f4,f5⟩:=hf it (by simp);exact uh (I.ok.hd hc) st (by have:n<=i:=hg;omega) λh' eb=>⟨rfl,I.turned (t':=s.toks) (λb o hb e=>eb b o hb e) f0 f1 f3 f4 f5⟩
 self:=λ_ _ _ _ _ st h=>ui st h
end L2
namespace L2
open PySem PySem.Spec PyProof.Rows
theorem zAF{R:It->Hp->Prop}{lo:Int}(I:Inv X pZ σ H s)(h1 : -(2 ^ 62)<=lo)(h2:lo<2 ^ 62)(h3 : -(2 ^ 62)<=hi)(h4:hi<2 ^ 62)(q:R (Itr lo (hi-lo).toNat) H):wpAny (model X.prog X.w) X.A (pyIter (.ref s.heap.objs.size)) (PIE X pZ σ tg R) E { s with heap:=s.heap.push { cls:=.type "range",data:=.fields #[.int lo t,.int hi u,.int 1 v] },toks:=tk }:=by
 refine wpAny_pyIter_range (IsRange.new ..) (small_one h1 h2 h3 h4) ?_;have I1:Inv X pZ σ H { s with heap:=s.heap.push { cls:=.type "range",data:=.fields #[.int lo t,.int hi u,.int 1 v] },toks:=tk }:=I.kept λb o e=>al _ e
 refine⟨(s.heap.push { cls:=.type "range",data:=.fields #[.int lo t,.int hi u,.int 1 v] }).objs.size,[(s.heap.push { cls:=.type "range",data:=.fields #[.int lo t,.int hi u,.int 1 v] }).objs.size],_,_,H,rfl,
  I1.kept (t':=tk) λb o e=>al _ e,o9 _ lo (hi-lo).toNat,?_,λb hb=>?_,q⟩
 ·have e1:lo+((0:Nat):Int)*1=lo:=by simp
  have e2:(((hi-lo).toNat:Nat):Int)-((0:Nat):Int)=Builtin.Range.rangeSize lo hi 1:=by rw[rangeSize_one];split<;>omega
  show IsRangeIter _ _ (lo+((0:Nat):Int)*1) ((((hi-lo).toNat:Nat):Int)-((0:Nat):Int)) 1;rw[e1,e2];exact bo _ rfl
 ·have e:b=(s.heap.push { cls:=.type "range",data:=.fields #[.int lo t,.int hi u,.int 1 v] }).objs.size:=by simpa using hb
  subst e;exact I1.fpOk (ae _) (I1.hok.fresh (ae _))
def zPQ(ta:TA):TI:=λσ H R=>ta σ H λvs H1=>∃j:Int,vs=[.int j]/\-(2 ^ 62)<=j/\j<2 ^ 62/\R (Itr 0 j.toNat) H1
theorem Y9(hg:Gl X "range")(hm:X.mg "range" = none)(ha:PA X [a] ta)(hs:ag [a] X.env=[(false,eval a X.env)]:=by rfl):PI X tg (.Call (.Name "range" p) [a] [] pos) (zPQ ta):=by
 intro pZ s σ H R I h;refine Call_ (bB I hg hm boot_range (fi (thn (ha pos pZ s σ H _ I h) λus s1 ⟨vs,H1,I1,r1,q1⟩=>?_) hs rfl));obtain⟨j,e,q1,q2,q⟩:=q1;subst e;cases r1 with
 |cons r rr=>
  cases rr;obtain⟨t,rfl⟩:=r;exact call_range_1 (zAF I1 (by omega) (by omega) q1 q2 (by simpa using q))
def zR0(wi:TI)(g:TG)(tb:TS):TS:=λD σ H=>wi σ H λJ H1=>∃W:Nat->Nat->St->Hp->Prop,(∃m,W 0 m σ H1)/\∀i m σ H,W i m σ H ->
 (J.stop i H/\D.nx σ H)\/(J.go i H/\∃N:St->Hp->Prop,(∀σ' H',N σ' H'->∃m',m'<m/\W (i+1) m' σ' H')/\∀x H',J.yld i H x H'->g x σ H' λσ2 H2=>tb { D with nx:=N,ct:=N,bk:=D.nx } σ2 H2)
noncomputable def m7(fp:List Addr)(h:Heap):List (Addr×Obj):=fp.filterMap λb=>(h.get? b).map λo=>(b,o)
theorem kS(hb:b∈fp)(e:h.get? b=some o):(b,o)∈m7 fp h:=qq.mpr ⟨b,hb,by rw[e];rfl⟩
theorem XM(hp:p∈m7 fp h):p.1∈fp/\h.get? p.1=some p.2:=by
 obtain⟨b,hb,e⟩:=qq.mp hp;cases q:h.get? b with
 |none=>rw[q] at e;cases e
 |some o=>
  rw[q] at e;have e':(b,o)=p:=bw e;subst e';exact⟨hb,q⟩
theorem Inv.pinned(I:Inv X pZ σ H s)(hf:∀b∈fp,W1 X pZ H b)(ho:∀b∈fp,∃o,s.heap.get? b=some o/\∀v,o.data≠.cell v):Inv X (pZ++m7 fp s.heap) σ H s:=
 I.pins_of λp hp=>(bf.mp hp).elim (λz=>I.pin p (dk _ z)) λz=>by
  obtain⟨hb,e⟩:=XM z;obtain⟨f0,f1,f2,_⟩:=hf p.1 hb;obtain⟨o,e',d⟩:=ho p.1 hb;rw[e] at e';cases e';exact⟨e,f0,f1,f2,d⟩
theorem Inv.unpinned{pl:List (Addr×Obj)}(I:Inv X (pZ++pl) σ H s):Inv X pZ σ H s:=I.pins_of λp hp=>I.pin p (dk _ (pq _ hp))
theorem zEL(hp:PassesOwn (model X.prog X.w) X.A X.env X.xe)(hc:X.calm=true)(hi:PI X tg iter wi)(hg:PG X tg g)(hb:PSs X body tb)(hs:∀x,fg iter X.env x=pure x:=by intro _;rfl):PS X (.For tg iter body [] pos) (zR0 wi g tb):=by
 intro pZ s σ H D I h;refine wpAny_For (thn (hi pZ s σ H _ I h) λv s1 h1=>thn h1 λitv s2 h2=>?_) hs;obtain⟨it,fp,tn,J,H2,e,I2,T,st2,f2,W,⟨m0,w0⟩,turn⟩:=h2;subst e;have stat:∀{H':Hp},(∀b∈fp,H' b=none)->∀b∈fp,W1 X pZ H' b:=λhn b hb=>⟨hn b hb,(f2 b hb).2⟩
 refine codeAny_forLoop_any (λn s'=>∃i σ' H',Inv X pZ σ' H' s'/\tn i s'.heap/\(∀b∈fp,H' b=none)/\W i n σ' H') ?_ m0 ⟨0,σ,H2,I2,st2,λb hb=>(f2 b hb).1,w0⟩;rintro n s3 ⟨i,σ3,H3,I3,st3,fr3,w3⟩;rcases turn i n σ3 H3 w3 with⟨stop,qn⟩|⟨go,N,hN,step⟩
 ·refine jk hp (thn (T.done X rfl rfl rfl hc i pZ s3 σ3 H3 X.xe I3 (stat fr3) st3 stop) λr s4 ⟨hr,I4⟩=>?_);subst hr;exact ou ⟨σ3,H3,I4,qn⟩
 ·refine jk hp (thn (T.item X rfl rfl rfl hc i pZ s3 σ3 H3 X.xe I3 (stat fr3) st3 go) λr s4 ⟨u,hr,h4⟩=>?_);subst hr;refine jk hp (thn h4 λ_ s5 ⟨x,H5,I5,r5,y5,st5,fr5⟩=>?_);have I5':=I5.pinned (stat fr5) (T.obj _ _ st5);refine jk hp (thn (hg _ s5 σ3 H5 x u _ I5' r5 (step x H5 y5)) λ_ s6 ⟨σ6,H6,I6,q6⟩=>?_);refine jk hp (thn (hb _ s6 σ6 H6 _ I6 q6) λf s7 q7=>?_);have again:∀{σ7:St} {H7:Hp},Inv X (pZ++m7 fp s5.heap) σ7 H7 s7->N σ7 H7->∃m,m<n/\∃i σ' H',Inv X pZ σ' H' s7/\tn i s7.heap/\(∀b∈fp,H' b=none)/\W i m σ' H':=λ{σ7 H7} I7 n7=>by
   obtain⟨m',hm,w7⟩:=hN σ7 H7 n7;refine⟨m',hm,i+1,σ7,H7,I7.unpinned,T.keep _ _ _ st5 λb hb o e=>(I7.pin (b,o) (dk _ (dk _ (kS hb e)))).1,λb hb=>?_,w7⟩;obtain⟨o,e,d⟩:=T.obj _ _ st5 b hb;exact(I7.pin (b,o) (dk _ (dk _ (kS hb e)))).2.1
  cases f with
  |next=>obtain⟨σ7,H7,I7,n7⟩:=q7;exact again I7 n7
  |cont=>obtain⟨σ7,H7,I7,n7⟩:=q7;exact again I7 n7
  |brk=>obtain⟨σ7,H7,I7,q7⟩:=q7;exact⟨σ7,H7,I7.unpinned,q7⟩
  |ret v=>obtain⟨x7,σ7,H7,I7,r7,q7⟩:=q7;exact⟨x7,σ7,H7,I7.unpinned,r7,q7⟩
end L2
namespace L2
open PySem PySem.Spec PyProof.Rows
abbrev R2:=V->V->Hp->VK->Prop
def OpR(X:Cx)(f:Value->Value->Sem Value)(r:R2):Prop:=
 ∀(pZ:List (Addr×Obj)) (s:Shared) (σ:St) (H:Hp) (x y:V) (v u:Value) (Q:VK),Inv X pZ σ H s->RelV x v->RelV y u->r x y H Q ->
  wpAny (model X.prog X.w) X.A (f v u) (EP X pZ σ Q) X.xe s
def UnR(X:Cx)(f:Value->Sem Value)(r:V->Hp->VK->Prop):Prop:=
 ∀(pZ:List (Addr×Obj)) (s:Shared) (σ:St) (H:Hp) (x:V) (v:Value) (Q:VK),Inv X pZ σ H s->RelV x v->r x H Q ->
  wpAny (model X.prog X.w) X.A (f v) (EP X pZ σ Q) X.xe s
def CallR(X:Cx)(f:Value)(r:List V->Hp->VK->Prop):Prop:=
 ∀(pZ:List (Addr×Obj)) (s:Shared) (σ:St) (H:Hp) (xs:List V) (us:List Value) (Q:VK),Inv X pZ σ H s->Vals xs us->r xs H Q ->
  wpAny (model X.prog X.w) X.A (call f us) (EP X pZ σ Q) X.xe s
def zSM(X:Cx)(r:V->Hp->(Bool->Hp->Prop)->Prop):Prop:=
 ∀(pZ:List (Addr×Obj)) (s:Shared) (σ:St) (H:Hp) (x:V) (v:Value) (Q:Bool->Hp->Prop),Inv X pZ σ H s->RelV x v->r x H Q ->
  wpAny (model X.prog X.w) X.A (truthy v) (TP X pZ σ Q) X.xe s
noncomputable def tOp(r:R2)(ta tb:TE):TE:=λσ H Q=>ta σ H λx H1=>tb σ H1 λy H2=>r x y H2 Q
def tUn(r:V->Hp->VK->Prop)(ta:TE):TE:=λσ H Q=>ta σ H λx H1=>r x H1 Q
noncomputable def rI(C:Int->Int->Prop)(g:Int->Int->V):R2:=λx y H Q=>∃i j,x=.int i/\y=.int j/\C i j/\Q (g i j) H
noncomputable def rI0(g:Int->Int->V):R2:=λx y H Q=>∃i j,x=.int i/\y=.int j/\Q (g i j) H
def rU(g:Int->V):V->Hp->VK->Prop:=λx H Q=>∃i,x=.int i/\Q (g i) H
theorem zQT(ha:PE X a ta)(hb:PE X b tb){pZ:List (Addr×Obj)}{s:Shared}{σ:St}{H:Hp}{R:V->V->Hp->Prop}(I:Inv X pZ σ H s)(h:ta σ H λx H1=>tb σ H1 λy H2=>R x y H2){Q:Value->Shared->Prop}{f:Value->Value->Sem Value}(hf:∀v u s2 x y H2,Inv X pZ σ H2 s2->RelV x v->RelV y u->R x y H2->wpAny (model X.prog X.w) X.A (f v u) Q X.xe s2):wpAny (model X.prog X.w) X.A (eval a X.env) (λv s₁=>wpAny (model X.prog X.w) X.A (eval b X.env) (λu s₂=>wpAny (model X.prog X.w) X.A (f v u) Q X.xe s₂) X.xe s₁) X.xe s:=by
 refine thn (ha pZ s σ H _ I h) λv s1 ⟨x,H1,I1,r1,q1⟩=>?_
 refine thn (hb pZ s1 σ H1 _ I1 q1) λu s2 ⟨y,H2,I2,r2,q2⟩=>?_
 exact hf v u s2 x y H2 I2 r1 r2 q2
theorem zNL{op:Operator}{r:R2}(ho:OpR X (binaryOp op) r)(ha:PE X a ta)(hb:PE X b tb):PE X (.BinOp a op b pos) (tOp r ta tb):=by
 intro pZ s σ H Q I h;exact wpAny_BinOp (zQT ha hb I h λv u s2 x y H2 I2 rx ry q=>ho pZ s2 σ H2 x y v u Q I2 rx ry q)
theorem zNK(ho:UnR X (unaryOp op) r)(ha:PE X a ta):PE X (.UnaryOp op a pos) (tUn r ta):=by
 intro pZ s σ H Q I h;exact UnaryOp_ (thn (ha pZ s σ H _ I h) λv s1 ⟨x,H1,I1,r1,q1⟩=>ho pZ s1 σ H1 x v Q I1 r1 q1)
theorem opI{f:Value->Value->Sem Value}{C:Int->Int->Prop}{g:Int->Int->Int}(rule:∀(i j:Int) (t u:Tok) (s:Shared) (Q:Value->Shared->Prop) (E:Value->Shared->Prop),C i j->Q (.int (g i j) s.toks) { s with toks:=s.toks+1 }->wpAny (model X.prog X.w) X.A (f (.int i t) (.int j u)) Q E s):OpR X f (rI C λi j=>.int (g i j)):=by
 intro pZ s σ H x y v u Q I rx ry h;obtain⟨i,j,rfl,rfl,hc,q⟩:=h;obtain⟨t,rfl⟩:=rx;obtain⟨t',rfl⟩:=ry;exact rule i j t t' s _ _ hc ⟨.int (g i j),H,I.tok _,⟨_,rfl⟩,q⟩
theorem zRD{f:Value->Value->Sem Value}{g:Int->Int->Int}(rule:∀(i j:Int) (t u:Tok) (s:Shared) (Q:Value->Shared->Prop) (E:Value->Shared->Prop),Q (.int (g i j) s.toks) { s with toks:=s.toks+1 }->wpAny (model X.prog X.w) X.A (f (.int i t) (.int j u)) Q E s):OpR X f (rI0 λi j=>.int (g i j)):=by
 intro pZ s σ H x y v u Q I rx ry h;obtain⟨i,j,rfl,rfl,q⟩:=h;obtain⟨t,rfl⟩:=rx;obtain⟨t',rfl⟩:=ry;exact rule i j t t' s _ _ ⟨.int (g i j),H,I.tok _,⟨_,rfl⟩,q⟩
theorem zPC{f:Value->Value->Sem Value}{g:Int->Int->Bool}(rule:∀(i j:Int) (t u:Tok) (s:Shared) (Q:Value->Shared->Prop) (E:Value->Shared->Prop),Q (.bool (g i j)) s->wpAny (model X.prog X.w) X.A (f (.int i t) (.int j u)) Q E s):OpR X f (rI0 λi j=>.bl (g i j)):=by
 intro pZ s σ H x y v u Q I rx ry h;obtain⟨i,j,rfl,rfl,q⟩:=h;obtain⟨t,rfl⟩:=rx;obtain⟨t',rfl⟩:=ry;exact rule i j t t' s _ _ ⟨.bl (g i j),H,I,rfl,q⟩
def zRQ(i j:Int):Prop:=0<j/\j<1073741824
def zRP(i j:Int):Prop:=0<=j/\j<=1000000/\i.natAbs<2 ^ 64
def CMul(i j:Int):Prop:=(-(2 ^ 64)<i/\i<2 ^ 64)\/(-(2 ^ 64)<j/\j<2 ^ 64)
theorem CMul.ok(h:CMul i j):IntMulOk i j:=by
 rcases h with⟨h1,h2⟩|⟨h1,h2⟩
 ·exact .of_left (intBits_le_64 h1 h2)
 ·exact .of_right (intBits_le_64 h1 h2)
theorem op_add:OpR X (binaryOp .Add) (rI0 λi j=>.int (i+j)):=zRD λ_ _ _ _ _ _ _ q=>add_int q
theorem zKT:OpR X (binaryOp .Sub) (rI0 λi j=>.int (i-j)):=zRD λ_ _ _ _ _ _ _ q=>sub_int q
theorem zKY:OpR X (binaryOp .Mult) (rI CMul λi j=>.int (i*j)):=opI λ_ _ _ _ _ _ _ hc q=>mul_int q hc.ok
theorem zFA:OpR X (binaryOp .FloorDiv) (rI zRQ λi j=>.int (i / j)):=opI λi j _ _ _ _ _ hc q=>by
 have h1:(0:Int)<j:=hc.1;have h2:j<1073741824:=hc.2;exact floordiv_int (by omega) (by rw[Int.fdiv_eq_ediv_of_nonneg i (by omega)];exact q) (.inl (uq (by omega)))
theorem zKZ:OpR X (binaryOp .Mod) (rI (λ_ j=>0<j) λi j=>.int (i % j)):=opI λi j _ _ _ _ _ hc q=>by
 have h1:(0:Int)<j:=hc;exact mod_int' (by omega) (by rw[Int.fmod_eq_emod_of_nonneg i (by omega)];exact q)
theorem zKU:OpR X (binaryOp .Pow) (rI zRP λi j=>.int (i ^ j.toNat)):=opI λ_ _ _ _ _ _ _ hc q=>pow_int_small hc.1 hc.2.1 hc.2.2 q
theorem unI{f:Value->Sem Value}{g:Int->Int}(rule:∀(i:Int) (t:Tok) (s:Shared) (Q:Value->Shared->Prop) (E:Value->Shared->Prop),Q (.int (g i) s.toks) { s with toks:=s.toks+1 }->wpAny (model X.prog X.w) X.A (f (.int i t)) Q E s):UnR X f (rU λi=>.int (g i)):=by
 intro pZ s σ H x v Q I rx h;obtain⟨i,rfl,q⟩:=h;obtain⟨t,rfl⟩:=rx;exact rule i t s _ _ ⟨.int (g i),H,I.tok _,⟨_,rfl⟩,q⟩
theorem zDH:UnR X (unaryOp .USub) (rU λi=>.int (-i)):=unI λ_ _ _ _ _ q=>neg_int q
noncomputable def zQM:V->V->Bool
 |.non,.non=>true | .non,.int _=>true | .int _,.non=>true | .non,.bl _=>true | .bl _,.non=>true | .non,.str _=>true | .str _,.non=>true
 |.int _,.int _=>true | .bl _,.bl _=>true | .str _,.str _=>true | .byt _,.byt _=>true
 |.int _,.str _=>true | .str _,.int _=>true | .bl _,.str _=>true | .str _,.bl _=>true
 |_,_=>false
def rEq:R2:=λx y H Q=>zQM x y=true/\Q (.bl (decide (x=y))) H
def rNe:R2:=λx y H Q=>zQM x y=true/\Q (.bl (!decide (x=y))) H
theorem JC:decide (V.int i=V.int j)=(i == j):=by
 rw[ma];simp
theorem zHX:decide (V.bl i=V.bl j)=(i == j):=by
 rw[ma];simp
theorem JB:decide (V.str i=V.str j)=(i == j):=by
 rw[ma];simp
theorem JD:decide (V.byt i=V.byt j)=(i.toList == j.toList):=by
 rw[ma];cases i;cases j;simp
theorem yK(I:Inv X pZ σ H s)(q:Q (.bl k) H)(e:k=k'):EP X pZ σ Q (.bool k') s:=by
 subst e;exact⟨.bl k,H,I,rfl,q⟩
theorem zPB:OpR X (cz .Eq) rEq:=by
 intro pZ s σ H x y v u Q I rx ry h;obtain⟨hs,q⟩:=h;cases x with
 |non=>
  cases rx;cases y with
  |non=>cases ry;exact PySem.EqNone.eq_none_none (yK I q (by simp))
  |bl j=>cases ry;exact PySem.EqNone.eq_none_bool (yK I q (by simp))
  |int j=>obtain⟨t',rfl⟩:=ry;exact PySem.EqNone.eq_none_int (yK I q (by simp))
  |str j=>obtain⟨t',rfl⟩:=ry;exact PySem.EqNone.eq_none_str (yK I q (by simp))
  |_=>exact absurd (show false=true from hs) ax
 |bl i=>
  cases rx;cases y with
  |non=>cases ry;exact PySem.EqNone.eq_bool_none (yK I q (by simp))
  |bl j=>cases ry;exact eq_bool (yK I q zHX)
  |str j=>obtain⟨t',rfl⟩:=ry;exact PySem.EqMixed.eq_bool_str (yK I q (by simp))
  |_=>exact absurd (show false=true from hs) ax
 |int i=>
  obtain⟨t,rfl⟩:=rx;cases y with
  |non=>cases ry;exact PySem.EqNone.eq_int_none (yK I q (by simp))
  |int j=>obtain⟨t',rfl⟩:=ry;exact eq_int (yK I q JC)
  |str j=>obtain⟨t',rfl⟩:=ry;exact PySem.EqMixed.eq_int_str (yK I q (by simp))
  |_=>exact absurd (show false=true from hs) ax
 |str i=>
  obtain⟨t,rfl⟩:=rx;cases y with
  |non=>cases ry;exact PySem.EqNone.eq_str_none (yK I q (by simp))
  |bl j=>cases ry;exact PySem.EqMixed.eq_str_bool (yK I q (by simp))
  |int j=>obtain⟨t',rfl⟩:=ry;exact PySem.EqMixed.eq_str_int (yK I q (by simp))
  |str j=>obtain⟨t',rfl⟩:=ry;exact eq_str (yK I q JB)
  |_=>exact absurd (show false=true from hs) ax
 |byt i=>
  obtain⟨t,rfl⟩:=rx;cases y with
  |byt j=>obtain⟨t',rfl⟩:=ry;exact PySem.W.eq_bytes (yK I q JD)
  |_=>exact absurd (show false=true from hs) ax
 |_=>cases y<;>exact absurd (show false=true from hs) ax
theorem zO9:OpR X (cz .NotEq) rNe:=by
 intro pZ s σ H x y v u Q I rx ry h;obtain⟨hs,q⟩:=h;cases x with
 |non=>
  cases rx;cases y with
  |non=>cases ry;exact PySem.EqNone.ne_none_none (yK I q (by simp))
  |bl j=>cases ry;exact PySem.EqNone.ne_none_bool (yK I q (by simp))
  |int j=>obtain⟨t',rfl⟩:=ry;exact PySem.EqNone.ne_none_int (yK I q (by simp))
  |str j=>obtain⟨t',rfl⟩:=ry;exact PySem.EqNone.ne_none_str (yK I q (by simp))
  |_=>exact absurd (show false=true from hs) ax
 |bl i=>
  cases rx;cases y with
  |non=>cases ry;exact PySem.EqNone.ne_bool_none (yK I q (by simp))
  |bl j=>cases ry;exact ne_bool (yK I q (congrArg not zHX))
  |str j=>obtain⟨t',rfl⟩:=ry;exact PySem.EqMixed.ne_bool_str (yK I q (by simp))
  |_=>exact absurd (show false=true from hs) ax
 |int i=>
  obtain⟨t,rfl⟩:=rx;cases y with
  |non=>cases ry;exact PySem.EqNone.ne_int_none (yK I q (by simp))
  |int j=>obtain⟨t',rfl⟩:=ry;exact ne_int (yK I q (congrArg not JC))
  |str j=>obtain⟨t',rfl⟩:=ry;exact PySem.EqMixed.ne_int_str (yK I q (by simp))
  |_=>exact absurd (show false=true from hs) ax
 |str i=>
  obtain⟨t,rfl⟩:=rx;cases y with
  |non=>cases ry;exact PySem.EqNone.ne_str_none (yK I q (by simp))
  |bl j=>cases ry;exact PySem.EqMixed.ne_str_bool (yK I q (by simp))
  |int j=>obtain⟨t',rfl⟩:=ry;exact PySem.EqMixed.ne_str_int (yK I q (by simp))
  |str j=>obtain⟨t',rfl⟩:=ry;exact ne_str (yK I q (congrArg not JB))
  |_=>exact absurd (show false=true from hs) ax
 |byt i=>
  obtain⟨t,rfl⟩:=rx;cases y with
  |byt j=>obtain⟨t',rfl⟩:=ry;exact PySem.W.ne_bytes (yK I q (congrArg not JD))
  |_=>exact absurd (show false=true from hs) ax
 |_=>cases y<;>exact absurd (show false=true from hs) ax
theorem op_lt:OpR X (cz .Lt) (rI0 λi j=>.bl (decide (i<j))):=zPC λ_ _ _ _ _ _ _ q=>lt_int q
theorem op_le:OpR X (cz .LtE) (rI0 λi j=>.bl (decide (i<=j))):=zPC λ_ _ _ _ _ _ _ q=>le_int q
theorem zPA:OpR X (cz .Gt) (rI0 λi j=>.bl (decide (j<i))):=zPC λ_ _ _ _ _ _ _ q=>gt_int q
theorem zNN:OpR X (cz .GtE) (rI0 λi j=>.bl (decide (j<=i))):=zPC λ_ _ _ _ _ _ _ q=>ge_int q
theorem zK3:OpR X (cz .Is) (λx y H Q=>y=.non/\Q (.bl (decide (x=.non))) H):=by
 intro pZ s σ H x y v u Q I rx ry h;obtain⟨rfl,q⟩:=h;cases ry;refine is_none_gen (yK I q ?_);cases x<;>first
  |(cases rx;rfl)
  |(obtain⟨t,rfl⟩:=rx;rfl)
theorem zE8:OpR X (cz .IsNot) (λx y H Q=>y=.non/\Q (.bl (!decide (x=.non))) H):=by
 intro pZ s σ H x y v u Q I rx ry h;obtain⟨rfl,q⟩:=h;cases ry;refine isnot_none_gen (yK I q ?_);cases x<;>first
  |(cases rx;rfl)
  |(obtain⟨t,rfl⟩:=rx;rfl)
theorem OpR.or(h:OpR X f r)(h':OpR X f r'):OpR X f (λx y H Q=>r x y H Q\/r' x y H Q):=by
 intro pZ s σ H x y v u Q I rx ry q;rcases q with q|q
 ·exact h pZ s σ H x y v u Q I rx ry q
 ·exact h' pZ s σ H x y v u Q I rx ry q
theorem zLJ(b:Expr)(h:op≠.In:=by decide)(h2:op≠.NotIn:=by decide):eg op b=false:=by
 have e1:(op == CmpOp.In)=false:=by cases op<;>first|rfl|exact absurd rfl h
 have e2:(op == CmpOp.NotIn)=false:=by cases op<;>first|rfl|exact absurd rfl h2
 cases b<;>simp[eg,e1,e2]
theorem zE3{op:CmpOp}{r:R2}(ho:OpR X (cz op) r)(ha:PE X a ta)(hb:PE X b tb)(hm:eg op b=false):PE X (.Compare a [op] [b] pos) (tOp r ta tb):=by
 intro pZ s σ H Q I h;exact wpAny_Compare1 (zQT ha hb I h λv u s2 x y H2 I2 rx ry q=>ho pZ s2 σ H2 x y v u Q I2 rx ry q) hm
noncomputable def zM9(t:TE):TT:=λσ H Q=>t σ H λx H'=>∃k,x=.bl k/\Q k H'
theorem QM(ho:OpR X (cz op) r)(ha:PE X a ta)(hb:PE X b tb)(hm:eg op b=false):PT X (.Compare a [op] [b] pos) (zM9 (tOp r ta tb)):=by
 intro pZ s σ H Q I h;refine uz (thn (ha pZ s σ H _ I h) λv s1 ⟨x,H1,I1,r1,q1⟩=>thn (hb pZ s1 σ H1 _ I1 q1) λu s2 ⟨y,H2,I2,r2,q2⟩=>
  thn (ho pZ s2 σ H2 x y v u _ I2 r1 r2 q2) λc s3 ⟨z,H3,I3,r3,k,e,q3⟩=>?_) hm
 subst e;cases r3;exact ig ⟨H3,I3,q3⟩
noncomputable def zDU(r r':R2)(ta tb tc:TE):TE:=λσ H Q=>ta σ H λx H1=>tb σ H1 λy H2=>r x y H2 λz H3=>∃k,z=.bl k /\
 (if k=true then tc σ H3 λw' H4=>r' y w' H4 Q else Q (.bl false) H3)
theorem zAI(ho:OpR X (cz op) r)(ho':OpR X (cz op') r')(ha:PE X a ta)(hb:PE X b tb)(hc:PE X c tc)(hm:lastMarks [op,op'] [b,c]=false:=by with_unfolding_all rfl):PT X (.Compare a [op,op'] [b,c] pos) (zM9 (zDU r r' ta tb tc)):=by
 intro pZ s σ H Q I h;refine isTrue_chain (thn (ha pZ s σ H _ I h) λv s1 ⟨x,H1,I1,r1,q1⟩=>test_link (thn (hb pZ s1 σ H1 _ I1 q1) λu s2 ⟨y,H2,I2,r2,q2⟩=>
  thn (ho pZ s2 σ H2 x y v u _ I2 r1 r2 q2) λd s3 ⟨z,H3,I3,r3,k,e,q3⟩=>?_)) hm
 subst e;cases r3;refine ig ?_;cases k with
 |false=>
  obtain⟨k',e',q'⟩:=q3;cases e';exact ite_ff ⟨H3,I3,q'⟩
 |true=>
  refine ite_tt (test_last (thn (hc pZ s3 σ H3 _ I3 q3) λw' s4 ⟨z',H4,I4,r4,q4⟩=>thn (ho' pZ s4 σ H4 y z' u w' _ I4 r2 r4 q4) λd' s5 ⟨z2,H5,I5,r5,k2,e2,q5⟩=>?_));subst e2;cases r5;exact ig ⟨H5,I5,q5⟩
def zQV(K:Fg)(x:V)(H:Hp)(k:Bool):Prop:=
 match x with
 |.non=>k=false
 |.bl b=>k=b
 |.int i=>k=(i != 0)
 |.str y=>y.length<=af/\k=((y.length:Int) != 0)
 |.byt y=>y.size<=af/\k=((y.size:Int) != 0)
 |.ref p=>(∃xs,SqL K H p xs/\k = !xs.isEmpty)\/(∃xs,SqT K H p xs/\k = !xs.isEmpty)\/∃kvs,H p=some (.dK kvs)/\k = !kvs.isEmpty
 |_=>False
theorem p5(r:KV kvs vs):(!vs.isEmpty) = !kvs.isEmpty:=by
 cases r<;>rfl
theorem dO(r:Vals xs its):(!its.toArray.isEmpty) = !xs.isEmpty:=by
 cases r<;>simp
theorem nP:(af:Nat)<2 ^ 63:=by rw[pi];decide
theorem zJP:zSM X (λx H Q=>∃k,zQV X.K x H k/\Q k H):=by
 intro pZ s σ H x v Q I rx h;obtain⟨k,e,q⟩:=h;have hl:=nP;have hs:af=16777216:=pi;cases x with
 |non=>
  cases rx;have e':k=false:=e;subst e';exact truthy_none ⟨H,I,q⟩
 |bl b=>
  cases rx;have e':k=b:=e;subst e';exact ig ⟨H,I,q⟩
 |int i=>
  obtain⟨t,rfl⟩:=rx;have e':k=(i != 0):=e;subst e';exact PySem.P.truthy_int ⟨H,I,q⟩
 |str y=>
  obtain⟨t,rfl⟩:=rx;obtain⟨hy,e'⟩:y.length<=af/\k=((y.length:Int) != 0):=e;subst e';exact PySem.P.truthy_str (by omega) ⟨H,I.tok _,q⟩
 |byt y=>
  obtain⟨t,rfl⟩:=rx;obtain⟨hy,e'⟩:y.size<=af/\k=((y.size:Int) != 0):=e;subst e';exact PySem.W.truthy_bytes (by omega) ⟨H,I.tok _,q⟩
 |ref p=>
  cases rx;have e':(∃xs,SqL X.K H p xs/\k = !xs.isEmpty)\/(∃xs,SqT X.K H p xs/\k = !xs.isEmpty)\/∃kvs,H p=some (.dK kvs)/\k = !kvs.isEmpty:=e;rcases e' with⟨xs,hx,e'⟩|⟨xs,hx,e'⟩|⟨kvs,hx,e'⟩
  ·subst e';obtain⟨its,r,pl,hz⟩:=I.list hx;have hlen:=r.length;exact wpAny_truthy_list pl.isList (by simp only[am];omega) ⟨H,I.tok _,by rw[dO r];exact q⟩
  ·subst e';obtain⟨its,r,pl,hz⟩:=I.tuple hx;have hlen:=r.length;exact truthy_tuple pl (by simp only[am];omega) ⟨H,I.tok _,by rw[dO r];exact q⟩
  ·subst e';obtain⟨hz,hS,vs,r,m⟩:kvs.length<=af/\(p == ik)=false/\∃vs,KV kvs vs/\s.heap.DictOf (yE X.prog X.w) p vs:=I.hok p _ hx;have hlen:kvs.length=vs.length:=qo r;exact wpAny_truthy_dict hS m (by omega) ⟨H,I.tok _,by rw[p5 r];exact q⟩
 |_=>exact(show False from e).elim
theorem g0(ha:PE X a ta)(he:∀whole,isTrue a X.env whole=(do let v <- whole;standAt a.pos;holding [v] (truthy v))):PT X a (λσ H Q=>ta σ H λx H'=>∃k,zQV X.K x H' k/\Q k H'):=by
 intro pZ s σ H Q I h;exact isTrue_plain (thn (ha pZ s σ H _ I h) λv s1 ⟨x,H1,I1,r1,q1⟩=>zJP pZ s1 σ H1 x v Q I1 r1 q1) (he _)
theorem op_add_str:OpR X (binaryOp .Add) (λx y H Q=>∃i j,x=.str i/\y=.str j/\i.length+j.length<=af/\Q (.str (i++j)) H):=by
 intro pZ s σ H x y v u Q I rx ry h;obtain⟨i,j,rfl,rfl,hz,q⟩:=h;obtain⟨t,rfl⟩:=rx;obtain⟨t',rfl⟩:=ry;exact add_str (λt' tk=>⟨.str (i++j),H,I.tok _,⟨_,rfl⟩,q⟩) hz
theorem rM(r:Vals [x] us):∃u,us=[u]/\RelV x u:=by
 cases r with
 |cons r1 r2=>cases r2;exact⟨_,rfl,r1⟩
theorem zOH(r:Vals [x,y] us):∃u w',us=[u,w']/\RelV x u/\RelV y w':=by
 cases r with
 |cons r1 r2=>
  cases r2 with
  |cons r3 r4=>cases r4;exact⟨_,_,rfl,r1,r3⟩
theorem WV(hc:X.calm=true):CallR X (.builtin "max") (λxs H Q=>∃i j,xs=[.int i,.int j]/\Q (.int (if j > i then j else i)) H):=by
 intro pZ s σ H xs us Q I r h;obtain⟨i,j,rfl,q⟩:=h;obtain⟨u,w',rfl,⟨t,rfl⟩,⟨t',rfl⟩⟩:=zOH r;refine max_two_ints (I.ok.hd hc) λh' tk k=>⟨_,H,I.kept k,?_,q⟩
 by_cases hj:j > i
 ·rw[if_pos hj,if_pos hj];exact⟨_,rfl⟩
 ·rw[if_neg hj,if_neg hj];exact⟨_,rfl⟩
end L2
namespace L2
open PySem PySem.Spec PyProof.Rows
structure ObjM(h:Heap)(x dx C:Addr)(mA:Str->Option Value):Prop where
 obj:h.get? x=some (PySem.W.instObj C dx)
 ns:h.Ns1 dx mA
 ne:dx≠x
theorem XW{h:Heap}{dx:Addr}{mA:Str->Option Value}(n:h.Ns1 dx mA):∃od,h.get? dx=some od/\∀name,PySem.W.lookIn name od=some (mA name):=by
 obtain⟨o,es,ep,ho,hd,hk,_,hm⟩:=n;refine⟨o,ho,λname=>?_⟩;have e:=hm name;unfold nsFind findBy at e;rw[<-Array.find?_toList] at e;unfold PySem.W.lookIn;rw[hd];dsimp only;split
 ·rename_i y q;rw[q] at e;exact congrArg some e
 ·rename_i q;rw[q] at e;have a:es.toList.any (·.refKey)=false:=by
   rw[List.any_eq_false];intro y hy;obtain⟨z,t,hkey⟩:=hk y (Array.mem_toList_iff.mp hy);simp[DictEntry.refKey,hkey]
  have a':¬es.toList.any (·.refKey)=true:=by rw[a];exact ax
  rw[if_neg a'];exact congrArg some e
theorem ObjM.look(I:ObjM h x dx C mA):∃od,PySem.W.InstAt h x (PySem.W.instObj C dx) C (some od)/\∀name,PySem.W.lookIn name od=some (mA name):=
 let ⟨od,ho,hl⟩:=XW I.ns
 ⟨od,⟨I.obj,rfl,rfl,ho⟩,hl⟩
section
variable{K:Fg}
theorem zGT(X:K.In s.heap)(I:ObjM s.heap x dx C mA)(hg:PySem.W.plainGet K C name=true)(hh:PySem.W.hasDictIn K C=true)(ha:PySem.W.findIn K (.ref C) name=some none)(hv:mA name=some v)(hv':PySem.W.handedIn v=true)(h:Q v { s with toks:=s.toks+1 }):wpAny (model prog w) A (getAttr (.ref x) name expr) Q E s:=by
 obtain⟨od,J,hl⟩:=I.look;exact PySem.W.get_value X J (qg hg).1 (PySem.W.findObj_own hh ha rfl (by rw[hl,hv])) hv' h
theorem zBT{pl:Sem Bool}(X:K.In s.heap)(I:ObjM s.heap x dx C mA)(hg:PySem.W.plainGet K C name=true)(hf:PySem.W.findIn K (.ref C) name=some (some (.ref f)))(ht:PySem.W.isFn K (.ref f)=true)(hv:mA name=none)(h:Q (.ref f,[.ref x]) s):wpAny (model prog w) A (getMethod (.ref x) name pl) Q E s:=by
 obtain⟨od,J,hl⟩:=I.look;exact PySem.W.method_fn X J (qg hg).1 (qg hg).2 hf (beq_iff_eq.mp ht) (by show(PySem.W.lookIn name od).map (·.isSome)=some false;rw[hl,hv];rfl) h
theorem zD9(X:K.In s.heap)(I:ObjM s.heap x dx C mA)(hs:PySem.W.findIn K (.ref C) "__setattr__" = some (some (.builtin "object.__setattr__")))(hp:PySem.W.plainOver K C=true)(ht:PySem.W.takerIn K C name=some none)(hh:PySem.W.hasDictIn K C=true)(hw:PySem.Within mA ns)(hsz:ns.length<=af)(h:∀h',ObjM h' x dx C (λy=>if y=name then some v else mA y)->Heap.SameBut dx s.heap h'->Q () { s with heap:=h',toks:=s.toks+2 }):wpAny (model prog w) A (setAttr (.ref x) name v) Q E s:=by
 obtain⟨od,J,hl⟩:=I.look;refine PySem.W.set_plain X J hs (PySem.W.osa_open (s:={ s with toks:=s.toks+1 }) (r:=none) X J hp ht λb=>?_);obtain⟨cd,hc,hd'⟩:=PySem.W.any_some hh;have hx:s.heap.get? x=some ⟨.ref C,some dx,.plain,#[]⟩:=I.obj;refine ac (ah (ac (ac (wpAny_loadPart hx (ac (PySem.W.Looks.here (s:={ s with toks:=s.toks+1 }) (PySem.W.looks_clsIn X hc) ?_))))));rw[hd'];refine ah (a:=some dx) (ac (ah (ac ?_)));refine wpAny_nsSet1 (s:={ s with toks:=s.toks+1 }) I.ns λh' hn2 hs2=>?_
 obtain⟨oD,esD,epD,hoD,hdD,hcD⟩:=hn2.count (PySem.Within.cons name v hw);refine ac (wpAny_lookBehind hoD (by rw[hdD];exact pastItsLine_dict (bv hcD (by rw[ao];omega))) ?_);exact ah (h _ ⟨(hs2.2 _ (lm I.ne)).trans I.obj,hn2,I.ne⟩ hs2)
theorem zBE{R:Result->Shared->Prop}(X:K.In s.heap)(hm:PySem.W.makesIn K C=true)(hi:PySem.W.findIn K (.ref C) "__init__" = some (some (.ref f)))(hf:PySem.W.typeIn K (.ref f)=some (.type "function"))(h:codeAny (model prog w) (A.under (.builtin "type.__call__" ⟨.ref C::vs,kw⟩)) (.call (.ref f) ⟨.ref (s.heap.objs.size+1)::vs,kw⟩) (PySem.W.InitBack (s.heap.objs.size+1) R)
   { s with heap:=(s.heap.push PySem.W.emptyDict).push (PySem.W.instObj C s.heap.objs.size) }):codeAny (model prog w) A (.call (.ref C) ⟨vs,kw⟩) R s:=by
 obtain⟨hh,g,d,t,os⟩:=s;exact PySem.W.make_core (PySem.W.makes_of X hm) (PySem.W.looks_findIn X hi) (λself=>PySem.W.bind_fn X self hf) (.inl rfl) h
end
noncomputable def YB(f:Str)(v:V):List (Str×V)->List (Str×V)
 |[]=>[(f,v)]
 |(g,x)::r=>if g=f then (g,v)::r else (g,x)::YB f v r
theorem bJ(f g:Str)(v:V):∀fs:List (Str×V),(YB f v fs).lookup g=if g=f then some v else fs.lookup g
 |[]=>by
  show List.lookup g [(f,v)]=_;by_cases h:g=f
  ·have hb:(g == f)=true:=beq_iff_eq.mpr h;simp only[List.lookup,hb,if_pos h]
  ·have hb:(g == f)=false:=beq_eq_false_iff_ne.mpr h;simp only[List.lookup,hb,if_neg h]
 |(k,x)::r=>by
  have ih:=bJ f g v r;rw[show YB f v ((k,x)::r)=(if k=f then (k,v)::r else (k,x)::YB f v r) from rfl];by_cases hk:k=f
  ·rw[if_pos hk];by_cases h:g=k
   ·have hb:(g == k)=true:=beq_iff_eq.mpr h;simp only[List.lookup,hb,if_pos (h.trans hk)]
   ·have hb:(g == k)=false:=beq_eq_false_iff_ne.mpr h;simp only[List.lookup,hb,if_neg (λe:g=f=>h (e.trans hk.symm))]
  ·rw[if_neg hk];by_cases h:g=k
   ·have hb:(g == k)=true:=beq_iff_eq.mpr h;simp only[List.lookup,hb,if_neg (λe:g=f=>hk (h.symm.trans e))]
   ·have hb:(g == k)=false:=beq_eq_false_iff_ne.mpr h;simp only[List.lookup,hb];exact ih
theorem cN(f:Str)(v:V):∀fs:List (Str×V),f∈(YB f v fs).map (·.1)/\∀g,g∈fs.map (·.1)->g∈(YB f v fs).map (·.1)
 |[]=>⟨by simp[YB],λg h=>by simp at h⟩
 |(k,x)::r=>by
  obtain⟨i1,i2⟩:=cN f v r;rw[show YB f v ((k,x)::r)=(if k=f then (k,v)::r else (k,x)::YB f v r) from rfl];by_cases hk:k=f
  ·rw[if_pos hk];subst hk;exact⟨by simp,λg h=>by simpa using h⟩
  ·rw[if_neg hk];refine⟨?_,λg h=>?_⟩
   ·rw[aq];exact bm _ i1
   ·rw[aq] at h ⊢;rcases ca.mp h with e|e
    ·exact ca.mpr (.inl e)
    ·exact bm _ (i2 g e)
theorem bM(f:Str)(v:V):∀fs:List (Str×V),(YB f v fs).length<=fs.length+1
 |[]=>by simp[YB]
 |(k,x)::r=>by
  have ih:=bM f v r;rw[show YB f v ((k,x)::r)=(if k=f then (k,v)::r else (k,x)::YB f v r) from rfl];by_cases hk:k=f
  ·rw[if_pos hk,ao,ao];omega
  ·rw[if_neg hk,ao,ao];omega
theorem RelO.some_of(r:RelO (some v) o):∃u,o=some u/\RelV v u:=by
 cases o with
 |none=>exact(show False from r).elim
 |some u=>exact⟨u,rfl,r⟩
theorem RelO.none_of(r:RelO none o):o=none:=by
 cases o with
 |none=>rfl
 |some u=>exact(show False from r).elim
theorem X6(r:RelV v u):PySem.W.handedIn u=true:=by
 cases v with
 |non=>cases (show u=Value.none from r);rfl
 |bl b=>cases (show u=Value.bool b from r);rfl
 |int i=>obtain⟨t,e⟩:=(show ∃t,u=Value.int i t from r);cases e;rfl
 |str x=>obtain⟨t,e⟩:=(show ∃t,u=Value.str x t from r);cases e;rfl
 |byt b=>obtain⟨t,e⟩:=(show ∃t,u=Value.bytes b t from r);cases e;rfl
 |flt b=>obtain⟨t,e⟩:=(show ∃t,u=Value.float b t from r);cases e;rfl
 |ref a=>cases (show u=Value.ref a from r);rfl
 |ty n=>cases (show u=Value.type n from r);rfl
theorem nV(hok:HOk P w H h)(e:H a=some (.ins C dx fs)):∃mA,ObjM h a dx C mA/\(∀f,RelO (fs.lookup f) (mA f))/\PySem.Within mA (fs.map (·.1))/\fs.length<=1000/\H dx=some (.own a):=by
 obtain⟨d,z,ne,ob,mA,n,r,q⟩:=(show ObjOk P w H h a (.ins C dx fs) from hok a _ e);exact⟨mA,⟨ob,n,ne⟩,r,q,z,d⟩
structure Cls(K:Fg)(C:Addr):Prop where
 pg:PySem.W.plainGet K C Str.empty=true
 hd:PySem.W.hasDictIn K C=true
 po:PySem.W.plainOver K C=true
 sa:PySem.W.findIn K (.ref C) "__setattr__" = some (some (.builtin "object.__setattr__"))
theorem Cls.get{K:Fg}(c:Cls K C)(f:Str):PySem.W.plainGet K C f=true:=c.pg
def NoAttr(K:Fg)(C:Addr)(f:Str):Prop:=PySem.W.findIn K (.ref C) f=some none
theorem NoAttr.taker{K:Fg}(n:NoAttr K C f):PySem.W.takerIn K C f=some none:=by
 unfold PySem.W.takerIn;rw[show PySem.W.findIn K (.ref C) f=some none from n];rfl
structure Meth(K:Fg)(C:Addr)(m:Str)(f:Addr):Prop where
 at_:PySem.W.findIn K (.ref C) m=some (some (.ref f))
 fn:PySem.W.isFn K (.ref f)=true
 kp:PySem.W.keepIn K (.ref f)=true
theorem dQ(I:Inv X pZ σ H s)(e:H a=some (.ins C dx fs))(c:Cls X.K C)(n:NoAttr X.K C f)(l:fs.lookup f=some v)(h:∀u s',Inv X pZ σ H s'->RelV v u->Q u s'):wpAny (model X.prog X.w) A (getAttr (.ref a) f b) Q E s:=by
 obtain⟨mA,O,r,_,_,_⟩:=nV I.hok e;obtain⟨u,hu,ru⟩:=RelO.some_of (v:=v) (o:=mA f) (by rw[<-l];exact r f);exact zGT I.kIn O (c.get f) c.hd n hu (X6 ru) (h u _ (I.tok _) ru)
theorem dP{pl:Sem Bool}(I:Inv X pZ σ H s)(e:H a=some (.ins C dx fs))(c:Cls X.K C)(k:Meth X.K C m g)(l:fs.lookup m=none)(h:Q (.ref g,[.ref a]) s):wpAny (model X.prog X.w) A (getMethod (.ref a) m pl) Q E s:=by
 obtain⟨mA,O,r,_,_,_⟩:=nV I.hok e;have hn:mA m=none:=RelO.none_of (by rw[<-l];exact r m);exact zBT I.kIn O (c.get m) k.at_ k.fn hn h
theorem dE(I:Inv X pZ σ H s)(e:H a=some (.ins C dx fs))(c:Cls X.K C)(n:NoAttr X.K C f)(hl:fs.length<1000)(ry:RelV y u)(h:∀s',Inv X pZ σ (upd H a (.ins C dx (YB f y fs))) s'->Q () s'):wpAny (model X.prog X.w) A (setAttr (.ref a) f u) Q E s:=by
 obtain⟨mA,O,r,wi,_,ho⟩:=nV I.hok e;have hz:(fs.map (·.1)).length<=af:=by rw[ak,pi];omega
 refine zD9 I.kIn O c.sa c.po n.taker c.hd wi hz λh' O' sb=>h _ ?_
 have hd:∃o,h'.get? dx=some o:=let ⟨o,_,_,e',_⟩:=O'.ns;⟨o,e'⟩
 refine I.write (x:=a) (e:=dx) (by rw[e];exact True.intro) (.inr ho) (λb q hb z=>(sb.2 b hb).trans z) hd ?_;refine⟨by rw[zI O.ne];exact ho,?_,O.ne,O'.obj,_,O'.ns,λg=>?_,λg hg=>?_⟩
 ·have:=bM f y fs;omega
 ·show RelO ((YB f y fs).lookup g) (if g=f then some u else mA g);rw[bJ];by_cases q:g=f
  ·rw[if_pos q,if_pos q];exact ry
  ·rw[if_neg q,if_neg q];exact r g
 ·by_cases q:g=f
  ·rw[q];exact(cN f y fs).1
  ·refine(cN f y fs).2 g (wi g λz=>hg ?_);show(if g=f then some u else mA g)=none;rw[if_neg q];exact z
theorem Inv.made(I:Inv X pZ σ H s):Inv X pZ σ (upd (upd H s.heap.objs.size (.own (s.heap.objs.size+1))) (s.heap.objs.size+1) (.ins C s.heap.objs.size []))
  { s with heap:=(s.heap.push PySem.W.emptyDict).push (PySem.W.instObj C s.heap.objs.size) }:=by
 have e1:(s.heap.push PySem.W.emptyDict).get? s.heap.objs.size=some PySem.W.emptyDict:=bo s.heap rfl;have e2:((s.heap.push PySem.W.emptyDict).push (PySem.W.instObj C s.heap.objs.size)).get? (s.heap.objs.size+1)=some (PySem.W.instObj C s.heap.objs.size):=by
  have:=bo (s.heap.push PySem.W.emptyDict) (o:=PySem.W.instObj C s.heap.objs.size) rfl
  rwa [qd] at this
 have e3:(s.heap.push PySem.W.emptyDict).Ns s.heap.objs.size (λ_=>none):=⟨PySem.W.emptyDict,#[],_,e1,rfl,(λe he=>absurd he (by simp)),λ_=>rfl⟩;have I1:=I.laid (a:=s.heap.objs.size) (o:=.own (s.heap.objs.size+1)) (h':=s.heap.push PySem.W.emptyDict) (t':=s.toks) (λb u q=>al _ q) (ae _) ⟨_,e1⟩;refine I1.laid (a:=s.heap.objs.size+1) (o:=.ins C s.heap.objs.size []) (t':=s.toks) (λb u q=>al _ q) (jj (qd _ _)) ?_;have ne:s.heap.objs.size≠s.heap.objs.size+1:=bq (nr _);refine⟨by rw[zI ne,zJ],cg _,ne,e2,λ_=>none,(Heap.Ns1.of_empty e3).at λo q=>al _ q,λ_=>True.intro,λy hy=>absurd rfl hy⟩
theorem zID(hb:cb e f env (eval e env)=eval e env)(h:wpAny (model prog w) A (eval e env) (λo s₁=>wpAny (model prog w) A (getAttr o f true) Q E s₁) E s):wpAny (model prog w) A (eval (.Attribute e f pos) env) Q E s:=
 Attribute_any_ h (by rw[arm_eval_Attribute,hb])
def zQX(K:Fg)(ta:TE)(f:Str):TE:=λσ H Q=>ta σ H λx H1=>∃a C dx fs v,x=.ref a/\H1 a=some (.ins C dx fs)/\Cls K C/\NoAttr K C f/\fs.lookup f=some v/\Q v H1
def zJ8(K:Fg)(ta tv:TE)(f:Str):TS:=λD σ H=>tv σ H λy H1=>ta σ H1 λx H2=>∃a C dx fs,x=.ref a/\H2 a=some (.ins C dx fs)/\Cls K C/\NoAttr K C f/\fs.length<1000 /\
 D.nx σ (upd H2 a (.ins C dx (YB f y fs)))
def zRO(X:Cx)(op:Operator)(rd:V->V->Hp->VK->Prop):Prop:=
 ∀(pZ:List (Addr×Obj)) (s:Shared) (σ:St) (H:Hp) (x y:V) (u v:Value) (Q:VK),Inv X pZ σ H s->RelV x u->RelV y v->rd x y H Q->wpAny (model X.prog X.w) X.A (inplaceOp op u v) (EP X pZ σ Q) X.xe s
def zEB(K:Fg)(ta tv:TE)(rd:V->V->Hp->VK->Prop)(f:Str):TS:=λD σ H=>ta σ H λx H1=>∃a C dx fs v,x=.ref a/\H1 a=some (.ins C dx fs)/\Cls K C/\NoAttr K C f/\fs.lookup f=some v /\
 tv σ H1 λy H2=>rd v y H2 λz H3=>∃dx' fs',H3 a=some (.ins C dx' fs')/\fs'.length<1000/\D.nx σ (upd H3 a (.ins C dx' (YB f z fs')))
theorem cC(he:PE X e ta)(hb:cb e f X.env (eval e X.env)=eval e X.env):PE X (.Attribute e f pos) (zQX X.K ta f):=by
 intro pZ s σ H Q I h;refine zID hb (thn (he pZ s σ H _ I h) λu s1 ⟨x,H1,I1,rx,a,C,dx,fs,v,ex,ea,c,n,l,q⟩=>?_);subst ex;obtain rfl:u=Value.ref a:=rx;exact dQ I1 ea c n l λu' s2 I2 ru=>⟨v,H1,I2,ru,q⟩
theorem gA(ha:PE X o ta)(hv:PE X value tv)(hs:gx value (some (.Attribute o f pos')) pos.line X.env=pure false):PS X (.Assign [.Attribute o f pos'] value pos) (zJ8 X.K ta tv f):=by
 intro pZ s σ H D I h;refine plainObj_wpAny_Assign_Attribute (thn (hv pZ s σ H _ I h) λu s1 ⟨y,H1,I1,ry,q⟩=>thn (ha pZ s1 σ H1 _ I1 q) λov s2 ⟨x,H2,I2,rx,a,C,dx,fs,ex,ea,c,n,l,q2⟩=>?_) hs;subst ex;obtain rfl:ov=Value.ref a:=rx;exact dE I2 ea c n l ry λs3 I3=>⟨σ,_,I3,q2⟩
theorem Y5(ha:PE X o ta)(hv:PE X value tv)(hop:zRO X op rd):PS X (.AugAssign (.Attribute o f tpos) op value pos) (zEB X.K ta tv rd f):=by
 intro pZ s σ H D I h;refine wpAny_AugAssign_AttributeAny (thn (ha pZ s σ H _ I h) λov s1 ⟨x,H1,I1,rx,a,C,dx,fs,v,ex,ea,c,n,l,q⟩=>?_);subst ex;obtain rfl:ov=Value.ref a:=rx;refine dQ I1 ea c n l λu s2 I2 ru=>thn (hv pZ s2 σ H1 _ I2 q) λw3 s3 ⟨y,H2,I3,ry,q3⟩=>thn (hop pZ s3 σ H2 v y u w3 _ I3 ru ry q3) λw4 s4 ⟨z,H3,I4,rz,dx',fs',ea',l',q4⟩=>?_
 exact dE I4 ea' c n l' rz λs5 I5=>⟨σ,_,I5,q4⟩
def zR6:V->V->Hp->VK->Prop:=λx y H Q=>∃i j,x=.int i/\y=.int j/\Q (.int (i+j)) H
theorem zL5:zRO X .Add zR6:=by
 rintro pZ s σ H x y u v Q I rx ry ⟨i,j,rfl,rfl,q⟩;obtain⟨t,rfl⟩:=(show ∃t,u=Value.int i t from rx);obtain⟨t',rfl⟩:=(show ∃t',v=Value.int j t' from ry);exact PyProof.Rows.iadd_int ⟨.int (i+j),H,I.tok _,⟨_,rfl⟩,q⟩
inductive TyOf (K:Fg) (H:Hp):V->Value->Prop where
 |non:TyOf K H .non (.type "NoneType")
 |bl (x:Bool):TyOf K H (.bl x) (.type "bool")
 |int (i:Int):TyOf K H (.int i) (.type "int")
 |str (x:Str):TyOf K H (.str x) (.type "str")
 |flt (x:UInt64):TyOf K H (.flt x) (.type "float")
 |lst {a:Addr} {xs:List V} (e:H a=some (.lst xs)):TyOf K H (.ref a) (.type "list")
 |frz {a:Addr} {o:Obj} {xs:List V} (e:H a=some (.frz o (.lst xs))):TyOf K H (.ref a) (.type "list")
 |tup {a:Addr} {xs:List V} (e:H a=some (.tup xs)):TyOf K H (.ref a) (.type "tuple")
 |dK {a:Addr} {kvs:List (Key×V)} (e:H a=some (.dK kvs)):TyOf K H (.ref a) (.type "dict")
 |dT {a:Addr} {kvs:List (List Key×V)} (e:H a=some (.dT kvs)):TyOf K H (.ref a) (.type "dict")
 |ins {a C dx:Addr} {fs:List (Str×V)} (e:H a=some (.ins C dx fs)) (cl:Cls K C) (ha:PySem.W.findIn K (.ref C) "__class__" = some (some (.builtin "object.__class__")))
   (hn:PySem.W.specialIn K (.builtin "object.__class__") "__get__" = some (some (.builtin "getset_descriptor.__get__"))) (htk:PySem.W.takesIn K (.builtin "object.__class__")=some true)
   (hm:PySem.W.mroIn K C (.type "object")=some true):TyOf K H (.ref a) (.ref C)
theorem v9(I:Inv X pZ σ H s)(rx:RelV x u)(ty:TyOf X.K H x t)(e:PySem.W.kitOne X.K t c=some b)(h:∀tk,Q (.bool b) { s with toks:=tk }):wpAny (model X.prog X.w) A (call (.builtin "isinstance") [u,c]) Q E s:=by
 cases ty with
 |non=>cases (show u=Value.none from rx);exact dz PySem.W.kitx_none I.kIn True.intro e (λz=>nomatch z) h
 |bl y=>cases (show u=Value.bool y from rx);exact dz PySem.W.kitx_bool I.kIn True.intro e (λz=>nomatch z) h
 |int i=>obtain⟨t,q⟩:=(show ∃t,u=Value.int i t from rx);cases q;exact dz PySem.W.kitx_int I.kIn True.intro e (λz=>nomatch z) h
 |str y=>obtain⟨t,q⟩:=(show ∃t,u=Value.str y t from rx);cases q;exact dz PySem.W.kitx_str I.kIn True.intro e (λz=>nomatch z) h
 |flt y=>obtain⟨t,q⟩:=(show ∃t,u=Value.float y t from rx);cases q;exact dz PySem.W.kitx_float I.kIn True.intro e (λz=>nomatch z) h
 |@lst a xs ea=>
  cases (show u=Value.ref a from rx);obtain⟨_,_,n,_,h1⟩:=(show ObjOk X.prog X.w H s.heap a (.lst xs) from I.hok a _ ea);exact dz qv I.kIn ⟨_,h1,rfl⟩ e (λz=>nomatch z) h
 |@frz a ob xs ea=>
  cases (show u=Value.ref a from rx);obtain⟨_,_,_,n,_,h1⟩:=(show ObjOk X.prog X.w H s.heap a (.frz ob (.lst xs)) from I.hok a _ ea);exact dz qv I.kIn ⟨_,h1,rfl⟩ e (λz=>nomatch z) h
 |@tup a xs ea=>
  cases (show u=Value.ref a from rx);obtain⟨_,_,_,p⟩:=(show ObjOk X.prog X.w H s.heap a (.tup xs) from I.hok a _ ea);obtain⟨o,h1,h2,_⟩:=p;exact dz PySem.W.kitx_tuple I.kIn ⟨o,h1,h2⟩ e (λz=>nomatch z) h
 |@dK a kvs ea=>
  cases (show u=Value.ref a from rx);obtain⟨_,_,vs,_,p⟩:=(show ObjOk X.prog X.w H s.heap a (.dK kvs) from I.hok a _ ea);obtain⟨o,es,ep,h1,h2,_⟩:=p;exact dz PySem.W.kitx_dict I.kIn ⟨o,h1,h2.1⟩ e (λz=>nomatch z) h
 |@dT a kvs ea=>
  cases (show u=Value.ref a from rx);obtain⟨_,_,xs,_,o,es,ep,h1,h2,_⟩:=(show ObjOk X.prog X.w H s.heap a (.dT kvs) from I.hok a _ ea);exact dz PySem.W.kitx_dict I.kIn ⟨o,h1,h2.1⟩ e (λz=>nomatch z) h
 |@ins a C dx fs ea cl ha hn htk hm=>
  cases (show u=Value.ref a from rx);obtain⟨mA,O,_⟩:=nV I.hok ea;obtain⟨od,J,_⟩:=O.look;exact dz (PySem.W.kitx_own (cl.get _) cl.hd ha hn htk hm) I.kIn J e (λz=>nomatch z) h
end L2
namespace L2
open PySem PySem.Spec PyProof.Rows
structure Room(k:Nat)(A:Around):Prop where
 hd:A.handled=none
 dp:A.depth+3*k+5<recursionLimit
 un:A.units+16*k+200<cLine
 gd:A.guards=some []
theorem Room.mono(r:Room k A)(h:j<=k):Room j A:=⟨r.hd,by have:=r.dp;omega,by have:=r.un;omega,r.gd⟩
theorem Room.deeper(r:Room (k+1) A)(env:Env):Room k (A.deeper env):=
 ⟨r.hd,by have:=r.dp;show A.depth+1+3*k+5<_;omega,by have:=r.un;show A.units+3+16*k+200<_;omega,r.gd⟩
theorem pT{A:Around}{C:Addr}{us:List Value}{kw:List (Str×Value)}:(A.under (.builtin "type.__call__" ⟨.ref C::us,kw⟩)).depth=A.depth+1:=by
 first|rfl|simp[Around.under,Code.weight,Code.isCreation,Code.isGuard,Code.isCaller,Code.frames,Code.isFrame,guardIds]
theorem pS{A:Around}{C:Addr}{us:List Value}{kw:List (Str×Value)}:(A.under (.builtin "type.__call__" ⟨.ref C::us,kw⟩)).units=A.units+1:=by
 first|rfl|simp[Around.under,Code.cUnits,Code.frames,Code.isFrame]
theorem Room.make(r:Room (k+1) A)(C:Addr)(us:List Value)(kw:List (Str×Value)):Room k (A.under (.builtin "type.__call__" ⟨.ref C::us,kw⟩)):=
 ⟨r.hd,by have:=r.dp;rw[pT];omega,by have:=r.un;rw[pS];omega,by first|exact r.gd|(show PySem.pushGuards _ A.guards=_;rw[r.gd];rfl)⟩
theorem Room.depth(r:Room k A):A.depth<recursionLimit:=by have:=r.dp;omega
theorem Room.units0(r:Room k A):A.units<cLine:=by have:=r.un;omega
noncomputable def zIQ:TA:=λ_ H Q=>Q [] H
noncomputable def YU(ta:TE)(tr:TA):TA:=λσ H Q=>ta σ H λx H1=>tr σ H1 λxs H2=>Q (x::xs) H2
theorem yV:PA X [] zIQ:=λ_ _ _ _ H Q I h=>mz ⟨[],H,I,.nil,h⟩
theorem zY(ha:PE X e te)(hr:PA X es t)(hs:ag (e::es) X.env=(false,eval e X.env)::ag es X.env:=by rfl):PA X (e::es) (YU te t):=by
 intro pos pZ s σ H Q I h;rw[hs];show wpAny _ _ (spliced ((false,eval e X.env)::dq pos (ag es X.env))) _ _ s;refine kg (thn (ha pZ s σ H _ I h) λu s1 ⟨x,H1,I1,r1,q1⟩=>?_);exact thn (hr pos pZ s1 σ H1 _ I1 q1) λus s2 ⟨xs,H2,I2,r2,q2⟩=>⟨x::xs,H2,I2,.cons r1 r2,q2⟩
def zRU(t:TA):TE:=λσ H Q=>t σ H λxs H1=>xs.length<=af/\∀p,H1 p=none->Q (.ref p) (upd H1 p (.tup xs))
def zQG(t:TA):TE:=λσ H Q=>t σ H λxs H1=>xs.length<=af/\∀p,H1 p=none->Q (.ref p) (upd H1 p (.lst xs))
theorem zEX{x1}(h:PA X es t):PE X (.Tuple es x1 pos) (zRU t):=by
 intro pZ s σ H Q I hq;refine wpAny_Tuple_spliced (thn (h pos pZ s σ H _ I hq) λus s1 ⟨xs,H1,I1,r,z,q⟩=>⟨by rw[<-r.length];exact z,?_⟩);have hf:H1 s1.heap.objs.size=none:=I1.hok.fresh (ae _);refine⟨.ref s1.heap.objs.size,upd H1 s1.heap.objs.size (.tup xs),I1.laid (t':=s1.toks) (λb u e=>al _ e) (ae _) ?_,rfl,q _ hf⟩;exact⟨z,us,r,⟨_,bo _ rfl,rfl,_,rfl⟩⟩
theorem zAS(h:PA X es t):PE X (.List es pos) (zQG t):=by
 intro pZ s σ H Q I hq;refine wpAny_List_spliced (thn (h pos pZ s σ H _ I hq) λus s1 ⟨xs,H1,I1,r,z,q⟩=>⟨by rw[<-r.length];exact z,?_⟩);have hf:H1 s1.heap.objs.size=none:=I1.hok.fresh (ae _);refine⟨.ref s1.heap.objs.size,upd H1 s1.heap.objs.size (.lst xs),I1.laid (t':=s1.toks) (λb u e=>al _ e) (ae _) ?_,rfl,q _ hf⟩;exact⟨z,us,0,r,bo _ rfl⟩
abbrev Sp:=List V->Hp->VK->XK->Prop
abbrev CXT:=List Env->Hp->Shared->XK->Value->Shared->Prop
structure Env0(P:Program)(w:World)(K:Fg)(mg:Str->Option Value)(base:Heap)(A:Around)(outer:List Env)(s:Shared)(H:Hp):Prop where
 frames:A.frames=some outer
 mod:Mod K mg base
 bs:∀b o,base.get? b=some o->s.heap.get? b=some o/\H b=none
 bsz:base.objs.size<=s.heap.objs.size
 funs:s.heap.FunFrames base outer
 frf:FrF K outer H
 hok:HOk P w H s.heap
 bare:AllBare s.gens
def CE(outer:List Env)(P:Program)(w:World)(H:Hp)(s:Shared)(Q:VK)(u:Value)(s':Shared):Prop:=
 ∃v H',s'.os=s.os/\AllBare s'.gens/\Un (frs outer) [] H H' s.heap s'.heap/\HOk P w H' s'.heap/\RelV v u/\Q v H'
def CR(CX:CXT)(outer:List Env)(P:Program)(w:World)(H:Hp)(s:Shared)(Q:VK)(E:XK)(r:Result)(s':Shared):Prop:=
 match r with
 |.ok (.ret u)=>CE outer P w H s Q u s'
 |.ok _=>False
 |.error e=>CX outer H s E e s'
structure FnOk(P:Program)(w:World)(K:Fg)(mg:Str->Option Value)(base:Heap)(CX:CXT)(k:Nat)(f:Addr)(fd:FuncData)(ps:List Str)(sp:Sp):Prop where
 len:∀vs H Q E,sp vs H Q E->vs.length=ps.length
 run:∀(A:Around) (outer:List Env) (s:Shared) (H:Hp) (args:Args) (us:List Value) (vs:List V) (Q:VK) (E:XK),Room k A->Env0 P w K mg base A outer s H->BindsTo s fd args (ps.zip us)->Vals vs us->sp vs H Q E ->
  codeAny (model P w) A (.call (.ref f) args) (CR CX outer P w H s Q E) s
theorem FnOk.imp{K:Fg}(F:FnOk P w K mg base CX k f fd ps sp)(h:∀vs H Q E,sp' vs H Q E->sp vs H Q E):FnOk P w K mg base CX k f fd ps sp':=
 ⟨λvs H Q E q=>F.len vs H Q E (h _ _ _ _ q),λA outer s H args us vs Q E hr he hb hv hs=>F.run A outer s H args us vs Q E hr he hb hv (h _ _ _ _ hs)⟩
theorem Env0.make{K:Fg}(e:Env0 P w K mg base A outer s H)(C:Addr)(us:List Value)(kw:List (Str×Value)):Env0 P w K mg base (A.under (.builtin "type.__call__" ⟨.ref C::us,kw⟩)) outer s H:=⟨by first|exact e.frames|(simpa [Around.under,Code.envs,Code.isFrame,pushEnvs] using e.frames),e.mod,e.bs,e.bsz,e.funs,e.frf,e.hok,e.bare⟩
theorem Inv.env0(I:Inv X pZ σ H s):Env0 X.prog X.w X.K X.mg X.base X.A X.stack s H:=
 ⟨I.ok.frames,I.ok.mod,I.bs,bv I.ok.bsz I.sz,I.stack,⟨I.stkFree,I.tabIn⟩,I.hok,I.bare⟩
theorem Inv.after(I:Inv X pZ σ H s)(h:CE X.stack X.prog X.w H s Q u s'):EP X pZ σ Q u s':=by
 obtain⟨v,H',os,bare,un,hok,r,q⟩:=h;obtain⟨hh,g,d,t,os'⟩:=s';obtain rfl:os'=s.os:=os;exact⟨v,H',I.call (h':=hh) (g':=g) (d':=d) (t':=t) (ch:=[]) un hok bare (λb z=>absurd z (by simp)),r,q⟩
noncomputable def zIR(sp:Sp)(dvs:List V)(E:XK)(t:TA):TE:=λσ H Q=>t σ H λvs H1=>sp (vs++dvs) H1 Q E
def zNB(C:Addr)(m:Str)(sp:Sp)(dvs:List V)(E:XK)(ta:TE)(t:TA):TE:=λσ H Q=>ta σ H λx H1=>∃a dx fs,x=.ref a/\H1 a=some (.ins C dx fs)/\fs.lookup m=none /\
 t σ H1 λvs H2=>sp (x::(vs++dvs)) H2 Q E
def zOP(C:Addr)(sp:Sp)(dvs:List V)(E:XK)(t:TA):TE:=λσ H Q=>t σ H λvs H1=>∀x dx,H1 x=none->H1 dx=none->dx≠x ->
 sp (.ref x::(vs++dvs)) (upd (upd H1 dx (.own x)) x (.ins C dx [])) (λv H2=>v=.non/\Q (.ref x) H2) E
def Binds(K:Fg)(fd:FuncData)(ps:List Str)(ds:List Value):Prop:=
 ∀(s:Shared) (us:List Value),K.In s.heap->(us++ds).length=ps.length->BindsTo s fd ⟨us,[]⟩ (ps.zip (us++ds))
theorem Binds.all{K:Fg}(h:∀us:List Value,us.length=ps.length->bindArgs fd ⟨us,[]⟩=pure (ps.zip us)):Binds K fd ps []:=λs us _ hl=>by
 rw[dm] at hl ⊢;exact .of_eq (h us hl)
def cW(CX:CXT)(X:Cx)(E:XK):Prop:=∀(pZ:List (Addr×Obj)) (σ:St) (H:Hp) (s:Shared) (e:Value) (s':Shared),Inv X pZ σ H s->CX X.stack H s E e s'->X.xe e s'
theorem pD(F:FnOk X.prog X.w X.K X.mg X.base CX k f fd ps sp)(hr:Room k X.A)(hb:Binds X.K fd ps ds)(hd:Vals dvs ds)(hx:cW CX X E)(I:Inv X pZ σ H s)(r:Vals vs us)(h:sp (vs++dvs) H Q E):wpAny (model X.prog X.w) X.A (call (.ref f) us) (EP X pZ σ Q) X.xe s:=by
 have r2:Vals (vs++dvs) (us++ds):=r.append hd;have hl:(us++ds).length=ps.length:=by rw[<-r2.length];exact F.len _ _ _ _ h
 refine wpAny_call (qu (F.run X.A X.stack s H ⟨us,[]⟩ (us++ds) (vs++dvs) Q E hr I.env0 (hb s us I.kIn hl) r2 h) λr s' hq=>?_);cases r with
 |error e=>exact hx pZ σ H s e s' I hq
 |ok fl=>
  cases fl with
  |ret u=>exact I.after hq
  |next=>exact False.elim hq
  |brk=>exact False.elim hq
  |cont=>exact False.elim hq
theorem dG(F:FnOk X.prog X.w X.K X.mg X.base CX k f fd ps sp)(hr:Room k X.A)(hg:Gl X x)(hm:X.mg x=some (.ref f))(hk:PySem.W.keepIn X.K (.ref f)=true)(hb:Binds X.K fd ps ds)(hd:Vals dvs ds)(hx:cW CX X E)(ha:PA X (e::es) t)(hdb:(x == ("__debug__" : Str))=false:=by decide)(he:ag (e::es) X.env=(false,eval e X.env)::ag es X.env:=by rfl)(hpl:(dq pos (ag es X.env)).any (·.1)=false:=by rfl):PE X (.Call (.Name x p) (e::es) [] pos) (zIR sp dvs E t):=by
 intro pZ s σ H Q I h;refine mj (nR I hg hm ?_ hdb);refine kf (h₀:=X.base) I.ok.mod.kin hk (thn (ha pos pZ s σ H _ I h) λus s1 ⟨vs,H1,I1,r,q⟩=>⟨I1.kIn,?_⟩) he hpl;exact pD F hr hb hd hx I1 r q
theorem zE0{pl:Sem Bool}(he:PE X o ta)(c:Cls X.K C)(hm:Meth X.K C m f)(F:FnOk X.prog X.w X.K X.mg X.base CX k f fd ps sp)(hr:Room k X.A)(hb:Binds X.K fd ps ds)(hd:Vals dvs ds)(hx:cW CX X E)(ha:PA X (e::es) t)(hst:ag (e::es) X.env=(false,eval e X.env)::ag es X.env:=by rfl)(hpl:(dq pos (ag es X.env)).any (·.1)=false:=by rfl)(ht:eval (.Call (.Attribute o m apos) (e::es) [] pos) X.env=(do
   let ov <- eval o X.env
   standAt apos.atName
   let (f,first) <- holding [ov] (getMethod ov m pl)
   callWith pos f first (dq pos (ag (e::es) X.env)) (jd pos (fu [] X.env))):=by rfl):PE X (.Call (.Attribute o m apos) (e::es) [] pos) (zNB C m sp dvs E ta t):=by
 intro pZ s σ H Q I h;refine pb (pl:=pl) (thn (he pZ s σ H _ I h) λu s1 ⟨x,H1,I1,rx,a,dx,fs,ex,ea,l,q⟩=>?_) ht;subst ex;obtain rfl:u=Value.ref a:=rx;refine dP I1 ea c hm l ?_;refine kf (first:=[.ref a]) (h₀:=X.base) I.ok.mod.kin hm.kp (thn (ha pos pZ s1 σ H1 _ I1 q) λus s2 ⟨vs,H2,I2,r,q2⟩=>⟨I2.kIn,?_⟩) hst hpl;exact pD (us:=.ref a::us) (vs:=.ref a::vs) F hr hb hd hx I2 (.cons rfl r) q2
theorem zAR{pl:Sem Bool}(he:PE X o ta)(c:Cls X.K C)(hm:Meth X.K C m f)(F:FnOk X.prog X.w X.K X.mg X.base CX k f fd ps sp)(hr:Room k X.A)(hb:Binds X.K fd ps ds)(hd:Vals dvs ds)(hx:cW CX X E)(ht:eval (.Call (.Attribute o m apos) [] [] pos) X.env=(do
   let ov <- eval o X.env
   standAt apos.atName
   let (f,first) <- holding [ov] (getMethod ov m pl)
   callWith pos f first (dq pos (ag [] X.env)) (jd pos (fu [] X.env))):=by rfl):PE X (.Call (.Attribute o m apos) [] [] pos) (zNB C m sp dvs E ta zIQ):=by
 intro pZ s σ H Q I h;refine pb (pl:=pl) (thn (he pZ s σ H _ I h) λu s1 ⟨x,H1,I1,rx,a,dx,fs,ex,ea,l,q⟩=>?_) ht;subst ex;obtain rfl:u=Value.ref a:=rx;refine dP I1 ea c hm l ?_;exact PySem.W.callWith_K0 (first:=[.ref a]) I1.kIn hm.kp (pD (us:=[.ref a]) (vs:=[.ref a]) F hr hb hd hx I1 (.cons rfl .nil) q)
structure Mk(K:Fg)(C f:Addr):Prop where
 makes:PySem.W.makesIn K C=true
 init:PySem.W.findIn K (.ref C) "__init__" = some (some (.ref f))
 fn:PySem.W.isFn K (.ref f)=true
 kp:PySem.W.keepIn K (.ref C)=true
theorem zAC(M:Mk X.K C f)(F:FnOk X.prog X.w X.K X.mg X.base CX k f fd ps sp)(hr:Room (k+1) X.A)(hb:Binds X.K fd ps ds)(hd:Vals dvs ds)(hx:cW CX X E)(I:Inv X pZ σ H s)(r:Vals vs us)(h:∀x dx,H x=none->H dx=none->dx≠x->sp (.ref x::(vs++dvs)) (upd (upd H dx (.own x)) x (.ins C dx [])) (λv H2=>v=.non/\Q (.ref x) H2) E):wpAny (model X.prog X.w) X.A (call (.ref C) us) (EP X pZ σ Q) X.xe s:=by
 have hq:=h (s.heap.objs.size+1) s.heap.objs.size (I.hok.fresh (Nat.le_succ _)) (I.hok.fresh (ae _)) (bq (nr _));have I2:=Inv.made (C:=C) I;have r2:Vals (V.ref (s.heap.objs.size+1)::(vs++dvs)) (Value.ref (s.heap.objs.size+1)::(us++ds)):=.cons rfl (r.append hd);have hl:(Value.ref (s.heap.objs.size+1)::us++ds).length=ps.length:=by
  have e:=r2.length;rw[F.len _ _ _ _ hq] at e;exact e.symm
 refine wpAny_call (zBE (f:=f) I.kIn M.makes M.init (beq_iff_eq.mp M.fn) (qu (F.run _ X.stack _ _ ⟨Value.ref (s.heap.objs.size+1)::us,[]⟩ (Value.ref (s.heap.objs.size+1)::(us++ds)) _ _ E (hr.make C us [])
  (I2.env0.make C us []) (hb _ (Value.ref (s.heap.objs.size+1)::us) I2.kIn hl) r2 hq) λr s' hq'=>?_))
 cases r with
 |error e=>exact hx pZ σ _ _ e s' I2 hq'
 |ok fl=>
  cases fl with
  |ret u=>
   obtain⟨v,H',I3,rv,ev,q3⟩:=I2.after hq';subst ev;exact⟨rv,⟨V.ref (s.heap.objs.size+1),H',I3,rfl,q3⟩⟩
  |next=>exact False.elim hq'
  |brk=>exact False.elim hq'
  |cont=>exact False.elim hq'
theorem zE1(M:Mk X.K C f)(F:FnOk X.prog X.w X.K X.mg X.base CX k f fd ps sp)(hr:Room (k+1) X.A)(hg:Gl X x)(hm:X.mg x=some (.ref C))(hb:Binds X.K fd ps ds)(hd:Vals dvs ds)(hx:cW CX X E)(ha:PA X (e::es) t)(hdb:(x == ("__debug__" : Str))=false:=by decide)(he:ag (e::es) X.env=(false,eval e X.env)::ag es X.env:=by rfl)(hpl:(dq pos (ag es X.env)).any (·.1)=false:=by rfl):PE X (.Call (.Name x p) (e::es) [] pos) (zOP C sp dvs E t):=by
 intro pZ s σ H Q I h;refine mj (nR I hg hm ?_ hdb);refine kf (h₀:=X.base) I.ok.mod.kin M.kp (thn (ha pos pZ s σ H _ I h) λus s1 ⟨vs,H1,I1,r,q⟩=>⟨I1.kIn,?_⟩) he hpl;exact zAC M F hr hb hd hx I1 r q
structure FnScope(N P:List Str)(sc:Scope):Prop where
 kind:sc.kind=.function
 co:sc.isCoroutine=false
 gen:sc.isGenerator=false
 nd:N.Nodup
 pre:N.take P.length=P
 par:∀x∈P,sc.names.lookup x=some .local\/sc.names.lookup x=some .cell
 nofree:∀y∈sc.names,y.2≠.free
theorem oM{kindOf:Str->Option NameKind}:∀{binds:List (Str×Value)} {m:Str->Option Value},(∀v,(x,v)∉binds)->bindL kindOf binds m x=m x
 |[],_,_=>rfl
 |(n,v)::r,m,h=>by
  unfold bindL;rw[oM λw hw=>h w (bm _ hw)];split
  ·have:x≠n:=by rintro rfl;exact h v dw
   simp[this]
  ·rfl
theorem oO{kindOf:Str->Option NameKind}:∀{binds:List (Str×Value)} {m:Str->Option Value},(∀v,(x,v)∉binds)->bindC kindOf binds m x=m x
 |[],_,_=>rfl
 |(n,v)::r,m,h=>by
  unfold bindC;rw[oO λw hw=>h w (bm _ hw)];split
  ·rfl
  ·have:x≠n:=by rintro rfl;exact h v dw
   simp[this]
theorem oN{kindOf:Str->Option NameKind}:∀{P:List Str} {vs:List Value} {i:Nat} {m:Str->Option Value},P.Nodup->P[i]?=some x->vs[i]?=some v->kindOf x=some .local ->
  bindL kindOf (P.zip vs) m x=some v
 |[],_,_,_,_,h,_,_=>by simp at h
 |_::_,[],_,_,_,_,h,_=>by simp at h
 |p::P,w::vs,0,m,nd,h1,h2,hk=>by
  simp at h1 h2;subst h1;subst h2;show bindL kindOf ((p,w)::P.zip vs) m p=_;unfold bindL;rw[oM λv hv=>(dl.mp nd).1 (rj hv).1,if_pos hk];simp
 |p::P,w::vs,i+1,m,nd,h1,h2,hk=>by
  show bindL kindOf ((p,w)::P.zip vs) m x=_;unfold bindL;exact oN (i:=i) (dl.mp nd).2 (by simpa using h1) (by simpa using h2) hk
theorem oP{kindOf:Str->Option NameKind}:∀{P:List Str} {vs:List Value} {i:Nat} {m:Str->Option Value},P.Nodup->P[i]?=some x->vs[i]?=some v->kindOf x≠some .local ->
  bindC kindOf (P.zip vs) m x=some v
 |[],_,_,_,_,h,_,_=>by simp at h
 |_::_,[],_,_,_,_,h,_=>by simp at h
 |p::P,w::vs,0,m,nd,h1,h2,hk=>by
  simp at h1 h2;subst h1;subst h2;show bindC kindOf ((p,w)::P.zip vs) m p=_;unfold bindC;rw[oO λv hv=>(dl.mp nd).1 (rj hv).1,if_neg hk];simp
 |p::P,w::vs,i+1,m,nd,h1,h2,hk=>by
  show bindC kindOf ((p,w)::P.zip vs) m x=_;unfold bindC;exact oP (i:=i) (dl.mp nd).2 (by simpa using h1) (by simpa using h2) hk
def start(N:List Str)(vs:List V):St:=vs.map some++List.replicate (N.length-vs.length) none
def zIM(CX:CXT)(P:Program)(w:World)(K:Fg)(mg:Str->Option Value)(base:Heap)(N:List Str)(qual:Str)(scope:Scope)(f:Addr)(cd:Value)(A:Around)(outer:List Env)(s:Shared)(H:Hp)(E:XK):Cx where
 prog:=P
 w:=w
 K:=K
 mg:=mg
 base:=base
 A:=A.deeper (envOfC qual scope s.heap.objs.size f cd)
 N:=N
 s₀:=s
 H₀:=H
 env:=envOfC qual scope s.heap.objs.size f cd
 outer:=outer
 stack:=envOfC qual scope s.heap.objs.size f cd::outer
 ex:=[]
 calm:=true
 fn:=λ_=>true
 pn:=[]
 xe:=λe s'=>wpAny (model P w) (A.deeper (envOfC qual scope s.heap.objs.size f cd)) (leaving (envOfC qual scope s.heap.objs.size f cd) e) (λ_ s''=>CX outer H s E e s'') (λe' s''=>CX outer H s E e' s'') s'
theorem Z3{sc:Scope}{n:Nat}{x:Str}(h:sc.names.lookup x=some .cell):∃c,(cellsFrom n sc.names []).lookup x=some c:=by
 have q:=um sc.names n [] (.inl h);exact Option.isSome_iff_exists.mp q
theorem X3{K:Fg}(S:FnScope N ps scope)(hd:A.handled=none)(e0:Env0 P w K mg base A outer s H)(hl:vs.length=ps.length)(r:Vals vs us)(x:InCallC s s.heap.objs.size (bindL (envOfC qual scope s.heap.objs.size f cd).kindOf (ps.zip us) λ_=>none) (cellsFrom (s.heap.objs.size+1) scope.names []) (bindC (envOfC qual scope s.heap.objs.size f cd).kindOf (ps.zip us) λ_=>none) s1):Inv (zIM CX P w K mg base N qual scope f cd A outer s H E) [] (start N vs) H s1:=by
 have hpl:ps.length<=N.length:=by have:=congrArg List.length S.pre;rw[gp] at this;omega
 obtain⟨h1,tk,rfl,hk⟩:=x.done;have noA:∀b:Addr,b∉(zIM CX P w K mg base N qual scope f cd A outer s H E).ex:=λb z=>absurd (show b∈([]:List Addr) from z) (by simp)
 refine⟨⟨e0.mod,S.kind,rfl,rfl,ae _,λy z c h1 h2=>?_,λy hy=>?_,λy c _ h=>?_,λ_=>hd,Around.frames_deeper e0.frames,.inr ⟨rfl,rfl⟩,λb z=>absurd z (noA b),e0.bs,e0.bsz,λb _ _=>noA b,λb z=>absurd z (noA b),e0.funs,e0.frf⟩,
  rfl,e0.bare,Un.kept hk,⟨_,x.toInCall.ns,λi y v h1 h2 h3=>?_⟩,λy c h=>⟨_,x.cell y c h⟩,e0.hok.fresh (ae _),λy c h=>?_,λp hp=>absurd (show p∈([]:List (Addr×Obj)) from hp) (by simp),e0.hok.kept hk,?_⟩
 ·exact name_of_addr x.apart (gj h1) (gj h2)
 ·have hy:scope.names.lookup y=some .cell\/scope.names.lookup y=some .free:=hy;rcases hy with hy|hy
  ·exact Z3 hy
  ·exact absurd rfl (S.nofree _ (gj hy))
 ·exact ki (x.above y c (gj h))
 ·have hi:i<vs.length:=by
   unfold start at h2;by_cases hi:i<vs.length
   ·exact hi
   ·rw[cu (by simpa using hi)] at h2;rw[cj] at h2;split at h2<;>cases h2
  have ha:vs[i]?=some v:=by
   unfold start at h2;rw[bg (by simpa using hi),bn] at h2;cases e:vs[i]? with
   |none=>rw[e] at h2;cases h2
   |some a=>rw[e] at h2;cases h2;rfl
  obtain⟨u,hu,rv⟩:=r.get ha;have hp:ps[i]?=some y:=by
   rw[<-S.pre,ng (by omega)];exact h1
  have ndP:ps.Nodup:=by rw[<-S.pre];exact S.nd.sublist (List.take_sublist _ _)
  refine⟨u,rv,?_⟩;rcases S.par y (lq hp) with k|k
  ·exact .inl ⟨k,oN ndP hp hu k⟩
  ·obtain⟨c,e⟩:=Z3 (n:=s.heap.objs.size+1) k;refine .inr ⟨.inl k,c,e,?_⟩;have q:=x.cell y c e;rw[oP ndP hp hu (by show scope.names.lookup y≠_;rw[k];decide)] at q;exact q
 ·exact e0.hok.fresh (ki (x.above y c (gj h)))
 ·unfold start;show _=N.length;rw[bb,ak,vi];omega
theorem zNX{K:Fg}{kV:Value}(lk:K.lookup f=some ⟨oc,od,.func (PySem.W.fnOf name qual params body scope dV kV doc pm an cdv ct),osl⟩)(hcd:PySem.W.codeIn K cdv qual=true)(S:FnScope N ps scope)(len:∀vs H Q E,sp vs H Q E->vs.length=ps.length)(hbody:∀(A:Around) (outer:List Env) (s:Shared) (H:Hp) (vs:List V) (Q:VK) (E:XK),Room k (A.deeper (envOfC qual scope s.heap.objs.size f cdv))->sp vs H Q E ->
   ∃t,PSs (zIM CX P w K mg base N qual scope f cdv A outer s H E) body t/\t { nx:=λ_ H'=>Q .non H',rt:=Q } (start N vs) H):FnOk P w K mg base CX (k+1) f (PySem.W.fnOf name qual params body scope dV kV doc pm an cdv ct) ps sp:=by
 refine⟨len,λA outer s H args us vs Q E hr e0 hb r hsp=>?_⟩;have hl:=len _ _ _ _ hsp;have KX:K.In s.heap:=e0.mod.kin.keeps λb o e=>(e0.bs b o e).1
 have lim:s.heap.NoLimit:=e0.mod.nolimit.keeps λb o e=>(e0.bs b o e).1
 have hkind:∀y∈ps.zip us,scope.names.lookup y.1=some .local\/(scope.names.lookup y.1=some .cell/\((cellsFrom (s.heap.objs.size+1) scope.names []).lookup y.1).isSome=true):=λ⟨n,v⟩ hy=>by
  rcases S.par n (rj hy).1 with q|q
  ·exact .inl q
  ·exact .inr ⟨q,um _ _ _ (.inl q)⟩
 refine codeAny_call_function hr.depth (KX _ _ lk) rfl S.co S.gen rfl (PySem.W.codeRec_of KX hcd) (hb _ _ _ _ ?_);refine wpAny_newFunctionEnv_cells S.kind hkind λenv he s1 x=>?_
 subst he;refine⟨lim.keeps x.toInCall.keep,codeAny_func ?_⟩;obtain⟨t,ht,hq⟩:=hbody A outer s H vs Q E (hr.deeper _) hsp;have I:Inv (zIM CX P w K mg base N qual scope f cdv A outer s H E) [] (start N vs) H s1:=X3 S hr.hd e0 hl r x;refine gv (ht [] s1 (start N vs) H _ I hq) (λfl s' hs=>?_) λe s' hs=>hs
 have fin:∀{σ':St} {H':Hp} {v:V} {u:Value},Inv (zIM CX P w K mg base N qual scope f cdv A outer s H E) [] σ' H' s'->RelV v u->Q v H'->CE outer P w H s Q u s':=
  λ{σ' H' v u} J rv q=>⟨v,H',J.os,J.bare,J.base,J.hok,rv,q⟩
 cases fl with
 |ret u=>
  obtain⟨v,σ',H',J,rv,q⟩:=hs;exact fin J rv q
 |next=>
  obtain⟨σ',H',J,q⟩:=hs;exact fin (v:=V.non) (u:=Value.none) J rfl q
 |brk=>
  obtain⟨_,_,_,q⟩:=hs;exact False.elim q
 |cont=>
  obtain⟨_,_,_,q⟩:=hs;exact False.elim q
end L2
namespace L2
open PySem PySem.Spec PyProof.Rows
section
variable{id:String}
def tCB(r:List V->Hp->VK->Prop)(t:TA):TE:=λσ H Q=>t σ H λvs H1=>r vs H1 Q
theorem kC(hc:CallR X (.builtin id) r)(hg:Gl X x)(hm:X.mg x=none)(hv:bootBuiltins x=some (.builtin id))(ha:PA X (e::es) t)(hn:x ≠ "__name__" := by decide)(hdb:(x == ("__debug__" : Str))=false:=by decide)(he:ag (e::es) X.env=(false,eval e X.env)::ag es X.env:=by rfl)(hpl:(dq pos (ag es X.env)).any (·.1)=false:=by rfl):PE X (.Call (.Name x p) (e::es) [] pos) (tCB r t):=by
 intro pZ s σ H Q I h;refine mj (bB I hg hm hv ?_ hn hdb);exact PyProof.Rows.callWith_builtin1 (thn (ha pos pZ s σ H _ I h) λus s1 ⟨vs,H1,I1,r1,q1⟩=>hc pZ s1 σ H1 vs us Q I1 r1 q1) he hpl
theorem kO(hc:CallR X (.type T) r)(hg:Gl X x)(hm:X.mg x=none)(hv:bootBuiltins x=some (.type T))(ha:PA X (e::es) t)(hn:x ≠ "__name__" := by decide)(hdb:(x == ("__debug__" : Str))=false:=by decide)(he:ag (e::es) X.env=(false,eval e X.env)::ag es X.env:=by rfl)(hpl:(dq pos (ag es X.env)).any (·.1)=false:=by rfl):PE X (.Call (.Name x p) (e::es) [] pos) (tCB r t):=by
 intro pZ s σ H Q I h;refine mj (bB I hg hm hv ?_ hn hdb);exact fi (thn (ha pos pZ s σ H _ I h) λus s1 ⟨vs,H1,I1,r1,q1⟩=>hc pZ s1 σ H1 vs us Q I1 r1 q1) he hpl
end
end L2
namespace HT
open PySem PyProof.Rows
section
open PySem.SeqAt
open PySem.AutoSeq1 (wpAny_loadPart')
open PySem.MeetsSeq PySem.MeetsSeq2 PySem.MeetsSeq3
end
section
variable{prog:Program}{w:World}{A:Around}{E:Value->Shared->Prop}{s:Shared}
theorem cat_tup(ht:IsTup s.heap t vs.toArray)(hb:IsTup s.heap b ws.toArray)(hv:vs≠[])(h1:ws=[]->Q (.ref t) s)(h2:ws≠[]->Q (.ref s.heap.objs.size) { s with heap:=s.heap.push { cls:=.type "tuple",data:=.seq (vs++ws).toArray } })(hsz:vs.length+ws.length<=af):wpAny (model prog w) A (binaryOp .Add (.ref t) (.ref b)) Q E s:=by
 obtain⟨⟨cls,dd,data,sl⟩,ho,hc,n,hd⟩:=id ht;obtain⟨⟨cls2,dd2,data2,sl2⟩,ho2,hc2,n2,hd2⟩:=id hb;simp only at hc hd hc2 hd2;subst hc hd hc2 hd2;have e:vs.toArray++ws.toArray=(vs++ws).toArray:=by simp
 by_cases hw:ws=[]
 ·exact uk ⟨_,ho,rfl⟩ ⟨_,ho2,rfl⟩ noFill_tuple_add seq_tuple_add uo tx (sy _ _)
   (tuple_addW1 t b vs.toArray ws.toArray n n2 dd dd2 sl sl2 (by simpa using hv) (by simp[hw])) ⟨ho,ho2,h1 hw⟩
 ·refine uk ⟨_,ho,rfl⟩ ⟨_,ho2,rfl⟩ noFill_tuple_add seq_tuple_add uo tx (sy _ _)
   (tuple_addW2 t b vs.toArray ws.toArray n n2 dd dd2 sl sl2 (by simpa using hv) (by simpa using hw) (by rw[am,am];exact hsz)) ⟨ho,ho2,?_⟩
  rw[e];exact h2 hw
noncomputable def sIx(n d:Nat):Option Int->Nat
 |none=>d
 |some v=>if v<0 then (v+(n:Int)).toNat else min v.toNat n
theorem sIx_none(n d:Nat):sIx n d none=d:=rfl
theorem sIx_nat(n d k:Nat):sIx n d (some (k:Int))=min k n:=by
 show(if (k:Int)<0 then ((k:Int)+(n:Int)).toNat else min (k:Int).toNat n)=min k n;rw[if_neg (by omega),qy]
theorem sIx_le(n d:Nat)(hd:d<=n)(o:Option Int):sIx n d o<=n:=by
 cases o with
 |none=>exact hd
 |some v=>
  show(if v<0 then (v+(n:Int)).toNat else min v.toNat n)<=n;by_cases hv:v<0
  ·rw[if_pos hv];omega
  ·rw[if_neg hv];exact Nat.min_le_right _ _
theorem JL(v:Int)(n d:Nat):(if v<0 then max (v+(n:Int)) 0 else min v (n:Int))=((sIx n d (some v):Nat):Int):=by
 show(if v<0 then max (v+(n:Int)) 0 else min v (n:Int))=(((if v<0 then (v+(n:Int)).toNat else min v.toNat n):Nat):Int);by_cases hv:v<0
 ·simp only[if_pos hv];omega
 ·simp only[if_neg hv];omega
theorem rL(lo hi:Option Int)(n:Nat):Builtin.Slice.sliceAdjust lo hi 1 (n:Int)=(((sIx n 0 lo:Nat):Int),((sIx n n hi:Nat):Int)):=by
 have h1:¬((1:Int)<0):=by omega
 unfold Builtin.Slice.sliceAdjust;simp only[h1,if_false];refine Prod.ext ?_ ?_
 ·cases lo with
  |none=>rfl
  |some v=>exact JL v n 0
 ·cases hi with
  |none=>rfl
  |some v=>exact JL v n n
theorem pG(i j:Nat):Builtin.Slice.slicePlaces (i:Int) (j:Int) 1=j-i:=by
 unfold Builtin.Slice.slicePlaces;have h1:(1:Int) > 0:=by omega
 simp only[h1,if_true,Int.ediv_one]
 split<;>omega
theorem dC(p:IsPart v o)(h:Q o s):wpAny (model prog w) A (Builtin.Slice.slicePartIndex v) Q E s:=by
 cases p with
 |none=>exact ph h
 |int i t=>exact slicePart_int h
theorem vH{sl:Addr}{vl vu:Value}{lo hi:Option Int}{n:Nat}{Q:Int×Int×Nat->Shared->Prop}(hs:s.heap.IsSliceOf sl vl vu .none)(pl:IsPart vl lo)(pu:IsPart vu hi)(h:Q (((sIx n 0 lo:Nat):Int),1,sIx n n hi-sIx n 0 lo) s):wpAny (model prog w) A (Builtin.Slice.sliceApplied (.ref sl) (pure (n:Int))) Q E s:=by
 obtain⟨os,hos,hcs,hds⟩:=id hs;unfold Builtin.Slice.sliceApplied Builtin.Slice.sliceFields;refine ac (ac (cr hos hds (x:=vl) rfl (ac (cr hos hds (x:=vu) rfl (ac (cr hos hds (x:=.none) rfl (ah ?_)))))));refine ac (ph ?_);show wpAny _ _ (if ((1:Int) == 0)=true then _ else _) _ _ s;rw[if_neg (by decide)];refine ac (dC pl (ac (dC pu (ac (ah ?_)))));show wpAny _ _ (match Builtin.Slice.sliceAdjust lo hi 1 (n:Int) with|(lo,hi)=>pure (lo,(1:Int),Builtin.Slice.slicePlaces lo hi 1)) _ _ s;rw[rL lo hi n];show wpAny _ _ (pure (((sIx n 0 lo:Nat):Int),(1:Int),Builtin.Slice.slicePlaces ((sIx n 0 lo:Nat):Int) ((sIx n n hi:Nat):Int) 1)) _ _ s;rw[pG];exact ah h
theorem zAO(xs:Array Value)(i k:Nat):((List.range k).filterMap λ(m:Nat)=>xs[((i:Int)+(m:Int)*1).toNat]?).toArray=((xs.toList.drop i).take k).toArray:=by
 have e:(λ(m:Nat)=>xs[((i:Int)+(m:Int)*1).toNat]?)=λm=>xs[i+m]?:=by
  funext m
  have:((i:Int)+(m:Int)*1).toNat=i+m:=by omega
  rw[this]
 rw[e]
 have:=pick_run xs i k
 rw[List.filterMap_map] at this;have e2:((λx=>xs[x]?) ∘ λx=>i+x)=λm=>xs[i+m]?:=rfl
 rw[e2] at this;rw[this]
theorem getItem_tuple_cut{lo:Option Int}(ht:IsTup s.heap t items)(hs:s.heap.IsSliceOf sl vl vu .none)(pl:IsPart vl lo)(pu:IsPart vu hi)(hw:¬(sIx items.size 0 lo=0/\sIx items.size items.size hi=items.size))(h:Q (.ref s.heap.objs.size) { s with heap:=s.heap.push { cls:=.type "tuple",data:=.seq ((items.toList.drop (sIx items.size 0 lo)).take (sIx items.size items.size hi-sIx items.size 0 lo)).toArray } })(hsz:items.size<=af):wpAny (model prog w) A (getItem (.ref t) (.ref sl)) Q E s:=by
 have htake:sizeOk (.seq ((items.toList.drop (sIx items.size 0 lo)).take (sIx items.size items.size hi-sIx items.size 0 lo)).toArray):=by
  show((items.toList.drop (sIx items.size 0 lo)).take (sIx items.size items.size hi-sIx items.size 0 lo)).toArray.size<=af;rw[am,gp,ja,iq];omega
 have hj:sIx items.size items.size hi<=items.size:=sIx_le _ _ (ae _) hi;obtain⟨os,hos,hcs,hds⟩:=id hs;have hTs:s.TypeIs (.ref sl) "slice" := ⟨os,hos,hcs⟩;unfold getItem
 try with_reducible refine ee ?_
 first|refine ac (ah ?_)|skip
 refine ac (wpAny_sequenceKey ht.typeIs (by decide) ?_);refine ac (fq (name:=Str.ofString "__getitem__") ht.typeIs ft
  (ge ft ht.typeIs wg ?_ (args_tuple_getitem _ _)))
 show wpAny _ _ (Builtin.Tuple.tupleItemsOf (.ref t) >>= _) _ _ s;refine ac (tupleItemsOf_ ht ?_);refine ac (mi hTs ?_);rw[if_pos (by decide)];refine ac (vH hs pl pu ?_);have hno:¬((((sIx items.size 0 lo:Nat):Int) == 0 && (1:Int) == 1 && (sIx items.size items.size hi-sIx items.size 0 lo) == items.size)=true):=by
  intro q;rw[cw,cw] at q;have q1:((sIx items.size 0 lo:Nat):Int)=0:=eq_of_beq q.1.1;have q2:sIx items.size items.size hi-sIx items.size 0 lo=items.size:=eq_of_beq q.2;exact hw ⟨by omega,by omega⟩
 show wpAny _ _ (if (((sIx items.size 0 lo:Nat):Int) == 0 && (1:Int) == 1 && (sIx items.size items.size hi-sIx items.size 0 lo) == items.size)=true then _ else _) _ _ s;rw[if_neg hno,zAO]
 first
  |exact ac (m:=Builtin.Tuple.tupleExact _) (dj (ah ⟨_,rfl,ah h⟩) htake)
  |exact ac (m:=Builtin.Tuple.tupleExact _) (dj (ac (ah (ah ⟨_,rfl,ah h⟩))) htake)
  |exact ac (ac (m:=Builtin.Tuple.tupleExact _) (dj (ah (ah ⟨_,rfl,ah h⟩)) htake))
  |exact ac (ac (m:=Builtin.Tuple.tupleExact _) (dj (ah ⟨_,rfl,ah h⟩) htake))
end
end HT
namespace L2
open PySem PySem.Spec PyProof.Rows
abbrev TO:=St->Hp->(Option Int->Hp->Prop)->Prop
def PO(X:Cx)(e:Option Expr)(t:TO):Prop:=
 ∀(pZ:List (Addr×Obj)) (s:Shared) (σ:St) (H:Hp) (Q:Option Int->Hp->Prop),Inv X pZ σ H s->t σ H Q ->
  wpAny (model X.prog X.w) X.A (evalPart e X.env) (λu s'=>∃o H',Inv X pZ σ H' s'/\IsPart u o/\Q o H') X.xe s
noncomputable def zDS:TO:=λ_ H Q=>Q none H
noncomputable def zOM(t:TE):TO:=λσ H Q=>t σ H λx H1=>∃i,x=.int i/\Q (some i) H1
theorem p6:∀{us:List Value},Vals (ns.map V.int) us->IntsAre us ns:=by
 induction ns with
 |nil=>intro us r;rw[jw] at r;cases r;exact .nil
 |cons n ns ih=>
  intro us r;rw[aq] at r;cases r with
  |cons r1 r2=>
   obtain⟨t,e⟩:=r1;subst e;exact .cons n t (ih r2)
section
variable{X:Cx}{e:Expr}{te:TE}{lo hi:Option Expr}{tl th:TO}{pos p2:Pos}
theorem zEQ:PO X none zDS:=by
 intro pZ s σ H Q I h;rw[sx];exact ah ⟨none,H,I,.none,h⟩
theorem zEP(h:PE X e te):PO X (some e) (zOM te):=by
 intro pZ s σ H Q I hw;rw[evalPart_some];refine thn (h pZ s σ H _ I hw) λu s1 ⟨x,H1,I1,r1,q1⟩=>?_
 obtain⟨i,rfl,q⟩:=q1;obtain⟨t,rfl⟩:=r1;exact⟨some i,H1,I1,.int i t,q⟩
def SlR(X:Cx)(r:V->Option Int->Option Int->Hp->VK->Prop):Prop:=
 ∀(pZ:List (Addr×Obj)) (s:Shared) (σ:St) (H:Hp) (x:V) (v vl vu:Value) (lo hi:Option Int) (sl:Addr) (Q:VK),Inv X pZ σ H s->RelV x v->s.heap.IsSliceOf sl vl vu .none->IsPart vl lo->IsPart vu hi->r x lo hi H Q ->
  ∃T id,typeLookup (.type T) "__getitem__" = pure (some (.builtin id))/\s.TypeIs v T/\wpAny (model X.prog X.w) X.A (getItem v (.ref sl)) (EP X pZ σ Q) X.xe s
theorem SlR.or(h:SlR X r)(h':SlR X r'):SlR X (λx lo hi H Q=>r x lo hi H Q\/r' x lo hi H Q):=by
 intro pZ s σ H x v vl vu lo hi sl Q I rx hs pl pu q;rcases q with q|q
 ·exact h pZ s σ H x v vl vu lo hi sl Q I rx hs pl pu q
 ·exact h' pZ s σ H x v vl vu lo hi sl Q I rx hs pl pu q
def tSl(r:V->Option Int->Option Int->Hp->VK->Prop)(te:TE)(tl th:TO):TE:=λσ H Q=>te σ H λx H1=>tl σ H1 λl H2=>th σ H2 λu H3=>r x l u H3 Q
theorem zAQ(hr:SlR X r)(he:PE X e te)(hl:PO X lo tl)(hu:PO X hi th):PE X (.Subscript e (.Slice lo hi none p2) pos) (tSl r te tl th):=by
 intro pZ s σ H Q I h;refine rq (thn (he pZ s σ H _ I h) λv s1 ⟨x,H1,I1,r1,q1⟩=>?_);refine wpAny_Slice (thn (hl pZ s1 σ H1 _ I1 q1) λvl s2 ⟨l,H2,I2,pl,q2⟩=>thn (hu pZ s2 σ H2 _ I2 q2) λvu s3 ⟨u,H3,I3,pu,q3⟩=>?_);rw[sx];refine ah ?_;have I4:Inv X pZ σ H3 { s3 with heap:=s3.heap.push { cls:=.type "slice",data:=.fields #[vl,vu,.none] } }:=I3.kept (t':=s3.toks) λb ob q=>al _ q
 obtain⟨T,id,hT,ht,hg⟩:=hr pZ { s3 with heap:=s3.heap.push { cls:=.type "slice",data:=.fields #[vl,vu,.none] } } σ H3 x v vl vu l u s3.heap.objs.size Q I4 r1 (Heap.IsSliceOf.new ..) pl pu q3;show wpAny (model X.prog X.w) X.A (subscriptTail e (.Slice lo hi none p2) v (.ref s3.heap.objs.size)) (EP X pZ σ Q) X.xe { s3 with heap:=s3.heap.push { cls:=.type "slice",data:=.fields #[vl,vu,.none] } };exact tail_any (ops:=[.ref s3.heap.objs.size,v]) ht hT hg (by with_unfolding_all rfl)
def zI9(xs:List V)(lo hi:Option Int):List V:=(xs.drop (HT.sIx xs.length 0 lo)).take (HT.sIx xs.length xs.length hi-HT.sIx xs.length 0 lo)
theorem bQ(xs:List V)(lo hi:Option Int):(zI9 xs lo hi).length<=xs.length:=by
 unfold zI9;rw[gp,ja];omega
def zQZ(K:Fg):V->Option Int->Option Int->Hp->VK->Prop:=λx lo hi H Q=>∃a xs,x=.ref a/\SqT K H a xs /\
 ¬(HT.sIx xs.length 0 lo=0/\HT.sIx xs.length xs.length hi=xs.length)/\∀p,H p=none->Q (.ref p) (upd H p (.tup (zI9 xs lo hi)))
theorem sl_tup:SlR X (zQZ X.K):=by
 intro pZ s σ H x v vl vu lo hi sl Q I rx hs pl pu h;obtain⟨a,xs,rfl,hx,hw,q⟩:=h;cases rx;obtain⟨its,r,ht,hz⟩:=I.tuple hx;have hlen:its.toArray.size=xs.length:=by rw[am];exact r.length.symm
 refine⟨"tuple",_,ft.lookup,ht.typeIs,?_⟩;refine HT.getItem_tuple_cut ht hs pl pu (by rw[hlen];exact hw) ?_ (by rw[hlen];exact hz);rw[hlen];refine⟨.ref s.heap.objs.size,_,I.laid (t':=s.toks) (o:=.tup (zI9 xs lo hi)) (λb ob q=>al _ q) (ae _) ?_,rfl,q _ (I.hok.fresh (ae _))⟩;exact⟨bv (bQ xs lo hi) hz,_,(r.drop (HT.sIx xs.length 0 lo)).take (HT.sIx xs.length xs.length hi-HT.sIx xs.length 0 lo),ud _ _⟩
def zNH(K:Fg):R2:=λx y H Q=>∃a b xs ys,x=.ref a/\y=.ref b/\SqT K H a xs/\SqT K H b ys/\xs≠[]/\xs.length+ys.length<=af /\
 (ys=[]->Q (.ref a) H)/\(ys≠[]->∀p,H p=none->Q (.ref p) (upd H p (.tup (xs++ys))))
theorem Vals.nil_iff(r:Vals xs us):us=[]↔xs=[]:=by
 cases r with
 |nil=>simp
 |cons _ _=>simp
theorem zFB:OpR X (binaryOp .Add) (zNH X.K):=by
 intro pZ s σ H x y v u Q I rx ry h;obtain⟨a,b,xs,ys,rfl,rfl,ha,hb,hx,hz,q1,q2⟩:=h;cases rx;cases ry;obtain⟨its,r1,p1,_⟩:=I.tuple ha;obtain⟨its2,r2,p2,_⟩:=I.tuple hb;refine HT.cat_tup p1 p2 (λz=>hx (r1.nil_iff.mp z)) (λz=>⟨.ref a,H,I,rfl,q1 (r2.nil_iff.mp z)⟩) (λz=>?_) (by rw[<-r1.length,<-r2.length];exact hz);refine⟨.ref s.heap.objs.size,_,I.laid (t':=s.toks) (o:=.tup (xs++ys)) (λb ob q=>al _ q) (ae _) ?_,rfl,q2 (λw=>z (r2.nil_iff.mpr w)) _ (I.hok.fresh (ae _))⟩;exact⟨by rw[bb];exact hz,_,r1.append r2,ud _ _⟩
end
end L2
namespace L2
open PySem PySem.Spec PyProof.Rows
noncomputable def ixN(n:Nat)(i:Int):Option Nat:=if 0<=i then (if i<n then some i.toNat else none) else if -(n:Int)<=i then some (i+n).toNat else none
def atI(xs:List α)(i:Int):Option α:=(ixN xs.length i).bind λj=>xs[j]?
theorem zGL(h:ixN n i=some j):seqIndex? i n=some j/\j<n/\-(n:Int)<=i/\i<n:=by
 unfold ixN at h;by_cases h0:0<=i
 ·rw[if_pos h0] at h;by_cases h1:i<n
  ·rw[if_pos h1] at h;have e:i.toNat=j:=bw h;exact⟨by rw[seqIndex_of h0 h1,e],by omega,by omega,h1⟩
  ·rw[if_neg h1] at h;cases h
 ·rw[if_neg h0] at h;by_cases h1 : -(n:Int)<=i
  ·rw[if_pos h1] at h;have e:(i+n).toNat=j:=bw h;exact⟨by rw[seqIndex_neg (by omega) h1,e],by omega,h1,by omega⟩
  ·rw[if_neg h1] at h;cases h
theorem Z7(h:atI xs i=some v):∃j,seqIndex? i xs.length=some j/\xs[j]?=some v/\j<xs.length/\-(xs.length:Int)<=i/\i<xs.length:=by
 unfold atI at h;cases e:ixN xs.length i with
 |none=>rw[e] at h;cases h
 |some j=>
  rw[e] at h;obtain⟨h1,h2,h3,h4⟩:=zGL e;exact⟨j,h1,h,h2,h3,h4⟩
theorem yY{α:Type}{xs:List α}{j:Nat}{v:α}(h:xs[j]?=some v):atI xs (j:Int)=some v:=by
 have hj:j<xs.length:=(av.mp h).1;have e:ixN xs.length (j:Int)=some j:=by
  unfold ixN;rw[if_pos (by omega),if_pos (by omega)];simp
 unfold atI;rw[e];exact h
theorem Z6(xs:List α)(v:α):atI (xs++[v]) (-1)=some v:=by
 have hl:(xs++[v]).length=xs.length+1:=by simp
 have e:ixN (xs++[v]).length (-1)=some xs.length:=by
  unfold ixN;rw[hl,if_neg (by decide),if_pos (by omega)]
  congr 1
  omega
 unfold atI;rw[e];show(xs++[v])[xs.length]?=some v;simp
def bT(b:Expr):Prop:=∀o i,subscripted b false o i=operate [o,i] (getItem o i)
def IxR(X:Cx)(r:R2):Prop:=
 ∀(value slice:Expr) (pZ:List (Addr×Obj)) (s:Shared) (σ:St) (H:Hp) (x y:V) (v u:Value) (Q:VK),Inv X pZ σ H s->RelV x v->RelV y u->r x y H Q ->
  subscripted slice false v u=operate [v,u] (getItem v u)->wpAny (model X.prog X.w) X.A (subscriptTail value slice v u) (EP X pZ σ Q) X.xe s
def MtR(X:Cx)(id:String)(r:V->List V->Hp->VK->Prop):Prop:=
 ∀(pZ:List (Addr×Obj)) (s:Shared) (σ:St) (H:Hp) (x:V) (xs:List V) (v:Value) (us:List Value) (Q:VK),Inv X pZ σ H s->RelV x v->Vals xs us->r x xs H Q ->
  wpAny (model X.prog X.w) X.A (call (.builtin id) (v::us)) (EP X pZ σ Q) X.xe s
section
variable{X:Cx}{a b:Expr}{ta tb:TE}{pos:Pos}
theorem IxR.or(h:IxR X r)(h':IxR X r'):IxR X (λx y H Q=>r x y H Q\/r' x y H Q):=by
 intro value slice pZ s σ H x y v u Q I rx ry q hs;rcases q with q|q
 ·exact h value slice pZ s σ H x y v u Q I rx ry q hs
 ·exact h' value slice pZ s σ H x y v u Q I rx ry q hs
theorem zE2(hr:IxR X r)(ha:PE X a ta)(hb:PE X b tb)(hs:bT b):PE X (.Subscript a b pos) (tOp r ta tb):=by
 intro pZ s σ H Q I h;exact rq (zQT ha hb I h λv u s2 x y H2 I2 rx ry q=>hr a b pZ s2 σ H2 x y v u Q I2 rx ry q (hs _ _))
def zQ8(K:Fg):R2:=λx y H Q=>∃p xs i v,x=.ref p/\y=.int i/\SqL K H p xs/\atI xs i=some v/\Q v H
def zQ6(K:Fg):R2:=λx y H Q=>∃p xs i v,x=.ref p/\y=.int i/\SqT K H p xs/\atI xs i=some v/\Q v H
def zQ7:R2:=λx y H Q=>∃z i c,x=.str z/\y=.int i/\z.length<=af/\atI z.cps.toList i=some c/\Q (.str ⟨#[c]⟩) H
theorem ix_list:IxR X (zQ8 X.K):=by
 intro value slice pZ s σ H x y v u Q I rx ry h hs;obtain⟨p,xs,i,z,rfl,rfl,hq,he,q⟩:=h;cases rx;obtain⟨t,rfl⟩:=ry;obtain⟨its,r,pl,hz⟩:=I.list hq;obtain⟨j,h1,h2,h3,h4,h5⟩:=Z7 he;obtain⟨w,ew,rw'⟩:=r.get h2;have hl:=r.length;have hn:=nP;have fin:EP X pZ σ Q w s:=⟨z,H,I,rw',q⟩;by_cases h0:0<=i
 ·have hj:i.toNat=j:=by
   rw[seqIndex_of h0 h5] at h1;exact bw h1
  exact item_listR pl.isList h0 (by omega) (by rw[hj];simpa using ew) fin hs
 ·have hj:(i+(its.toArray.size:Int)).toNat=j:=by
   rw[seqIndex_neg (by omega) h4] at h1;rw[am,<-hl];exact bw h1
  exact oh (x:=w) pl.isList.typeIs qt.lookup
   (wpAny_getItem_list_neg (Q:=λr s'=>r=w/\EP X pZ σ Q r s') pl.isList (by omega) (by rw[am]<;>omega) (by omega) (by rw[hj];simpa using ew) ⟨rfl,fin⟩) hs
theorem ix_tup:IxR X (zQ6 X.K):=by
 intro value slice pZ s σ H x y v u Q I rx ry h hs;obtain⟨p,xs,i,z,rfl,rfl,hq,he,q⟩:=h;cases rx;obtain⟨t,rfl⟩:=ry;obtain⟨its,r,pl,hz⟩:=I.tuple hq;obtain⟨j,h1,h2,h3,h4,h5⟩:=Z7 he;obtain⟨w,ew,rw'⟩:=r.get h2;have hl:=r.length;have hn:=nP;have fin:EP X pZ σ Q w s:=⟨z,H,I,rw',q⟩;exact oh (x:=w) pl.typeIs slot_tuple_getitem.lookup
  (getItem_tuple (j:=j) (Q:=λr s'=>r=w/\EP X pZ σ Q r s') pl (by omega) (by omega) (by rw[am,<-hl];exact h1) (by simpa using ew) ⟨rfl,fin⟩) hs
theorem zL0:IxR X zQ7:=by
 intro value slice pZ s σ H x y v u Q I rx ry h hs;obtain⟨z,i,c,rfl,rfl,hz,he,q⟩:=h;obtain⟨t,rfl⟩:=rx;obtain⟨t',rfl⟩:=ry;obtain⟨j,h1,h2,h3,h4,h5⟩:=Z7 he;have hl:z.cps.toList.length=z.length:=by simp[Str.length]
 rw[hl] at h1 h4 h5;have hn:=nP;exact tail_any (typeIs_str s z t) slot_str_getitem.lookup (getItem_str (c:=c) (by
  have e1:decide (i < -(2 ^ 63:Int))=false:=decide_eq_false (by omega);have e2:decide (i ≥ 2 ^ 63)=false:=decide_eq_false (by omega);rw[e1,e2,Bool.or_false]) (by rw[h1];simpa using h2) ⟨.str ⟨#[c]⟩,H,I.tok _,⟨_,rfl⟩,q⟩) hs
def rIx(K:Fg):R2:=λx y H Q=>zQ8 K x y H Q\/zQ6 K x y H Q\/zQ7 x y H Q
theorem zGK:IxR X (rIx X.K):=ix_list.or (ix_tup.or zL0)
theorem d7(lo hi:Option Int)(n:Nat):(sliceBounds lo hi none n).1=((HT.sIx n 0 lo:Nat):Int)/\(sliceBounds lo hi none n).2.1=((HT.sIx n n hi:Nat):Int)/\(sliceBounds lo hi none n).2.2=1:=by
 refine⟨?_,?_,rfl⟩
 ·cases lo with
  |none=>simp[sliceBounds,HT.sIx]
  |some i=>
   simp only[sliceBounds,HT.sIx,Option.getD_none,show(1:Int) > 0 by decide,if_true];by_cases h:i<0
   ·simp only[h,if_true]<;>omega
   ·simp only[h,if_false]<;>omega
 ·cases hi with
  |none=>simp[sliceBounds,HT.sIx]
  |some i=>
   simp only[sliceBounds,HT.sIx,Option.getD_none,show(1:Int) > 0 by decide,if_true];by_cases h:i<0
   ·simp only[h,if_true]<;>omega
   ·simp only[h,if_false]<;>omega
theorem b7(its:List Value)(lo hi:Option Int):slicePick its.toArray lo hi none=((its.drop (HT.sIx its.length 0 lo)).take (HT.sIx its.length its.length hi-HT.sIx its.length 0 lo)).toArray:=by
 obtain⟨h1,h2,h3⟩:=d7 lo hi its.toArray.size;unfold slicePick;rw[h1,h2,h3];simp only[sliceRange_one,pick_run,am]<;>rfl
def zQ1(K:Fg):V->Option Int->Option Int->Hp->VK->Prop:=λx lo hi H Q=>∃a xs,x=.ref a/\SqL K H a xs/\∀p,H p=none->Q (.ref p) (upd H p (.lst (zI9 xs lo hi)))
theorem sl_list:SlR X (zQ1 X.K):=by
 intro pZ s σ H x v vl vu lo hi sl Q I rx hs pl pu h;obtain⟨a,xs,rfl,hx,q⟩:=h;cases rx;obtain⟨its,r,ht,hz⟩:=I.list hx;have hlen:=r.length;refine⟨"list",_,qt.lookup,ht.isList.typeIs,?_⟩;refine su ht.isList hs pl pu .none (by simp) ?_ (by rw[am]<;>omega);rw[b7,<-hlen];refine⟨.ref s.heap.objs.size,_,I.laid (t':=s.toks) (o:=.lst (zI9 xs lo hi)) (λb ob q=>al _ q) (ae _) ?_,rfl,q _ (I.hok.fresh (ae _))⟩;exact⟨bv (bQ xs lo hi) hz,_,0,(r.drop (HT.sIx xs.length 0 lo)).take (HT.sIx xs.length xs.length hi-HT.sIx xs.length 0 lo),bo _ rfl⟩
noncomputable def kY:V->Bool
 |.non=>true
 |.bl _=>true
 |.int _=>true
 |.str _=>true
 |_=>false
noncomputable def eqV:V->V->Bool
 |.non,.non=>true
 |.bl a,.bl b=>a == b
 |.bl a,.int b=>(if a then 1 else 0) == b
 |.int a,.bl b=>a == (if b then 1 else 0)
 |.int a,.int b=>a == b
 |.str a,.str b=>a == b
 |_,_=>false
theorem zG5(ry:RelV y u)(rx:RelV x v)(fy:kY y=true)(fx:kY x=true):SeqAt.EqAt A s u v (eqV y x):=by
 cases y with
 |non=>
  cases ry;cases x with
  |non=>cases rx;exact SeqAt.EqAt.same _
  |bl b=>cases rx;exact SeqAt.EqAt.none_bool b
  |int b=>obtain⟨t,rfl⟩:=rx;exact wm b t
  |str b=>obtain⟨t,rfl⟩:=rx;exact wl b t
  |_=>exact absurd (show false=true from fx) ax
 |bl a=>
  cases ry;cases x with
  |non=>cases rx;exact SeqAt.EqAt.bool_none a
  |bl b=>cases rx;exact SeqAt.EqAt.bool_bool a b
  |int b=>obtain⟨t,rfl⟩:=rx;exact SeqAt.EqAt.bool_int a b t
  |str b=>obtain⟨t,rfl⟩:=rx;exact SeqAt.EqAt.bool_str a b t
  |_=>exact absurd (show false=true from fx) ax
 |int a=>
  obtain⟨t',rfl⟩:=ry;cases x with
  |non=>cases rx;exact wo a t'
  |bl b=>cases rx;exact SeqAt.EqAt.int_bool a t' b
  |int b=>obtain⟨t,rfl⟩:=rx;exact SeqAt.EqAt.int_int a t' b t
  |str b=>obtain⟨t,rfl⟩:=rx;exact SeqAt.EqAt.int_str a t' b t
  |_=>exact absurd (show false=true from fx) ax
 |str a=>
  obtain⟨t',rfl⟩:=ry;cases x with
  |non=>cases rx;exact wj a t'
  |bl b=>cases rx;exact SeqAt.EqAt.str_bool a t' b
  |int b=>obtain⟨t,rfl⟩:=rx;exact SeqAt.EqAt.str_int a t' b t
  |str b=>obtain⟨t,rfl⟩:=rx;exact SeqAt.EqAt.str_str a t' b t
  |_=>exact absurd (show false=true from fx) ax
 |_=>exact absurd (show false=true from fy) ax
def eqU(x:V)(u:Value):Bool:=match u with
 |.none=>eqV .non x
 |.bool b=>eqV (.bl b) x
 |.int i _=>eqV (.int i) x
 |.str z _=>eqV (.str z) x
 |_=>false
theorem zG1(r:RelV y u)(f:kY y=true):eqU x u=eqV y x:=by
 cases y with
 |non=>cases r;rfl
 |bl b=>cases r;rfl
 |int i=>obtain⟨t,rfl⟩:=r;rfl
 |str z=>obtain⟨t,rfl⟩:=r;rfl
 |_=>exact absurd (show false=true from f) ax
theorem dY:∀{xs:List V} {us:List Value},Vals xs us->xs.all kY=true->us.any (eqU x)=xs.any λy=>eqV y x
 |_,_,.nil,_=>rfl
 |y::xs,u::us,.cons r t,f=>by
  rw[ji,cw] at f;rw[jn,jn,zG1 r f.1,dY t f.2]
theorem uO(rx:RelV x v)(fx:kY x=true):∀{xs:List V} {us:List Value},Vals xs us->xs.all kY=true->∀u∈us,SeqAt.EqAt A s u v (eqU x u)
 |_,_,.nil,_=>λu hu=>by cases hu
 |y::xs,u::us,.cons r t,f=>λu' hu=>by
  rw[ji,cw] at f;rcases ca.mp hu with rfl|hu
  ·rw[zG1 r f.1];exact zG5 r rx f.1 fx
  ·exact uO rx fx t f.2 u' hu
def inV(x:V)(xs:List V):Bool:=xs.any λy=>eqV y x
def rIn(K:Fg)(neg:Bool):R2:=λx y H Q=>∃p xs,y=.ref p/\(SqL K H p xs\/SqT K H p xs)/\kY x=true/\xs.all kY=true/\Q (.bl (if neg then !inV x xs else inV x xs)) H
theorem XD:OpR X (cz .In) (rIn X.K false):=by
 intro pZ s σ H x y v u Q I rx ry h;obtain⟨p,xs,rfl,hq,fx,fs,q⟩:=h;cases ry;rcases hq with hq|hq
 ·obtain⟨its,r,pl,hz⟩:=I.list hq;refine SeqAt.in_listAt (eqU x) pl.isList (λw hw=>uO rx fx r fs w (by simpa using hw)) ⟨.bl _,H,I,rfl,?_⟩;rw[show its.toArray.any (eqU x)=its.any (eqU x) by simp,dY r fs];exact q
 ·obtain⟨its,r,pl,hz⟩:=I.tuple hq;refine SeqAt.in_tupleAt (eqU x) pl (λw hw=>uO rx fx r fs w (by simpa using hw)) ⟨.bl _,H,I,rfl,?_⟩;rw[show its.toArray.any (eqU x)=its.any (eqU x) by simp,dY r fs];exact q
theorem gB:OpR X (cz .NotIn) (rIn X.K true):=by
 intro pZ s σ H x y v u Q I rx ry h;obtain⟨p,xs,rfl,hq,fx,fs,q⟩:=h;cases ry;rcases hq with hq|hq
 ·obtain⟨its,r,pl,hz⟩:=I.list hq;refine SeqAt.notIn_listAt (eqU x) pl.isList (λw hw=>uO rx fx r fs w (by simpa using hw)) ⟨.bl _,H,I,rfl,?_⟩;rw[show its.toArray.any (eqU x)=its.any (eqU x) by simp,dY r fs];exact q
 ·obtain⟨its,r,pl,hz⟩:=I.tuple hq;refine SeqAt.notIn_tupleAt (eqU x) pl (λw hw=>uO rx fx r fs w (by simpa using hw)) ⟨.bl _,H,I,rfl,?_⟩;rw[show its.toArray.any (eqU x)=its.any (eqU x) by simp,dY r fs];exact q
theorem call_len_seq:CallR X (.builtin "len") (λxs H Q=>∃p ys,xs=[.ref p]/\(SqL X.K H p ys\/SqT X.K H p ys)/\Q (.int ys.length) H):=by
 intro pZ s σ H xs us Q I r h;obtain⟨p,ys,rfl,hq,q⟩:=h;obtain⟨u,rfl,rx⟩:=rM r;cases rx;have hn:=nP;rcases hq with hq|hq
 ·obtain⟨its,r',pl,hz⟩:=I.list hq;have hlen:=r'.length;exact Calls.call_len_list pl.isList (by simp only[am]<;>omega) ⟨.int ys.length,H,I.tok _,⟨s.toks+1,by rw[am,hlen]⟩,q⟩
 ·obtain⟨its,r',pl,hz⟩:=I.tuple hq;have hlen:=r'.length;exact len_tuple pl (by simp only[am]<;>omega) ⟨.int ys.length,H,I.tok _,⟨s.toks+1,by rw[am,hlen]⟩,q⟩
theorem gN:CallR X (.builtin "len") (λxs H Q=>∃z,xs=[.str z]/\z.length<=af/\Q (.int z.length) H):=by
 intro pZ s σ H xs us Q I r h;obtain⟨z,rfl,hz,q⟩:=h;obtain⟨u,rfl,t,rfl⟩:=rM r;have hn:=nP;exact len_str (by omega) ⟨.int z.length,H,I.tok _,⟨_,rfl⟩,q⟩
theorem CallR.or(h:CallR X f r)(h':CallR X f r'):CallR X f (λxs H Q=>r xs H Q\/r' xs H Q):=by
 intro pZ s σ H xs us Q I rs q;rcases q with q|q
 ·exact h pZ s σ H xs us Q I rs q
 ·exact h' pZ s σ H xs us Q I rs q
theorem gM:CallR X (.type "list") (λxs H Q=>∃p ys,xs=[.ref p]/\(SqL X.K H p ys\/SqT X.K H p ys)/\∀l,H l=none->Q (.ref l) (upd H l (.lst ys))):=by
 intro pZ s σ H xs us Q I r h;obtain⟨p,ys,rfl,hq,q⟩:=h;obtain⟨u,rfl,rx⟩:=rM r;cases rx;have fin:∀(its:List Value),Vals ys its->ys.length<=af->∀(h':Heap) (c':Nat),(∀b o',s.heap.get? b=some o'->h'.get? b=some o') ->
   h'.get? s.heap.objs.size=some { cls:=.type "list",dict:=none,data:=.seq its.toArray c',slots:=#[] }->EP X pZ σ Q (.ref s.heap.objs.size) { s with heap:=h' }:=λits r' hz h' c' kp e=>
  ⟨.ref s.heap.objs.size,_,I.laid (t':=s.toks) kp (ae _) (show ObjOk X.prog X.w _ h' _ (.lst ys) from⟨hz,its,c',r',e⟩),rfl,q _ (I.hok.fresh (ae _))⟩
 rcases hq with hq|hq
 ·obtain⟨its,r',pl,hz⟩:=I.list hq;have hlen:=r'.length;obtain⟨o,ho,hc,n,hd⟩:=pl.isList;exact call_list_seq p (.inl rfl) ho hc hd (λh' c' kp e=>fin its r' hz h' c' kp e) (by simp only[am]<;>omega)
 ·obtain⟨its,r',pl,hz⟩:=I.tuple hq;have hlen:=r'.length;obtain⟨o,ho,hc,n,hd⟩:=pl;exact call_list_seq p (.inr rfl) ho hc hd (λh' c' kp e=>fin its r' hz h' c' kp e) (by simp only[am]<;>omega)
theorem cU:CallR X (.type "tuple") (λxs H Q=>∃p ys,xs=[.ref p]/\((SqL X.K H p ys/\∀l,H l=none->Q (.ref l) (upd H l (.tup ys)))\/(SqT X.K H p ys/\Q (.ref p) H))):=by
 intro pZ s σ H xs us Q I r h;obtain⟨p,ys,rfl,h⟩:=h;obtain⟨u,rfl,rx⟩:=rM r;cases rx;rcases h with⟨hq,q⟩|⟨hq,q⟩
 ·obtain⟨its,r',pl,hz⟩:=I.list hq;have hlen:=r'.length;refine call_tuple_list pl.isList (λh' kp=>?_) (by simp only[am]<;>omega);have I1:Inv X pZ σ H { s with heap:=h' }:=I.kept (t':=s.toks) kp;have I2:Inv X pZ σ (upd H h'.objs.size (.tup ys)) { s with heap:=h'.push { cls:=.type "tuple",data:=.seq its.toArray } }:=
   I1.laid (t':=s.toks) (λb o e=>al _ e) (ae _) (show ObjOk X.prog X.w _ _ _ (.tup ys) from⟨hz,its,r',ud _ _⟩)
  exact⟨.ref h'.objs.size,_,I2,rfl,q _ (I1.hok.fresh (ae _))⟩
 ·obtain⟨its,r',pl,hz⟩:=I.tuple hq;exact call_tuple_same pl ⟨.ref p,H,I,rfl,q⟩
def tyV(K:Fg)(T:String)(x:V)(H:Hp):Prop:=match x with
 |.str _=>T = "str"
 |.int _=>T = "int"
 |.ref p=>(T = "list" /\ ∃xs,SqL K H p xs)\/(T = "tuple" /\ ∃o,K.lookup p=some o/\o.cls=.type "tuple" /\ o.dict=none) \/
   (T = "dict" /\ ((∃kvs,H p=some (.dK kvs))\/∃kvs,H p=some (.dT kvs)))\/(T = "set" /\ ∃S n,H p=some (.set S n))
 |_=>False
theorem zDL(I:Inv X pZ σ H s)(r:RelV x v)(ty:tyV X.K T x H):s.TypeIs v T/\∀a,v=.ref a->∃ob,s.heap.get? a=some ob/\ob.dict=none:=by
 cases x with
 |str z=>
  obtain⟨t,rfl⟩:=r;cases (show T = "str" from ty);exact⟨typeIs_str s z t,λ_ e=>nomatch e⟩
 |int i=>
  obtain⟨t,rfl⟩:=r;cases (show T = "int" from ty);exact⟨typeIs_int s i t,λ_ e=>nomatch e⟩
 |ref p=>
  cases r;rcases ty with⟨rfl,xs,hq⟩|⟨rfl,o,hk,hc,hd⟩|⟨rfl,hk⟩|⟨rfl,S,n,hk⟩
  ·obtain⟨its,_,pl,_⟩:=I.list hq;refine⟨pl.isList.typeIs,λa e=>?_⟩;cases e;obtain⟨o,n,e,c,hd,_⟩:=pl;exact⟨o,e,hd⟩
  ·refine⟨⟨o,I.kIn p o hk,hc⟩,λa e=>?_⟩;cases e;exact⟨o,I.kIn _ o hk,hd⟩
  ·have z:∃o,s.heap.get? p=some o/\o.ExactDict:=by
    rcases hk with⟨kvs,hk⟩|⟨kvs,hk⟩
    ·obtain⟨_,_,_,_,o,_,_,e,ex,_⟩:=I.hok p _ hk;exact⟨o,e,ex⟩
    ·obtain⟨_,_,_,_,o,_,_,e,ex,_⟩:=I.hok p _ hk;exact⟨o,e,ex⟩
   obtain⟨o,e,ex⟩:=z;refine⟨⟨o,e,ex.1⟩,λa e2=>?_⟩;cases e2;exact⟨o,e,ex.2.1⟩
  ·obtain⟨o,_,_,_,e,ex,_⟩:=I.hok p _ hk;refine⟨⟨o,e,ex.1⟩,λa e2=>?_⟩;cases e2;exact⟨o,e,ex.2.1⟩
 |_=>exact False.elim ty
def zQY(K:Fg)(T:String)(r:V->List V->Hp->VK->Prop)(to:TE):TE:=λσ H Q=>to σ H λx H1=>tyV K T x H1/\r x [] H1 Q
def tBM(K:Fg)(T:String)(r:V->List V->Hp->VK->Prop)(to:TE)(t:TA):TE:=λσ H Q=>to σ H λx H1=>tyV K T x H1/\t σ H1 λxs H2=>r x xs H2 Q
variable{id:String}
theorem XA(pa:PlainAttrs T)(slot:Slot T name id)(hty:typeOf (.builtin id)=pure (.type "method_descriptor"))(hm:MtR X id r)(ho:PE X o to)(hbase:cb o name X.env (eval o X.env)=eval o X.env:=by rfl)(hline:(apos.endLine == cpos.line)=true:=by rfl):PE X (.Call (.Attribute o name apos) [] [] cpos) (zQY X.K T r to):=by
 intro pZ s σ H Q I h;refine wpAny_Call_method0_late hbase hline (thn (ho pZ s σ H _ I h) λv s1 ⟨x,H1,I1,r1,ty,q1⟩=>?_);obtain⟨h1,h2⟩:=zDL I1 r1 ty;exact⟨T,id,pa,slot,hty,h1,h2,kt rfl (PySem.evalArgs_none (hm pZ s1 σ H1 x [] v [] Q I1 r1 .nil q1))⟩
theorem XB(pa:PlainAttrs T)(slot:Slot T name id)(hty:typeOf (.builtin id)=pure (.type "method_descriptor"))(hm:MtR X id r)(ho:PE X o to)(ha:PA X (e::es) t)(hbase:cb o name X.env (eval o X.env)=eval o X.env:=by rfl)(hfew:((dq cpos (ag (e::es) X.env)).all (λx=>!x.1) && (jd cpos (fu [] X.env)).all (λx=>x.1.isSome)
   && decide ((e::es).length+([]:List Keyword).length+(if ([]:List Keyword).isEmpty then 0 else 1)<30))=true:=by rfl)(hline:(apos.endLine == cpos.line)=true:=by rfl)(hs:ag (e::es) X.env=(false,eval e X.env)::ag es X.env:=by rfl)(hplain:(dq cpos (ag es X.env)).any (·.1)=false:=by rfl):PE X (.Call (.Attribute o name apos) (e::es) [] cpos) (tBM X.K T r to t):=by
 intro pZ s σ H Q I h;refine wpAny_Call_method_late hbase hfew hline rfl (thn (ho pZ s σ H _ I h) λv s1 ⟨x,H1,I1,r1,ty,q1⟩=>?_);obtain⟨h1,h2⟩:=zDL I1 r1 ty;refine⟨T,id,pa,slot,hty,h1,h2,?_⟩;have hA:=ha cpos pZ s1 σ H1 _ I1 q1;rw[hs] at hA ⊢;refine kt (by show(false || (dq cpos (ag es X.env)).any (·.1))=false;rw[hplain]<;>rfl) (qe ?_);exact thn hA λus s2 ⟨vs,H2,I2,r2,q2⟩=>hm pZ s2 σ H2 x vs v us Q I2 r1 r2 q2
end
end L2
namespace L2
open PySem PySem.Spec PyProof.Rows
def MtM(X:Cx)(id:String)(r:V->List V->Hp->VK->Prop):Prop:=
 ∀(pZ:List (Addr×Obj)) (s:Shared) (σ:St) (H:Hp) (x:V) (xs:List V) (v:Value) (us:List Value) (Q:VK),Inv X pZ σ H s->RelV x v->Vals xs us->r x xs H Q ->
  wpAny (model X.prog X.w) X.A (call (.builtin id) (v::us)) (EP X pZ σ Q) X.xe s
theorem Vals.one:∀{x:V} {us:List Value},Vals [x] us->∃u,us=[u]/\RelV x u
 |_,_,.cons r .nil=>⟨_,rfl,r⟩
theorem Vals.two:∀{x y:V} {us:List Value},Vals [x,y] us->∃u v,us=[u,v]/\RelV x u/\RelV y v
 |_,_,_,.cons r (.cons q .nil)=>⟨_,_,rfl,r,q⟩
theorem Vals.zero:∀{us:List Value},Vals [] us->us=[]
 |_,.nil=>rfl
theorem Vals.dropLast(h:Vals xs us):Vals xs.dropLast us.dropLast:=by
 induction h with
 |nil=>exact .nil
 |cons r t ih=>
  cases t with
  |nil=>exact .nil
  |cons q t'=>exact .cons r ih
theorem Vals.eraseIdx:∀{xs:List V} {us:List Value} (i:Nat),Vals xs us->Vals (xs.eraseIdx i) (us.eraseIdx i)
 |_,_,_,.nil=>.nil
 |_,_,0,.cons _ t=>t
 |_,_,i+1,.cons r t=>.cons r (Vals.eraseIdx i t)
theorem Vals.reverse(h:Vals xs us):Vals xs.reverse us.reverse:=by
 induction h with
 |nil=>exact .nil
 |cons r t ih=>rw[jh,jh];exact Vals.append ih (.cons r .nil)
theorem rA(l:List α):l.eraseIdx (l.length-1)=l.dropLast:=by
 induction l with
 |nil=>rfl
 |cons a r ih=>
  cases r with
  |nil=>rfl
  |cons b r=>
   have e:(a::b::r).length-1=((b::r).length-1)+1:=by
    have h1:(a::b::r).length=r.length+2:=rfl;have h2:(b::r).length=r.length+1:=rfl;omega
   rw[e,List.eraseIdx_cons_succ,ih]
   all_goals rfl
theorem nQ:∀(l:List α) (i:Nat),(l.eraseIdx i).length<=l.length
 |[],_=>ae _
 |_::_,0=>Nat.le_succ _
 |_::r,i+1=>jv (nQ r i)
section
variable{X:Cx}{pZ:List (Addr×Obj)}{σ:St}{H:Hp}{s:Shared}{l b:Addr}{xs ys zs:List V}
theorem Inv.lset{its its':List Value}{n:Nat}{f:Array Value->Array Value}{t':Nat}(I:Inv X pZ σ H s)(hH:H l=some (.lst xs))(e:s.heap.get? l=some { cls:=.type "list",data:=.seq its.toArray n })(hf:f its.toArray=its'.toArray)(hv:Vals ys its')(hz:ys.length<=af):Inv X pZ σ (upd H l (.lst ys)) { s with heap:=s.heap.update l (Obj.mapSeq f),toks:=t' }:=by
 have q:=PySem.IsL.update e f;rw[hf] at q;refine I.write (x:=l) (e:=l) (by rw[hH];exact trivial) (.inl rfl) (λb' u hb hu=>(kr s.heap (Obj.mapSeq f) (lm hb)).trans hu) ⟨_,q⟩ ?_;exact⟨hz,its',_,hv,q⟩
theorem Inv.lnew(I:Inv X pZ σ H s)(hv:Vals ys its)(hz:ys.length<=af):Inv X pZ σ (upd H s.heap.objs.size (.lst ys)) { s with heap:=s.heap.push { cls:=.type "list",data:=.seq its.toArray },toks:=t' }:=
 I.laid (λ_ _ q=>al _ q) (ae _) ⟨hz,its,0,hv,bo _ rfl⟩
theorem Inv.fresh(I:Inv X pZ σ H s):H s.heap.objs.size=none:=I.hok.fresh (ae _)
theorem Inv.lstM(I:Inv X pZ σ H s)(hH:H l=some (.lst xs)):xs.length<=af/\∃(its:List Value) (n:Nat),Vals xs its/\xs.length=its.length/\s.heap.get? l=some { cls:=.type "list",data:=.seq its.toArray n }:=by
 obtain⟨z,its,n,r,e⟩:=I.hok l _ hH;exact⟨z,its,n,r,r.length,e⟩
theorem zA7(h:n<=af):Builtin.List.listTooLong n=false:=by
 unfold Builtin.List.listTooLong;exact decide_eq_false (by omega)
end
section
variable{X:Cx}
def zEH:V->List V->Hp->VK->Prop:=λx vs H Q=>∃l xs y,x=.ref l/\vs=[y]/\H l=some (.lst xs)/\xs.length<af/\Q .non (upd H l (.lst (xs++[y])))
theorem kQ:MtM X "list.append" zEH:=by
 intro pZ s σ H x vs v us Q I rx rv h;obtain⟨l,xs,y,rfl,rfl,hH,hz,q⟩:=h;cases rx;obtain⟨u,rfl,ru⟩:=rv.one;obtain⟨z,its,n,r,hl,e⟩:=I.lstM hH;refine oi F.slot_list_append ⟨_,e,rfl⟩ F.entry_list_append (F.args_list_append_2 _ _) (PySem.list_append l its.toArray n u (by rw[am];omega)) ⟨e,?_⟩;refine⟨.non,_,I.lset (its':=its++[u]) hH e (by simp) (r.append (.cons ru .nil)) ?_,rfl,q⟩;rw[bb,List.length_singleton];omega
def zQ2:V->List V->Hp->VK->Prop:=λx vs H Q=>∃l xs y,x=.ref l/\vs=[]/\H l=some (.lst xs)/\xs[xs.length-1]?=some y/\Q y (upd H l (.lst xs.dropLast))
theorem XS:MtM X "list.pop" zQ2:=by
 intro pZ s σ H x vs v us Q I rx rv h;obtain⟨l,xs,y,rfl,rfl,hH,hy,q⟩:=h;cases rx;have hus:=rv.zero;subst hus;obtain⟨z,its,n,r,hl,e⟩:=I.lstM hH;obtain⟨u,hu,ru⟩:=r.get hy;have hy':its.toArray[its.toArray.size-1]?=some u:=by
  show its.toArray[its.length-1]?=some u;rw[<-gu,<-hl];exact hu
 refine oi F.slot_list_pop ⟨_,e,rfl⟩ F.entry_list_pop (F.args_list_pop_1 _) (MeetsSeq.list_pop_last l its.toArray n u hy' (by rw[am];omega)) ⟨e,?_⟩;refine⟨y,_,I.lset (its':=its.dropLast) hH e ?_ r.dropLast ?_,ru,q⟩
 ·show its.toArray.eraseIdxIfInBounds (its.toArray.size-1)=its.dropLast.toArray;rw[am,ra,rA]
 ·rw[List.length_dropLast];omega
def zKF:V->List V->Hp->VK->Prop:=λx vs H Q=>∃l xs i k y,x=.ref l/\vs=[.int i]/\H l=some (.lst xs)/\-(2 ^ 63)<=i/\i<2 ^ 63/\seqIndex? i xs.length=some k/\xs[k]?=some y/\Q y (upd H l (.lst (xs.eraseIdx k)))
theorem zBA:MtM X "list.pop" zKF:=by
 intro pZ s σ H x vs v us Q I rx rv h;obtain⟨l,xs,i,k,y,rfl,rfl,hH,h1,h2,hk,hy,q⟩:=h;cases rx;obtain⟨u,rfl,ru⟩:=rv.one;obtain⟨t,rfl⟩:=ru;obtain⟨z,its,n,r,hl,e⟩:=I.lstM hH;obtain⟨w,hw,rw'⟩:=r.get hy;refine oi F.slot_list_pop ⟨_,e,rfl⟩ F.entry_list_pop (F.args_list_pop_2 _ _)
  (MeetsSeq.list_pop_at l its.toArray n i t k w (fitsIndex_both h1 h2) (by rw[am,<-hl];exact hk) (by rw[<-gu];exact hw) (by rw[am];omega)) ⟨e,?_⟩
 refine⟨y,_,I.lset (its':=its.eraseIdx k) hH e ?_ (r.eraseIdx k) ?_,rw',q⟩
 ·show its.toArray.eraseIdxIfInBounds k=(its.eraseIdx k).toArray;rw[ra]
 ·have:=nQ xs k
  omega
end
end L2
namespace Att
open PySem PySem.W PySem.Calls PyProof.Rows
theorem uB:∀(ns:List Int) (vs:List Value),WellAll P h vs (ns.map WData.int)->IntsAre vs ns:=by
 intro ns
 induction ns with
 |nil=>
  intro vs w;rw[jw] at w;cases w;exact .nil
 |cons n ns ih=>
  intro vs w;rw[aq] at w;cases w with
  |cons a b=>
   cases a;exact .cons _ _ (ih _ b)
theorem YZ{l:OpenLaw}{n:Nat}(hn:l.most=some n){P:Params}{h:Heap}{args:List WData}{vals:List Value}(hpre:l.row.toRowW.claim.pre args=true)(hwl:WellAll P h vals args):∃a vs ns,vals=[Value.ref a]/\args=[WData.list (ns.map WData.int)]/\h.get? a=some { cls:=.type "list",data:=.seq vs.toArray }/\IntsAre vs ns/\ns.length<=n:=by
 have hsh:WShape.hasAll [] args [.list .int]=true:=(pre_splitW hpre).1;have hc:l.pre.holds [] { args:=args } = true:=(pre_splitW hpre).2;obtain⟨d,r,rfl,h1,h2⟩:=hasAllW_cons hsh;obtain rfl:=hasAllW_nil h2;obtain⟨xs,rfl,h3⟩:=hasW_list h1;obtain⟨ns,rfl⟩:=items_int h3;have hlen:ns.length<=n:=by
  unfold OpenLaw.pre at hc;have h4:(WTm.not (.lt (.lit (.int (n:Int))) (.len (.arg 0)))).holds [] { args:=[.list (ns.map .int)] } = true:=by
   have h4:=(holds_andW hc).1;rw[hn] at h4;exact h4
  have h5:=condW_of h4 (w_not (w_lt w_lit (w_len_list (w_arg rfl))));rw[ak] at h5;refine lg λq=>?_
  have q':(n:Int)<((ns.length:Nat):Int):=by omega
  first
   |(rw[decide_eq_true q'] at h5;exact absurd h5 (by decide))
   |(simp at h5;omega)
 cases hwl with
 |cons w1 w2=>
  cases w2;cases w1 with
  |list ho hall=>exact⟨_,_,ns,rfl,rfl,ho,uB ns _ hall,hlen⟩
theorem Y6(l:OpenLaw)(args:List WData):l.row.toRowW.claim.post args (.bool true) args=true:=
 postW_of (r:=l.row.toRowW) (X:=(true == true))
  (show WShape.has [] (.bool true) .bool=true by first|rfl|decide|simp[WShape.has,WShape.arms,WShape.armsAll])
  (show(WTm.eq .res (.lit (.bool true))).value [] { args:=args,res:=some (.bool true),after:=args } = some (.bool (true == true)) from w_eq_bool (w_res rfl) w_lit) rfl
theorem attach_call{l:OpenLaw}{n:Nat}{q:Program}{loose:List Str}{XP:(Str->Option Value)->Heap->Prop}{YP:World->Heap->Prop}{d:DefRec}(hn:l.most=some n)(hdf:d.params.defaults=[])(call:∀(w:World) (s₀ s₁:Shared) (mg mb:Str->Option Value) (fa:Addr) (o:Obj) (pm cd doc:Value) (a:Addr) (vs:List Value) (ns:List Int),
   Ground q loose [] XP w s₀ mg mb s₁.heap->YP w s₁.heap ->
   s₁.heap.get? fa=some o->o.data=.func (docDef d.name d.params d.body d.scope pm cd doc)->s₁.heap.CodeRec cd d.name->mg d.name=some (.ref fa) ->
   s₁.heap.get? a=some { cls:=.type "list",data:=.seq vs.toArray }->IntsAre vs ns->ns.length<=n->s₁.gens = #[] ->
   codeAny (model l.prog w) callerA (.call (.ref fa) ⟨[.ref a],[]⟩) (λr s'=>r=.ok (.ret (.bool true))/\OldK s₁.heap s'.heap/\s'.os=s₁.os/\AllBare s'.gens) s₁):WalkO q loose XP YP l.row.toRowW d [] (λf vs=>PySem.call f vs):=by
 intro w s₀ s₁ mg mb G Y fa o pm cd doc dV kV ho hd hcd hD hmg hg args vals as hpre hlay hrd hwl hlo;obtain rfl:dV=.none:=Dflts.none hD hdf;obtain rfl:kV=.none:=Dflts.noKw hD;obtain⟨a,vs,ns,rfl,rfl,hobj,hints,hlen⟩:=YZ hn hpre hwl;refine enter_call (qu (call w s₀ s₁ mg mb fa o pm cd doc a vs ns G Y ho (fd_plain hd) hcd hmg hobj hints hlen hg) λr s' hq=>?_);obtain⟨rfl,h2,h3,h4⟩:=hq;exact⟨.inl ⟨.bool true,.bool true,[],rfl,λ_=>rfl,.bool true,Y6 l _,λ_=>⟨List.Pairwise.nil,λ_ hm=>(nomatch hm)⟩⟩,h2,h3,h4⟩
end Att
namespace L2
open PySem PySem.Spec PyProof.Rows
theorem mK:∀{vs:List Value} {ns:List Int},IntsAre vs ns->Vals (ns.map V.int) vs
 |_,_,.nil=>.nil
 |_,_,.cons n t h=>.cons ⟨t,rfl⟩ (mK h)
def zQB(H:Hp):Prop:=∀b,H b=none\/∃o xs,H b=some (.frz o (.lst xs))
theorem zBJ{K:Fg}(KX:K.In s₁.heap)(hns:s₁.heap.Ns ay mg)(hb:s₁.heap.Ns builtinsNs mb)(hbb:∀x:Str,x ≠ "__name__" -> mb x=bootBuiltins x)(hlim:s₁.heap.NoLimit)(hg:s₁.gens = #[])(ha:s₁.heap.get? a=some { cls:=.type "list",data:=.seq vs.toArray })(hi:IntsAre vs ns)(hl:ns.length<=af)(hr:Room k callerA)(F:∀base:Heap,K.In base->base.Ns ay mg->FnOk P w K mg base CX k fa fd [x] sp)(hbind:∀(s:Shared) (u:Value),BindsTo s fd ⟨[u],[]⟩ [(x,u)])(hsp:∀H:Hp,zQB H->SqL K H a (ns.map V.int)->sp [.ref a] H (λv _=>v=.bl true) λ_ _ _=>False)(hCX:∀H e s',CX [] H s₁ (λ_ _ _=>False) e s'->False):codeAny (model P w) callerA (.call (.ref fa) ⟨[.ref a],[]⟩) (λr s'=>r=.ok (.ret (.bool true))/\OldK s₁.heap s'.heap/\s'.os=s₁.os/\AllBare s'.gens) s₁:=by
 have rv:=mK hi;have lenV:=hi.length;have core:∀H:Hp,zQB H->SqL K H a (ns.map V.int)->HOk P w H s₁.heap->(∀b,H b≠none->b=a)->(H a≠none->K.lookup a=none) ->
   codeAny (model P w) callerA (.call (.ref fa) ⟨[.ref a],[]⟩) (λr s'=>r=.ok (.ret (.bool true))/\OldK s₁.heap s'.heap/\s'.os=s₁.os/\AllBare s'.gens) s₁:=by
  intro H hO hS hok hA hK;have base_of:∀{b:Addr} {o:Obj},s₁.heap.get? b=some o->H b=none->(zIL s₁.heap H).get? b=some o:=λe n=>zBO e n
  have noA:∀{b:Addr} {o:Obj} {es:Array DictEntry} {ep:Nat},s₁.heap.get? b=some o->o.data=.dict es ep->H b=none:=λ{b o es ep} e d=>by
   cases q:H b with
   |none=>rfl
   |some u=>
    have e':b=a:=hA b (by rw[q];simp);subst e';rw[ha] at e;cases e;have d':Data.seq vs.toArray _=Data.dict es ep:=d;cases d'
  have nsK:∀{b:Addr} {m:Str->Option Value},s₁.heap.Ns b m->(zIL s₁.heap H).Ns b m:=λ{b m} ⟨o,es,ep,e,d,r⟩=>⟨o,es,ep,base_of e (noA e d),d,r⟩
  have hKb:K.In (zIL s₁.heap H):=λb o e=>base_of (KX b o e) (by
   cases q:H b with
   |none=>rfl
   |some u=>
    have e':b=a:=hA b (by rw[q];simp);subst e';rw[hK (by rw[q];simp)] at e;cases e)
  have hM:Mod K mg (zIL s₁.heap H):=⟨hKb,nsK hns,⟨mb,nsK hb,hbb⟩,let ⟨mc,h1,h2⟩:=hlim;⟨mc,nsK h1,h2⟩⟩;have e0:Env0 P w K mg (zIL s₁.heap H) callerA [] s₁ H:=⟨rfl,hM,λb o e=>zFG e,jj (X5 _ _),trivial,⟨λb hb=>absurd (show b∈([]:List Addr) from hb) (by simp),trivial⟩,hok,.of_eq hg⟩;refine qu ((F _ hKb (nsK hns)).run callerA [] s₁ H ⟨[.ref a],[]⟩ [.ref a] [.ref a] _ _ hr e0 (hbind s₁ (.ref a)) (.cons rfl .nil) (hsp H hO hS)) λr s' h=>?_
  cases r with
  |error e=>exact(hCX H e s' h).elim
  |ok fl=>
   cases fl with
   |next=>exact False.elim h
   |brk=>exact False.elim h
   |cont=>exact False.elim h
   |ret u=>
    obtain⟨v,H',os,bare,un,hok',r',q⟩:=h;have q':v=.bl true:=q;subst q';obtain rfl:u=Value.bool true:=r';refine⟨rfl,OldK.of_keep λb o e=>?_,os,bare⟩;cases q:H b with
    |none=>exact un.keep b o e q (by intro z;exact absurd (show b∈([]:List Addr) from z) (by simp)) (by simp)
    |some u=>
     rcases hO b with z|⟨ob,xs,z⟩
     ·rw[q] at z;cases z
     ·have z2:=un.frzs b ob _ z;obtain⟨e1,_⟩:=hok b _ z;obtain⟨e2,_⟩:=hok' b _ z2;rw[e] at e1;cases e1;exact e2
 cases hk:K.lookup a with
 |some o=>
  have e:=KX a o hk;rw[ha] at e;cases e;refine core (λ_=>none) (λ_=>.inl rfl) (.inr ⟨_,vs.toArray,_,hk,rfl,rfl,rfl,by rw[am,lenV];exact hl,by simpa using rv⟩) (λb u z=>by have z':(none:Option HO)=some u:=z;cases z') (λb z=>absurd rfl z) λz=>absurd rfl z
 |none=>
  refine core (λb=>if b=a then some (.frz { cls:=.type "list",data:=.seq vs.toArray } (.lst (ns.map V.int))) else none) (λb=>?_) (.inl (.inr ⟨{ cls:=.type "list",data:=.seq vs.toArray },if_pos rfl⟩)) (λb u z=>?_) (λb z=>?_) λ_=>hk
  ·by_cases hb:b=a
   ·exact .inr ⟨_,_,if_pos hb⟩
   ·exact .inl (if_neg hb)
  ·by_cases hb:b=a
   ·have z':=(if_pos hb).symm.trans z;cases z';subst hb;exact⟨ha,by rw[ak];exact hl,vs,_,rv,ha⟩
   ·have z':=(if_neg hb).symm.trans z;cases z'
  ·by_cases hb:b=a
   ·exact hb
   ·exact absurd (if_neg hb) z
end L2
namespace L2
open PySem PySem.Spec PyProof.Rows
theorem zC8{l:PySem.W.OpenLaw}{n k:Nat}{q:Program}{loose:List Str}{XP:(Str->Option Value)->Heap->Prop}{YP:World->Heap->Prop}{d:DefRec}{K:Params->Fg}{CX:World->CXT}{sp:World->Sp}{x:Str}(hn:l.most=some n)(hn2:n<=af)(hdf:d.params.defaults=[])(hr:Room k callerA)(hY:∀(w:World) (h:Heap),YP w h->(K w.params).In h)(F:∀(w:World) (mg:Str->Option Value) (fa:Addr) (h:Heap),(K w.params).In h->h.Ns ay mg->mg d.name=some (.ref fa) ->
   ∃fd:FuncData,(∀(s:Shared) (u:Value),BindsTo s fd ⟨[u],[]⟩ [(x,u)]) /\
    ∀base:Heap,(K w.params).In base->base.Ns ay mg->FnOk l.prog w (K w.params) mg base (CX w) k fa fd [x] (sp w))(hsp:∀(w:World) (H:Hp) (a:Addr) (ns:List Int),ns.length<=n->zQB H->SqL (K w.params) H a (ns.map V.int)->sp w [.ref a] H (λv _=>v=.bl true) λ_ _ _=>False)(hCX:∀(w:World) (H:Hp) (s:Shared) (e:Value) (s':Shared),CX w [] H s (λ_ _ _=>False) e s'->False):PySem.W.WalkO q loose XP YP l.row.toRowW d [] (λf vs=>PySem.call f vs):=by
 refine Att.attach_call hn hdf λw s₀ s₁ mg mb fa o pm cd doc a vs ns G Y ho hd hcd hmg hobj hints hlen hg=>?_
 have KX:=hY w _ Y;obtain⟨fd,hb,hF⟩:=F w mg fa _ KX G.T.g hmg;exact zBJ KX G.T.g G.T.b G.T.builtins G.T.nolimit hg hobj hints (bv hlen hn2) hr hF hb (λH hO hS=>hsp w H a ns hlen hO hS) λH e s'=>hCX w H s₁ e s'
theorem walk_ofK{l:PySem.W.OpenLaw}{n k:Nat}{q:Program}{loose:List Str}{XP:(Str->Option Value)->Heap->Prop}{YP:World->Heap->Prop}{d:DefRec}{K:Params->Fg}{CX:CXT}{sp:Fg->Sp}{x:Str}(hn:l.most=some n)(hn2:n<=af)(hdf:d.params.defaults=[])(hr:Room k callerA)(hY:∀(w:World) (h:Heap),YP w h->(K w.params).In h)(F:∀(w:World) (mg:Str->Option Value) (fa:Addr) (h:Heap),(K w.params).In h->h.Ns ay mg->mg d.name=some (.ref fa) ->
   ∃fd:FuncData,(∀(s:Shared) (u:Value),BindsTo s fd ⟨[u],[]⟩ [(x,u)]) /\
    ∀base:Heap,(K w.params).In base->base.Ns ay mg->FnOk l.prog w (K w.params) mg base CX k fa fd [x] (sp (K w.params)))(hsp:∀(K:Fg) (H:Hp) (a:Addr) (ns:List Int),ns.length<=n->zQB H->SqL K H a (ns.map V.int)->sp K [.ref a] H (λv _=>v=.bl true) λ_ _ _=>False)(hCX:∀(H:Hp) (s:Shared) (e:Value) (s':Shared),CX [] H s (λ_ _ _=>False) e s'->False):PySem.W.WalkO q loose XP YP l.row.toRowW d [] (λf vs=>PySem.call f vs):=
 zC8 (K:=K) (CX:=λ_=>CX) (sp:=λw=>sp (K w.params)) hn hn2 hdf hr hY F (λw H a ns h1 h2 h3=>hsp (K w.params) H a ns h1 h2 h3) λ_ H s e s'=>hCX H s e s'
end L2
namespace L2
open PySem PySem.Spec PyProof.Rows
noncomputable def vB(s:Stmt):Arguments:=match s with
 |.FunctionDef _ a _ _ _ _ _ _ _ _=>a
 |_=>{ posonlyargs:=[],args:=[],vararg:=none,kwonlyargs:=[],kw_defaults:=[],kwarg:=none,defaults:=[] }
noncomputable def qS(s:Stmt):List Stmt:=match s with
 |.FunctionDef _ _ b _ _ _ _ _ _ _=>b
 |_=>[]
noncomputable def zG(s:Stmt):Scope:=match s with
 |.FunctionDef _ _ _ _ _ _ sc _ _ _=>sc
 |_=>{ kind:=.function,names:=[],isGenerator:=false,isCoroutine:=false }
noncomputable abbrev CX0:CXT:=λ_ _ _ _ _ _=>False
noncomputable abbrev E0:XK:=λ_ _ _=>False
theorem nA:cW CX0 X E0:=λ_ _ _ _ _ _ _ h=>h.elim
structure Fun(K:Fg)(x qual:Str)(st:Stmt)(f:Addr)(fd:FuncData):Prop where
 ex:∃(oc:Value) (od:Option Addr) (kV doc pm:Value) (an:Option Addr) (cdv ct:Value) (osl:Array (Option Value)),
  fd=PySem.W.fnOf x qual (vB st) (qS st) (zG st) .none kV doc pm an cdv ct/\K.lookup f=some ⟨oc,od,.func fd,osl⟩/\PySem.W.codeIn K cdv qual=true
 kp:PySem.W.keepIn K (.ref f)=true
section
variable{K:Fg}
theorem Fun.ok{st:Stmt}(F:Fun K x qual st f fd)(S:FnScope N ps (zG st))(len:∀vs H Q E,sp vs H Q E->vs.length=ps.length)(hbody:∀(cdv:Value) (A:Around) (outer:List Env) (s:Shared) (H:Hp) (vs:List V) (Q:VK) (E:XK),Room k (A.deeper (envOfC qual (zG st) s.heap.objs.size f cdv))->sp vs H Q E ->
   ∃t,PSs (zIM CX0 P w K mg base N qual (zG st) f cdv A outer s H E).nox (qS st) t/\t { nx:=λ_ H'=>Q .non H',rt:=Q } (start N vs) H):FnOk P w K mg base CX0 (k+1) f fd ps sp:=by
 obtain⟨oc,od,kV,doc,pm,an,cdv,ct,osl,rfl,lk,hcd⟩:=F.ex;refine zNX lk hcd S len λA outer s H vs Q E hr hsp=>?_
 obtain⟨t,h,q⟩:=hbody cdv A outer s H vs Q E hr hsp;exact⟨t,h.nox,q⟩
theorem Fun.binds{st:Stmt}(F:Fun K x qual st f fd)(h:∀(kV doc pm:Value) (an:Option Addr) (cdv ct:Value) (us:List Value),us.length=ps.length->bindArgs (PySem.W.fnOf x qual (vB st) (qS st) (zG st) .none kV doc pm an cdv ct) ⟨us,[]⟩=pure (ps.zip us)):Binds K fd ps []:=by
 obtain⟨oc,od,kV,doc,pm,an,cdv,ct,osl,rfl,lk,hcd⟩:=F.ex;exact .all (h kV doc pm an cdv ct)
theorem X8{st:Stmt}{kV:Value}(l:K.lookup f=some ⟨oc,od,.func (PySem.W.fnOf x qual (vB st) (qS st) (zG st) .none kV doc pm an cdv ct),osl⟩)(c:PySem.W.codeIn K cdv qual=true)(k:PySem.W.keepIn K (.ref f)=true):Fun K x qual st f (PySem.W.fnOf x qual (vB st) (qS st) (zG st) .none kV doc pm an cdv ct):=⟨⟨oc,od,kV,doc,pm,an,cdv,ct,osl,rfl,l,c⟩,k⟩
end
section
variable{X:Cx}
theorem pv(i:Nat)(hN:X.N[i]?=some x:=by rfl)(hv:Vis X.env.scope x:=by first|exact Or.inl rfl|exact Or.inr (Or.inl rfl)|exact Or.inr (Or.inr rfl))(hd:(x == ("__debug__" : Str))=false:=by decide)(hcd:(x == ("__classdict__" : Str))=false:=by decide):PE X (.Name x pos) (vG i):=zKO hN hv hd hcd
end
theorem zNW{A B:Prop}(h:B):if false=true then A else B:=by
 rw[if_neg ax];exact h
theorem zNV{A B:Prop}(h:A):if true=true then A else B:=by
 rw[if_pos rfl];exact h
def Same(H H':Hp):Prop:=∀b o,H b=some o->H' b=some o
theorem Same.refl(H:Hp):Same H H:=λ_ _ h=>h
theorem Same.trans(a:Same H H1)(b:Same H1 H2):Same H H2:=λc o h=>b c o (a c o h)
theorem Same.free(e:Same H H')(h:H' l=Option.none):H l=Option.none:=by
 cases q:H l with
 |none=>rfl
 |some o=>
  rw[e l o q] at h;cases h
theorem Same.seq{K:Fg}(e:Same H H')(h:SqL K H a xs):SqL K H' a xs:=by
 rcases h with(h|⟨o,h⟩)|h
 ·exact .inl (.inl (e _ _ h))
 ·exact .inl (.inr ⟨o,e _ _ h⟩)
 ·exact .inr h
end L2
namespace DD
open PySem PySem.Spec PyProof.Rows L2
abbrev St:=L2.St
inductive D where
 |non|bl (b:Bool)|int (i:Int)|str (s:List Nat)|tup (l:List D)|lst (l:List D)|ty (n:String)|ref (a:Addr)|dct (ks:List Key) (l:List D)
def LsAt(K:Fg)(O:Addr->Prop)(H:Hp)(a:Addr)(xs:List V):Prop:=
 (¬O a/\Rd H a (.lst xs))\/∃(o:Obj) (its:Array Value) (n:Nat),K.lookup a=some o/\o.cls=.type "list" /\ o.dict=none/\o.data=.seq its n/\its.size<=af/\Vals xs its.toList
theorem LsAt.sq{K:Fg}(h:LsAt K O H a xs):SqL K H a xs:=h.imp (·.2) id
mutual
def Is(K:Fg)(O:Addr->Prop)(H:Hp):D->V->Prop
 |.non,v=>v=.non
 |.bl b,v=>v=.bl b
 |.int i,v=>v=.int i
 |.str s,v=>v=.str ⟨s.toArray⟩
 |.ty n,v=>v=.ty n
 |.ref a,v=>v=.ref a
 |.tup l,v=>∃a xs,v=.ref a/\SqT K H a xs/\IsL K O H l xs
 |.lst l,v=>∃a xs,v=.ref a/\LsAt K O H a xs/\IsL K O H l xs
 |.dct ks l,v=>∃a kvs,v=.ref a/\¬O a/\Rd H a (.dK kvs)/\kvs.map (·.1)=ks/\IsL K O H l (kvs.map (·.2))
def IsL(K:Fg)(O:Addr->Prop)(H:Hp):List D->List V->Prop
 |[],vs=>vs=[]
 |d::l,vs=>∃v r,vs=v::r/\Is K O H d v/\IsL K O H l r
end
def Mb:HO->Prop
 |.lst _=>True
 |.dK _=>True
 |.frz _ (.dK _)=>True
 |.ins _ _ _=>True
 |_=>False
def j9(O:Addr->Prop)(H:Hp):Prop:=∀a,O a->∃o,H a=some o/\Mb o
def oR(O:Addr->Prop)(H H':Hp):Prop:=∀b o,H b=some o->¬O b->H' b=some o
theorem Rd.some(h:Rd H a u):∃o,H a=some o:=by
 rcases h with h|⟨o,h⟩
 ·exact⟨_,h⟩
 ·exact⟨_,h⟩
theorem SqT.keep{K:Fg}(k:oR O H H')(o:j9 O H)(h:SqT K H a xs):SqT K H' a xs:=by
 rcases h with(h|⟨ob,h⟩)|h
 ·exact .inl (.inl (k _ _ h λz=>by obtain⟨ys,q,m⟩:=o a z;rw[h] at q;cases q;exact m))
 ·exact .inl (.inr ⟨ob,k _ _ h λz=>by obtain⟨ys,q,m⟩:=o a z;rw[h] at q;cases q;exact m⟩)
 ·exact .inr h
theorem Rd.keep(k:oR O H H')(n:¬O a)(h:Rd H a u):Rd H' a u:=by
 rcases h with h|⟨ob,h⟩
 ·exact .inl (k _ _ h n)
 ·exact .inr ⟨ob,k _ _ h n⟩
mutual
theorem Is.mono{K:Fg}(k:oR O H H')(ol:j9 O H)(oo:∀a,O' a->H a≠none->O a):∀(d:D) (v:V),Is K O H d v->Is K O' H' d v
 |.non,v,h=>by unfold Is at h ⊢;exact h
 |.bl b,v,h=>by unfold Is at h ⊢;exact h
 |.int i,v,h=>by unfold Is at h ⊢;exact h
 |.str s,v,h=>by unfold Is at h ⊢;exact h
 |.ty n,v,h=>by unfold Is at h ⊢;exact h
 |.ref a,v,h=>by unfold Is at h ⊢;exact h
 |.tup l,v,h=>by
  unfold Is at h ⊢;obtain⟨a,xs,e,q,r⟩:=h;exact⟨a,xs,e,SqT.keep k ol q,IsL.mono k ol oo l xs r⟩
 |.lst l,v,h=>by
  unfold Is at h ⊢;obtain⟨a,xs,e,nq,r⟩:=h;refine⟨a,xs,e,?_,IsL.mono k ol oo l xs r⟩;rcases nq with⟨n,q⟩|q
  ·exact .inl ⟨λz=>n (oo a z (by obtain⟨o,q⟩:=Rd.some q;rw[q];simp)),Rd.keep k n q⟩
  ·exact .inr q
 |.dct ks l,v,h=>by
  unfold Is at h ⊢;obtain⟨a,kvs,e,n,q,e2,r⟩:=h;exact⟨a,kvs,e,λz=>n (oo a z (by obtain⟨o,q⟩:=Rd.some q;rw[q];simp)),Rd.keep k n q,e2,IsL.mono k ol oo l _ r⟩
theorem IsL.mono{K:Fg}(k:oR O H H')(ol:j9 O H)(oo:∀a,O' a->H a≠none->O a):∀(l:List D) (vs:List V),IsL K O H l vs->IsL K O' H' l vs
 |[],vs,h=>by unfold IsL at h ⊢;exact h
 |d::l,vs,h=>by
  unfold IsL at h ⊢;obtain⟨v,r,e,h1,h2⟩:=h;exact⟨v,r,e,Is.mono k ol oo d v h1,IsL.mono k ol oo l r h2⟩
end
theorem Same.kp(s:Same H H')(O:Addr->Prop):oR O H H':=λb o e _=>s b o e
theorem Is.same{K:Fg}(s:Same H H')(ol:j9 O H)(h:Is K O H d v):Is K O H' d v:=Is.mono (Same.kp s O) ol (λ_ z _=>z) d v h
theorem IsL.same{K:Fg}(s:Same H H')(ol:j9 O H)(h:IsL K O H l vs):IsL K O H' l vs:=IsL.mono (Same.kp s O) ol (λ_ z _=>z) l vs h
section
variable{K:Fg}
theorem IsL.length:∀{l:List D} {vs:List V},IsL K O H l vs->l.length=vs.length
 |[],vs,h=>by unfold IsL at h;subst h;rfl
 |d::l,vs,h=>by unfold IsL at h;obtain⟨v,r,rfl,_,h2⟩:=h;simp[IsL.length h2]
theorem IsL.get:∀{l:List D} {vs:List V} {i:Nat} {d:D},IsL K O H l vs->l[i]?=some d->∃v,vs[i]?=some v/\Is K O H d v
 |[],_,_,_,_,e=>by simp at e
 |d::l,vs,0,d',h,e=>by
  unfold IsL at h;obtain⟨v,r,rfl,h1,h2⟩:=h;simp at e;subst e;exact⟨v,rfl,h1⟩
 |d::l,vs,i+1,d',h,e=>by
  unfold IsL at h;obtain⟨v,r,rfl,h1,h2⟩:=h;obtain⟨u,q1,q2⟩:=IsL.get (i:=i) h2 (by simpa using e);exact⟨u,by simpa using q1,q2⟩
theorem IsL.nil:IsL K O H [] []:=by unfold IsL;rfl
theorem IsL.cons(h:Is K O H d v)(t:IsL K O H l vs):IsL K O H (d::l) (v::vs):=by unfold IsL;exact⟨v,vs,rfl,h,t⟩
theorem IsL.append:∀{l m:List D} {vs us:List V},IsL K O H l vs->IsL K O H m us->IsL K O H (l++m) (vs++us)
 |[],_,_,_,h,t=>by unfold IsL at h;subst h;exact t
 |d::l,m,vs,us,h,t=>by unfold IsL at h;obtain⟨v,r,rfl,h1,h2⟩:=h;exact .cons h1 (IsL.append h2 t)
theorem IsL.take:∀{l:List D} {vs:List V} (n:Nat),IsL K O H l vs->IsL K O H (l.take n) (vs.take n)
 |_,_,0,_=>by simpa using IsL.nil
 |[],_,_+1,h=>by unfold IsL at h;subst h;simpa using IsL.nil
 |d::l,vs,n+1,h=>by unfold IsL at h;obtain⟨v,r,rfl,h1,h2⟩:=h;exact .cons h1 (IsL.take n h2)
theorem IsL.drop:∀{l:List D} {vs:List V} (n:Nat),IsL K O H l vs->IsL K O H (l.drop n) (vs.drop n)
 |_,_,0,h=>h
 |[],_,_+1,h=>by unfold IsL at h;subst h;simpa using IsL.nil
 |d::l,vs,n+1,h=>by unfold IsL at h;obtain⟨v,r,rfl,h1,h2⟩:=h;exact IsL.drop n h2
theorem IsL.reverse:∀{l:List D} {vs:List V},IsL K O H l vs->IsL K O H l.reverse vs.reverse
 |[],_,h=>by unfold IsL at h;subst h;exact IsL.nil
 |d::l,vs,h=>by
  unfold IsL at h;obtain⟨v,r,rfl,h1,h2⟩:=h;rw[jh,jh];exact(IsL.reverse h2).append (.cons h1 .nil)
theorem IsL.inv1(h:IsL K O H [d] vs):∃v,vs=[v]/\Is K O H d v:=by
 unfold IsL at h;obtain⟨v,r,rfl,h1,h2⟩:=h;unfold IsL at h2;subst h2;exact⟨v,rfl,h1⟩
theorem IsL.inv2(h:IsL K O H [d,e] vs):∃v u,vs=[v,u]/\Is K O H d v/\Is K O H e u:=by
 unfold IsL at h;obtain⟨v,r,rfl,h1,h2⟩:=h;obtain⟨u,rfl,h3⟩:=h2.inv1;exact⟨v,u,rfl,h1,h3⟩
theorem IsL.inv3(h:IsL K O H [d,e,f] vs):∃v u w,vs=[v,u,w]/\Is K O H d v/\Is K O H e u/\Is K O H f w:=by
 unfold IsL at h;obtain⟨v,r,rfl,h1,h2⟩:=h;obtain⟨u,w,rfl,h3,h4⟩:=h2.inv2;exact⟨v,u,w,rfl,h1,h3,h4⟩
theorem Is.int_iff:Is K O H (.int i) v↔v=.int i:=by unfold Is;exact oq
theorem Is.bl_iff:Is K O H (.bl b) v↔v=.bl b:=by unfold Is;exact oq
theorem Is.str_iff:Is K O H (.str s) v↔v=.str ⟨s.toArray⟩:=by unfold Is;exact oq
theorem Is.non_iff:Is K O H .non v↔v=.non:=by unfold Is;exact oq
theorem Is.ty_iff:Is K O H (.ty n) v↔v=.ty n:=by unfold Is;exact oq
theorem Is.ref_iff:Is K O H (.ref a) v↔v=.ref a:=by unfold Is;exact oq
theorem Is.tup_iff:Is K O H (.tup l) v↔∃a xs,v=.ref a/\SqT K H a xs/\IsL K O H l xs:=by unfold Is;exact oq
theorem Is.lst_iff:Is K O H (.lst l) v↔∃a xs,v=.ref a/\LsAt K O H a xs/\IsL K O H l xs:=by unfold Is;exact oq
theorem Is.dct_iff:Is K O H (.dct ks l) v↔∃a kvs,v=.ref a/\¬O a/\Rd H a (.dK kvs)/\kvs.map (·.1)=ks/\IsL K O H l (kvs.map (·.2)):=by unfold Is;exact oq
end
inductive Sl where
 |un|v (d:D)|o (l:List D)|p (l:List D)|z (l:List D)|d (b:Bool) (ks:List Key) (l:List D)
noncomputable abbrev En:=List Sl
noncomputable def Sl.own:Sl->Option (List D)
 |.o l=>some l
 |.p l=>some l
 |.z l=>some l
 |.d _ _ l=>some l
 |_=>none
noncomputable def Sl.mt:Sl->Option (List D)
 |.o l=>some l
 |.p l=>some l
 |.d _ _ l=>some l
 |_=>none
noncomputable def Sl.ls:Sl->Option (List D)
 |.o l=>some l
 |.p l=>some l
 |.z l=>some l
 |_=>none
noncomputable def Sl.ml:Sl->Option (List D)
 |.o l=>some l
 |.p l=>some l
 |_=>none
theorem zFY{x:Sl}{l:List D}(h:x.ml=some l):x.mt=some l/\x.ls=some l:=by
 cases x<;>first|(cases h;exact⟨rfl,rfl⟩)|cases h
theorem zLQ{x:Option Sl}{l:List D}(h:x.bind Sl.ml=some l):x.bind Sl.mt=some l:=by
 cases x with
 |none=>cases h
 |some x=>exact(zFY (x:=x) h).1
theorem zLT{x:Sl}{l:List D}(h:x.ls=some l):x.own=some l:=by
 cases x<;>first|(cases h;rfl)|cases h
theorem j4{x:Option Sl}{l:List D}(h:x.bind Sl.ls=some l):x.bind Sl.own=some l:=by
 cases x with
 |none=>cases h
 |some x=>exact zLT (x:=x) h
theorem zE6(h:x.bind Sl.own=some l):x.bind Sl.ls=some l\/∃f ks,x=some (.d f ks l):=by
 cases x with
 |none=>cases h
 |some x=>cases x<;>first|(cases h;exact .inl rfl)|(cases h;exact .inr ⟨_,_,rfl⟩)|cases h
noncomputable def Sl.pk:Sl->Option Bool
 |.p _=>some false
 |.d true _ _=>some true
 |_=>none
theorem cA{x:Option Sl}{k:Bool}(h:x.bind Sl.pk=some k):∃l,x.bind Sl.own=some l:=by
 cases x with
 |none=>cases h
 |some x=>cases x<;>first|(cases h;done)|exact⟨_,rfl⟩
theorem zQP(h:x.bind Sl.pk=some false):∃l,x=some (.p l):=by
 cases x with
 |none=>cases h
 |some x=>cases x with
  |d f ks l=>cases f<;>cases h
  |p l=>exact⟨l,rfl⟩
  |_=>cases h
theorem zR7(h:x.bind Sl.pk=some true):∃ks l,x=some (.d true ks l):=by
 cases x with
 |none=>cases h
 |some x=>cases x with
  |d f ks l=>cases f<;>first|(cases h;done)|exact⟨ks,l,rfl⟩
  |_=>cases h
def AtS(q:Sl->Option (List D))(r:En)(σ:St)(a:Addr):Prop:=∃(i:Nat) (l:List D),(r[i]?).bind q=some l/\σ[i]?=some (some (.ref a))
abbrev w8:=AtS Sl.own
abbrev MutAt:=AtS Sl.mt
theorem v7{x:Sl}{l:List D}(h:x.mt=some l):x.own=some l:=by
 cases x<;>first|(cases h;rfl)|cases h
theorem MutAt.own(h:MutAt r σ a):w8 r σ a:=by
 obtain⟨i,l,e,q⟩:=h;obtain⟨x,e1,e2⟩:=nk.mp e;exact⟨i,l,by rw[e1];exact v7 e2,q⟩
def Ow(O0:Addr->Prop)(r:En)(σ:St):Addr->Prop:=λa=>O0 a\/w8 r σ a
structure R(K:Fg)(O0:Addr->Prop)(H:Hp)(r:En)(σ:St):Prop where
 len:r.length=σ.length
 val:∀(i:Nat) (d:D),r[i]?=some (.v d)->∃v,σ[i]?=some (some v)/\Is K (Ow O0 r σ) H d v
 own:∀(i:Nat) (l:List D),(r[i]?).bind Sl.ls=some l->∃a xs,σ[i]?=some (some (.ref a))/\H a=some (.lst xs)/\IsL K (Ow O0 r σ) H l xs
 apart:∀(i j:Nat) (a:Addr) (l m:List D),(r[i]?).bind Sl.own=some l->(r[j]?).bind Sl.own=some m->σ[i]?=some (some (.ref a))->σ[j]?=some (some (.ref a))->i=j
 o0:j9 O0 H
 loc:∀(i:Nat) (l:List D) (a:Addr),(r[i]?=some (.o l)\/r[i]?=some (.z l)\/∃ks,r[i]?=some (.d false ks l))->σ[i]?=some (some (.ref a))->¬O0 a
 par:∀(i:Nat) (k:Bool) (a:Addr),(r[i]?).bind Sl.pk=some k->σ[i]?=some (some (.ref a))->O0 a
 dct:∀(i:Nat) (f:Bool) (ks:List Key) (l:List D),r[i]?=some (.d f ks l)->∃a kvs,σ[i]?=some (some (.ref a))/\H a=some (.dK kvs)/\kvs.map (·.1)=ks/\IsL K (Ow O0 r σ) H l (kvs.map (·.2))
theorem R.obj{K:Fg}{O0:Addr->Prop}{H:Hp}{r:En}{σ:St}(h:R K O0 H r σ){j:Nat}{m:List D}(e:(r[j]?).bind Sl.own=some m):∃a o,σ[j]?=some (some (.ref a))/\H a=some o/\Mb o:=by
 rcases zE6 e with e|⟨f,ks,e⟩
 ·obtain⟨a,xs,e1,e2,_⟩:=h.own j m e;exact⟨a,_,e1,e2,trivial⟩
 ·obtain⟨a,kvs,e1,e2,_⟩:=h.dct j f ks m e;exact⟨a,_,e1,e2,trivial⟩
theorem R.ol{K:Fg}(h:R K O0 H r σ):j9 (Ow O0 r σ) H:=λa z=>by
 rcases z with z|⟨i,l,e,q⟩
 ·exact h.o0 a z
 ·rcases zE6 e with e|⟨f,ks,e⟩
  ·obtain⟨b,xs,e1,e2,_⟩:=h.own i l e;rw[q] at e1;cases e1;exact⟨.lst xs,e2,trivial⟩
  ·obtain⟨b,kvs,e1,e2,_⟩:=h.dct i f ks l e;rw[q] at e1;cases e1;exact⟨.dK kvs,e2,trivial⟩
theorem R.nofresh{K:Fg}(h:R K O0 H r σ)(n:H a=none):¬Ow O0 r σ a:=λz=>by
 obtain⟨o,e,_⟩:=h.ol a z;rw[n] at e;cases e
theorem R.same{K:Fg}(h:R K O0 H r σ)(s:Same H H'):R K O0 H' r σ where
 len:=h.len
 val:=λi d e=>by obtain⟨v,e1,q⟩:=h.val i d e;exact⟨v,e1,q.same s h.ol⟩
 own:=λi l e=>by obtain⟨a,xs,e1,e2,q⟩:=h.own i l e;exact⟨a,xs,e1,s _ _ e2,q.same s h.ol⟩
 dct:=λi f ks l e=>by obtain⟨a,kvs,e1,e2,e3,q⟩:=h.dct i f ks l e;exact⟨a,kvs,e1,s _ _ e2,e3,q.same s h.ol⟩
 apart:=h.apart
 o0:=λa z=>by obtain⟨xs,e,m⟩:=h.o0 a z;exact⟨xs,s _ _ e,m⟩
 loc:=h.loc
 par:=h.par
structure Kp(H:Hp)(r:En)(σ:St)(H':Hp)(r':En)(σ':St):Prop where
 keep:oR (MutAt r σ) H H'
 live:∀b,H' b=none->H b=none
 lst:∀b o,H b=some o->Mb o->∃o',H' b=some o'/\Mb o'
 new:∀b,w8 r' σ' b->w8 r σ b\/H b=none
 mnew:∀b,MutAt r' σ' b->MutAt r σ b\/H b=none
 par:∀(i:Nat) (k:Bool),(r[i]?).bind Sl.pk=some k->(r'[i]?).bind Sl.pk=some k/\σ'[i]?=σ[i]?
 fz:∀(i:Nat) (l:List D),r[i]?=some (.z l)->r'[i]?=some (.z l)/\σ'[i]?=σ[i]?
theorem Kp.of_same(r:En)(σ:St)(s:Same H H'):Kp H r σ H' r σ:=
 ⟨λb o e _=>s b o e,λb e=>s.free e,λb o e m=>⟨o,s _ _ e,m⟩,λb z=>.inl z,λb z=>.inl z,λi k e=>⟨e,rfl⟩,λi l e=>⟨e,rfl⟩⟩
theorem Kp.refl(H:Hp)(r:En)(σ:St):Kp H r σ H r σ:=.of_same r σ (Same.refl H)
theorem Kp.trans(a:Kp H r σ H1 r1 σ1)(b:Kp H1 r1 σ1 H2 r2 σ2):Kp H r σ H2 r2 σ2 where
 keep:=λc o e n=>b.keep c o (a.keep c o e n) λz=>(a.mnew c z).elim n λq=>by rw[e] at q;cases q
 live:=λc e=>a.live c (b.live c e)
 lst:=λc o e m=>by obtain⟨o1,q,m1⟩:=a.lst c o e m;exact b.lst c o1 q m1
 new:=λc z=>(b.new c z).elim (a.new c) λq=>.inr (a.live c q)
 mnew:=λc z=>(b.mnew c z).elim (a.mnew c) λq=>.inr (a.live c q)
 par:=λi k e=>by
  obtain⟨e1,q1⟩:=a.par i k e;obtain⟨e2,q2⟩:=b.par i k e1;exact⟨e2,q2.trans q1⟩
 fz:=λi l e=>by
  obtain⟨e1,q1⟩:=a.fz i l e;obtain⟨e2,q2⟩:=b.fz i l e1;exact⟨e2,q2.trans q1⟩
theorem PE.conseq(h:PE X e t)(i:∀σ H Q,t' σ H Q->t σ H Q):PE X e t':=λpZ s σ H Q I q=>h pZ s σ H Q I (i σ H Q q)
theorem PT.conseq(h:PT X e t)(i:∀σ H Q,t' σ H Q->t σ H Q):PT X e t':=λpZ s σ H Q I q=>h pZ s σ H Q I (i σ H Q q)
theorem PA.conseq(h:PA X e t)(i:∀σ H Q,t' σ H Q->t σ H Q):PA X e t':=λpos pZ s σ H Q I q=>h pos pZ s σ H Q I (i σ H Q q)
theorem PS.conseq{st:Stmt}(h:PS X st t)(i:∀D σ H,t' D σ H->t D σ H):PS X st t':=λpZ s σ H D I q=>h pZ s σ H D I (i D σ H q)
theorem PSs.conseq{st:List Stmt}(h:PSs X st t)(i:∀D σ H,t' D σ H->t D σ H):PSs X st t':=λpZ s σ H D I q=>h pZ s σ H D I (i D σ H q)
abbrev ME:=En->Option D
abbrev ML:=En->Option (List D)
abbrev MB:=En->Option Bool
def lE(K:Fg)(f:ME):TE:=λσ H Q=>∃O0 r d,R K O0 H r σ/\f r=some d/\∀v H',Same H H'->Is K (Ow O0 r σ) H' d v->Q v H'
def lT(K:Fg)(f:MB):TT:=λσ H Q=>∃O0 r b,R K O0 H r σ/\f r=some b/\∀H',Same H H'->Q b H'
def lA(K:Fg)(f:ML):TA:=λσ H Q=>∃O0 r l,R K O0 H r σ/\f r=some l/\∀vs H',Same H H'->IsL K (Ow O0 r σ) H' l vs->Q vs H'
def lF(K:Fg)(f:ML):TE:=λσ H Q=>∃O0 r l,R K O0 H r σ/\f r=some l/\∀a xs H',Same H H'->H a=none->H' a=some (.lst xs)->IsL K (λb=>Ow O0 r σ b\/b=a) H' l xs->Q (.ref a) H'
def lB(K:Fg)(f:ML):TE:=λσ H Q=>∃O0 r l,R K O0 H r σ/\f r=some l/\∀a xs H',Same H H'->SqL K H' a xs->IsL K (Ow O0 r σ) H' l xs->Q (.ref a) H'
def lX(K:Fg)(f:En->Option (D×En)):TE:=λσ H Q=>∃O0 r d r',R K O0 H r σ/\f r=some (d,r')/\∀v H',R K O0 H' r' σ->Kp H r σ H' r' σ->Is K (Ow O0 r' σ) H' d v->Q v H'
def DE(X:Cx)(e:Expr)(f:ME):Prop:=PE X e (lE X.K f)
def DT(X:Cx)(e:Expr)(f:MB):Prop:=PT X e (lT X.K f)
def DA(X:Cx)(es:List Expr)(f:ML):Prop:=PA X es (lA X.K f)
def DF(X:Cx)(e:Expr)(f:ML):Prop:=PE X e (lF X.K f)
def DB(X:Cx)(e:Expr)(f:ML):Prop:=PE X e (lB X.K f)
def DX(X:Cx)(e:Expr)(f:En->Option (D×En)):Prop:=PE X e (lX X.K f)
inductive Fl where
 |nx (r:En)|bk (r:En)|ct (r:En)|rt (d:D) (r:En)|rf (l:List D) (r:En)|rg (ks:List Key) (l:List D) (r:En)
abbrev MS:=En->Option Fl
def FrA(H:Hp)(r:En)(σ:St)(a:Addr):Prop:=H a=none\/∃(i:Nat) (l:List D),(r[i]?=some (.o l)\/∃ks,r[i]?=some (.d false ks l))/\σ[i]?=some (some (.ref a))
def PostS(K:Fg)(O0:Addr->Prop)(H:Hp)(r:En)(σ:St)(Dn:Ends):Fl->Prop
 |.nx r'=>∀σ' H',R K O0 H' r' σ'->Kp H r σ H' r' σ'->Dn.nx σ' H'
 |.bk r'=>∀σ' H',R K O0 H' r' σ'->Kp H r σ H' r' σ'->Dn.bk σ' H'
 |.ct r'=>∀σ' H',R K O0 H' r' σ'->Kp H r σ H' r' σ'->Dn.ct σ' H'
 |.rt d r'=>∀v σ' H',R K O0 H' r' σ'->Kp H r σ H' r' σ'->Is K O0 H' d v->Dn.rt v H'
 |.rf l r'=>∀a xs σ' H',R K O0 H' r' σ'->Kp H r σ H' r' σ'->FrA H r σ a->¬O0 a->H' a=some (.lst xs)->IsL K (λb=>O0 b\/b=a) H' l xs->Dn.rt (.ref a) H'
 |.rg ks l r'=>∀a kvs σ' H',R K O0 H' r' σ'->Kp H r σ H' r' σ'->FrA H r σ a->¬O0 a->H' a=some (.dK kvs)->kvs.map (·.1)=ks->IsL K (λb=>O0 b\/b=a) H' l (kvs.map (·.2))->Dn.rt (.ref a) H'
def lS(K:Fg)(g:MS):TS:=λDn σ H=>∃O0 r fl,R K O0 H r σ/\g r=some fl/\PostS K O0 H r σ Dn fl
def DS(X:Cx)(st:Stmt)(g:MS):Prop:=PS X st (lS X.K g)
def DSs(X:Cx)(st:List Stmt)(g:MS):Prop:=PSs X st (lS X.K g)
theorem PostS.before{K:Fg}{O0:Addr->Prop}{H H1:Hp}{r r1:En}{σ σ1:St}{Dn:Ends}{fl:Fl}(R1:R K O0 H1 r1 σ1)(k:Kp H r σ H1 r1 σ1)(h:PostS K O0 H r σ Dn fl):PostS K O0 H1 r1 σ1 Dn fl:=by
 have fra:∀a,FrA H1 r1 σ1 a->FrA H r σ a:=λa z=>by
  rcases z with z|⟨i,l,e,q⟩
  ·exact .inl (k.live a z)
  ·have eo:(r1[i]?).bind Sl.own=some l:=by rcases e with e|⟨ks,e⟩<;>rw[e]<;>rfl
   have np:∀k2,(r1[i]?).bind Sl.pk≠some k2:=λk2 z=>by rcases e with e|⟨ks,e⟩<;>rw[e] at z<;>cases z
   have nz:∀l2,r1[i]?≠some (.z l2):=λl2 z=>by rcases e with e|⟨ks,e⟩<;>rw[e] at z<;>cases z
   rcases k.new a ⟨i,l,eo,q⟩ with⟨j,m,e2,q2⟩|z
   ·cases ej:r[j]? with
    |none=>rw[ej] at e2;cases e2
    |some x=>
     rw[ej] at e2;cases x with
     |un=>cases e2
     |v d=>cases e2
     |o l'=>exact .inr ⟨j,l',.inl ej,q2⟩
     |p l'=>
      obtain⟨e3,q3⟩:=k.par j false (by rw[ej];rfl);obtain⟨l2,e4⟩:=cA e3
      have:=R1.apart i j a l l2 eo e4 q (q3.trans q2)
      subst this;exact absurd e3 (np _)
     |z l'=>
      obtain⟨e3,q3⟩:=k.fz j l' ej
      have:=R1.apart i j a l l' eo (by rw[e3];rfl) q (q3.trans q2)
      subst this;exact absurd e3 (nz _)
     |d f ks l'=>
      cases f with
      |false=>exact .inr ⟨j,l',.inr ⟨ks,ej⟩,q2⟩
      |true=>
       obtain⟨e3,q3⟩:=k.par j true (by rw[ej];rfl);obtain⟨l2,e4⟩:=cA e3
       have:=R1.apart i j a l l2 eo e4 q (q3.trans q2)
       subst this;exact absurd e3 (np _)
   ·exact .inl z
 cases fl with
 |nx r'=>exact λσ' H' h1 h2=>h σ' H' h1 (k.trans h2)
 |bk r'=>exact λσ' H' h1 h2=>h σ' H' h1 (k.trans h2)
 |ct r'=>exact λσ' H' h1 h2=>h σ' H' h1 (k.trans h2)
 |rt d r'=>exact λv σ' H' h1 h2 h3=>h v σ' H' h1 (k.trans h2) h3
 |rf l r'=>exact λa xs σ' H' h1 h2 h3 h4 h5 h6=>h a xs σ' H' h1 (k.trans h2) (fra a h3) h4 h5 h6
 |rg ks l r'=>exact λa xs σ' H' h1 h2 h3 h4 h5 h6 h7=>h a xs σ' H' h1 (k.trans h2) (fra a h3) h4 h5 h6 h7
def mC(d:D):ME:=λ_=>some d
def zB(i:Nat):ME:=λr=>match r[i]? with
 |some (.v d)=>some d
 |_=>none
def YD(i:Nat):ML:=λr=>(r[i]?).bind Sl.ls
def zD(m:D->D->Option D)(f g:ME):ME:=λr=>(f r).bind λx=>(g r).bind λy=>m x y
def mUn(m:D->Option D)(f:ME):ME:=λr=>(f r).bind m
def zK:ML:=λ_=>some []
def zA(f:ME)(g:ML):ML:=λr=>(f r).bind λx=>(g r).bind λl=>some (x::l)
def xM(f:ML):ME:=λr=>(f r).bind λl=>if l.length<=af then some (.tup l) else none
def yO(f:ML):ML:=λr=>(f r).bind λl=>if l.length<=af then some l else none
def xR(f:ML):ME:=λr=>(f r).map .lst
def zN7(f:ME):ML:=λr=>(f r).bind λd=>match d with
 |.lst l=>some l
 |_=>none
def pX(f g:ME):ME:=λr=>(f r).bind λd=>match d with
 |.bl true=>g r
 |.bl false=>some (.bl false)
 |_=>none
noncomputable def zRF:D->Option D
 |.bl b=>some (.bl !b)
 |_=>none
def xG(f g:MB):MB:=λr=>(f r).bind λb=>if b=true then g r else some false
def zF8(f g:MB):MB:=λr=>(f r).bind λb=>if b=true then some true else g r
def cL(f:MB):MB:=λr=>(f r).map (!·)
def mIf(c:MB)(f g:ME):ME:=λr=>(c r).bind λb=>if b=true then f r else g r
noncomputable def blD:D->Option Bool
 |.bl b=>some b
 |_=>none
def mBl(f:ME):MB:=λr=>(f r).bind blD
noncomputable def zQF:D->Option Bool
 |.non=>some false
 |.bl b=>some b
 |.int i=>some (i != 0)
 |.str s=>if s.length<=af then some (!s.isEmpty) else none
 |.tup l=>some (!l.isEmpty)
 |.lst l=>some (!l.isEmpty)
 |_=>none
def oU(fl:ML):MB:=λr=>(fl r).map λl=>!l.isEmpty
def k8(f:ME):MB:=λr=>(f r).bind zQF
section
variable{X:Cx}{pos:Pos}{a b c:Expr}{f g:ME}
theorem bnS(e:o.bind h=some y):∃x,o=some x/\h x=some y:=by
 cases o with
 |none=>cases e
 |some x=>exact⟨x,rfl,e⟩
theorem zN1(h:PE X a t)(i:∀O0 σ H r d Q,R X.K O0 H r σ->f r=some d->(∀v H',Same H H'->Is X.K (Ow O0 r σ) H' d v->Q v H')->t σ H Q):DE X a f:=
 PE.conseq h λσ H Q ⟨O0,r,d,hR,e,q⟩=>i O0 σ H r d Q hR e q
theorem vN(i:Nat)(h:PE X (.Name x pos) (vG i)):DE X (.Name x pos) (zB i):=
 zN1 h λO0 σ H r d Q hR e q=>by
  unfold zB at e;have e':r[i]?=some (.v d):=by
   split at e
   ·rename_i d' h;cases e;exact h
   ·cases e
  obtain⟨v,e1,q1⟩:=hR.val i d e';exact⟨v,e1,q v H (Same.refl H) q1⟩
theorem zM0(i:Nat)(h:PE X (.Name x pos) (vG i)):DB X (.Name x pos) (YD i):=
 PE.conseq h λσ H Q ⟨O0,r,l,hR,e,q⟩=>by
  obtain⟨a,xs,e1,e2,q1⟩:=hR.own i l e;exact⟨.ref a,e1,q a xs H (Same.refl H) (SqL.of e2) q1⟩
theorem oC(h:PE X a (tC v))(hd:∀O H,Is X.K O H d v):DE X a (mC d):=
 zN1 h λO0 σ H r d' Q hR e q=>by
  unfold mC at e;cases e;exact q v H (Same.refl H) (hd _ _)
theorem rF{i j}:DE X (.Constant (.int i) j pos) (mC (.int i)):=oC pH λO H=>by unfold Is;rfl
theorem zP3{i j}:DE X (.Constant (.bool i) j pos) (mC (.bl i)):=oC zO8 λO H=>by unfold Is;rfl
theorem zMR{j}:DE X (.Constant .none j pos) (mC .non):=oC zEZ λO H=>by unfold Is;rfl
theorem WK{j}(e:x.cps.toList=s:=by rfl):DE X (.Constant (.str x) j pos) (mC (.str s)):=oC zKP λO H=>by
 unfold Is;subst e;simp
def OpD(K:Fg)(r2:R2)(m:D->D->Option D):Prop:=∀(O:Addr->Prop) (H:Hp) (dx dy d:D) (vx vy:V) (Q:VK),j9 O H->Is K O H dx vx->Is K O H dy vy->m dx dy=some d->(∀v H',Same H H'->Is K O H' d v->Q v H')->r2 vx vy H Q
theorem two{ta tb:TE}{r2:R2}{m:D->D->Option D}(hd:OpD X.K r2 m){σ:St}{H:Hp}{Q:VK}(h:lE X.K (zD m f g) σ H Q):tOp r2 (lE X.K f) (lE X.K g) σ H Q:=by
 obtain⟨O0,r,d,hR,e,q⟩:=h;obtain⟨x,e1,e⟩:=bnS e;obtain⟨y,e2,e⟩:=bnS e;refine⟨O0,r,x,hR,e1,λv1 H1 s1 i1=>⟨O0,r,y,hR.same s1,e2,λv2 H2 s2 i2=>?_⟩⟩;exact hd (Ow O0 r σ) H2 x y d v1 v2 Q (hR.same (s1.trans s2)).ol (i1.same s2 (hR.same s1).ol) i2 e λv H' s' i'=>q v H' ((s1.trans s2).trans s') i'
theorem zMX{op:Operator}{r2:R2}{m:D->D->Option D}(ho:OpR X (binaryOp op) r2)(hd:OpD X.K r2 m)(ha:DE X a f)(hb:DE X b g):DE X (.BinOp a op b pos) (zD m f g):=
 PE.conseq (zNL ho ha hb) λσ H Q h=>two (ta:=lE X.K f) (tb:=lE X.K g) hd h
theorem zMW{op:CmpOp}{r2:R2}{m:D->D->Option D}(ho:OpR X (cz op) r2)(hd:OpD X.K r2 m)(ha:DE X a f)(hb:DE X b g)(hm:eg op b=false):DE X (.Compare a [op] [b] pos) (zD m f g):=
 PE.conseq (zE3 ho ha hb hm) λσ H Q h=>two (ta:=lE X.K f) (tb:=lE X.K g) hd h
theorem zMD{op:CmpOp}{r2:R2}{m:D->D->Option D}(ho:OpR X (cz op) r2)(hd:OpD X.K r2 m)(ha:DE X a f)(hb:DE X b g)(hm:eg op b=false):DT X (.Compare a [op] [b] pos) (mBl (zD m f g)):=by
 refine PT.conseq (QM ho ha hb hm) λσ H Q h=>?_
 obtain⟨O0,r,k,hR,e,q⟩:=h;obtain⟨d,e1,e⟩:=bnS e;refine two (ta:=lE X.K f) (tb:=lE X.K g) (m:=m) hd ⟨O0,r,d,hR,e1,λv H' s' i'=>?_⟩;cases d<;>first|cases e|skip
 rw[Is.bl_iff] at i';exact⟨_,i',q H' s'⟩
theorem zP0(ho:UnR X (unaryOp op) r1)(hd:∀(O:Addr->Prop) (H:Hp) (dx d:D) (vx:V) (Q:VK),Is X.K O H dx vx->m dx=some d->(∀v,Is X.K O H d v->Q v H)->r1 vx H Q)(ha:DE X a f):DE X (.UnaryOp op a pos) (mUn m f):=by
 refine PE.conseq (zNK ho ha) λσ H Q h=>?_
 obtain⟨O0,r,d,hR,e,q⟩:=h;obtain⟨x,e1,e⟩:=bnS e;exact⟨O0,r,x,hR,e1,λv1 H1 s1 i1=>hd _ H1 x d v1 Q i1 e λv i=>q v H1 s1 i⟩
theorem zMZ{rest:List Expr}(ha:DE X a f)(hb:DE X (.BoolOp .And (b::rest) pos) g):DE X (.BoolOp .And (a::b::rest) pos) (pX f g):=by
 refine PE.conseq (zKR ha hb) λσ H Q h=>?_
 obtain⟨O0,r,d,hR,e,q⟩:=h;obtain⟨x,e1,e⟩:=bnS e;refine⟨O0,r,x,hR,e1,λv1 H1 s1 i1=>?_⟩;cases x with
 |bl k=>
  rw[Is.bl_iff] at i1;refine⟨k,i1,?_⟩;cases k with
  |true=>
   rw[if_pos rfl];exact⟨O0,r,d,hR.same s1,e,λv H' s' i'=>q v H' (s1.trans s') i'⟩
  |false=>
   rw[if_neg ax];cases e;exact q _ H1 s1 (by rw[Is.bl_iff])
 |_=>cases e
theorem zMQ(ha:DE X a f):DE X (.UnaryOp .Not a pos) (mUn zRF f):=by
 refine PE.conseq (zKQ ha) λσ H Q h=>?_
 obtain⟨O0,r,d,hR,e,q⟩:=h;obtain⟨x,e1,e⟩:=bnS e;refine⟨O0,r,x,hR,e1,λv1 H1 s1 i1=>?_⟩;cases x with
 |bl k=>
  rw[Is.bl_iff] at i1;cases e;exact⟨k,i1,q _ H1 s1 (by rw[Is.bl_iff])⟩
 |_=>cases e
theorem zHA(ha:DT X a tf):PW X (.BoolOp .And [a] pos) (lT X.K tf):=QK ha
theorem zL9(ha:DT X a tf):PW X (.BoolOp .Or [a] pos) (lT X.K tf):=zKG ha
theorem PW.conseq(h:PW X e t)(i:∀σ H Q,t' σ H Q->t σ H Q):PW X e t':=λwh pZ s σ H Q I q=>h wh pZ s σ H Q I (i σ H Q q)
theorem zMA{rest:List Expr}(ha:DT X a tf)(hb:PW X (.BoolOp .And (b::rest) pos) (lT X.K tg)):PW X (.BoolOp .And (a::b::rest) pos) (lT X.K (xG tf tg)):=by
 refine PW.conseq (zEI ha hb) λσ H Q h=>?_
 obtain⟨O0,r,d,hR,e,q⟩:=h;obtain⟨x,e1,e⟩:=bnS e;refine⟨O0,r,x,hR,e1,λH1 s1=>?_⟩;cases x with
 |true=>
  rw[if_pos rfl];exact⟨O0,r,d,hR.same s1,e,λH' s'=>q H' (s1.trans s')⟩
 |false=>
  rw[if_neg ax];cases e;exact q H1 s1
theorem zPW{rest:List Expr}(ha:DT X a tf)(hb:PW X (.BoolOp .Or (b::rest) pos) (lT X.K tg)):PW X (.BoolOp .Or (a::b::rest) pos) (lT X.K (zF8 tf tg)):=by
 refine PW.conseq (zO5 ha hb) λσ H Q h=>?_
 obtain⟨O0,r,d,hR,e,q⟩:=h;obtain⟨x,e1,e⟩:=bnS e;refine⟨O0,r,x,hR,e1,λH1 s1=>?_⟩;cases x with
 |true=>
  rw[if_pos rfl];cases e;exact q H1 s1
 |false=>
  rw[if_neg ax];exact⟨O0,r,d,hR.same s1,e,λH' s'=>q H' (s1.trans s')⟩
theorem zSE(h:PW X a (lT X.K tf)):DT X a tf:=h.pt
theorem zMC(ha:DT X a tf):DT X (.UnaryOp .Not a pos) (cL tf):=by
 refine PT.conseq (zKJ ha) λσ H Q h=>?_
 obtain⟨O0,r,d,hR,e,q⟩:=h;unfold cL at e;cases e1:tf r with
 |none=>rw[e1] at e;cases e
 |some k=>
  rw[e1] at e;cases e;exact⟨O0,r,k,hR,e1,λH1 s1=>q H1 s1⟩
theorem zDP{K:Fg}(h:Is K O H d v)(e:zQF d=some k):zQV K v H k:=by
 cases d with
 |dct ks l=>cases e
 |non=>rw[Is.non_iff] at h;subst h;cases e;rfl
 |bl b=>rw[Is.bl_iff] at h;subst h;cases e;rfl
 |int i=>rw[Is.int_iff] at h;subst h;cases e;rfl
 |str s=>
  rw[Is.str_iff] at h;subst h;simp only[zQF] at e;split at e
  ·rename_i hl;cases e;refine⟨by simpa [Str.length] using hl,?_⟩;cases s with
   |nil=>rfl
   |cons c r=>
    have:((r.length:Int)+1)≠0:=by omega
    simpa [Str.length] using this
  ·cases e
 |tup l=>
  rw[Is.tup_iff] at h;obtain⟨a,xs,rfl,hs,hl⟩:=h;cases e;refine .inr (.inl ⟨xs,hs,?_⟩)
  have:=hl.length
  cases l<;>cases xs<;>simp_all
 |lst l=>
  rw[Is.lst_iff] at h;obtain⟨a,xs,rfl,hs,hl⟩:=h;cases e;refine .inl ⟨xs,hs.sq,?_⟩
  have:=hl.length
  cases l<;>cases xs<;>simp_all
 |ty n=>cases e
 |ref a=>cases e
theorem zMB(ha:DE X a f)(he:∀whole,isTrue a X.env whole=(do let v <- whole;standAt a.pos;holding [v] (truthy v)):=by intro _;rfl):DT X a (k8 f):=by
 refine PT.conseq (g0 ha he) λσ H Q h=>?_
 obtain⟨O0,r,d,hR,e,q⟩:=h;obtain⟨x,e1,e⟩:=bnS e;exact⟨O0,r,x,hR,e1,λv1 H1 s1 i1=>⟨d,zDP i1 e,q H1 s1⟩⟩
theorem zHD(ha:DB X a fl)(he:∀whole,isTrue a X.env whole=(do let v <- whole;standAt a.pos;holding [v] (truthy v)):=by intro _;rfl):DT X a (oU fl):=by
 refine PT.conseq (g0 ha he) λσ H Q h=>?_
 obtain⟨O0,r,d,hR,e,q⟩:=h;unfold oU at e;cases e1:fl r with
 |none=>rw[e1] at e;cases e
 |some l=>
  rw[e1] at e;cases e;refine⟨O0,r,l,hR,e1,λa xs H1 s1 i1 i2=>⟨_,.inl ⟨xs,i1,?_⟩,q H1 s1⟩⟩
  have:=i2.length
  cases l<;>cases xs<;>simp_all
theorem zP2(hc:DT X c tf)(ha:DE X a f)(hb:DE X b g):DE X (.IfExp c a b pos) (mIf tf f g):=by
 refine PE.conseq (zAT hc ha hb) λσ H Q h=>?_
 obtain⟨O0,r,d,hR,e,q⟩:=h;obtain⟨x,e1,e⟩:=bnS e;refine⟨O0,r,x,hR,e1,λH1 s1=>?_⟩;cases x with
 |true=>rw[if_pos rfl];exact⟨O0,r,d,hR.same s1,e,λv H' s' i'=>q v H' (s1.trans s') i'⟩
 |false=>rw[if_neg ax];exact⟨O0,r,d,hR.same s1,e,λv H' s' i'=>q v H' (s1.trans s') i'⟩
theorem oE:DA X [] zK:=PA.conseq yV λσ H Q ⟨O0,r,l,hR,e,q⟩=>by
 unfold zK at e;cases e;exact q [] H (Same.refl H) .nil
theorem wD(ha:DE X a f)(hr:DA X es fs)(hs:ag (a::es) X.env=(false,eval a X.env)::ag es X.env:=by rfl):DA X (a::es) (zA f fs):=by
 refine PA.conseq (zY ha hr hs) λσ H Q h=>?_
 obtain⟨O0,r,d,hR,e,q⟩:=h;obtain⟨x,e1,e⟩:=bnS e;obtain⟨l,e2,e⟩:=bnS e;cases e;exact⟨O0,r,x,hR,e1,λv1 H1 s1 i1=>⟨O0,r,l,hR.same s1,e2,λvs H2 s2 i2=>q _ H2 (s1.trans s2) (.cons (i1.same s2 (hR.same s1).ol) i2)⟩⟩
theorem zX(n:H p=none):Same H (upd H p o):=λb u e=>by rw[zI (wX e n)];exact e
theorem zB8{x1}(h:DA X es fs):DE X (.Tuple es x1 pos) (xM fs):=by
 refine PE.conseq (zEX h) λσ H Q h=>?_
 obtain⟨O0,r,d,hR,e,q⟩:=h;obtain⟨l,e1,e⟩:=bnS e;split at e
 ·rename_i hl;cases e;refine⟨O0,r,l,hR,e1,λvs H1 s1 i1=>⟨by rw[<-i1.length];exact hl,λp hp=>q _ _ (s1.trans (zX hp)) ?_⟩⟩;rw[Is.tup_iff];exact⟨p,vs,rfl,SqT.of zJ,i1.same (zX hp) (hR.same s1).ol⟩
 ·cases e
theorem zMN(h:DA X es fs):DF X (.List es pos) (yO fs):=by
 refine PE.conseq (zAS h) λσ H Q h=>?_
 obtain⟨O0,r,l',hR,e,q⟩:=h;obtain⟨l,e1,e⟩:=bnS e;split at e
 ·rename_i hl;have e':l=l':=bw e;subst e';refine⟨O0,r,l,hR,e1,λvs H1 s1 i1=>⟨by rw[<-i1.length];exact hl,λp hp=>q _ _ _ (s1.trans (zX hp)) (s1.free hp) zJ ?_⟩⟩;refine IsL.mono (Same.kp (zX hp) _) (hR.same s1).ol (λa z n=>?_) _ vs i1;rcases z with z|z
  ·exact z
  ·subst z;exact absurd hp n
 ·cases e
theorem zSI(h:DF X a fl):DE X a (xR fl):=by
 refine PE.conseq h λσ H Q h=>?_
 obtain⟨O0,r,d,hR,e,q⟩:=h;unfold xR at e;cases e1:fl r with
 |none=>rw[e1] at e;cases e
 |some l=>
  rw[e1] at e;cases e;refine⟨O0,r,l,hR,e1,λp xs H1 s1 n1 e2 i1=>q _ H1 s1 ?_⟩;rw[Is.lst_iff];have ol:j9 (λb=>Ow O0 r σ b\/b=p) H1:=λb z=>z.elim (λz=>(hR.same s1).ol b z) λz=>by subst z;exact⟨.lst xs,e2,trivial⟩
  exact⟨p,xs,rfl,.inl ⟨hR.nofresh n1,.inl e2⟩,IsL.mono (Same.kp (Same.refl H1) _) ol (λa z _=>.inl z) l xs i1⟩
theorem zSK(h:DE X a f):DB X a (zN7 f):=by
 refine PE.conseq h λσ H Q h=>?_
 obtain⟨O0,r,l,hR,e,q⟩:=h;obtain⟨d,e1,e⟩:=bnS e;refine⟨O0,r,d,hR,e1,λv H1 s1 i1=>?_⟩;cases d with
 |lst l'=>
  cases e;rw[Is.lst_iff] at i1;obtain⟨p,xs,rfl,rd,il⟩:=i1;exact q p xs H1 s1 rd.sq il
 |_=>cases e
end
def y0:MS:=λr=>some (.nx r)
def zZ(g h:MS):MS:=λr=>(g r).bind λfl=>match fl with
 |.nx r'=>h r'
 |x=>some x
def yN(i:Nat)(d:D)(r:En):Option En:=match r[i]? with
 |some (.p _)=>none
 |some (.z _)=>none
 |some (.d true _ _)=>none
 |some _=>some (r.set i (.v d))
 |none=>none
def zQK(i:Nat)(l:List D)(r:En):Option En:=match r[i]? with
 |some (.p _)=>none
 |some (.z _)=>none
 |some (.d true _ _)=>none
 |some _=>some (r.set i (.o l))
 |none=>none
def xH(i:Nat)(f:ME):MS:=λr=>(f r).bind λd=>(yN i d r).map .nx
def zAB(i:Nat)(f:ML):MS:=λr=>(f r).bind λl=>(zQK i l r).map .nx
def wQ(f:ME):MS:=λr=>(f r).map λd=>.rt d r
def bG(i:Nat):MS:=λr=>match r[i]? with
 |some (.o l)=>some (.rf l r)
 |_=>none
def sIf(c:MB)(g h:MS):MS:=λr=>(c r).bind λb=>if b=true then g r else h r
def sX(f:En->Option (D×En)):MS:=λr=>(f r).map λp=>.nx p.2
def QH(i:Nat)(f:En->Option (D×En)):MS:=λr=>(f r).bind λp=>(yN i p.1 p.2).map .nx
def qB:Nat->MB->MS->MS
 |0,_,_=>λ_=>none
 |n+1,c,g=>λr=>(c r).bind λb=>if b=true then (g r).bind λfl=>match fl with
   |.nx r'=>qB n c g r'
   |.ct r'=>qB n c g r'
   |.bk r'=>some (.nx r')
   |x=>some x
  else some (.nx r)
def nY(bd:D->En->Option En)(g:MS):List D->MS
 |[],r=>some (.nx r)
 |d::l,r=>(bd d r).bind λr1=>(g r1).bind λfl=>match fl with
   |.nx r'=>nY bd g l r'
   |.ct r'=>nY bd g l r'
   |.bk r'=>some (.nx r')
   |x=>some x
def mW(bd:D->En->Option En)(it:ML)(g:MS):MS:=λr=>(it r).bind λl=>nY bd g l r
theorem zE{α:Type}{l:List α}{i j:Nat}{x:α}(h:i≠j):(l.set i x)[j]?=l[j]?:=by rw[List.getElem?_set];simp[h]
theorem zH{α:Type}{l:List α}{i:Nat}{x:α}(h:i<l.length):(l.set i x)[i]?=some x:=by rw[List.getElem?_set];simp[h]
section
variable{K:Fg}{O0:Addr->Prop}{H H1:Hp}{r:En}{σ:St}{i:Nat}{d:D}{v:V}
theorem g9{q:Sl->Option (List D)}(hq:∀d,q (.v d)=none){a:Addr}{x:Option V}(h:AtS q (r.set i (.v d)) (σ.set i x) a):AtS q r σ a:=by
 obtain⟨j,l,e,q'⟩:=h;by_cases hj:i=j
 ·subst hj;by_cases hl:i<r.length
  ·rw[zH hl] at e;have e':q (.v d)=some l:=e;rw[hq] at e';cases e'
  ·rw[kz (by simpa using hl)] at e;cases e
 ·rw[zE hj] at e q';exact⟨j,l,e,q'⟩
theorem R.setv(h:R K O0 H r σ)(hi:i<r.length)(np:∀l,(r[i]?).bind Sl.pk=none/\r[i]?≠some (.z l))(hv:Is K (Ow O0 r σ) H d v):R K O0 H (r.set i (.v d)) (σ.set i (some v))/\Kp H r σ H (r.set i (.v d)) (σ.set i (some v)):=by
 have his:i<σ.length:=by rw[<-h.len];exact hi
 have sub:∀a,Ow O0 (r.set i (.v d)) (σ.set i (some v)) a->H a≠none->Ow O0 r σ a:=λa z _=>z.elim .inl λz=>.inr (g9 (λ_=>rfl) z)
 have ne:∀(j:Nat) (l:List D),((r.set i (.v d))[j]?).bind Sl.own=some l->i≠j:=λj l e z=>by subst z;rw[zH hi] at e;cases e
 refine⟨⟨by simp[h.len],λj d' e=>?_,λj l e=>?_,λj k a l m e1 e2 q1 q2=>?_,h.o0,λj l a e q=>?_,λj l a e q=>?_,λj f ks l e=>?_⟩,⟨λb o e _=>e,λb e=>e,λb o e m=>⟨o,e,m⟩,λb z=>.inl (g9 (λ_=>rfl) z),λb z=>.inl (g9 (λ_=>rfl) z),λj l e=>?_,λj l e=>?_⟩⟩
 ·by_cases hj:i=j
  ·subst hj;rw[zH hi] at e;cases e;exact⟨v,zH his,Is.mono (Same.kp (Same.refl H) _) h.ol sub _ _ hv⟩
  ·rw[zE hj] at e;obtain⟨u,e1,q⟩:=h.val j d' e;exact⟨u,by rw[zE hj];exact e1,Is.mono (Same.kp (Same.refl H) _) h.ol sub _ _ q⟩
 ·have hj:=ne j l (j4 e);rw[zE hj] at e;obtain⟨a,xs,e1,e2,q⟩:=h.own j l e;exact⟨a,xs,by rw[zE hj];exact e1,e2,IsL.mono (Same.kp (Same.refl H) _) h.ol sub _ _ q⟩
 ·have hj:=ne j l e1;have hk:=ne k m e2;rw[zE hj] at e1 q1;rw[zE hk] at e2 q2;exact h.apart j k a l m e1 e2 q1 q2
 ·have hj:i≠j:=ne j l (by rcases e with e|e|⟨ks,e⟩<;>rw[e]<;>rfl);rw[zE hj] at e q;exact h.loc j l a e q
 ·have hj:i≠j:=ne j _ (cA e).choose_spec;rw[zE hj] at e q;exact h.par j l a e q
 ·have hj:=ne j l (by rw[e];rfl);rw[zE hj] at e;obtain⟨a,kvs,e1,e2,e3,q⟩:=h.dct j f ks l e;exact⟨a,kvs,by rw[zE hj];exact e1,e2,e3,IsL.mono (Same.kp (Same.refl H) _) h.ol sub _ _ q⟩
 ·have hj:i≠j:=λz=>by subst z;rw[(np []).1] at e;cases e
  exact⟨by rw[zE hj];exact e,zE hj⟩
 ·have hj:i≠j:=λz=>by subst z;exact(np l).2 e
  exact⟨by rw[zE hj];exact e,zE hj⟩
theorem R.seto{l:List D}{xs:List V}{p:Addr}(h:R K O0 H r σ)(s:Same H H1)(n:H p=none)(e:H1 p=some (.lst xs))(hl:IsL K (λb=>Ow O0 r σ b\/b=p) H1 l xs)(hi:i<r.length)(np:∀l,(r[i]?).bind Sl.pk=none/\r[i]?≠some (.z l)):R K O0 H1 (r.set i (.o l)) (σ.set i (some (.ref p)))/\Kp H r σ H1 (r.set i (.o l)) (σ.set i (some (.ref p))):=by
 have his:i<σ.length:=by rw[<-h.len];exact hi
 have ow:∀{q:Sl->Option (List D)} a,AtS q (r.set i (.o l)) (σ.set i (some (.ref p))) a->AtS q r σ a\/a=p:=λ{q} a z=>by
  obtain⟨j,m,e1,q1⟩:=z;by_cases hj:i=j
  ·subst hj;rw[zH his] at q1;cases q1;exact .inr rfl
  ·rw[zE hj] at e1 q1;exact .inl ⟨j,m,e1,q1⟩
 have sub:∀a,Ow O0 (r.set i (.o l)) (σ.set i (some (.ref p))) a->H a≠none->Ow O0 r σ a:=λa z nn=>z.elim .inl λz=>(ow a z).elim .inr λz=>by subst z;exact absurd n nn
 have olp:j9 (λb=>Ow O0 r σ b\/b=p) H1:=λb z=>z.elim (λz=>(h.same s).ol b z) λz=>by subst z;exact⟨.lst xs,e,trivial⟩
 refine⟨⟨by simp[h.len],λj d' e1=>?_,λj m e1=>?_,λj k a l1 m e1 e2 q1 q2=>?_,(h.same s).o0,λj m a e1 q=>?_,λj m a e1 q=>?_,λj f ks m e1=>?_⟩,⟨λb o e1 _=>s b o e1,λb e1=>s.free e1,λb o e1 mb=>⟨o,s _ _ e1,mb⟩,λb z=>(ow b z).imp id λz=>by subst z;exact n,λb z=>(ow b z).imp id λz=>by subst z;exact n,λj m e1=>?_,λj m e1=>?_⟩⟩
 ·have hj:i≠j:=λz=>by subst z;rw[zH hi] at e1;cases e1
  rw[zE hj] at e1;obtain⟨u,e2,q⟩:=h.val j d' e1;exact⟨u,by rw[zE hj];exact e2,Is.mono (Same.kp s _) h.ol sub _ _ q⟩
 ·by_cases hj:i=j
  ·subst hj;rw[zH hi] at e1;cases e1;refine⟨p,xs,zH his,e,IsL.mono (Same.kp (Same.refl H1) _) olp (λa z _=>z.elim (λz=>.inl (.inl z)) λz=>(ow a z).imp .inr id) _ _ hl⟩
  ·rw[zE hj] at e1;obtain⟨a,ys,e2,e3,q⟩:=h.own j m e1;exact⟨a,ys,by rw[zE hj];exact e2,s _ _ e3,IsL.mono (Same.kp s _) h.ol sub _ _ q⟩
 ·have out:∀(j:Nat) (m:List D) (a:Addr),i≠j->((r.set i (.o l))[j]?).bind Sl.own=some m->(σ.set i (some (.ref p)))[j]?=some (some (.ref a))->a≠p:=λj m a hj e1 q1 z=>by
   rw[zE hj] at e1 q1;obtain⟨b,ys,e2,e3,_⟩:=h.obj e1;rw[q1] at e2;cases e2;subst z;rw[n] at e3;cases e3
  by_cases hj:i=j
  ·by_cases hk:i=k
   ·exact hj.symm.trans hk
   ·subst hj;rw[zH his] at q1;cases q1;exact absurd rfl (out k m p hk e2 q2)
  ·by_cases hk:i=k
   ·subst hk;rw[zH his] at q2;cases q2;exact absurd rfl (out j l1 p hj e1 q1)
   ·rw[zE hj] at e1 q1;rw[zE hk] at e2 q2;exact h.apart j k a l1 m e1 e2 q1 q2
 ·by_cases hj:i=j
  ·subst hj;rw[zH his] at q;cases q;exact λz=>by obtain⟨ys,e3,_⟩:=h.o0 p z;rw[n] at e3;cases e3
  ·rw[zE hj] at e1 q;exact h.loc j m a e1 q
 ·have hj:i≠j:=λz=>by subst z;rw[zH hi] at e1;cases e1
  rw[zE hj] at e1 q;exact h.par j m a e1 q
 ·have hj:i≠j:=λz=>by subst z;rw[zH hi] at e1;cases e1
  rw[zE hj] at e1;obtain⟨a,kvs,e2,e3,e4,q⟩:=h.dct j f ks m e1;exact⟨a,kvs,by rw[zE hj];exact e2,s _ _ e3,e4,IsL.mono (Same.kp s _) h.ol sub _ _ q⟩
 ·have hj:i≠j:=λz=>by subst z;rw[(np []).1] at e1;cases e1
  exact⟨by rw[zE hj];exact e1,zE hj⟩
 ·have hj:i≠j:=λz=>by subst z;exact(np m).2 e1
  exact⟨by rw[zE hj];exact e1,zE hj⟩
theorem jD{r':En}(e:yN i d r=some r'):i<r.length/\(∀l,(r[i]?).bind Sl.pk=none/\r[i]?≠some (.z l))/\r'=r.set i (.v d):=by
 unfold yN at e;cases e1:r[i]? with
 |none=>rw[e1] at e;cases e
 |some x=>
  have hi:i<r.length:=(av.mp e1).1;rw[e1] at e;cases x with
  |p l=>cases e
  |z l=>cases e
  |d f ks l=>cases f<;>first|(cases e;done)|(cases e;exact⟨hi,λl=>⟨rfl,(λz=>by cases z)⟩,rfl⟩)
  |_=>cases e;exact⟨hi,λl=>⟨rfl,(λz=>by cases z)⟩,rfl⟩
theorem YX{r':En}{l:List D}(e:zQK i l r=some r'):i<r.length/\(∀l,(r[i]?).bind Sl.pk=none/\r[i]?≠some (.z l))/\r'=r.set i (.o l):=by
 unfold zQK at e;cases e1:r[i]? with
 |none=>rw[e1] at e;cases e
 |some x=>
  have hi:i<r.length:=(av.mp e1).1;rw[e1] at e;cases x with
  |p l=>cases e
  |z l=>cases e
  |d f ks l=>cases f<;>first|(cases e;done)|(cases e;exact⟨hi,λl=>⟨rfl,(λz=>by cases z)⟩,rfl⟩)
  |_=>cases e;exact⟨hi,λl=>⟨rfl,(λz=>by cases z)⟩,rfl⟩
theorem mpS{α β:Type}{o:Option α}{h:α->β}{y:β}(e:o.map h=some y):∃x,o=some x/\h x=y:=by
 cases o with
 |none=>cases e
 |some x=>exact⟨x,rfl,bw e⟩
theorem Is.less{O:Addr->Prop}(h:R K O0 H r σ)(hi:Is K (Ow O0 r σ) H1 d v)(s:Same H H1):Is K O0 H1 d v:=Is.mono (Same.kp (Same.refl H1) _) (h.same s).ol (λ_ z _=>.inl z) _ _ hi
end
section
variable{X:Cx}{pos:Pos}{e:Expr}{f:ME}{fl:ML}{g h:MS}{st:Stmt}{rest:List Stmt}
theorem zMJ:DSs X [] y0:=PSs.conseq QN λDn σ H ⟨O0,r,f',hR,e,q⟩=>by
 unfold y0 at e;cases e;exact q σ H hR (Kp.refl H r σ)
theorem zHK(h1:DS X st g)(h2:DSs X rest h):DSs X (st::rest) (zZ g h):=by
 refine PSs.conseq (jO h1 h2) λDn σ H hq=>?_
 obtain⟨O0,r,fl,hR,e,q⟩:=hq;obtain⟨f1,e1,e2⟩:=bnS e;cases f1 with
 |nx r1=>exact⟨O0,r,.nx r1,hR,e1,λσ' H' R' k=>⟨O0,r1,fl,R',e2,q.before R' k⟩⟩
 |bk r1=>cases e2;exact⟨O0,r,_,hR,e1,q⟩
 |ct r1=>cases e2;exact⟨O0,r,_,hR,e1,q⟩
 |rt d r1=>cases e2;exact⟨O0,r,_,hR,e1,q⟩
 |rf l r1=>cases e2;exact⟨O0,r,_,hR,e1,q⟩
 |rg ks l r1=>cases e2;exact⟨O0,r,_,hR,e1,q⟩
theorem zMI(h1:DS X st g):DSs X [st] g:=mZ h1
theorem zME(i:Nat){x:Str}{pos':Pos}(he:DE X e f)(hN:X.N.Nodup)(hi:X.N[i]?=some x:=by rfl)(hx:Loc X.env.scope x:=by first|exact Or.inl rfl|exact Or.inr rfl)(hs:gx e (some (.Name x pos')) pos.line X.env=pure false:=by rfl)(hf:X.fn x=true\/X.env.scope.names.lookup x=some .local:=by first|exact .inl rfl|exact .inr rfl):DS X (.Assign [.Name x pos'] e pos) (xH i f):=by
 refine PS.conseq (m5 hN hi hx he hs hf) λDn σ H hq=>?_
 obtain⟨O0,r,fl,hR,e,q⟩:=hq;obtain⟨d,e1,e2⟩:=bnS e;obtain⟨r',e3,rfl⟩:=mpS e2;obtain⟨hl,np,rfl⟩:=jD e3;refine⟨O0,r,d,hR,e1,λv H1 s1 i1=>?_⟩;obtain⟨R1,k1⟩:=(hR.same s1).setv hl np i1;exact q _ H1 R1 ((Kp.of_same r σ s1).trans k1)
theorem zMH(i:Nat){x:Str}{pos':Pos}(he:DF X e fl)(hN:X.N.Nodup)(hi:X.N[i]?=some x:=by rfl)(hx:Loc X.env.scope x:=by first|exact Or.inl rfl|exact Or.inr rfl)(hs:gx e (some (.Name x pos')) pos.line X.env=pure false:=by rfl)(hf:X.fn x=true\/X.env.scope.names.lookup x=some .local:=by first|exact .inl rfl|exact .inr rfl):DS X (.Assign [.Name x pos'] e pos) (zAB i fl):=by
 refine PS.conseq (m5 hN hi hx he hs hf) λDn σ H hq=>?_
 obtain⟨O0,r,fl',hR,e,q⟩:=hq;obtain⟨l,e1,e2⟩:=bnS e;obtain⟨r',e4,rfl⟩:=mpS e2;obtain⟨hl,np,rfl⟩:=YX e4;refine⟨O0,r,l,hR,e1,λp xs H1 s1 n1 e3 i1=>?_⟩;obtain⟨R1,k1⟩:=hR.seto s1 n1 e3 i1 hl np;exact q _ H1 R1 k1
theorem zMG(he:DE X e f):DS X (.Return (some e) pos) (wQ f):=by
 refine PS.conseq (Y4 he) λDn σ H hq=>?_
 obtain⟨O0,r,fl,hR,e,q⟩:=hq;obtain⟨d,e1,rfl⟩:=mpS e;exact⟨O0,r,d,hR,e1,λv H1 s1 i1=>q v σ H1 (hR.same s1) (Kp.of_same r σ s1) (Is.less (O:=O0) hR i1 s1)⟩
theorem WC(i:Nat){x:Str}{pos':Pos}(h:PE X (.Name x pos') (vG i)):DS X (.Return (some (.Name x pos')) pos) (bG i):=by
 refine PS.conseq (Y4 h) λDn σ H hq=>?_
 obtain⟨O0,r,fl',hR,e,q⟩:=hq;unfold bG at e;have⟨l,e1,e2⟩:∃l,r[i]?=some (.o l)/\fl'=.rf l r:=by
  split at e
  ·rename_i l h;cases e;exact⟨l,h,rfl⟩
  ·cases e
 subst e2;obtain⟨a,xs,q1,q2,q3⟩:=hR.own i l (by rw[e1];rfl);refine⟨.ref a,q1,q a xs σ H hR (Kp.refl H r σ) (.inr ⟨i,l,.inl e1,q1⟩) (hR.loc i l a (.inl e1) q1) q2 ?_⟩;exact IsL.mono (Same.kp (Same.refl H) _) hR.ol (λb z _=>z.elim .inl λz=>by subst z;exact .inr ⟨i,l,by rw[e1];rfl,q1⟩) _ _ q3
theorem zPY{c:Expr}{sa sb:List Stmt}{tc:MB}(hc:DT X c tc)(ha:DSs X sa g)(hb:DSs X sb h):DS X (.If c sa sb pos) (sIf tc g h):=by
 refine PS.conseq (zNJ hc ha hb) λDn σ H hq=>?_
 obtain⟨O0,r,fl',hR,e,q⟩:=hq;obtain⟨k,e1,e2⟩:=bnS e;refine⟨O0,r,k,hR,e1,λH1 s1=>?_⟩;have R1:=hR.same s1;have q1:=PostS.before R1 (Kp.of_same r σ s1) q;cases k with
 |true=>rw[if_pos rfl] at e2;exact zNV ⟨O0,r,fl',R1,e2,q1⟩
 |false=>rw[if_neg ax] at e2;exact zNW ⟨O0,r,fl',R1,e2,q1⟩
theorem zSG{fx:En->Option (D×En)}(he:DX X e fx)(hs:gx e none pos.line X.env=pure false:=by rfl):DS X (.Expr e pos) (sX fx):=by
 refine PS.conseq (tP he hs) λDn σ H hq=>?_
 obtain⟨O0,r,fl',hR,e,q⟩:=hq;obtain⟨⟨d,r'⟩,e1,rfl⟩:=mpS e;exact⟨O0,r,d,r',hR,e1,λv H1 R1 k1 i1=>q σ H1 R1 k1⟩
theorem zHG(i:Nat){x:Str}{pos':Pos}{fx:En->Option (D×En)}(he:DX X e fx)(hN:X.N.Nodup)(hi:X.N[i]?=some x:=by rfl)(hx:Loc X.env.scope x:=by first|exact Or.inl rfl|exact Or.inr rfl)(hs:gx e (some (.Name x pos')) pos.line X.env=pure false:=by rfl)(hf:X.fn x=true\/X.env.scope.names.lookup x=some .local:=by first|exact .inl rfl|exact .inr rfl):DS X (.Assign [.Name x pos'] e pos) (QH i fx):=by
 refine PS.conseq (m5 hN hi hx he hs hf) λDn σ H hq=>?_
 obtain⟨O0,r,fl,hR,e,q⟩:=hq;obtain⟨⟨d,r1⟩,e1,e2⟩:=bnS e;obtain⟨r',e3,rfl⟩:=mpS e2;obtain⟨hl,np,rfl⟩:=jD e3;refine⟨O0,r,d,r1,hR,e1,λv H1 R1 k1 i1=>?_⟩;obtain⟨R2,k2⟩:=R1.setv hl np i1;exact q _ H1 R2 (k1.trans k2)
theorem zB1(n:Nat){c:Expr}{body:List Stmt}{tc:MB}(hp:PassesOwn (model X.prog X.w) X.A X.env X.xe)(hc:DT X c tc)(hb:DSs X body g):DS X (.While c body [] pos) (qB n tc g):=by
 refine PS.conseq (tN hp hc hb) λDn σ H hq=>?_
 obtain⟨O0,r,fl,hR,e,q⟩:=hq;refine⟨λm σ1 H1=>∃r1,R X.K O0 H1 r1 σ1/\Kp H r σ H1 r1 σ1/\qB m tc g r1=some fl,⟨n,r,hR,Kp.refl H r σ,e⟩,?_⟩;rintro m σ1 H1 ⟨r1,R1,k1,e1⟩;cases m with
 |zero=>cases e1
 |succ m=>
  obtain⟨b,e2,e3⟩:=bnS e1;refine⟨O0,r1,b,R1,e2,λH2 s2=>?_⟩;have R2:=R1.same s2;have k2:=k1.trans (Kp.of_same r1 σ1 s2);cases b with
  |false=>
   rw[if_neg ax] at e3;cases e3;exact zNW (q σ1 H2 R2 k2)
  |true=>
   rw[if_pos rfl] at e3;obtain⟨f1,e4,e5⟩:=bnS e3;refine zNV ⟨λσ3 H3=>∃r3,R X.K O0 H3 r3 σ3/\Kp H r σ H3 r3 σ3/\qB m tc g r3=some fl,λσ3 H3 z=>⟨m,nr m,z⟩,O0,r1,f1,R2,e4,?_⟩;cases f1 with
   |nx r3=>exact λσ3 H3 R3 k3=>⟨r3,R3,k2.trans k3,e5⟩
   |ct r3=>exact λσ3 H3 R3 k3=>⟨r3,R3,k2.trans k3,e5⟩
   |bk r3=>cases e5;exact λσ3 H3 R3 k3=>q σ3 H3 R3 (k2.trans k3)
   |rt d r3=>cases e5;exact PostS.before R2 k2 q
   |rf l r3=>cases e5;exact PostS.before R2 k2 q
   |rg ks l r3=>cases e5;exact PostS.before R2 k2 q
end
def lG(K:Fg)(bd:D->En->Option En):TG:=λv σ H Q=>∃O0 r d r',R K O0 H r σ/\Is K (Ow O0 r σ) H d v/\bd d r=some r'/\∀σ',R K O0 H r' σ'->Kp H r σ H r' σ'->Q σ' H
def DG(X:Cx)(tg:Expr)(bd:D->En->Option En):Prop:=PG X tg (lG X.K bd)
def zJE(K:Fg)(O M:Addr->Prop)(H0:Hp)(J:It)(l:List D):Prop:=∀(i:Nat) (H:Hp) (O':Addr->Prop),oR M H0 H->(∀a,O' a->H0 a≠none->O a) ->
 (i<l.length->J.go i H/\∀x H',J.yld i H x H'->Same H H'/\∀d,l[i]?=some d->Is K O' H' d x)/\(i=l.length->J.stop i H)
def lI(K:Fg)(it:ML):TI:=λσ H Rr=>∃O0 r l,R K O0 H r σ/\it r=some l/\∀J H',Same H H'->zJE K (Ow O0 r σ) (MutAt r σ) H' J l->Rr J H'
def DI(X:Cx)(tg iter:Expr)(it:ML):Prop:=PI X tg iter (lI X.K it)
theorem PG.conseq{X:Cx}{e:Expr}{t t':TG}(h:PG X e t)(i:∀v σ H Q,t' v σ H Q->t v σ H Q):PG X e t':=λpZ s σ H v u Q I r q=>h pZ s σ H v u Q I r (i v σ H Q q)
theorem PI.conseq{X:Cx}{tg e:Expr}{t t':TI}(h:PI X tg e t)(i:∀σ H Q,t' σ H Q->t σ H Q):PI X tg e t':=λpZ s σ H Q I q=>h pZ s σ H Q I (i σ H Q q)
theorem uF{α:Type}{l:List α}{i:Nat}{d:α}(h:l[i]?=some d):l.drop i=d::l.drop (i+1):=by
 obtain⟨lt,eq⟩:=av.mp h;rw[<-eq,so lt]
section
variable{X:Cx}{pos:Pos}{tg iter:Expr}{bd:D->En->Option En}{it:ML}{g:MS}{body:List Stmt}
theorem zMK(hp:PassesOwn (model X.prog X.w) X.A X.env X.xe)(hc:X.calm=true)(hi:DI X tg iter it)(hg:DG X tg bd)(hb:DSs X body g)(hs:∀x,fg iter X.env x=pure x:=by intro _;rfl):DS X (.For tg iter body [] pos) (mW bd it g):=by
 refine PS.conseq (zEL hp hc hi hg hb hs) λDn σ H hq=>?_
 obtain⟨O0,r,fl,hR,e,q⟩:=hq;obtain⟨l,e1,e2⟩:=bnS e;refine⟨O0,r,l,hR,e1,λJ H0 s0 yl=>?_⟩;have R0:=hR.same s0;refine⟨λi m σ1 H1=>m=l.length-i/\i<=l.length/\∃r1,R X.K O0 H1 r1 σ1/\Kp H0 r σ H1 r1 σ1/\nY bd g (l.drop i) r1=some fl,⟨l.length,by simp,cg _,r,R0,Kp.refl H0 r σ,by simpa using e2⟩,?_⟩;rintro i m σ1 H1 ⟨rfl,hil,r1,R1,k1,e3⟩;have k0:=(Kp.of_same r σ s0).trans k1;obtain⟨y1,y2⟩:=yl i H1 (Ow O0 r1 σ1) k1.keep λa z n=>z.elim .inl λz=>(k1.new a z).elim .inr λz=>absurd z n
 by_cases hlt:i<l.length
 ·obtain⟨go,yd⟩:=y1 hlt;have hd:l[i]?=some l[i]:=by simp[hlt]
  rw[uF hd] at e3;obtain⟨r2,e4,e5⟩:=bnS e3;obtain⟨f1,e6,e7⟩:=bnS e5;refine .inr ⟨go,λσ3 H3=>∃r3,R X.K O0 H3 r3 σ3/\Kp H0 r σ H3 r3 σ3/\nY bd g (l.drop (i+1)) r3=some fl,λσ3 H3 z=>⟨l.length-(i+1),by omega,rfl,hlt,z⟩,λx H2 yx=>?_⟩;obtain⟨s2,ix⟩:=yd x H2 yx;have R2:=R1.same s2;refine⟨O0,r1,l[i],r2,R2,ix _ hd,e4,λσ2 R2' k2=>⟨O0,r2,f1,R2',e6,?_⟩⟩;have k3:=(k1.trans (Kp.of_same r1 σ1 s2)).trans k2;have k4:=(k0.trans (Kp.of_same r1 σ1 s2)).trans k2;cases f1 with
  |nx r3=>exact λσ3 H3 R3 kk=>⟨r3,R3,k3.trans kk,e7⟩
  |ct r3=>exact λσ3 H3 R3 kk=>⟨r3,R3,k3.trans kk,e7⟩
  |bk r3=>cases e7;exact λσ3 H3 R3 kk=>q σ3 H3 R3 (k4.trans kk)
  |rt d r3=>cases e7;exact PostS.before R2' k4 q
  |rf l' r3=>cases e7;exact PostS.before R2' k4 q
  |rg ks l' r3=>cases e7;exact PostS.before R2' k4 q
 ·have hl:l.drop i=[]:=kq (by omega);rw[hl] at e3;cases e3;exact .inl ⟨y2 (by omega),q σ1 H1 R1 k0⟩
theorem qG(i:Nat){x:Str}(hN:X.N.Nodup)(hi:X.N[i]?=some x:=by rfl)(hx:Loc X.env.scope x:=by first|exact Or.inl rfl|exact Or.inr rfl)(hf:X.fn x=true\/X.env.scope.names.lookup x=some .local:=by first|exact .inl rfl|exact .inr rfl):DG X (.Name x pos) (yN i):=by
 refine PG.conseq (tT hN hi hx hf) λv σ H Q h=>?_
 obtain⟨O0,r,d,r',hR,iv,e,q⟩:=h;obtain⟨hl,np,rfl⟩:=jD e;obtain⟨R1,k1⟩:=hR.setv hl np iv;exact q _ R1 k1
def oQ:List D->En->Option En:=λl r=>if l.isEmpty then some r else none
def qL(b:D->En->Option En)(bs:List D->En->Option En):List D->En->Option En:=λl r=>match l with
 |[]=>none
 |d::t=>(b d r).bind λr1=>bs t r1
def lGs(K:Fg)(bs:List D->En->Option En):TGs:=λvs σ H Q=>∃O0 r l r',R K O0 H r σ/\IsL K (Ow O0 r σ) H l vs/\bs l r=some r'/\∀σ',R K O0 H r' σ'->Kp H r σ H r' σ'->Q σ' H
def DGs(X:Cx)(ts:List Expr)(bs:List D->En->Option En):Prop:=PGs X ts (lGs X.K bs)
theorem PGs.conseq{e:List Expr}{t t':TGs}(h:PGs X e t)(i:∀v σ H Q,t' v σ H Q->t v σ H Q):PGs X e t':=λpZ s σ H v u Q I r q=>h pZ s σ H v u Q I r (i v σ H Q q)
theorem ZX:DGs X [] oQ:=by
 refine PGs.conseq zEW λvs σ H Q h=>?_
 obtain⟨O0,r,l,r',hR,il,e,q⟩:=h;unfold oQ at e;cases l with
 |nil=>
  unfold IsL at il;cases e;exact⟨il,q σ hR (Kp.refl H r σ)⟩
 |cons d l=>cases e
theorem uU{e:Expr}{es:List Expr}{bs:List D->En->Option En}(h1:DG X e bd)(h2:DGs X es bs)(hs:(io (e::es) X.env).map (·.2)=assign e X.env::(io es X.env).map (·.2):=by rfl):DGs X (e::es) (qL bd bs):=by
 refine PGs.conseq (zAP h1 h2 hs) λvs σ H Q h=>?_
 obtain⟨O0,r,l,r',hR,il,e,q⟩:=h;cases l with
 |nil=>cases e
 |cons d t=>
  unfold IsL at il;obtain⟨v,us,rfl,i1,i2⟩:=il;obtain⟨r1,e1,e2⟩:=bnS e;refine⟨v,us,rfl,O0,r,d,r1,hR,i1,e1,λσ1 R1 k1=>⟨O0,r1,t,r',R1,?_,e2,λσ2 R2 k2=>q σ2 R2 (k1.trans k2)⟩⟩;exact IsL.mono (Same.kp (Same.refl H) _) hR.ol (λa z n=>z.elim .inl λz=>(k1.new a z).elim .inr λz=>absurd z n) _ _ i2
end
inductive Rs where
 |v (d:D)|f (l:List D)|g (ks:List Key) (l:List D)
noncomputable abbrev MF:=List Sl->Option (Rs×List Sl)
structure PostF(K:Fg)(O0:Addr->Prop)(H:Hp)(as:List Sl)(vs:List V)(H':Hp)(as':List Sl):Prop where
 keep:oR (MutAt as (vs.map some)) H H'
 live:∀b,H' b=none->H b=none
 lst:∀b o,H b=some o->Mb o->∃o',H' b=some o'/\Mb o'
 par:∀(i:Nat) (l:List D),as[i]?=some (.p l)->∃l' a xs,as'[i]?=some (.p l')/\vs[i]?=some (.ref a)/\H' a=some (.lst xs)/\IsL K O0 H' l' xs
 pad:∀(i:Nat) (ks:List Key) (l:List D),as[i]?=some (.d true ks l)->∃ks' l' a kvs,as'[i]?=some (.d true ks' l')/\vs[i]?=some (.ref a)/\H' a=some (.dK kvs)/\kvs.map (·.1)=ks'/\IsL K O0 H' l' (kvs.map (·.2))
def RsP(K:Fg)(O0:Addr->Prop)(H:Hp)(as:List Sl)(vs:List V)(as':List Sl)(Q:VK):Rs->Prop
 |.v d=>∀v H',PostF K O0 H as vs H' as'->Is K O0 H' d v->Q v H'
 |.f l=>∀a xs H',PostF K O0 H as vs H' as'->H a=none->H' a=some (.lst xs)->IsL K (λb=>O0 b\/b=a) H' l xs->Q (.ref a) H'
 |.g ks l=>∀a kvs H',PostF K O0 H as vs H' as'->H a=none->H' a=some (.dK kvs)->kvs.map (·.1)=ks->IsL K (λb=>O0 b\/b=a) H' l (kvs.map (·.2))->Q (.ref a) H'
def spD(K:Fg)(n:Nat)(m:MF):Sp:=λvs H Q _=>∃O0 as rs as',as.length=n/\R K O0 H as (vs.map some)/\(∀(i:Nat) (l:List D),as[i]?≠some (.o l)/\as[i]?≠some (.z l)/\∀ks,as[i]?≠some (.d false ks l))/\m as=some (rs,as')/\RsP K O0 H as vs as' Q rs
def mkF(n N:Nat)(g:MS):MF:=λas=>(g (as++List.replicate (N-n) .un)).bind λfl=>match fl with
 |.rt d r'=>some (.v d,r'.take n)
 |.rf l r'=>some (.f l,r'.take n)
 |.rg ks l r'=>some (.g ks l,r'.take n)
 |.nx r'=>some (.v .non,r'.take n)
 |_=>none
section
variable{K:Fg}
theorem nD{q:Sl->Option (List D)}(hq:q .un=none){as:List Sl}{vs:List V}{k n:Nat}{a:Addr}(hl:as.length=vs.length):AtS q (as++List.replicate k .un) (vs.map some++List.replicate n none) a↔AtS q as (vs.map some) a:=by
 constructor
 ·rintro ⟨i,l,e,q'⟩;by_cases hi:i<as.length
  ·rw[bg hi] at e;rw[bg (by simp;omega)] at q';exact⟨i,l,e,q'⟩
  ·rw[cu (by omega),cj] at e;split at e
   ·have e':q .un=some l:=e;rw[hq] at e';cases e'
   ·cases e
 ·rintro ⟨i,l,e,q'⟩;have hi:i<as.length:=by
   cases e1:as[i]? with
   |none=>rw[e1] at e;cases e
   |some x=>exact(av.mp e1).1
  exact⟨i,l,by rw[bg hi];exact e,by rw[bg (by simp;omega)];exact q'⟩
theorem R.start{O0:Addr->Prop}{H:Hp}{as:List Sl}{vs:List V}{k:Nat}(h:R K O0 H as (vs.map some)):R K O0 H (as++List.replicate k .un) (vs.map some++List.replicate k none):=by
 have hl:as.length=vs.length:=by simpa using h.len
 have own:∀a,Ow O0 (as++List.replicate k .un) (vs.map some++List.replicate k none) a->H a≠none->Ow O0 as (vs.map some) a:=λa z _=>z.imp id (nD rfl hl).mp
 have pre:∀(i:Nat) (x:Sl),(as++List.replicate k .un)[i]?=some x->x≠.un->as[i]?=some x/\(vs.map some++List.replicate k none)[i]?=(vs.map some)[i]?:=λi x e n=>by
  by_cases hi:i<as.length
  ·rw[bg hi] at e;exact⟨e,bg (by simp;omega)⟩
  ·rw[cu (by omega),cj] at e;split at e
   ·cases e;exact absurd rfl n
   ·cases e
 have preO:∀{q:Sl->Option (List D)} (hq:q .un=none) (i:Nat) (l:List D),((as++List.replicate k .un)[i]?).bind q=some l->(as[i]?).bind q=some l/\(vs.map some++List.replicate k none)[i]?=(vs.map some)[i]?:=λ{q} hq i l e=>by
  cases e1:(as++List.replicate k .un)[i]? with
  |none=>rw[e1] at e;cases e
  |some x=>
   obtain⟨q1,q2⟩:=pre i x e1 (by rintro rfl;rw[e1] at e;have e':q .un=some l:=e;rw[hq] at e';cases e');rw[e1] at e;exact⟨by rw[q1];exact e,q2⟩
 refine⟨by simp[hl],λi d e=>?_,λi l e=>?_,λi j a l m e1 e2 q1 q2=>?_,h.o0,λi l a e q=>?_,λi l a e q=>?_,λi f ks l e=>?_⟩
 ·obtain⟨q1,q2⟩:=pre i _ e (by intro z;cases z);obtain⟨v,e3,q3⟩:=h.val i d q1;exact⟨v,q2.trans e3,Is.mono (Same.kp (Same.refl H) _) h.ol own _ _ q3⟩
 ·obtain⟨q1,q2⟩:=preO (q:=Sl.ls) rfl i l e;obtain⟨a,xs,e3,e4,q3⟩:=h.own i l q1;exact⟨a,xs,q2.trans e3,e4,IsL.mono (Same.kp (Same.refl H) _) h.ol own _ _ q3⟩
 ·obtain⟨p1,p2⟩:=preO (q:=Sl.own) rfl i l e1;obtain⟨p3,p4⟩:=preO (q:=Sl.own) rfl j m e2;exact h.apart i j a l m p1 p3 (p2 ▸ q1) (p4 ▸ q2)
 ·rcases e with e|e|⟨ks,e⟩
  ·obtain⟨p1,p2⟩:=pre i _ e (by intro z;cases z);exact h.loc i l a (.inl p1) (p2 ▸ q)
  ·obtain⟨p1,p2⟩:=pre i _ e (by intro z;cases z);exact h.loc i l a (.inr (.inl p1)) (p2 ▸ q)
  ·obtain⟨p1,p2⟩:=pre i _ e (by intro z;cases z);exact h.loc i l a (.inr (.inr ⟨ks,p1⟩)) (p2 ▸ q)
 ·obtain⟨x,p0,e0⟩:=nk.mp e;obtain⟨p1,p2⟩:=pre i _ p0 (by rintro rfl;cases e0);exact h.par i l a (by rw[p1];exact e0) (p2 ▸ q)
 ·obtain⟨p1,p2⟩:=pre i _ e (by intro z;cases z);obtain⟨a,kvs,e3,e4,e5,q3⟩:=h.dct i f ks l p1;exact⟨a,kvs,p2.trans e3,e4,e5,IsL.mono (Same.kp (Same.refl H) _) h.ol own _ _ q3⟩
theorem zPV{st:Stmt}(F:Fun K x qual st f fd)(S:FnScope N ps (zG st))(n:Nat)(nN:Nat)(hn:ps.length=n:=by rfl)(hN:N.length=nN:=by rfl)(hb:∀(cdv:Value),fd.code=cdv->∀(A:Around) (outer:List Env) (s:Shared) (H:Hp) (E:XK),Room k (A.deeper (envOfC qual (zG st) s.heap.objs.size f cdv)) ->
   DSs (zIM CX0 P w K mg base N qual (zG st) f cdv A outer s H E).nox (qS st) g):FnOk P w K mg base CX0 (k+1) f fd ps (spD K n (mkF n nN g)):=by
 subst hn hN;obtain⟨oc,od,kV,doc,pm,an,cdv,ct,osl,rfl,lk,hcd⟩:=F.ex;refine zNX lk hcd S (λvs H Q E h=>?_) (λA outer s H vs Q E hr h=>?_)
 ·obtain⟨O0,as,rs,as',hl,hR,_⟩:=h
  have:=hR.len
  simp at this;omega
 ·obtain⟨O0,as,rs,as',hl,hR,no,e,q⟩:=h;have hlv:as.length=vs.length:=by simpa using hR.len
  refine⟨_,PSs.nox (hb cdv rfl A outer s H E hr),?_⟩;obtain⟨fl,e1,e2⟩:=bnS e;have hst:L2.start N vs=vs.map some++List.replicate (N.length-ps.length) none:=by unfold L2.start;rw[<-hlv,hl]
  rw[hst];have R0:=R.start (k:=N.length-ps.length) hR;have fin:∀(σ':St) (H':Hp) (r':En),R K O0 H' r' σ'->Kp H (as++List.replicate (N.length-ps.length) .un) (vs.map some++List.replicate (N.length-ps.length) none) H' r' σ'->PostF K O0 H as vs H' (r'.take ps.length):=λσ' H' r' R' k'=>by
   refine⟨λb o eb nb=>k'.keep b o eb λz=>nb ((nD rfl hlv).mp z),k'.live,k'.lst,λi l ei=>?_,λi ks l ei=>?_⟩
   rotate_left
   ·have hi:i<as.length:=(av.mp ei).1;obtain⟨e3,e4⟩:=k'.par i true (by rw[bg hi,ei];rfl);obtain⟨ks',l',e3⟩:=zR7 e3;rw[bg (by simp;omega)] at e4;obtain⟨a,kvs,e5,e6,e7,e8⟩:=R'.dct i true ks' l' e3;rw[e4] at e5;have ev:vs[i]?=some (.ref a):=by
     rw[bn] at e5;cases e8:vs[i]? with
     |none=>rw[e8] at e5;cases e5
     |some y=>rw[e8] at e5;cases e5;rfl
    exact⟨ks',l',a,kvs,by rw[ng (by omega)];exact e3,ev,e6,e7,IsL.mono (Same.kp (Same.refl H') _) R'.ol (λ_ z _=>.inl z) _ _ e8⟩
   have hi:i<as.length:=(av.mp ei).1;obtain⟨e3,e4⟩:=k'.par i false (by rw[bg hi,ei];rfl);obtain⟨l',e3⟩:=zQP e3;rw[bg (by simp;omega)] at e4;obtain⟨a,xs,e5,e6,e7⟩:=R'.own i l' (by rw[e3];rfl);rw[e4] at e5;have ev:vs[i]?=some (.ref a):=by
    rw[bn] at e5;cases e8:vs[i]? with
    |none=>rw[e8] at e5;cases e5
    |some y=>rw[e8] at e5;cases e5;rfl
   exact⟨l',a,xs,by rw[ng (by omega)];exact e3,ev,e6,IsL.mono (Same.kp (Same.refl H') _) R'.ol (λ_ z _=>.inl z) _ _ e7⟩
  refine⟨O0,_,fl,R0,e1,?_⟩;cases fl with
  |nx r'=>cases e2;exact λσ' H' R' k'=>q .non H' (fin σ' H' r' R' k') (by rw[Is.non_iff])
  |bk r'=>cases e2
  |ct r'=>cases e2
  |rt d r'=>cases e2;exact λv σ' H' R' k' i'=>q v H' (fin σ' H' r' R' k') i'
  |rf l r'=>
   cases e2;refine λa xs σ' H' R' k' fr no0 ea il=>q a xs H' (fin σ' H' r' R' k') ?_ ea il
   rcases fr with z|⟨i,m,ei,_⟩
   ·exact z
   ·exfalso;by_cases hi:i<as.length
    ·rw[bg hi] at ei;rcases ei with ei|⟨ks,ei⟩
     ·exact(no i m).1 ei
     ·exact(no i m).2.2 ks ei
    ·rw[cu (by omega),cj] at ei;rcases ei with ei|⟨ks,ei⟩<;>split at ei<;>cases ei
  |rg ks l r'=>
   cases e2;refine λa kvs σ' H' R' k' fr no0 ea ek il=>q a kvs H' (fin σ' H' r' R' k') ?_ ea ek il
   rcases fr with z|⟨i,m,ei,_⟩
   ·exact z
   ·exfalso;by_cases hi:i<as.length
    ·rw[bg hi] at ei;rcases ei with ei|⟨ks',ei⟩
     ·exact(no i m).1 ei
     ·exact(no i m).2.2 ks' ei
    ·rw[cu (by omega),cj] at ei;rcases ei with ei|⟨ks',ei⟩<;>split at ei<;>cases ei
theorem bO{st:Stmt}(F:Fun K x qual st f fd)(S:FnScope N ps (zG st))(n:Nat)(nN:Nat)(hn:ps.length=n:=by rfl)(hN:N.length=nN:=by rfl)(hb:∀(cdv:Value) (A:Around) (outer:List Env) (s:Shared) (H:Hp) (E:XK),Room k (A.deeper (envOfC qual (zG st) s.heap.objs.size f cdv)) ->
   DSs (zIM CX0 P w K mg base N qual (zG st) f cdv A outer s H E).nox (qS st) g):FnOk P w K mg base CX0 (k+1) f fd ps (spD K n (mkF n nN g)):=zPV F S n nN hn hN λcdv _=>hb cdv
theorem zRK(n:Nat):FnOk P w K mg base CX0 k f fd ps (spD K n λ_=>none):=
 ⟨(λvs H Q E h=>by obtain⟨_,_,_,_,_,_,_,e,_⟩:=h;cases e),(λA outer s H args us vs Q E _ _ _ _ h=>by obtain⟨_,_,_,_,_,_,_,e,_⟩:=h;cases e)⟩
end
noncomputable def rsD:Rs->D
 |.v d=>d
 |.f l=>.lst l
 |.g ks l=>.dct ks l
def zM(n:Nat)(m:MF)(fs:ML):ME:=λr=>(fs r).bind λds=>if ds.length=n then (m (ds.map .v)).map λp=>rsD p.1 else none
def vL(n:Nat)(m:MF)(fs:ML):ML:=λr=>(fs r).bind λds=>if ds.length=n then (m (ds.map .v)).bind λp=>match p.1 with
 |.f l=>some l
 |_=>none
 else none
section
variable{K:Fg}
theorem R.args(ol:j9 O H)(h:IsL K O H ds vs):R K O H (ds.map .v) (vs.map some):=by
 have no:∀(i:Nat) (l:List D),((ds.map Sl.v)[i]?).bind Sl.own≠some l:=λi l e=>by
  rw[bn] at e;cases e1:ds[i]? with
  |none=>rw[e1] at e;cases e
  |some x=>rw[e1] at e;cases e
 refine⟨by simp[h.length],λi d e=>?_,λi l e=>absurd (j4 e) (no i l),λi j a l m e1=>absurd e1 (no i l),ol,λi l a e=>absurd (show((ds.map Sl.v)[i]?).bind Sl.own=some l by rcases e with e|e|⟨_,e⟩<;>rw[e]<;>rfl) (no i l),λi l a e=>absurd (cA e).choose_spec (no i _),λi _ ks l e=>absurd (show((ds.map Sl.v)[i]?).bind Sl.own=some l by rw[e];rfl) (no i l)⟩;rw[bn] at e;cases e1:ds[i]? with
 |none=>rw[e1] at e;cases e
 |some x=>
  rw[e1] at e;cases e;obtain⟨v,e2,q⟩:=h.get e1;exact⟨v,by rw[bn,e2];rfl,Is.mono (Same.kp (Same.refl H) _) ol (λa z _=>z.elim id λ⟨j,l,ej,_⟩=>absurd ej (no j l)) _ _ q⟩
theorem zAY{ds:List D}{σ:St}{a:Addr}:¬MutAt (ds.map .v) σ a:=λ⟨i,l,e,_⟩=>by
 rw[bn] at e;cases e1:ds[i]? with
 |none=>rw[e1] at e;cases e
 |some x=>rw[e1] at e;cases e
theorem PostF.same{O0:Addr->Prop}{H H':Hp}{ds:List D}{vs:List V}{as':List Sl}(h:PostF K O0 H (ds.map .v) vs H' as'):Same H H':=λb o e=>h.keep b o e zAY
end
section
variable{X:Cx}{k n:Nat}{f:Addr}{fd:FuncData}{ps:List Str}{m:MF}{x:Str}{p pos:Pos}{e:Expr}{es:List Expr}{fs:ML}
theorem dB{O0:Addr->Prop}{r:En}{σ:St}{H H1:Hp}{ds:List D}{vs:List V}{rs:Rs}{as':List Sl}{Q:VK}{E:XK}(hR:R X.K O0 H r σ)(s1:Same H H1)(il:IsL X.K (Ow O0 r σ) H1 ds vs)(hl:ds.length=n)(em:m (ds.map .v)=some (rs,as'))(q:RsP X.K (Ow O0 r σ) H1 (ds.map .v) vs as' Q rs):spD X.K n m (vs++[]) H1 Q E:=by
 rw[dm];refine⟨Ow O0 r σ,ds.map .v,rs,as',by simpa using hl,R.args (hR.same s1).ol il,λi l=>?_,em,q⟩;rw[bn];cases e1:ds[i]? with
 |none=>exact⟨(λz=>by cases z),(λz=>by cases z),(λ_ z=>by cases z)⟩
 |some y=>exact⟨(λz=>by cases z),(λz=>by cases z),(λ_ z=>by cases z)⟩
theorem JG(F:FnOk X.prog X.w X.K X.mg X.base CX0 k f fd ps (spD X.K n m))(hr:Room k X.A)(hg:Gl X x)(hm:X.mg x=some (.ref f))(hk:PySem.W.keepIn X.K (.ref f)=true)(hb:Binds X.K fd ps [])(ha:DA X (e::es) fs)(hdb:(x == ("__debug__" : Str))=false:=by decide)(he:ag (e::es) X.env=(false,eval e X.env)::ag es X.env:=by rfl)(hpl:(dq pos (ag es X.env)).any (·.1)=false:=by rfl):DE X (.Call (.Name x p) (e::es) [] pos) (zM n m fs):=by
 refine PE.conseq (dG (E:=λ_ _ _=>False) (dvs:=[]) F hr hg hm hk hb .nil nA ha hdb he hpl) λσ H Q h=>?_
 obtain⟨O0,r,d,hR,e,q⟩:=h;obtain⟨ds,e1,e2⟩:=bnS e;split at e2
 ·rename_i hl;obtain⟨⟨rs,as'⟩,e3,rfl⟩:=mpS e2;refine⟨O0,r,ds,hR,e1,λvs H1 s1 il=>dB hR s1 il hl e3 ?_⟩;cases rs with
  |v d=>exact λv H2 pf iv=>q v H2 (s1.trans pf.same) iv
  |f l=>
   refine λa xs H2 pf na ea il2=>q _ H2 (s1.trans pf.same) ?_
   have R1:=hR.same s1;have olp:j9 (λb=>Ow O0 r σ b\/b=a) H2:=λb z=>z.elim (λz=>(R1.same pf.same).ol b z) λz=>by subst z;exact⟨.lst xs,ea,trivial⟩
   show Is X.K (Ow O0 r σ) H2 (.lst l) (.ref a);rw[Is.lst_iff];exact⟨a,xs,rfl,.inl ⟨R1.nofresh na,.inl ea⟩,IsL.mono (Same.kp (Same.refl H2) _) olp (λ_ z _=>.inl z) _ _ il2⟩
  |g ks l=>
   refine λa kvs H2 pf na ea ek il2=>q _ H2 (s1.trans pf.same) ?_
   have olp:j9 (λb=>Ow O0 r σ b\/b=a) H2:=λb z=>z.elim (λz=>((hR.same s1).same pf.same).ol b z) λz=>by subst z;exact⟨.dK kvs,ea,trivial⟩
   show Is X.K (Ow O0 r σ) H2 (.dct ks l) (.ref a);rw[Is.dct_iff];exact⟨a,kvs,rfl,(hR.same s1).nofresh na,.inl ea,ek,IsL.mono (Same.kp (Same.refl H2) _) olp (λ_ z _=>.inl z) _ _ il2⟩
 ·cases e2
theorem zHV(F:FnOk X.prog X.w X.K X.mg X.base CX0 k f fd ps (spD X.K n m))(hr:Room k X.A)(hg:Gl X x)(hm:X.mg x=some (.ref f))(hk:PySem.W.keepIn X.K (.ref f)=true)(hb:Binds X.K fd ps [])(ha:DA X (e::es) fs)(hdb:(x == ("__debug__" : Str))=false:=by decide)(he:ag (e::es) X.env=(false,eval e X.env)::ag es X.env:=by rfl)(hpl:(dq pos (ag es X.env)).any (·.1)=false:=by rfl):DF X (.Call (.Name x p) (e::es) [] pos) (vL n m fs):=by
 refine PE.conseq (dG (E:=λ_ _ _=>False) (dvs:=[]) F hr hg hm hk hb .nil nA ha hdb he hpl) λσ H Q h=>?_
 obtain⟨O0,r,l,hR,e,q⟩:=h;obtain⟨ds,e1,e2⟩:=bnS e;split at e2
 ·rename_i hl;obtain⟨⟨rs,as'⟩,e3,e4⟩:=bnS e2;refine⟨O0,r,ds,hR,e1,λvs H1 s1 il=>dB hR s1 il hl e3 ?_⟩;cases rs with
  |v d=>cases e4
  |f l'=>cases e4;exact λa xs H2 pf na ea il2=>q a xs H2 (s1.trans pf.same) (s1.free na) ea il2
  |g ks l'=>cases e4
 ·cases e2
end
noncomputable def zGM:D->Option (List D)
 |.lst l=>some l
 |.tup l=>some l
 |_=>none
def mIt(f:ME):ML:=λr=>(f r).bind zGM
theorem uC{l:List D}{i:Nat}(h:i<l.length):∃d,l[i]?=some d:=⟨l[i],by simp[h]⟩
theorem zC6{K:Fg}{O M:Addr->Prop}(mo:∀a,M a->O a){H:Hp}{a:Addr}{xs:List V}{ds:List D}(ol:j9 O H)(rd:∀H1,oR M H H1->SqL K H1 a xs)(il:IsL K O H ds xs):zJE K O M H (Itl K a) ds:=by
 intro i H1 O' kp oo;have kp':oR O H H1:=λb o e n=>kp b o e λz=>n (mo b z)
 have rd1:SqL K H1 a xs:=rd H1 kp;refine⟨λhi=>⟨?_,λx H' y=>?_⟩,λhi=>⟨xs,rd1,by rw[<-il.length];exact jj hi.symm⟩⟩
 ·obtain⟨d,e⟩:=uC hi;obtain⟨v,e1,_⟩:=il.get e;exact⟨xs,v,rd1,e1⟩
 ·obtain⟨rfl,y⟩:=y;refine⟨Same.refl _,λd e=>?_⟩;obtain⟨v,e1,q⟩:=il.get e
  have:=y xs rd1
  rw[e1] at this;cases this;exact Is.mono kp' ol oo _ _ q
theorem zC4{K:Fg}{O M:Addr->Prop}(mo:∀a,M a->O a){H:Hp}{a:Addr}{xs:List V}{ds:List D}(ol:j9 O H)(rd:SqT K H a xs)(il:IsL K O H ds xs):zJE K O M H (Itt K a) ds:=by
 intro i H1 O' kp oo;have kp':oR O H H1:=λb o e n=>kp b o e λz=>n (mo b z)
 have rd1:SqT K H1 a xs:=SqT.keep kp' ol rd;refine⟨λhi=>⟨?_,λx H' y=>?_⟩,λhi=>⟨xs,rd1,by rw[<-il.length];exact jj hi.symm⟩⟩
 ·obtain⟨d,e⟩:=uC hi;obtain⟨v,e1,_⟩:=il.get e;exact⟨xs,v,rd1,e1⟩
 ·obtain⟨rfl,y⟩:=y;refine⟨Same.refl _,λd e=>?_⟩;obtain⟨v,e1,q⟩:=il.get e
  have:=y xs rd1
  rw[e1] at this;cases this;exact Is.mono kp' ol oo _ _ q
theorem zEU(hl:PE X l tl):PI X tg l (λσ H Rr=>tl σ H λx H1=>∃a,x=.ref a/\(((∃xs,SqL X.K H1 a xs)/\Rr (Itl X.K a) H1)\/((∃xs,SqT X.K H1 a xs)/\Rr (Itt X.K a) H1))):=by
 intro pZ s σ H R I h;refine thn (hl pZ s σ H _ I h) λv s1 ⟨x,H1,I1,r1,q1⟩=>?_
 obtain⟨a,e,q⟩:=q1;subst e;cases r1;rcases q with⟨⟨xs,hq⟩,q⟩|⟨⟨xs,hq⟩,q⟩
 ·obtain⟨its,rv,p,hz⟩:=I1.list hq;refine qr p.isList ?_;refine⟨s1.heap.objs.size,[s1.heap.objs.size],_,_,H1,rfl,I1.kept (t':=s1.toks) λb o e=>al _ e,YR a _,⟨_,bo _ rfl,rfl,rfl⟩,λb hb=>?_,q⟩;have e:b=s1.heap.objs.size:=by simpa using hb
  subst e;exact I1.fpOk (ae _) (I1.hok.fresh (ae _))
 ·obtain⟨its,rv,p,hz⟩:=I1.tuple hq;refine wpAny_pyIter_tuple (show s1.heap.IsTuple a its.toArray from p) ?_;refine⟨s1.heap.objs.size,[s1.heap.objs.size],_,_,H1,rfl,I1.kept (t':=s1.toks) λb o e=>al _ e,o8 a _,⟨_,bo _ rfl,rfl,rfl⟩,λb hb=>?_,q⟩;have e:b=s1.heap.objs.size:=by simpa using hb
  subst e;exact I1.fpOk (ae _) (I1.hok.fresh (ae _))
theorem zHR(hl:DE X l f):DI X tg l (mIt f):=by
 refine PI.conseq (zEU hl) λσ H Rr h=>?_
 obtain⟨O0,r,ds,hR,e,q⟩:=h;obtain⟨d,e1,e2⟩:=bnS e;refine⟨O0,r,d,hR,e1,λv H1 s1 i1=>?_⟩;have ol:=(hR.same s1).ol;cases d with
 |lst l'=>
  cases e2;rw[Is.lst_iff] at i1;obtain⟨a,xs,rfl,rd,il⟩:=i1;exact⟨a,rfl,.inl ⟨⟨xs,rd.sq⟩,q _ H1 s1 (zC6 (λa z=>.inr z.own) ol (λH2 k2=>rd.imp (λz=>Rd.keep k2 (λy=>z.1 (.inr y.own)) z.2) id) il)⟩⟩
 |tup l'=>
  cases e2;rw[Is.tup_iff] at i1;obtain⟨a,xs,rfl,rd,il⟩:=i1;exact⟨a,rfl,.inr ⟨⟨xs,rd⟩,q _ H1 s1 (zC4 (λa z=>.inr z.own) ol rd il)⟩⟩
 |_=>cases e2
noncomputable def zND(lo:Int)(n:Nat):List D:=(List.range n).map λi=>.int (lo+(i:Nat))
theorem zJL{K:Fg}(lo:Int)(n:Nat):zJE K O M H (Itr lo n) (zND lo n):=by
 intro i H1 O' kp oo;have hl:(zND lo n).length=n:=by simp[zND]
 refine⟨λhi=>⟨by rw[hl] at hi;exact hi,λx H' y=>?_⟩,λhi=>by rw[hl] at hi;exact jj hi.symm⟩;obtain⟨rfl,rfl⟩:=y;refine⟨Same.refl _,λd e=>?_⟩;rw[hl] at hi;unfold zND at e;rw[bn,qk hi] at e;cases e;rw[Is.int_iff]
noncomputable def intD:D->Option Int
 |.int i=>some i
 |_=>none
def gS(f:ME):ML:=λr=>(f r).bind λd=>(intD d).bind λj=>if -(2 ^ 62)<=j/\j<2 ^ 62 then some (zND 0 j.toNat) else none
theorem j6(e:intD d=some i):d=.int i:=by
 cases d<;>first|cases e;rfl|cases e
theorem zHT(hg:Gl X "range")(hm:X.mg "range" = none)(ha:DE X l f)(hs:ag [l] X.env=[(false,eval l X.env)]:=by rfl):DI X tg (.Call (.Name "range" p) [l] [] pos) (gS f):=by
 refine PI.conseq (Y9 hg hm (zY ha yV hs) hs) λσ H Rr h=>?_
 obtain⟨O0,r,ds,hR,e,q⟩:=h;obtain⟨d,e1,e2⟩:=bnS e;obtain⟨j,e3,e4⟩:=bnS e2;cases j6 e3;split at e4
 ·rename_i hj;cases e4;refine⟨O0,r,_,hR,e1,λv H1 s1 i1=>?_⟩;rw[Is.int_iff] at i1;exact⟨j,by rw[i1],hj.1,hj.2,q _ H1 s1 (zJL 0 _)⟩
 ·cases e4
noncomputable def WQ(env:Env):List (Str×NameKind)->List (Str×Addr)->List (Str×Addr)
 |[],acc=>acc
 |(n,k)::r,acc=>if k=.free then WQ env r ((n,(env.cells.lookup n).getD 0)::acc) else WQ env r acc
theorem uV:∀(names:List (Str×NameKind)) (acc:List (Str×Addr)),(∀y∈names,y.2=.free->∃c,env.cells.lookup y.1=some c) ->
  (forIn names acc (λ(x:Str×NameKind) (cs:List (Str×Addr))=>match x with
   |(name,kind)=>if (kind == NameKind.free)=true then do let a <- cellOf env name;pure (ForInStep.yield ((name,a)::cs)) else pure (ForInStep.yield cs)):Sem (List (Str×Addr)))=pure (WQ env names acc)
 |[],acc,_=>rfl
 |(n,k)::r,acc,h=>by
  rw[lw];by_cases hk:k=.free
  ·obtain⟨c,hc⟩:=h (n,k) dw hk;have ih:=uV r ((n,c)::acc) λy hy=>h y (bm _ hy)
   subst hk;show((do let a <- cellOf env n;pure (ForInStep.yield ((n,a)::acc))) >>= _:Sem _)=_;unfold cellOf;rw[hc];unfold WQ;rw[if_pos rfl,hc];exact ih
  ·have hb:(k == NameKind.free)=false:=by simpa using hk
   have ih:=uV r acc λy hy=>h y (bm _ hy)
   unfold WQ;rw[if_neg hk];simp only[hb];exact ih
theorem vC(h:∀y∈scope.names,y.2=.free->∃c,env.cells.lookup y.1=some c):closureFor scope env=pure (WQ env scope.names []):=by
 unfold closureFor
 have:=uV (env:=env) scope.names [] h
 first
  |exact this
  |(simp only[bind_pure];exact this)
  |(rw[<-this];rfl)
theorem mH:∀(names:List (Str×NameKind)) (acc:List (Str×Addr)),(∀y∈names,y.2=.free->∃c,env.cells.lookup y.1=some c)->(∀c,acc.lookup x=some c->env.cells.lookup x=some c) ->
  (WQ env names acc).lookup x=some c->env.cells.lookup x=some c
 |[],acc,_,ha,e=>ha c e
 |(n,k)::r,acc,h,ha,e=>by
  unfold WQ at e;split at e
  ·rename_i hk;refine mH r _ (λy hy=>h y (bm _ hy)) (λc' e'=>?_) e;rw[gh] at e';split at e'
   ·rename_i hx;have hx':x=n:=by simpa using hx
    subst hx';obtain⟨c2,q⟩:=h (x,k) dw hk;rw[q] at e' ⊢;simpa using e'
   ·exact ha c' e'
  ·exact mH r _ (λy hy=>h y (bm _ hy)) ha e
theorem mI:∀(names:List (Str×NameKind)) (acc:List (Str×Addr)),(∃c,acc.lookup x=some c)->∃c,(WQ env names acc).lookup x=some c
 |[],acc,h=>h
 |(n,k)::r,acc,h=>by
  unfold WQ;split
  ·refine mI r _ ?_;rw[gh];split
   ·exact⟨_,rfl⟩
   ·exact h
  ·exact mI r _ h
theorem cT:∀(names:List (Str×NameKind)) (acc:List (Str×Addr)),(x,NameKind.free)∈names->∃c,(WQ env names acc).lookup x=some c
 |[],_,h=>nomatch h
 |(n,k)::r,acc,h=>by
  unfold WQ;rcases ca.mp h with z|z
  ·cases z;rw[if_pos rfl];refine mI r _ ?_;rw[gh];simp
  ·split
   ·exact cT r _ z
   ·exact cT r _ z
theorem jY{env:Env}:∀{names:List (Str×NameKind)} {x:Str} {k:NameKind},(names.map λ(n,k)=>if (k == NameKind.free && env.scope.kind == .function && env.kindOf n == some .cell) then (n,NameKind.cell) else (n,k)).lookup x=some k ->
  ∃k',names.lookup x=some k'/\(k=k'\/(k'=.free/\k=.cell))
 |[],_,_,h=>by simp at h
 |(n,k0)::r,x,k,h=>by
  have h':List.lookup x ((if (k0 == NameKind.free && env.scope.kind == .function && env.kindOf n == some .cell)=true then (n,NameKind.cell) else (n,k0))::(r.map λ(n,k)=>if (k == NameKind.free && env.scope.kind == .function && env.kindOf n == some .cell) then (n,NameKind.cell) else (n,k)))=some k:=h;rw[gh];by_cases hc:(k0 == NameKind.free && env.scope.kind == .function && env.kindOf n == some .cell)=true
  ·rw[if_pos hc,gh] at h';split at h'
   ·rename_i hx;cases h';refine⟨k0,rfl,.inr ⟨?_,rfl⟩⟩;simp only[cw,beq_iff_eq] at hc;exact hc.1.1
   ·rename_i hx;exact jY h'
  ·rw[if_neg hc,gh] at h';split at h'
   ·rename_i hx;cases h';exact⟨k0,rfl,.inl rfl⟩
   ·rename_i hx;exact jY h'
theorem vV{env:Env}:∀{names:List (Str×NameKind)} {x:Str},names.lookup x=some .free ->
  let l:=(names.map λ(n,k)=>if (k == NameKind.free && env.scope.kind == .function && env.kindOf n == some .cell) then (n,NameKind.cell) else (n,k));l.lookup x=some .cell\/l.lookup x=some .free
 |[],_,h=>by simp at h
 |(n,k0)::r,x,h=>by
  show List.lookup x ((if (k0 == NameKind.free && env.scope.kind == .function && env.kindOf n == some .cell)=true then (n,NameKind.cell) else (n,k0))::_)=_\/List.lookup x ((if (k0 == NameKind.free && env.scope.kind == .function && env.kindOf n == some .cell)=true then (n,NameKind.cell) else (n,k0))::_)=_;rw[gh] at h;cases hx:x == n with
  |true=>
   rw[hx] at h;cases h;split
   ·left;rw[gh,hx]
   ·right;rw[gh,hx]
  |false=>
   rw[hx] at h;have ih:=vV (env:=env) h;split
   ·rw[gh,hx];exact ih
   ·rw[gh,hx];exact ih
def cxC(X:Cx)(N':List Str)(scope:Scope)(C:Addr)(fp:List Addr)(s:Shared)(H:Hp):Cx where
 prog:=X.prog
 w:=X.w
 K:=X.K
 mg:=X.mg
 base:=X.base
 A:=X.A
 N:=N'
 s₀:=s
 H₀:=H
 env:=compEnvC scope (WQ X.env scope.names []) C X.env
 outer:=X.stack
 stack:=X.stack
 ex:=fp
 fn:=λ_=>false
 calm:=X.calm
 pn:=[]
 xe:=λ_ _=>False
structure CmpOk(X:Cx)(N':List Str)(cap:List Nat)(scope:Scope):Prop where
 kind:scope.kind=.function
 nc:∀y∈scope.names,y.2≠.cell
 nm:∀y∈scope.names,y.2=.local->scope.names.lookup y.1=some .local
 fr:∀y∈scope.names,y.2=.free->X.env.kindOf y.1=some .cell\/X.env.kindOf y.1=some .free
 capt:∀(i j:Nat),cap[i]?=some j->∃x,N'[i]?=some x/\X.N[j]?=some x/\scope.names.lookup x=some .free
 len:cap.length<=N'.length
def zCY(cap:List Nat)(n:Nat)(σ:St):St:=(cap.map λj=>(σ[j]?).getD none)++List.replicate (n-cap.length) none
theorem CmpOk.hasc(o:CmpOk X N' cap scope)(ok:X.Ok):∀y∈scope.names,y.2=.free->∃c,X.env.cells.lookup y.1=some c:=λy hy e=>ok.has y.1 (o.fr y hy e)
theorem CmpOk.sub(o:CmpOk X N' cap scope)(ok:X.Ok)(e:(WQ X.env scope.names []).lookup x=some c):X.env.cells.lookup x=some c:=mH scope.names [] (o.hasc ok) (λ_ z=>by simp at z) e
theorem zBM(o:CmpOk X N' cap scope)(I:Inv X pZ σ H s)(hfp:∀b∈fp,W1 X pZ H b)(hlt:∀b∈fp,b<s.heap.objs.size){h':Heap}{t':Nat}(ns:h'.Ns s.heap.objs.size (λ_=>none))(kp:∀b u,s.heap.get? b=some u->h'.get? b=some u):Inv (cxC X N' scope s.heap.objs.size fp s H) [] (zCY cap N'.length σ) H { s with heap:=h',toks:=t' }:=by
 have hf:H s.heap.objs.size=none:=I.hok.fresh (ae _);have nofp:∀b∈fp,b∉frs X.stack:=λb hb z=>by
  obtain⟨f0,f1,f2,f3,f4,f5⟩:=hfp b hb;rcases ca.mp (I.stkSub b z) with q|q
  ·exact f1 q
  ·exact f2 q
 have ok':(cxC X N' scope s.heap.objs.size fp s H).Ok:=by
  refine⟨I.ok.mod,o.kind,I.ok.glob,I.ok.blt,ae _,λx y c e1 e2=>I.ok.inj x y c (o.sub I.ok e1) (o.sub I.ok e2),λx hx=>?_,λx c z=>(by cases z),I.ok.hd,I.ok.frames,.inl rfl,λb hb=>⟨bq (hlt b hb),λx c e=>(hfp b hb).2.2.2.2.1 x c (o.sub I.ok e)⟩,
   λb ob e=>I.bs b ob e,bv I.ok.bsz I.sz,λb ob e hb=>?_,nofp,I.stack,⟨I.stkFree,I.tabIn⟩⟩
  ·have key:scope.names.lookup x=some .free:=by
    rcases hx with hx|hx
    ·obtain⟨k',e1,e2⟩:=jY (env:=X.env) (names:=scope.names) (x:=x) (k:=.cell) hx;rcases e2 with e2|e2
     ·subst e2;exact absurd rfl (o.nc _ (gj e1))
     ·rw[e2.1] at e1;exact e1
    ·obtain⟨k',e1,e2⟩:=jY (env:=X.env) (names:=scope.names) (x:=x) (k:=.free) hx;rcases e2 with e2|e2
     ·subst e2;exact e1
     ·exact absurd e2.2 (by decide)
   exact cT scope.names [] (gj key)
  ·rcases(hfp b hb).2.2.2.1 with z|z
   ·exact I.ok.noex b ob e z
   ·exact absurd (bh (bh (au e) I.ok.bsz) z) (iw _)
 refine⟨ok',rfl,I.bare,Un.kept kp,⟨λ_=>none,ns,λi x v hN hs hv=>?_⟩,λx c e=>?_,hf,λx c e=>I.freeC x c (o.sub I.ok e),λp hp=>?_,I.hok.kept kp,?_⟩
 ·have hN:N'[i]?=some x:=hN;by_cases hi:i<cap.length
  ·unfold zCY at hs;rw[bg (by simpa using hi),bn] at hs;obtain⟨j,hj⟩:∃j,cap[i]?=some j:=⟨cap[i],by simp[hi]⟩;rw[hj] at hs;have hs':σ[j]?=some (some v):=by
    have hs'':(σ[j]?).getD none=some v:=bw hs;cases e:σ[j]? with
    |none=>rw[e] at hs'';cases hs''
    |some y=>rw[e] at hs'';have:y=some v:=hs'';rw[this]
   obtain⟨x',e1,e2,e3⟩:=o.capt i j hj;rw[hN] at e1;cases e1;have hk:=o.fr (x,.free) (gj e3) rfl;obtain⟨m,hn,hl⟩:=I.loc;have hvis:Vis X.env.scope x:=hk.elim (λz=>.inr (.inl z)) λz=>.inr (.inr z)
   obtain⟨u,r,lk⟩:=hl j x v e2 hs' hvis;refine⟨u,r,.inr ⟨vV (env:=X.env) e3,?_⟩⟩;rcases lk with⟨z,_⟩|⟨_,c,hc,hcell⟩
   ·have z':X.env.kindOf x=some .local:=z;rw[z'] at hk;rcases hk with hk|hk<;>cases hk
   ·obtain⟨c',hc'⟩:=cT (env:=X.env) scope.names [] (gj e3);have hcc:=o.sub I.ok hc';rw[hc] at hcc;cases hcc;obtain⟨ob,q1,q2⟩:=hcell;exact⟨c,hc',ob,kp _ _ q1,q2⟩
  ·unfold zCY at hs;rw[cu (by simpa using lg hi),cj] at hs;split at hs<;>cases hs
 ·obtain⟨v,ob,q1,q2⟩:=I.cell x c (o.sub I.ok e);exact⟨v,ob,kp _ _ q1,q2⟩
 ·exact absurd (show p∈([]:List (Addr×Obj)) from hp) (by simp)
 ·unfold zCY;show _=N'.length;rw[bb,ak,vi]
  have:=o.len
  omega
theorem uA(I:Inv X pZ σ H s)(hfp:∀b∈fp,W1 X pZ H b)(J:Inv (cxC X N' scope s.heap.objs.size fp s H) [] σ2 H2 s2)(sb:Heap.SameBut s.heap.objs.size s2.heap h'):Inv X pZ σ H2 { s2 with heap:=h' }:=by
 have hb:Un (frs X.stack) fp H H2 s.heap s2.heap:=J.base;have ne:∀b o,s.heap.get? b=some o->b≠s.heap.objs.size:=λb o e=>bq (au e)
 have fr:H2 s.heap.objs.size=none:=J.free;refine I.call' (s':={ s2 with heap:=h' }) (ch:=fp) J.os ?_ ?_ J.bare λb hb=>⟨(hfp b hb).2.2.2.1,(hfp b hb).2.1,(hfp b hb).2.2.2.2.1,(hfp b hb).2.2.2.2.2⟩
 ·refine⟨λb o e n h1 h2=>?_,λb o e n h1 h2=>?_,λb o e n h2=>hb.free b o e n h2,λb o e h2=>?_,hb.tups,hb.frzs,hb.tbls⟩
  ·exact sb.extBut b o (ne b o e) (hb.keep b o e n h1 h2)
  ·obtain⟨sl,q⟩:=hb.slot b o e n h1 h2;exact⟨sl,sb.extBut b _ (ne b o e) q⟩
  ·obtain⟨o',q⟩:=hb.there b o e h2;exact⟨o',sb.extBut b _ (ne b o e) q⟩
 ·intro b u e;have nb:∀c w,H2 c=some w->c≠s.heap.objs.size:=λc w q z=>by rw[z,fr] at q;cases q
  refine(J.hok b u e).stay (λc v hc q=>sb.extBut c v ?_ q) (λ_ q=>q) (λ_ _ q=>q) λ_ _ _ q=>q
  rcases hc with z|z
  ·rw[z];exact nb b u e
  ·exact nb c _ z
def J0(tc:Option TT)(te:TE)(K1:V->Hp->Prop)(K0:Hp->Prop):St->Hp->Prop:=λσ H=>match tc with
 |none=>te σ H K1
 |some c=>c σ H λb H1=>if b=true then te σ H1 K1 else K0 H1
def zDT(cap:List Nat)(n:Nat)(wi:TI)(g:TG)(tc:Option TT)(te:TE):TE:=λσ H Q=>wi σ H λJ H1=>∀p,H1 p=none->∃W:Nat->Nat->List V->St->Hp->Prop,(∃m,W 0 m [] (zCY cap n σ) (upd H1 p (.lst [])))/\∀i m ys σ2 H2,W i m ys σ2 H2->H2 p=some (.lst ys)/\ys.length<af /\
 ((J.stop i H2/\Q (.ref p) H2)\/(J.go i H2/\∀x H3,J.yld i H2 x H3->g x σ2 H3 λσ4 H4=>J0 tc te (λy H5=>H5 p=some (.lst ys)/\∃m',m'<m/\W (i+1) m' (ys++[y]) σ4 (upd H5 p (.lst (ys++[y])))) (λH5=>∃m',m'<m/\W (i+1) m' ys σ4 H5) σ4 H4))
theorem oG(W:Nat->Shared->Prop)(each:∀k t,W k t->wpAny (model prog w) A (pyNext it) (λgot t1=>match got with
   |none=>Z (.ok .next) t1
   |some y=>wpAny (model prog w) A (letOwnedTupleGo tgt it y) (λ_ t2=>wpAny (model prog w) A (assign tgt env y) (λ_ t3=>
     wpAny (model prog w) A (forIn tests true λc b=>if b=true then do let ok <- isTrue c env (eval c env);pure (ForInStep.yield ok) else pure (ForInStep.yield b)) (λgood t4=>
      if good=true then wpAny (model prog w) A (eval elt env) (λx t5=>
       wpAny (model prog w) A (call (.builtin "list.append") [out,x]) (λ_ t6=>∃j,j<k/\W j t6) (λ_ _=>False) t5) (λ_ _=>False) t4
      else ∃j,j<k/\W j t4) (λ_ _=>False) t3) (λ_ _=>False) t2) (λ_ _=>False) t1) (λ_ _=>False) t)(k:Nat)(h0:W k t0):codeAny (model prog w) A (.compLoop (.ListComp elt [⟨tgt,src,tests,0⟩] scope pos) 0 it out env) Z t0:=by
 refine codeAny_loop rfl W (λk t hW=>?_) k h0;show wpAny _ A ((compTurn (.ListComp elt [⟨tgt,src,tests,0⟩] scope pos) 0 it out env).onRaise (λx=>do noteFrame x env;theTreesLotGoes x)) _ _ t;refine wpAny_noted ?_;rw[compTurn_list];refine ac (sr (ac (gv (each k t hW) (λgot t1 g1=>?_) λ_ _ no=>no.elim)));cases got with
 |none=>exact ah g1
 |some y=>
  refine ac (gv g1 (λ_ t2 g2=>ac (gv g2 (λ_ t3 g3=>ac (gv g3 (λgood t4 g4=>?_) λ_ _ no=>no.elim)) λ_ _ no=>no.elim)) λ_ _ no=>no.elim);cases good with
  |false=>exact ah ⟨rfl,g4⟩
  |true=>
   exact ac (ac (gv g4 (λx t5 g5=>ac (gv g5 (λ_ t6 g6=>ah (ah ⟨rfl,g6⟩)) λ_ _ no=>no.elim)) λ_ _ no=>no.elim))
theorem oF{elt tg iter:Expr}{ifs:List Expr}{pos:Pos}{g:TG}{tc:Option TT}{te:TE}{J:It}{it:Addr}{tn:Nat->Heap->Prop}{Q:VK}{RR:Value->Addr->Result->Shared->Prop}(hc:X.calm=true)(o:CmpOk X N' cap scope)(hg:∀C fp s H,PG (cxC X N' scope C fp s H) tg g)(ht:match (generalizing:=false) tc with|none=>ifs=[]|some c=>∃e,ifs=[e]/\∀C fp s H,PT (cxC X N' scope C fp s H) e c)(he:∀C fp s H,PE (cxC X N' scope C fp s H) elt te)(I:Inv X pZ σ H s)(T:Turn X.prog X.w X.K tg J fp it tn)(st:tn 0 s.heap)(hfp:∀b∈fp,W1 X pZ H b)(hw:∀p,H p=none->∃W:Nat->Nat->List V->St->Hp->Prop,(∃m,W 0 m [] (zCY cap N'.length σ) (upd H p (.lst [])))/\∀i m ys σ2 H2,W i m ys σ2 H2->H2 p=some (.lst ys)/\ys.length<af /\
   ((J.stop i H2/\Q (.ref p) H2)\/(J.go i H2/\∀x H3,J.yld i H2 x H3->g x σ2 H3 λσ4 H4=>J0 tc te (λy H5=>H5 p=some (.lst ys)/\∃m',m'<m/\W (i+1) m' (ys++[y]) σ4 (upd H5 p (.lst (ys++[y])))) (λH5=>∃m',m'<m/\W (i+1) m' ys σ4 H5) σ4 H4)))(hRR:∀(p:Addr) (s3 s':Shared) (H3 H2:Hp) (σ2:St),Inv X pZ σ H3 s3->(∀b∈fp,W1 X pZ H3 b)->Inv (cxC X N' scope s3.heap.objs.size fp s3 H3) [] σ2 H2 s'->Q (.ref p) H2->RR (.ref p) s3.heap.objs.size (.ok .next) s'):wpAny (model X.prog X.w) X.A (newList []) (λacc s₃=>wpAny (model X.prog X.w) X.A (newFunctionEnv scope X.env.globals (WQ X.env scope.names []) [] X.env.qual none .none (some X.env)) (λcenv s₄=>
   codeAny (model X.prog X.w) X.A (.compStart (.ListComp elt [⟨tg,iter,ifs,0⟩] scope pos) 0 (.ref it) acc { cenv with scope:=relabel scope X.env }) (RR acc cenv.locals) s₄) X.xe s₃) X.xe s:=by
 refine dj ?_;obtain⟨W,⟨m0,w0⟩,turn⟩:=hw s.heap.objs.size (I.hok.fresh (ae _));have nfp:∀b∈fp,b<s.heap.objs.size:=λb hb=>by
  obtain⟨ob,e,_⟩:=T.obj 0 _ st b hb;exact au e
 have I3:=I.lnew (its:=[]) (ys:=[]) (t':=s.toks) .nil (cg _);generalize hs3:({ s with heap:=s.heap.push { cls:=.type "list",data:=.seq ([]:List Value).toArray },toks:=s.toks }:Shared)=s3 at I3;have hs3':({ s with heap:=s.heap.push { cls:=.type "list",dict:=none,data:=.seq ([]:List Value).toArray } }:Shared)=s3:=hs3;have hf3:∀b∈fp,W1 X pZ (upd H s.heap.objs.size (.lst [])) b:=λb hb=>⟨by rw[zI (bq (nfp b hb))];exact(hfp b hb).1,(hfp b hb).2⟩
 have st3:tn 0 s3.heap:=T.keep 0 _ _ st λb _ ob e=>by rw[<-hs3];exact al _ e
 have nfp3:∀b∈fp,b<s3.heap.objs.size:=λb hb=>by
  obtain⟨ob,e,_⟩:=T.obj 0 _ st3 b hb;exact au e
 refine wpAny_newFunctionEnv o.nc (by intro y hy;simp at hy) (λh₁ hns₁ hsb₁=>?_) o.kind;have old:∀b ob,s3.heap.get? b=some ob->h₁.get? b=some ob:=λb ob e=>hsb₁.extBut b ob (bq (au e)) (al _ e)
 have I4:=zBM (t':=s3.toks+([]:List (Str×Value)).length) o I3 hf3 nfp3 (by simpa using hns₁) old;have st4:tn 0 h₁:=T.keep 0 _ _ st3 λb _ ob e=>old b ob e
 have fpC:∀H',(∀b∈fp,H' b=none)->∀b∈fp,W1 (cxC X N' scope s3.heap.objs.size fp s3 (upd H s.heap.objs.size (.lst []))) [] H' b:=λH' hn b hb=>by
  refine⟨hn b hb,bq (nfp3 b hb),I4.ok.exfs b hb,.inl hb,(I4.ok.exf b hb).2,λp hp=>absurd (show p∈([]:List (Addr×Obj)) from hp) (by simp)⟩
 have loop:codeAny (model X.prog X.w) X.A (.compLoop (.ListComp elt [⟨tg,iter,ifs,0⟩] scope pos) 0 (.ref it) (.ref s.heap.objs.size) (compEnvC scope (WQ X.env scope.names []) s3.heap.objs.size X.env)) (RR (.ref s.heap.objs.size) s3.heap.objs.size) { s3 with heap:=h₁,toks:=s3.toks+([]:List (Str×Value)).length }:=by
  refine oG (λn s'=>∃i ys σ' H',Inv (cxC X N' scope s3.heap.objs.size fp s3 (upd H s.heap.objs.size (.lst []))) [] σ' H' s'/\tn i s'.heap/\(∀b∈fp,H' b=none)/\W i n ys σ' H') ?_ m0 ⟨0,[],_,_,I4,st4,λb hb=>(hf3 b hb).1,w0⟩;rintro n s5 ⟨i,ys,σ5,H5,I5,st5,fr5,w5⟩;obtain⟨hp5,hz5,br⟩:=turn i n ys σ5 H5 w5;rcases br with⟨stop,q⟩|⟨go,step⟩
  ·refine thn (T.done (cxC X N' scope s3.heap.objs.size fp s3 (upd H s.heap.objs.size (.lst []))) rfl rfl rfl hc i [] s5 _ H5 (λ_ _=>False) I5 (fpC H5 fr5) st5 stop) λr s6 ⟨hr,I6⟩=>?_
   subst hr;exact hRR _ s3 s6 _ H5 _ I3 hf3 I6 q
  ·refine thn (T.item (cxC X N' scope s3.heap.objs.size fp s3 (upd H s.heap.objs.size (.lst []))) rfl rfl rfl hc i [] s5 _ H5 (λ_ _=>False) I5 (fpC H5 fr5) st5 go) λr s6 ⟨u,hr,h6⟩=>?_
   subst hr;refine thn h6 λ_ s7 ⟨x,H7,I7,r7,y7,st7,fr7⟩=>?_
   have I7':=I7.pinned (fpC H7 fr7) (T.obj _ _ st7);refine thn (hg _ _ _ _ _ s7 _ H7 x u _ I7' r7 (step x H7 y7)) λ_ s8 ⟨σ8,H8,I8,q8⟩=>?_
   have again:∀{H9:Hp} {σ9:St} {s9:Shared} {ys':List V},Inv (cxC X N' scope s3.heap.objs.size fp s3 (upd H s.heap.objs.size (.lst []))) ([]++m7 fp s7.heap) σ9 H9 s9->(∃m',m'<n/\W (i+1) m' ys' σ9 H9) ->
     ∃m,m<n/\∃i ys σ' H',Inv (cxC X N' scope s3.heap.objs.size fp s3 (upd H s.heap.objs.size (.lst []))) [] σ' H' s9/\tn i s9.heap/\(∀b∈fp,H' b=none)/\W i m ys σ' H':=λ{H9 σ9 s9 ys'} I9 z=>by
    obtain⟨m',hm,w9⟩:=z;refine⟨m',hm,i+1,ys',σ9,H9,I9.unpinned,T.keep _ _ _ st7 λb hb ob e=>(I9.pin (b,ob) (dk _ (dk _ (kS hb e)))).1,λb hb=>?_,w9⟩;obtain⟨ob,e,d⟩:=T.obj _ _ st7 b hb;exact(I9.pin (b,ob) (dk _ (dk _ (kS hb e)))).2.1
   have app:∀{s9:Shared} {H9:Hp} {y:V} {u9:Value},Inv (cxC X N' scope s3.heap.objs.size fp s3 (upd H s.heap.objs.size (.lst []))) ([]++m7 fp s7.heap) σ8 H9 s9->RelV y u9->(H9 s.heap.objs.size=some (.lst ys)/\∃m',m'<n/\W (i+1) m' (ys++[y]) σ8 (upd H9 s.heap.objs.size (.lst (ys++[y])))) ->
     wpAny (model X.prog X.w) X.A (call (.builtin "list.append") [.ref s.heap.objs.size,u9]) (λ_ s₅=>∃m,m<n/\∃i ys σ' H',Inv (cxC X N' scope s3.heap.objs.size fp s3 (upd H s.heap.objs.size (.lst []))) [] σ' H' s₅/\tn i s₅.heap/\(∀b∈fp,H' b=none)/\W i m ys σ' H') (λ_ _=>False) s9:=λ{s9 H9 y u9} I9 r9 z9=>by
    refine thn (kQ (X:=cxC X N' scope s3.heap.objs.size fp s3 (upd H s.heap.objs.size (.lst []))) _ s9 σ8 H9 (.ref s.heap.objs.size) [y] (.ref s.heap.objs.size) [u9] (λ_ H'=>∃m',m'<n/\W (i+1) m' (ys++[y]) σ8 H') I9 rfl (.cons r9 .nil) ⟨_,ys,y,rfl,rfl,z9.1,hz5,z9.2⟩) λ_ s10 ⟨_,H10,I10,_,z10⟩=>?_
    exact again I10 z10
   cases tc with
   |none=>
    have hi:ifs=[]:=ht;subst hi;refine wpAny_tests_nil ?_;rw[if_pos rfl];exact thn (he _ _ _ _ _ s8 σ8 H8 _ I8 q8) λu9 s9 ⟨y,H9,I9,r9,z9⟩=>app I9 r9 z9
   |some c=>
    obtain⟨e,he1,hce⟩:=ht;subst he1;refine wpAny_tests_one (thn (hce _ _ _ _ _ s8 σ8 H8 _ I8 q8) λb s9 ⟨H9,I9,q9⟩=>?_);cases b with
    |false=>
     rw[if_neg ax] at q9 ⊢;exact again I9 q9
    |true=>
     rw[if_pos rfl] at q9 ⊢;exact thn (he _ _ _ _ _ s9 σ8 H9 _ I9 q9) λu10 s10 ⟨y,H10,I10,r10,z10⟩=>app I10 r10 z10
 exact codeAny_compStart_list loop (T.self X.A 0 _ _ _ st4 loop)
theorem cB(hc:X.calm=true)(o:CmpOk X N' cap scope)(hi:PI X tg iter wi)(hg:∀C fp s H,PG (cxC X N' scope C fp s H) tg g)(ht:match (generalizing:=false) tc with|none=>ifs=[]|some c=>∃e,ifs=[e]/\∀C fp s H,PT (cxC X N' scope C fp s H) e c)(he:∀C fp s H,PE (cxC X N' scope C fp s H) elt te)(hs:∀x,fg iter X.env x=pure x:=by intro _;rfl):PE X (.ListComp elt [⟨tg,iter,ifs,0⟩] scope pos) (zDT cap N'.length wi g tc te):=by
 intro pZ s σ H Q I h;rw[eval_ListComp];refine sw (use:=none) rfl hs (vC (o.hasc I.ok)) o.kind o.nm (thn (hi pZ s σ H _ I h) λxv s1 h1=>thn h1 λitv s2 h2=>?_);obtain⟨it,fp,tn,J,H2,rfl,I2,T,st2,f2,hw⟩:=h2;refine oF (Q:=Q) hc o hg ht he I2 T st2 f2 hw ?_;intro p s3 s' H3 H4 σ4 I3 f3 J4 q;obtain⟨m,hn,_⟩:=J4.loc;exact⟨m,hn,λh' sb=>⟨.ref p,H4,uA I3 f3 J4 sb,rfl,q⟩⟩
theorem tO(hc:X.calm=true)(o:CmpOk X N' cap scope)(hi:PI X tg iter wi)(hg:∀C fp s H,PG (cxC X N' scope C fp s H) tg g)(ht:match (generalizing:=false) tc with|none=>ifs=[]|some c=>∃e,ifs=[e]/\∀C fp s H,PT (cxC X N' scope C fp s H) e c)(he:∀C fp s H,PE (cxC X N' scope C fp s H) elt te)(hN:X.N.Nodup)(hy:X.N[i]?=some y)(hx:Loc X.env.scope y)(hf:X.fn y=true\/X.env.scope.names.lookup y=some .local)(hsw:gx (.ListComp elt [⟨tg,iter,ifs,0⟩] scope pos) (some (.Name y py)) spos.line X.env=pure true)(hs:∀x,fg iter X.env x=pure x:=by intro _;rfl):PS X (.Assign [.Name y py] (.ListComp elt [⟨tg,iter,ifs,0⟩] scope pos) spos) (zQH (zDT cap N'.length wi g tc te) (X7 i)):=by
 intro pZ s σ H D I h;rw[exec_Assign_Name_used _ _ _ _ hsw];refine ac (sr (ac ?_));show wpAny _ X.A (do let _ <- comprehension (.ListComp elt [⟨tg,iter,ifs,0⟩] scope pos) scope X.env _ (newList []) false (eval iter X.env) (some (assign (.Name y py) X.env))) _ _ s;refine ac (gv (sw (use:=some (assign (.Name y py) X.env)) (Q:=λ_ s'=>SP X pZ D .next s') rfl hs (vC (o.hasc I.ok)) o.kind o.nm
  (thn (hi pZ s σ H _ I h) λxv s1 h1=>thn h1 λitv s2 h2=>?_)) (λ_ s' hq=>ah (ah hq)) λ_ _ e=>e)
 obtain⟨it,fp,tn,J,H2,rfl,I2,T,st2,f2,hw⟩:=h2;refine oF (Q:=λv H1=>X7 i v σ H1 D.nx) hc o hg ht he I2 T st2 f2 hw ?_;intro p s3 s' H3 H4 σ4 I3 f3 J4 q;obtain⟨m,hn,_⟩:=J4.loc;have I5:Inv X pZ σ H4 s':=uA I3 f3 J4 (qz _ _);have fc:W1 X pZ H4 s3.heap.objs.size:=I3.fpOk (ae _) J4.free;show wpAny _ X.A (assign (.Name y py) X.env (.ref p)) _ _ _;refine wpAny_assign_Name (mO (v:=.ref p) I5 hN hy hx rfl (λs6 I6 ⟨a,sb,ha⟩=>?_) hf);have hne:s3.heap.objs.size≠a:=by
  rcases ha with ha|ha
  ·rw[ha];exact fc.2.1
  ·exact λz=>fc.2.2.2.2.1 y a ha z.symm
 refine⟨m,hn.sameBut sb hne,λh' sb'=>⟨_,H4,?_,q⟩⟩;exact I6.turned (t':=s6.toks) (it:=s3.heap.objs.size) (λb ob hb e=>sb'.extBut b ob hb e) fc.1 fc.2.1 fc.2.2.2.1 fc.2.2.2.2.1 fc.2.2.2.2.2
noncomputable def xB:D->D->Option D
 |.int i,.int j=>some (.int (i+j))
 |.str s,.str t=>if s.length+t.length<=af then some (.str (s++t)) else none
 |.lst l,.lst m=>if l.length+m.length<=af then some (.lst (l++m)) else none
 |.tup l,.tup m=>if l.length+m.length<=af/\l.isEmpty=false/\m.isEmpty=false then some (.tup (l++m)) else none
 |_,_=>none
noncomputable def J2:D->D->Option D
 |.int i,.int j=>some (.int (i-j))
 |_,_=>none
noncomputable def zFO:D->D->Option D
 |.int i,.int j=>if (-(2 ^ 64)<i/\i<2 ^ 64)\/(-(2 ^ 64)<j/\j<2 ^ 64) then some (.int (i*j)) else none
 |_,_=>none
noncomputable def xY:D->D->Option D
 |.int i,.int j=>if 0<j/\j<1073741824 then some (.int (i / j)) else none
 |_,_=>none
noncomputable def xL:D->D->Option D
 |.int i,.int j=>if 0<j then some (.int (i % j)) else none
 |_,_=>none
noncomputable def zIJ:D->D->Option D
 |.int i,.int j=>if 0<=j/\j<=1000000/\i.natAbs<2 ^ 64 then some (.int (i ^ j.toNat)) else none
 |_,_=>none
noncomputable def kP:D->Option D
 |.int i=>some (.int (-i))
 |_=>none
noncomputable def gtD:D->D->Option D
 |.int i,.int j=>some (.bl (decide (j<i)))
 |_,_=>none
noncomputable def geD:D->D->Option D
 |.int i,.int j=>some (.bl (decide (j<=i)))
 |_,_=>none
noncomputable def eqS:D->D->Option Bool
 |.int i,.int j=>some (decide (i=j))
 |.str s,.str t=>some (decide (s=t))
 |.bl a,.bl b=>some (decide (a=b))
 |.non,.non=>some true
 |.non,.int _=>some false
 |.int _,.non=>some false
 |.non,.str _=>some false
 |.str _,.non=>some false
 |.int _,.str _=>some false
 |.str _,.int _=>some false
 |_,_=>none
def eqD(x y:D):Option D:=(eqS x y).map .bl
def neD(x y:D):Option D:=(eqS x y).map λb=>.bl !b
noncomputable def zQS(x y:D):Option D:=match y with
 |.non=>match x with
  |.non=>some (.bl true)
  |_=>some (.bl false)
 |_=>none
noncomputable def zIX(x y:D):Option D:=match y with
 |.non=>match x with
  |.non=>some (.bl false)
  |_=>some (.bl true)
 |_=>none
def zNI(K:Fg):R2:=λx y H Q=>∃l b xs zs,x=.ref l/\y=.ref b/\SqL K H l xs/\SqL K H b zs/\xs.length+zs.length<=af/\∀p,H p=none->Q (.ref p) (upd H p (.lst (xs++zs)))
theorem op_catR:OpR X (binaryOp .Add) (zNI X.K):=by
 intro pZ s σ H x y v u Q I rx ry h;obtain⟨l,b,xs,zs,rfl,rfl,hH,hB,hz,q⟩:=h;cases rx;cases ry;obtain⟨its,r,⟨⟨cls,dd,data,sl⟩,n,e,hc,hd0,hd⟩,z⟩:=I.list hH;obtain⟨its2,r2,⟨⟨cls2,dd2,data2,sl2⟩,n2,e2,hc2,hd02,hd2⟩,z2⟩:=I.list hB;have hl:=r.length;have hl2:=r2.length;cases (show cls=_ from hc);cases (show dd=_ from hd0);cases (show data=_ from hd);cases (show cls2=_ from hc2);cases (show dd2=_ from hd02);cases (show data2=_ from hd2);refine uk ⟨_,e,rfl⟩ ⟨_,e2,rfl⟩ noFill_list_add seq_list_add PySem.F.slot_list_add PySem.F.entry_list_add (PySem.F.args_list_add_2 _ _) (list_addW l b its.toArray its2.toArray n n2 none none sl sl2 (by rw[am,am];omega)) ⟨e,e2,?_⟩;have ea:its.toArray++its2.toArray=(its++its2).toArray:=by simp
 rw[ea];exact⟨.ref _,_,I.lnew (t':=s.toks) (r.append r2) (by rw[bb];omega),rfl,q _ I.fresh⟩
def zNG(K:Fg):R2:=λx y H Q=>rI0 (λi j=>.int (i+j)) x y H Q\/(∃i j,x=.str i/\y=.str j/\i.length+j.length<=af/\Q (.str (i++j)) H)\/zNI K x y H Q\/zNH K x y H Q
theorem zE7:OpR X (binaryOp .Add) (zNG X.K):=op_add.or (op_add_str.or (op_catR.or zFB))
theorem rW(s t:List Nat):((⟨s.toArray⟩:Str)++(⟨t.toArray⟩:Str))=(⟨(s++t).toArray⟩:Str):=by
 show(⟨s.toArray++t.toArray⟩:Str)=_;simp
theorem kG(s:List Nat):(⟨s.toArray⟩:Str).length=s.length:=by simp[Str.length]
theorem zFH{K:Fg}:OpD K (zNG K) xB:=by
 intro O H dx dy d vx vy Q ol ix iy e q;unfold xB at e;split at e
 ·have e:=bw e;subst e;rw[Is.int_iff] at ix iy;exact .inl ⟨_,_,ix,iy,q _ H (Same.refl H) (by rw[Is.int_iff])⟩
 ·rename_i s t;split at e
  ·rename_i hl;cases e;rw[Is.str_iff] at ix iy;refine .inr (.inl ⟨_,_,ix,iy,by rw[kG,kG];exact hl,q _ H (Same.refl H) ?_⟩);rw[Is.str_iff,rW]
  ·cases e
 ·rename_i l m;split at e
  ·rename_i hl;cases e;rw[Is.lst_iff] at ix iy;obtain⟨a,xs,rfl,hs,il⟩:=ix;obtain⟨b,ys,rfl,hs2,il2⟩:=iy;have e1:=il.length;have e2:=il2.length;refine .inr (.inr (.inl ⟨a,b,xs,ys,rfl,rfl,hs.sq,hs2.sq,by omega,λp hp=>q _ _ (zX hp) ?_⟩));rw[Is.lst_iff];refine⟨p,_,rfl,.inl ⟨λz=>?_,.inl zJ⟩,(il.append il2).same (zX hp) ol⟩;obtain⟨zs,ez,_⟩:=ol p z;rw[hp] at ez;cases ez
  ·cases e
 ·rename_i l m;split at e
  ·rename_i hl;cases e;rw[Is.tup_iff] at ix iy;obtain⟨a,xs,rfl,hs,il⟩:=ix;obtain⟨b,ys,rfl,hs2,il2⟩:=iy;have e1:=il.length;have e2:=il2.length;refine .inr (.inr (.inr ⟨a,b,xs,ys,rfl,rfl,hs,hs2,?_,by omega,λz=>?_,λ_ p hp=>q _ _ (zX hp) ?_⟩))
   ·rintro rfl
    have:l=[]:=by simpa using e1
    subst this;simp at hl
   ·subst z
    have:m=[]:=by simpa using e2
    subst this;simp at hl
   ·rw[Is.tup_iff];exact⟨p,_,rfl,SqT.of zJ,(il.append il2).same (zX hp) ol⟩
  ·cases e
 ·cases e
theorem zPH{K:Fg}(h:∀dx dy d,m dx dy=some d->∃i j,dx=.int i/\dy=.int j/\C i j/\∀O H,Is K O H d (g i j)):OpD K (rI C g) m:=by
 intro O H dx dy d vx vy Q ol ix iy e q;obtain⟨i,j,rfl,rfl,hc,hd⟩:=h dx dy d e;rw[Is.int_iff] at ix iy;exact⟨i,j,ix,iy,hc,q _ H (Same.refl H) (hd O H)⟩
theorem zIW{K:Fg}(h:∀dx dy d,m dx dy=some d->∃i j,dx=.int i/\dy=.int j/\∀O H,Is K O H d (g i j)):OpD K (rI0 g) m:=by
 intro O H dx dy d vx vy Q ol ix iy e q;obtain⟨i,j,rfl,rfl,hd⟩:=h dx dy d e;rw[Is.int_iff] at ix iy;exact⟨i,j,ix,iy,q _ H (Same.refl H) (hd O H)⟩
theorem zLA{K:Fg}:OpD K (rI0 λi j=>.int (i-j)) J2:=zIW λdx dy d e=>by
 unfold J2 at e;split at e
 ·cases e;exact⟨_,_,rfl,rfl,λO H=>by rw[Is.int_iff]⟩
 ·cases e
theorem zLE{K:Fg}:OpD K (rI CMul λi j=>.int (i*j)) zFO:=zPH λdx dy d e=>by
 unfold zFO at e;split at e
 ·split at e
  ·rename_i hc;cases e;exact⟨_,_,rfl,rfl,hc,λO H=>by rw[Is.int_iff]⟩
  ·cases e
 ·cases e
theorem zFK{K:Fg}:OpD K (rI zRQ λi j=>.int (i / j)) xY:=zPH λdx dy d e=>by
 unfold xY at e;split at e
 ·split at e
  ·rename_i hc;cases e;exact⟨_,_,rfl,rfl,hc,λO H=>by rw[Is.int_iff]⟩
  ·cases e
 ·cases e
theorem zLF{K:Fg}:OpD K (rI (λ_ j=>0<j) λi j=>.int (i % j)) xL:=zPH λdx dy d e=>by
 unfold xL at e;split at e
 ·split at e
  ·rename_i hc;cases e;exact⟨_,_,rfl,rfl,hc,λO H=>by rw[Is.int_iff]⟩
  ·cases e
 ·cases e
theorem zLB{K:Fg}:OpD K (rI zRP λi j=>.int (i ^ j.toNat)) zIJ:=zPH λdx dy d e=>by
 unfold zIJ at e;split at e
 ·split at e
  ·rename_i hc;cases e;exact⟨_,_,rfl,rfl,hc,λO H=>by rw[Is.int_iff]⟩
  ·cases e
 ·cases e
theorem zPE{K:Fg}:OpD K (rI0 λi j=>.bl (decide (j<i))) gtD:=zIW λdx dy d e=>by
 unfold gtD at e;split at e
 ·cases e;exact⟨_,_,rfl,rfl,λO H=>by rw[Is.bl_iff]⟩
 ·cases e
theorem zPF{K:Fg}:OpD K (rI0 λi j=>.bl (decide (j<=i))) geD:=zIW λdx dy d e=>by
 unfold geD at e;split at e
 ·cases e;exact⟨_,_,rfl,rfl,λO H=>by rw[Is.bl_iff]⟩
 ·cases e
theorem zG2{K:Fg}(ix:Is K O H dx vx)(iy:Is K O H dy vy)(e:eqS dx dy=some b):zQM vx vy=true/\decide (vx=vy)=b:=by
 cases dx<;>cases dy<;>first|(simp only[eqS,reduceCtorEq] at e;done)|skip
 all_goals simp only[eqS,gk] at e
 all_goals subst e
 all_goals first|rw[Is.int_iff] at ix|rw[Is.str_iff] at ix|rw[Is.bl_iff] at ix|rw[Is.non_iff] at ix
 all_goals first|rw[Is.int_iff] at iy|rw[Is.str_iff] at iy|rw[Is.bl_iff] at iy|rw[Is.non_iff] at iy
 all_goals subst ix iy
 all_goals refine⟨rfl,?_⟩
 all_goals simp
theorem zPG{K:Fg}:OpD K rEq eqD:=by
 intro O H dx dy d vx vy Q ol ix iy e q;obtain⟨b,e1,rfl⟩:=mpS e;obtain⟨h1,h2⟩:=zG2 ix iy e1;exact⟨h1,q _ H (Same.refl H) (by rw[Is.bl_iff,h2])⟩
theorem zPD{K:Fg}:OpD K rNe neD:=by
 intro O H dx dy d vx vy Q ol ix iy e q;obtain⟨b,e1,rfl⟩:=mpS e;obtain⟨h1,h2⟩:=zG2 ix iy e1;exact⟨h1,q _ H (Same.refl H) (by rw[Is.bl_iff,h2])⟩
theorem Is.non_only{K:Fg}(h:Is K O H d v):decide (v=.non)=(match d with | .non=>true|_=>false):=by
 cases d with
 |dct ks l=>rw[Is.dct_iff] at h;obtain⟨a,kvs,rfl,_⟩:=h;rfl
 |non=>rw[Is.non_iff] at h;subst h;rfl
 |bl b=>rw[Is.bl_iff] at h;subst h;rfl
 |int i=>rw[Is.int_iff] at h;subst h;rfl
 |str s=>rw[Is.str_iff] at h;subst h;rfl
 |ty n=>rw[Is.ty_iff] at h;subst h;rfl
 |ref a=>rw[Is.ref_iff] at h;subst h;rfl
 |tup l=>rw[Is.tup_iff] at h;obtain⟨a,xs,rfl,_⟩:=h;rfl
 |lst l=>rw[Is.lst_iff] at h;obtain⟨a,xs,rfl,_⟩:=h;rfl
theorem zLH{K:Fg}:OpD K (λx y H Q=>y=.non/\Q (.bl (decide (x=.non))) H) zQS:=by
 intro O H dx dy d vx vy Q ol ix iy e q;unfold zQS at e;cases dy<;>first|(cases e;done)|skip
 rw[Is.non_iff] at iy;refine⟨iy,q _ H (Same.refl H) ?_⟩;have h:=ix.non_only;cases dx<;>cases e<;>rw[Is.bl_iff,h]
theorem zFI{K:Fg}:OpD K (λx y H Q=>y=.non/\Q (.bl (!decide (x=.non))) H) zIX:=by
 intro O H dx dy d vx vy Q ol ix iy e q;unfold zIX at e;cases dy<;>first|(cases e;done)|skip
 rw[Is.non_iff] at iy;refine⟨iy,q _ H (Same.refl H) ?_⟩;have h:=ix.non_only;cases dx<;>cases e<;>rw[Is.bl_iff,h]<;>rfl
noncomputable def jG:D->Bool
 |.int _=>true
 |.str _=>true
 |_=>false
noncomputable def eqF:D->D->Bool
 |.int i,.int j=>decide (i=j)
 |.str s,.str t=>decide (s=t)
 |_,_=>false
def inD(neg:Bool)(x y:D):Option D:=match y with
 |.lst l=>if jG x=true/\l.all jG=true then some (.bl (if neg then !(l.any λz=>eqF z x) else l.any λz=>eqF z x)) else none
 |.tup l=>if jG x=true/\l.all jG=true then some (.bl (if neg then !(l.any λz=>eqF z x) else l.any λz=>eqF z x)) else none
 |_=>none
theorem n9{K:Fg}(h:Is K O H d v)(f:jG d=true):kY v=true:=by
 cases d<;>first|(cases f;done)|skip
 ·rw[Is.int_iff] at h;subst h;rfl
 ·rw[Is.str_iff] at h;subst h;rfl
theorem zG4{K:Fg}(h:Is K O H d v)(f:jG d=true)(h':Is K O H e u)(f':jG e=true):eqV v u=eqF d e:=by
 cases d<;>first|(cases f;done)|skip
 all_goals cases e<;>first|(cases f';done)|skip
 all_goals first|rw[Is.int_iff] at h|rw[Is.str_iff] at h
 all_goals first|rw[Is.int_iff] at h'|rw[Is.str_iff] at h'
 all_goals subst h h'
 ·simp[eqV,eqF];rw[Bool.beq_eq_decide_eq]
 ·rfl
 ·rfl
 ·rename_i s t;simp only[eqV,eqF];by_cases z:s=t
  ·subst z;simp
  ·rw[decide_eq_false z,beq_eq_false_iff_ne];intro z'
   have:s.toArray=t.toArray:=by injection z'
   exact z (by simpa using this)
theorem zI5{K:Fg}(h:Is K O H d v)(f:jG d=true):∀{l:List D} {xs:List V},IsL K O H l xs->l.all jG=true->xs.all kY=true/\inV v xs=l.any λz=>eqF z d
 |[],xs,il,_=>by unfold IsL at il;subst il;exact⟨rfl,rfl⟩
 |e::l,xs,il,fa=>by
  unfold IsL at il;obtain⟨u,r,rfl,i1,i2⟩:=il;rw[ji,cw] at fa;obtain⟨q1,q2⟩:=zI5 h f i2 fa.2;refine⟨by rw[ji,n9 i1 fa.1,q1];rfl,?_⟩;unfold inV at q2 ⊢;rw[jn,jn,q2,zG4 i1 fa.1 h f]
theorem zNP{K:Fg}(neg:Bool):OpD K (rIn K neg) (inD neg):=by
 intro O H dx dy d vx vy Q ol ix iy e q;unfold inD at e;cases dy<;>first|(cases e;done)|skip
 ·rename_i l;simp only at e;split at e
  ·rename_i hl;cases e;rw[Is.tup_iff] at iy;obtain⟨a,xs,rfl,hs,il⟩:=iy;obtain⟨q1,q2⟩:=zI5 ix hl.1 il hl.2;exact⟨a,xs,rfl,.inr hs,n9 ix hl.1,q1,q _ H (Same.refl H) (by rw[Is.bl_iff,q2])⟩
  ·cases e
 ·rename_i l;simp only at e;split at e
  ·rename_i hl;cases e;rw[Is.lst_iff] at iy;obtain⟨a,xs,rfl,hs,il⟩:=iy;obtain⟨q1,q2⟩:=zI5 ix hl.1 il hl.2;exact⟨a,xs,rfl,.inl hs.sq,n9 ix hl.1,q1,q _ H (Same.refl H) (by rw[Is.bl_iff,q2])⟩
  ·cases e
def ixD:D->D->Option D
 |.lst l,.int i=>atI l i
 |.tup l,.int i=>atI l i
 |.str s,.int i=>if s.length<=af then (atI s i).map λc=>.str [c] else none
 |_,_=>none
theorem Z5(hl:l.length=m.length)(e:atI l i=some x):∃j:Nat,l[j]?=some x/\∀y,m[j]?=some y->atI m i=some y:=by
 unfold atI at e ⊢;obtain⟨j,e1,e2⟩:=bnS e;exact⟨j,e2,λy ey=>by rw[<-hl,e1];exact ey⟩
def zNT(fl:ML)(g:ME):ME:=λr=>(fl r).bind λl=>(g r).bind λd=>(intD d).bind λi=>atI l i
def zF9(fl:ML):ME:=λr=>(fl r).map λl=>.int l.length
theorem zNO{K:Fg}:OpD K (rIx K) ixD:=by
 intro O H dx dy d vx vy Q ol ix iy e q;unfold ixD at e;split at e
 ·rename_i l i;rw[Is.lst_iff] at ix;rw[Is.int_iff] at iy;obtain⟨p,xs,rfl,hs,il⟩:=ix;obtain⟨j,e1,e2⟩:=Z5 il.length e;obtain⟨v,e3,iv⟩:=il.get e1;exact .inl ⟨p,xs,i,v,rfl,iy,hs.sq,e2 v e3,q _ H (Same.refl H) iv⟩
 ·rename_i l i;rw[Is.tup_iff] at ix;rw[Is.int_iff] at iy;obtain⟨p,xs,rfl,hs,il⟩:=ix;obtain⟨j,e1,e2⟩:=Z5 il.length e;obtain⟨v,e3,iv⟩:=il.get e1;exact .inr (.inl ⟨p,xs,i,v,rfl,iy,hs,e2 v e3,q _ H (Same.refl H) iv⟩)
 ·rename_i s i;split at e
  ·rename_i hl;obtain⟨c,e1,rfl⟩:=mpS e;rw[Is.str_iff] at ix;rw[Is.int_iff] at iy;exact .inr (.inr ⟨_,i,c,ix,iy,by rw[kG];exact hl,by simpa using e1,q _ H (Same.refl H) (by rw[Is.str_iff])⟩)
  ·cases e
 ·cases e
theorem zN2(ha:DE X a f)(hb:DE X b g)(hs:bT b:=by intro _ _;rfl):DE X (.Subscript a b pos) (zD ixD f g):=
 PE.conseq (zE2 zGK ha hb hs) λσ H Q h=>two (ta:=lE X.K f) (tb:=lE X.K g) zNO h
theorem zMV(ha:DB X a fl)(hb:DE X b g)(hs:bT b:=by intro _ _;rfl):DE X (.Subscript a b pos) (zNT fl g):=by
 refine PE.conseq (zE2 ix_list ha hb hs) λσ H Q h=>?_
 obtain⟨O0,r,d,hR,e,q⟩:=h;obtain⟨l,e1,e⟩:=bnS e;obtain⟨d',e2,e⟩:=bnS e;obtain⟨i,e3,e⟩:=bnS e;cases j6 e3;refine⟨O0,r,l,hR,e1,λp xs H1 s1 rd il=>⟨O0,r,_,hR.same s1,e2,λv2 H2 s2 i2=>?_⟩⟩;rw[Is.int_iff] at i2;obtain⟨j,e4,e5⟩:=Z5 il.length e;obtain⟨v,e6,iv⟩:=il.get e4;exact⟨p,xs,i,v,rfl,i2,s2.seq rd,e5 v e6,q v H2 (s1.trans s2) (iv.same s2 (hR.same s1).ol)⟩
noncomputable def qX:D->Option D
 |.lst l=>some (.int l.length)
 |.tup l=>some (.int l.length)
 |.str s=>if s.length<=af then some (.int s.length) else none
 |_=>none
theorem oJ:CallR X (.builtin "len") (λxs H Q=>(∃p ys,xs=[.ref p]/\(SqL X.K H p ys\/SqT X.K H p ys)/\Q (.int ys.length) H)\/(∃z,xs=[.str z]/\z.length<=af/\Q (.int z.length) H)):=call_len_seq.or gN
theorem zGG{K:Fg}{O:Addr->Prop}{H:Hp}{x d:D}{v:V}{Q:VK}(i1:Is K O H x v)(e:qX x=some d)(q:∀v,Is K O H d v->Q v H):(∃p ys,[v]=[.ref p]/\(SqL K H p ys\/SqT K H p ys)/\Q (.int ys.length) H)\/(∃z,[v]=[.str z]/\z.length<=af/\Q (.int z.length) H):=by
 cases x<;>first|(simp only[qX,reduceCtorEq] at e;done)|skip
 ·simp only[qX] at e;split at e
  ·rename_i hl;cases e;rw[Is.str_iff] at i1;subst i1;exact .inr ⟨_,rfl,by rw[kG];exact hl,q _ (by rw[Is.int_iff,kG])⟩
  ·cases e
 ·simp only[qX,gk] at e;subst e;rw[Is.tup_iff] at i1;obtain⟨p,ys,rfl,hs,il⟩:=i1;exact .inl ⟨p,ys,rfl,.inr hs,q _ (by rw[Is.int_iff,il.length])⟩
 ·simp only[qX,gk] at e;subst e;rw[Is.lst_iff] at i1;obtain⟨p,ys,rfl,hs,il⟩:=i1;exact .inl ⟨p,ys,rfl,.inl hs.sq,q _ (by rw[Is.int_iff,il.length])⟩
theorem zMU(hg:Gl X "len")(hm:X.mg "len" = none)(ha:DE X a f)(hs:ag [a] X.env=(false,eval a X.env)::ag [] X.env:=by rfl):DE X (.Call (.Name "len" p') [a] [] pos) (mUn qX f):=by
 refine PE.conseq (kC oJ hg hm PySem.boot_len (zY ha yV hs) (he:=hs)) λσ H Q h=>?_
 obtain⟨O0,r,d,hR,e,q⟩:=h;obtain⟨x,e1,e2⟩:=bnS e;exact⟨O0,r,x,hR,e1,λv H1 s1 i1=>zGG i1 e2 λv' iv=>q v' H1 s1 iv⟩
theorem zH1(hg:Gl X "len")(hm:X.mg "len" = none)(ha:DB X a fl)(hs:ag [a] X.env=(false,eval a X.env)::ag [] X.env:=by rfl):DE X (.Call (.Name "len" p') [a] [] pos) (zF9 fl):=by
 refine PE.conseq (kC oJ hg hm PySem.boot_len (zY ha yV hs) (he:=hs)) λσ H Q h=>?_
 obtain⟨O0,r,d,hR,e,q⟩:=h;obtain⟨l,e1,rfl⟩:=mpS e;exact⟨O0,r,l,hR,e1,λp xs H1 s1 rd il=>.inl ⟨p,xs,rfl,.inl rd,q _ H1 s1 (by rw[Is.int_iff,il.length])⟩⟩
noncomputable def tyN:D->Option String
 |.non=>some "NoneType"
 |.bl _=>some "bool"
 |.int _=>some "int"
 |.str _=>some "str"
 |.tup _=>some "tuple"
 |.lst _=>some "list"
 |_=>none
noncomputable def subN:List (String×String×Bool):=[("bool", "int",true),("NoneType", "int",false),("NoneType", "str",false),("NoneType", "bool",false),("NoneType", "tuple",false),("NoneType", "list",false),
 ("bool", "str",false),("bool", "tuple",false),("bool", "list",false),("int", "bool",false),("int", "str",false),("int", "tuple",false),("int", "list",false),
 ("str", "int",false),("str", "bool",false),("str", "tuple",false),("str", "list",false),("tuple", "int",false),("tuple", "bool",false),("tuple", "str",false),("tuple", "list",false),
 ("list", "int",false),("list", "bool",false),("list", "str",false),("list", "tuple",false)]
def zGP(t T:String):Option Bool:=if t=T then some true else (subN.find? λx=>x.1 == t && x.2.1 == T).map (·.2.2)
def j8(T:String)(d:D):Option D:=(tyN d).bind λt=>(zGP t T).map .bl
theorem zDY(K:Fg):∀p∈subN,PySem.W.kitOne K (.type p.1) (.type p.2.1)=some p.2.2:=by
 unfold subN
 repeat (first|exact wp _|refine vt.mpr ⟨rfl,?_⟩)
theorem zLV(K:Fg)(e:zGP t T=some b):PySem.W.kitOne K (.type t) (.type T)=some b:=by
 unfold zGP at e;split at e
 ·rename_i h;subst h;cases e;unfold PySem.W.kitOne;rw[if_pos (by simp)]
 ·obtain⟨⟨x,y,c⟩,e1,e2⟩:=mpS e;have hm:=sk e1;have hp:=List.find?_some e1;simp only[cw,beq_iff_eq] at hp;obtain⟨rfl,rfl⟩:=hp;subst e2;exact(zDY K _ hm).trans rfl
def TyA(K:Fg)(H:Hp)(x:V)(t:String):Prop:=match x with
 |.non=>t = "NoneType"
 |.bl _=>t = "bool"
 |.int _=>t = "int"
 |.str _=>t = "str"
 |.ref a=>(t = "list" /\ ∃xs,SqL K H a xs)\/(t = "tuple" /\ ∃xs,SqT K H a xs)
 |_=>False
theorem oK:CallR X (.builtin "isinstance") (λxs H Q=>∃x t T b,xs=[x,.ty T]/\TyA X.K H x t/\zGP t T=some b/\Q (.bl b) H):=by
 intro pZ s σ H xs us Q I r h;obtain⟨x,t,T,b,rfl,ht,e,q⟩:=h;obtain⟨u,v,rfl,r1,r2⟩:=Vals.two r;cases (show v=Value.type T from r2);have e':=zLV X.K e;have fin:∀tk,EP X pZ σ Q (.bool b) { s with toks:=tk }:=λtk=>⟨.bl b,H,I.tok tk,rfl,q⟩
 cases x with
 |non=>cases (show t=_ from ht);exact v9 I r1 (.non) e' fin
 |bl y=>cases (show t=_ from ht);exact v9 I r1 (.bl y) e' fin
 |int i=>cases (show t=_ from ht);exact v9 I r1 (.int i) e' fin
 |str y=>cases (show t=_ from ht);exact v9 I r1 (.str y) e' fin
 |ref a=>
  cases (show u=Value.ref a from r1);rcases(show(t = "list" /\ ∃xs,SqL X.K H a xs)\/(t = "tuple" /\ ∃xs,SqT X.K H a xs) from ht) with⟨rfl,xs,hs⟩|⟨rfl,xs,hs⟩
  ·obtain⟨its,_,⟨o,n,h1,h2,_⟩,_⟩:=I.list hs;exact dz qv I.kIn ⟨o,h1,h2⟩ e' (λz=>nomatch z) fin
  ·obtain⟨its,_,⟨o,h1,h2,_⟩,_⟩:=I.tuple hs;exact dz PySem.W.kitx_tuple I.kIn ⟨o,h1,h2⟩ e' (λz=>nomatch z) fin
 |_=>exact False.elim ht
theorem zJO{K:Fg}(h:Is K O H d v)(e:tyN d=some t):TyA K H v t:=by
 cases d<;>first|(simp only[tyN,reduceCtorEq] at e;done)|skip
 all_goals simp only[tyN,gk] at e
 all_goals subst e
 ·rw[Is.non_iff] at h;subst h;rfl
 ·rw[Is.bl_iff] at h;subst h;rfl
 ·rw[Is.int_iff] at h;subst h;rfl
 ·rw[Is.str_iff] at h;subst h;rfl
 ·rw[Is.tup_iff] at h;obtain⟨a,xs,rfl,hs,_⟩:=h;exact .inr ⟨rfl,xs,hs⟩
 ·rw[Is.lst_iff] at h;obtain⟨a,xs,rfl,hs,_⟩:=h;exact .inl ⟨rfl,xs,hs.sq⟩
theorem WL(hg:Gl X "isinstance")(hm:X.mg "isinstance" = none)(ha:DE X a f)(hT:PE X (.Name x pt) (tC (.ty T)))(hs:ag [a,.Name x pt] X.env=(false,eval a X.env)::ag [.Name x pt] X.env:=by rfl)(hs2:ag [.Name x pt] X.env=(false,eval (.Name x pt) X.env)::ag [] X.env:=by rfl):DE X (.Call (.Name "isinstance" p') [a,.Name x pt] [] pos) (mUn (j8 T) f):=by
 refine PE.conseq (kC oK hg hm PyProof.Rows.boot_isinstance (zY ha (zY hT yV hs2) hs) (he:=hs)) λσ H Q h=>?_
 obtain⟨O0,r,d,hR,e,q⟩:=h;obtain⟨x,e1,e2⟩:=bnS e;obtain⟨t,e3,e4⟩:=bnS e2;obtain⟨b,e5,rfl⟩:=mpS e4;exact⟨O0,r,x,hR,e1,λv H1 s1 i1=>⟨v,t,T,b,rfl,zJO i1 e3,e5,q _ H1 s1 (by rw[Is.bl_iff])⟩⟩
def zFU(r:En)(i:Nat):Option (List D):=(r[i]?).bind Sl.ml
def zAG(i:Nat)(l:List D)(r:En):Option En:=match r[i]? with
 |some (.o _)=>some (r.set i (.o l))
 |some (.p _)=>some (r.set i (.p l))
 |_=>none
section
variable{K:Fg}
theorem b9(e:zAG i l' r=some r'):∃x y,r[i]?=some x/\r'=r.set i y/\y.own=some l'/\y.mt=some l'/\(∃l,x.mt=some l)/\(∀m,y=.p m↔m=l'/\∃n,x=.p n)/\(∀m,y=.o m↔m=l'/\∃n,x=.o n)/\(∀m,y≠.z m)/\y.ls=some l'/\(∀f ks m,y≠.d f ks m)/\y.pk=x.pk:=by
 unfold zAG at e;cases e1:r[i]? with
 |none=>rw[e1] at e;cases e
 |some x=>
  rw[e1] at e;cases x with
  |o n=>cases e;exact⟨.o n,.o l',rfl,rfl,rfl,rfl,⟨n,rfl⟩,λm=>⟨(λz=>by cases z),(λ⟨_,_,z⟩=>by cases z)⟩,λm=>⟨(λz=>by cases z;exact⟨rfl,n,rfl⟩),(λ⟨z,_⟩=>by subst z;rfl)⟩,(λm z=>by cases z),rfl,(λf ks m z=>by cases z),rfl⟩
  |p n=>cases e;exact⟨.p n,.p l',rfl,rfl,rfl,rfl,⟨n,rfl⟩,λm=>⟨(λz=>by cases z;exact⟨rfl,n,rfl⟩),(λ⟨z,_⟩=>by subst z;rfl)⟩,λm=>⟨(λz=>by cases z),(λ⟨_,_,z⟩=>by cases z)⟩,(λm z=>by cases z),rfl,(λf ks m z=>by cases z),rfl⟩
  |_=>cases e
theorem R.put(h:R K O0 H r σ)(e:zAG i l' r=some r')(ha:σ[i]?=some (some (.ref a)))(kp:∀b o,b≠a->H b=some o->H' b=some o)(lv:∀b,b≠a->H' b=none->H b=none)(e':H' a=some (.lst xs'))(il:IsL K (Ow O0 r σ) H' l' xs'):R K O0 H' r' σ/\Kp H r σ H' r' σ:=by
 obtain⟨x,y,ex,rfl,yo,ym,⟨l0,xm⟩,yp,yoo,yz,yl,yd,ypk⟩:=b9 e;have hi:i<r.length:=(av.mp ex).1;have own_i:w8 r σ a:=⟨i,l0,by rw[ex];exact v7 xm,ha⟩;have mut_i:MutAt r σ a:=⟨i,l0,by rw[ex];exact xm,ha⟩;have atO:∀b,w8 (r.set i y) σ b->w8 r σ b:=λb ⟨j,m,e1,q1⟩=>by
  by_cases hj:i=j
  ·subst hj;rw[ha] at q1;cases q1;exact own_i
  ·rw[zE hj] at e1;exact⟨j,m,e1,q1⟩
 have atM:∀b,MutAt (r.set i y) σ b->MutAt r σ b:=λb ⟨j,m,e1,q1⟩=>by
  by_cases hj:i=j
  ·subst hj;rw[ha] at q1;cases q1;exact mut_i
  ·rw[zE hj] at e1;exact⟨j,m,e1,q1⟩
 have sub:∀b,Ow O0 (r.set i y) σ b->H b≠none->Ow O0 r σ b:=λb z _=>z.imp id (atO b)
 have sub':∀b,Ow O0 (r.set i y) σ b->H' b≠none->Ow O0 r σ b:=λb z _=>z.imp id (atO b)
 have keep:oR (Ow O0 r σ) H H':=λb o e1 n=>kp b o (λz=>n (by subst z;exact .inr own_i)) e1
 have lst:∀b o,H b=some o->Mb o->∃o',H' b=some o'/\Mb o':=λb o e1 mb=>by
  by_cases hb:b=a
  ·subst hb;exact⟨.lst xs',e',trivial⟩
  ·exact⟨o,kp b _ hb e1,mb⟩
 have ol':j9 (Ow O0 r σ) H':=λb z=>by obtain⟨o,q,mb⟩:=h.ol b z;exact lst b o q mb
 refine⟨⟨by simp[h.len],λj d e1=>?_,λj m e1=>?_,λj k b m n e1 e2 q1 q2=>?_,λb z=>?_,λj m b e1 q1=>?_,λj m b e1 q1=>?_,λj f ks m e1=>?_⟩,⟨λb o e1 n=>kp b o (λz=>n (by subst z;exact mut_i)) e1,λb e1=>?_,lst,λb z=>.inl (atO b z),λb z=>.inl (atM b z),λj m e1=>?_,λj m e1=>?_⟩⟩
 ·have hj:i≠j:=λz=>by subst z;rw[zH hi] at e1;cases e1;cases yo
  rw[zE hj] at e1;obtain⟨v,q1,q2⟩:=h.val j d e1;exact⟨v,q1,Is.mono keep h.ol sub _ _ q2⟩
 ·by_cases hj:i=j
  ·subst hj;rw[zH hi] at e1
   have:l'=m:=by have e1':y.ls=some m:=e1;rw[yl] at e1';exact bw e1'
   subst this;exact⟨a,xs',ha,e',IsL.mono (Same.kp (Same.refl H') _) ol' sub' _ _ il⟩
  ·rw[zE hj] at e1;obtain⟨b,ys,q1,q2,q3⟩:=h.own j m e1;have hb:b≠a:=λz=>by
    subst z;exact hj (h.apart i j b l0 m (by rw[ex];exact v7 xm) (j4 e1) ha q1)
   exact⟨b,ys,q1,kp b _ hb q2,IsL.mono keep h.ol sub _ _ q3⟩
 ·have get:∀(j:Nat) (m:List D),((r.set i y)[j]?).bind Sl.own=some m->∃m',(r[j]?).bind Sl.own=some m':=λj m e1=>by
   by_cases hj:i=j
   ·subst hj;exact⟨l0,by rw[ex];exact v7 xm⟩
   ·rw[zE hj] at e1;exact⟨m,e1⟩
  obtain⟨m',z1⟩:=get j m e1;obtain⟨n',z2⟩:=get k n e2;exact h.apart j k b m' n' z1 z2 q1 q2
 ·obtain⟨o,q,mb⟩:=h.o0 b z;exact lst b o q mb
 ·by_cases hj:i=j
  ·subst hj;rw[zH hi] at e1;rcases e1 with e1|e1|⟨ks,e1⟩
   ·obtain⟨_,n,z⟩:=(yoo m).mp (bw e1);exact h.loc i n b (.inl (by rw[ex,z])) q1
   ·exact absurd (bw e1) (yz m)
   ·exact absurd (bw e1) (yd _ ks m)
  ·rw[zE hj] at e1;exact h.loc j m b e1 q1
 ·by_cases hj:i=j
  ·subst hj;rw[zH hi] at e1;exact h.par i m b (by rw[ex];exact ypk.symm.trans e1) q1
  ·rw[zE hj] at e1;exact h.par j m b e1 q1
 ·have hj:i≠j:=λz=>by subst z;rw[zH hi] at e1;exact yd _ ks m (bw e1)
  rw[zE hj] at e1;obtain⟨b,kvs,q1,q2,q4,q3⟩:=h.dct j f ks m e1;have hb:b≠a:=λz=>by
   subst z;exact hj (h.apart i j b l0 m (by rw[ex];exact v7 xm) (by rw[e1];rfl) ha q1)
  exact⟨b,kvs,q1,kp b _ hb q2,q4,IsL.mono keep h.ol sub _ _ q3⟩
 ·by_cases hb:b=a
  ·subst hb;rw[e'] at e1;cases e1
  ·exact lv b hb e1
 ·by_cases hj:i=j
  ·subst hj;rw[ex] at e1;exact⟨by rw[zH hi];exact ypk.trans e1,rfl⟩
  ·exact⟨by rw[zE hj];exact e1,rfl⟩
 ·have hj:i≠j:=λz=>by subst z;rw[ex] at e1;cases e1;cases xm
  exact⟨by rw[zE hj];exact e1,rfl⟩
theorem R.upd(h:R K O0 H r σ)(e:zAG i l' r=some r')(ha:σ[i]?=some (some (.ref a)))(hx:H a=some (.lst xs))(il:IsL K (Ow O0 r σ) H l' xs'):R K O0 (upd H a (.lst xs')) r' σ/\Kp H r σ (upd H a (.lst xs')) r' σ:=by
 have own_a:Ow O0 r σ a:=by
  obtain⟨x,y,ex,_,_,_,⟨l0,xm⟩,_⟩:=b9 e;exact .inr ⟨i,l0,by rw[ex];exact v7 xm,ha⟩
 refine h.put e ha (λb o hb e1=>by rw[zI hb];exact e1) (λb hb e1=>by rw[zI hb] at e1;exact e1) zJ ?_;exact IsL.mono (λb o e1 n=>by rw[zI (λz=>n (by subst z;exact own_a))];exact e1) h.ol (λ_ z _=>z) _ _ il
end
def zCN(i:Nat)(f:ME):En->Option (D×En):=λr=>(f r).bind λd=>(zFU r i).bind λl=>if l.length<af then (zAG i (l++[d]) r).map λr'=>(.non,r') else none
def gT(i:Nat)(f:En->Option (D×En)):En->Option (D×En):=λr0=>(f r0).bind λp=>(zFU r0 i).bind λ_=>(zFU p.2 i).bind λl=>if l.length<af then (zAG i (l++[p.1]) p.2).map λr'=>(.non,r') else none
def oV(i:Nat):En->Option (D×En):=λr=>(zFU r i).bind λl=>(l[l.length-1]?).bind λd=>(zAG i l.dropLast r).map λr'=>(d,r')
def zLS(i:Nat)(f:ME):En->Option (D×En):=λr=>(f r).bind λd=>(zGM d).bind λm=>(zFU r i).bind λl=>if l.length+m.length<=af then (zAG i (l++m) r).map λr'=>(.non,r') else none
theorem IsL.dropLast{K:Fg}(h:IsL K O H l vs):IsL K O H l.dropLast vs.dropLast:=by
 rw[jq,jq,h.length];exact h.take _
theorem XT{K:Fg}(h:R K O0 H r σ)(e:zFU r i=some l):∃a xs,σ[i]?=some (some (.ref a))/\H a=some (.lst xs)/\IsL K (Ow O0 r σ) H l xs:=by
 obtain⟨y,e1,e2⟩:=bnS e;exact h.own i l (by rw[e1];exact(zFY e2).2)
theorem WB(i:Nat)(h:PE X (.Name x pn) (vG i))(he:DE X e f)(hline:(apos.endLine == cpos.line)=true:=by rfl)(hbase:cb (.Name x pn) "append" X.env (eval (.Name x pn) X.env)=eval (.Name x pn) X.env:=by rfl)(hfew:((dq cpos (ag [e] X.env)).all (λx=>!x.1) && (jd cpos (fu [] X.env)).all (λx=>x.1.isSome) && decide ([e].length+([]:List Keyword).length+(if ([]:List Keyword).isEmpty then 0 else 1)<30))=true:=by rfl)(hs:ag [e] X.env=(false,eval e X.env)::ag [] X.env:=by rfl):DX X (.Call (.Attribute (.Name x pn) "append" apos) [e] [] cpos) (zCN i f):=by
 refine PE.conseq (XB di ke jy kQ h (zY he yV hs) hbase hfew hline hs) λσ H Q hq=>?_
 obtain⟨O0,r,d',r',hR,e,q⟩:=hq;obtain⟨d,e1,e⟩:=bnS e;obtain⟨l,e2,e⟩:=bnS e;split at e
 ·rename_i hl;obtain⟨r2,e3,e4⟩:=mpS e;cases e4;obtain⟨a,xs,q1,q2,q3⟩:=XT hR e2;refine⟨.ref a,q1,.inl ⟨rfl,xs,SqL.of q2⟩,O0,r,d,hR,e1,λv H1 s1 i1=>?_⟩;have R1:=hR.same s1;obtain⟨R2,k2⟩:=R1.upd (xs':=xs++[v]) e3 q1 (s1 _ _ q2) ((q3.same s1 hR.ol).append (.cons i1 .nil));exact⟨a,xs,v,rfl,rfl,s1 _ _ q2,by rw[<-q3.length];exact hl,q _ _ R2 ((Kp.of_same r σ s1).trans k2) (by rw[Is.non_iff])⟩
 ·cases e
theorem rB(i:Nat)(h:PE X (.Name x pn) (vG i))(he:DX X e fx)(hline:(apos.endLine == cpos.line)=true:=by rfl)(hbase:cb (.Name x pn) "append" X.env (eval (.Name x pn) X.env)=eval (.Name x pn) X.env:=by rfl)(hfew:((dq cpos (ag [e] X.env)).all (λx=>!x.1) && (jd cpos (fu [] X.env)).all (λx=>x.1.isSome) && decide ([e].length+([]:List Keyword).length+(if ([]:List Keyword).isEmpty then 0 else 1)<30))=true:=by rfl)(hs:ag [e] X.env=(false,eval e X.env)::ag [] X.env:=by rfl):DX X (.Call (.Attribute (.Name x pn) "append" apos) [e] [] cpos) (gT i fx):=by
 refine PE.conseq (XB di ke jy kQ h (zY he yV hs) hbase hfew hline hs) λσ H Q hq=>?_
 obtain⟨O0,r,d',r',hR,e,q⟩:=hq;obtain⟨⟨d,r1⟩,e1,e⟩:=bnS e;obtain⟨l0,e0,e⟩:=bnS e;obtain⟨l,e2,e⟩:=bnS e;split at e
 ·rename_i hl;obtain⟨r2,e3,e4⟩:=mpS e;cases e4;obtain⟨a0,xs0,p1,p2,p3⟩:=XT hR e0;refine⟨.ref a0,p1,.inl ⟨rfl,xs0,SqL.of p2⟩,O0,r,d,r1,hR,e1,λv H1 R1 k1 i1=>?_⟩;obtain⟨a,xs,q1,q2,q3⟩:=XT R1 e2;rw[p1] at q1;cases q1;obtain⟨R2,k2⟩:=R1.upd (xs':=xs++[v]) e3 p1 q2 (q3.append (.cons i1 .nil));exact⟨_,xs,v,rfl,rfl,q2,by rw[<-q3.length];exact hl,q _ _ R2 (k1.trans k2) (by rw[Is.non_iff])⟩
 ·cases e
theorem zL8(i:Nat)(h:PE X (.Name x pn) (vG i))(hbase:cb (.Name x pn) "pop" X.env (eval (.Name x pn) X.env)=eval (.Name x pn) X.env:=by rfl)(hline:(apos.endLine == cpos.line)=true:=by rfl):DX X (.Call (.Attribute (.Name x pn) "pop" apos) [] [] cpos) (oV i):=by
 refine PE.conseq (XA di jp jo XS h hbase hline) λσ H Q hq=>?_
 obtain⟨O0,r,d',r',hR,e,q⟩:=hq;obtain⟨l,e2,e⟩:=bnS e;obtain⟨d,e1,e⟩:=bnS e;obtain⟨r2,e3,e4⟩:=mpS e;have e5:d=d':=congrArg Prod.fst e4;have e6:r2=r':=congrArg Prod.snd e4;subst e5 e6;obtain⟨a,xs,q1,q2,q3⟩:=XT hR e2;obtain⟨v,ev,iv⟩:=q3.get e1;obtain⟨R2,k2⟩:=hR.upd (xs':=xs.dropLast) e3 q1 q2 q3.dropLast;refine⟨.ref a,q1,.inl ⟨rfl,xs,SqL.of q2⟩,a,xs,v,rfl,rfl,q2,by rw[<-q3.length];exact ev,q _ _ R2 k2 ?_⟩;have own_a:Ow O0 r σ a:=by
  obtain⟨y,z1,z2⟩:=bnS e2;exact .inr ⟨i,l,by rw[z1];exact v7 (zFY z2).1,q1⟩
 have ow2:∀b,Ow O0 r2 σ b->H b≠none->Ow O0 r σ b:=λb z n=>z.imp id λz=>(k2.new b z).elim id λz=>absurd z n
 exact Is.mono (λb o e1 n=>by rw[zI (λz=>n (by subst z;exact own_a))];exact e1) hR.ol ow2 _ _ iv
noncomputable def zP7:Option Sl->Sl
 |some (.v d)=>.v d
 |_=>.un
def YE(cap:List Nat)(n:Nat)(r:En):En:=(cap.map λj=>zP7 r[j]?)++List.replicate (n-cap.length) .un
def qH(bd:D->En->Option En)(c:MB)(x:ME):List D->En->Option (List D)
 |[],_=>some []
 |d::t,r=>(bd d r).bind λr1=>(c r1).bind λb=>if b=true then (x r1).bind λy=>(qH bd c x t r1).map (y::·) else qH bd c x t r1
def uX:MB:=λ_=>some true
def xI(cap:List Nat)(n:Nat)(it:ML)(bd:D->En->Option En)(c:MB)(x:ME):ML:=λr=>(it r).bind λl=>if l.length<af then qH bd c x l (YE cap n r) else none
def xS(cap:List Nat)(n:Nat)(it:ML)(bd:D->En->Option En)(x:ME):ML:=xI cap n it bd uX x
theorem R.cap{K:Fg}{O0:Addr->Prop}{H H2:Hp}{r:En}{σ:St}{cap:List Nat}{n:Nat}{p:Addr}{ys:List V}(h:R K O0 H r σ)(s:Same H H2)(hp:H p=none)(ep:H2 p=some (.lst ys)):R K (λb=>Ow O0 r σ b\/b=p) H2 (YE cap n r) (zCY cap n σ):=by
 have noO:∀(i:Nat) (l:List D),((YE cap n r)[i]?).bind Sl.own≠some l:=λi l e=>by
  unfold YE at e;by_cases hi:i<cap.length
  ·rw[bg (by simpa using hi),bn] at e;obtain⟨j,hj⟩:∃j,cap[i]?=some j:=⟨cap[i],by simp[hi]⟩;rw[hj] at e;have e':(zP7 r[j]?).own=some l:=e;cases ej:r[j]? with
   |none=>rw[ej] at e';cases e'
   |some y=>rw[ej] at e';cases y<;>cases e'
  ·rw[cu (by simpa using lg hi),cj] at e;split at e<;>cases e
 have ol:j9 (λb=>Ow O0 r σ b\/b=p) H2:=λb z=>z.elim (λz=>(h.same s).ol b z) λz=>by subst z;exact⟨.lst ys,ep,trivial⟩
 refine⟨by simp[YE,zCY],λi d e=>?_,λi l e=>absurd (j4 e) (noO i l),λi j a l m e1=>absurd e1 (noO i l),ol,λi l a e=>absurd (show((YE cap n r)[i]?).bind Sl.own=some l by rcases e with e|e|⟨_,e⟩<;>rw[e]<;>rfl) (noO i l),λi l a e=>absurd (cA e).choose_spec (noO i _),λi _ ks l e=>absurd (show((YE cap n r)[i]?).bind Sl.own=some l by rw[e];rfl) (noO i l)⟩;unfold YE at e;by_cases hi:i<cap.length
 ·rw[bg (by simpa using hi),bn] at e;obtain⟨j,hj⟩:∃j,cap[i]?=some j:=⟨cap[i],by simp[hi]⟩;rw[hj] at e;have e':zP7 r[j]?=.v d:=bw e;have ej:r[j]?=some (.v d):=by
   cases ej:r[j]? with
   |none=>rw[ej] at e';cases e'
   |some y=>rw[ej] at e';cases y<;>cases e';rfl
  obtain⟨v,e1,q⟩:=h.val j d ej;refine⟨v,?_,?_⟩
  ·unfold zCY;rw[bg (by simpa using hi),bn,hj];show some ((σ[j]?).getD none)=_;rw[e1];rfl
  ·refine Is.mono (Same.kp s _) h.ol (λa z nn=>?_) _ _ q;rcases z with(z|z)|⟨k,l,ek,_⟩
   ·exact z
   ·subst z;exact absurd hp nn
   ·exact absurd ek (noO k l)
 ·rw[cu (by simpa using lg hi),cj] at e;split at e<;>cases e
section
variable{X:Cx}{N':List Str}{cap:List Nat}{scope:Scope}{elt tg iter:Expr}{ifs:List Expr}{pos:Pos}{it:ML}{bd:D->En->Option En}{c:MB}{x:ME}
theorem uG{tc:Option TT}(htc:∀{σ:St} {H:Hp} {K1:V->Hp->Prop} {K0:Hp->Prop} {te:TE},(lT X.K c σ H λb H1=>if b=true then te σ H1 K1 else K0 H1)->J0 tc te K1 K0 σ H)(n:Nat){σ:St}{H:Hp}{Q:VK}(h:lF X.K (xI cap n it bd c x) σ H Q):zDT cap n (lI X.K it) (lG X.K bd) tc (lE X.K x) σ H Q:=by
 obtain⟨O0,r,out,hR,e,q⟩:=h;obtain⟨l,e1,e2⟩:=bnS e;split at e2
 ·rename_i hlen;refine⟨O0,r,l,hR,e1,λJ H1 s1 yl p hp=>?_⟩;have hpH:H p=none:=s1.free hp;refine⟨λi m ys σ2 H2=>m=l.length-i/\i<=l.length/\ys.length<=i/\H2 p=some (.lst ys)/\Same H1 H2/\∃r2 dn rest,R X.K (λb=>Ow O0 r σ b\/b=p) H2 r2 σ2/\(∀a,¬w8 r2 σ2 a)/\IsL X.K (λb=>Ow O0 r σ b\/b=p) H2 dn ys/\qH bd c x (l.drop i) r2=some rest/\dn++rest=out,
   ⟨l.length,by simp,cg _,ae _,zJ,zX hp,YE cap n r,[],out,?_,?_,.nil,by simpa using e2,rfl⟩,?_⟩
  ·exact R.cap hR (s1.trans (zX hp)) hpH zJ
  ·rintro a ⟨i,l',e',_⟩;unfold YE at e';by_cases hi:i<cap.length
   ·rw[bg (by simpa using hi),bn] at e';obtain⟨j,hj⟩:∃j,cap[i]?=some j:=⟨cap[i],by simp[hi]⟩;rw[hj] at e';have e'':(zP7 r[j]?).own=some l':=e';cases ej:r[j]? with
    |none=>rw[ej] at e'';cases e''
    |some y=>rw[ej] at e'';cases y<;>cases e''
   ·rw[cu (by simpa using lg hi),cj] at e';split at e'<;>cases e'
  ·rintro i m ys σ2 H2 ⟨rfl,hil,hyl,hp2,s2,r2,dn,rest,R2,no2,il2,e3,eo⟩;refine⟨hp2,by omega,?_⟩;obtain⟨y1,y2⟩:=yl i H2 (λb=>Ow O0 r σ b\/b=p) (Same.kp s2 _) λa z nn=>z.elim id λz=>by subst z;exact absurd hp nn
   by_cases hlt:i<l.length
   ·obtain⟨go,yd⟩:=y1 hlt;have hd:l[i]?=some l[i]:=by simp[hlt]
    rw[uF hd] at e3;obtain⟨r3,e4,e5⟩:=bnS e3;obtain⟨b,e6,e7⟩:=bnS e5;refine .inr ⟨go,λv H3 yv=>?_⟩;obtain⟨s3,iv⟩:=yd v H3 yv;have R3:=R2.same s3;have ow2:∀a,Ow (λb=>Ow O0 r σ b\/b=p) r2 σ2 a->Ow O0 r σ a\/a=p:=λa z=>z.elim id λz=>absurd z (no2 a)
    refine⟨_,r2,l[i],r3,R3,?_,e4,λσ4 R4 k4=>?_⟩
    ·exact Is.mono (Same.kp (Same.refl H3) _) R3.o0 (λa z _=>ow2 a z) _ _ (iv _ hd)
    have no4:∀a,¬w8 r3 σ4 a:=λa z=>by
     rcases k4.new a z with z'|z'
     ·exact no2 a z'
     ·obtain⟨xs,ex,_⟩:=R4.ol a (.inr z);rw[z'] at ex;cases ex
    have ow4:∀a,Ow (λb=>Ow O0 r σ b\/b=p) r3 σ4 a->Ow O0 r σ a\/a=p:=λa z=>z.elim id λz=>absurd z (no4 a)
    refine htc ⟨_,r3,b,R4,e6,λH5 s5=>?_⟩;have R5:=R4.same s5;cases b with
    |false=>
     rw[if_neg ax] at e7;refine zNW ⟨l.length-(i+1),by omega,rfl,hlt,by omega,(s3.trans s5) _ _ hp2,s2.trans (s3.trans s5),r3,dn,rest,R5,no4,?_,e7,eo⟩;exact il2.same (s3.trans s5) R2.o0
    |true=>
     rw[if_pos rfl] at e7;obtain⟨y,e8,e9⟩:=bnS e7;obtain⟨rest',e10,e11⟩:=mpS e9;refine zNV ⟨_,r3,y,R5,e8,λu H6 s6 iu=>?_⟩;have s26:=s3.trans (s5.trans s6);have hp6:=s26 _ _ hp2;have R6:=R5.same s6;have kk:oR (λb=>Ow O0 r σ b\/b=p) H6 (upd H6 p (.lst (ys++[u]))):=λb' o e' nn=>by rw[zI (λz=>nn (.inr z))];exact e'
     refine⟨hp6,l.length-(i+1),by omega,rfl,hlt,by simp;omega,zJ,?_,r3,dn++[y],rest',?_,no4,?_,e10,?_⟩
     ·intro b' o e';have hb:b'≠p:=λz=>by subst z;rw[hp] at e';cases e'
      rw[zI hb];exact s26 _ _ (s2 _ _ e')
     ·refine⟨R6.len,λj d ej=>?_,λj m ej=>?_,R6.apart,λb' z=>?_,R6.loc,R6.par,λj f ks m ej=>?_⟩
      ·obtain⟨w,q1,q2⟩:=R6.val j d ej;exact⟨w,q1,Is.mono (λb' o e' nn=>kk b' o e' λz=>nn (.inl z)) R6.ol (λ_ z _=>z) _ _ q2⟩
      ·obtain⟨a',xs',q1,q2,_⟩:=R6.own j m ej;exact absurd ⟨j,m,j4 ej,q1⟩ (no4 a')
      ·rcases z with z|z
       ·by_cases hb:b'=p
        ·subst hb;exact⟨_,zJ,trivial⟩
        ·rw[zI hb];exact R6.o0 b' (.inl z)
       ·subst z;exact⟨_,zJ,trivial⟩
      ·obtain⟨a',kvs,q1,q2,_⟩:=R6.dct j f ks m ej;exact absurd ⟨j,m,by rw[ej];rfl,q1⟩ (no4 a')
     ·have i1:=il2.same s26 R2.o0;have i2:Is X.K (λb=>Ow O0 r σ b\/b=p) H6 y u:=Is.mono (Same.kp (Same.refl H6) _) R6.ol (λa z _=>.inl z) _ _ iu;exact IsL.mono kk R6.o0 (λ_ z _=>z) _ _ (i1.append (.cons i2 .nil))
     ·rw[<-eo,<-e11];simp
   ·have hl:l.drop i=[]:=kq (by omega);rw[hl] at e3;have e3':some []=some rest:=e3;cases e3';rw[dm] at eo;subst eo;exact .inl ⟨y2 (by omega),q p ys H2 (s1.trans s2) hpH hp2 il2⟩
 ·cases e2
theorem bP(hc:X.calm=true)(o:CmpOk X N' cap scope)(hi:DI X tg iter it)(hg:∀C fp s H,DG (cxC X N' scope C fp s H) tg bd)(he:∀C fp s H,DE (cxC X N' scope C fp s H) elt x)(n:Nat)(hn:N'.length=n:=by rfl)(hs:∀x,fg iter X.env x=pure x:=by intro _;rfl):DF X (.ListComp elt [⟨tg,iter,[],0⟩] scope pos) (xS cap n it bd x):=by
 subst hn;exact PE.conseq (cB (g:=lG X.K bd) (te:=lE X.K x) (tc:=none) hc o hi hg rfl he hs) λσ H Q h=>uG (tc:=none) (λ{σ H K1 K0 te} z=>by
  obtain⟨O0,r,b,hR,e,q⟩:=z;unfold uX at e;cases e;have z1:(if true=true then te σ H K1 else K0 H):=q H (Same.refl H);rw[if_pos rfl] at z1;exact z1) N'.length h
theorem WI(hc:X.calm=true)(o:CmpOk X N' cap scope)(hi:DI X tg iter it)(hg:∀C fp s H,DG (cxC X N' scope C fp s H) tg bd)(ht:∀C fp s H,DT (cxC X N' scope C fp s H) ce c)(he:∀C fp s H,DE (cxC X N' scope C fp s H) elt x)(n:Nat)(hn:N'.length=n:=by rfl)(hs:∀x,fg iter X.env x=pure x:=by intro _;rfl):DF X (.ListComp elt [⟨tg,iter,[ce],0⟩] scope pos) (xI cap n it bd c x):=by
 subst hn;exact PE.conseq (cB (g:=lG X.K bd) (te:=lE X.K x) (tc:=some (lT X.K c)) hc o hi hg ⟨ce,rfl,ht⟩ he hs) λσ H Q h=>uG (tc:=some (lT X.K c)) (λz=>z) N'.length h
end
def CapOk(X:Cx)(scope:Scope):List Nat->List Str->Prop
 |[],_=>True
 |j::t,x::r=>X.N[j]?=some x/\scope.names.lookup x=some .free/\CapOk X scope t r
 |_::_,[]=>False
theorem CapOk.get:∀{cap:List Nat} {N':List Str},CapOk X scope cap N'->∀(i j:Nat),cap[i]?=some j->∃x,N'[i]?=some x/\X.N[j]?=some x/\scope.names.lookup x=some .free
 |[],_,_,i,j,e=>by simp at e
 |k::t,[],h,_,_,_=>False.elim h
 |k::t,x::r,h,0,j,e=>by
  have e':k=j:=by simpa using e
  subst e';exact⟨x,rfl,h.1,h.2.1⟩
 |k::t,x::r,h,i+1,j,e=>by
  obtain⟨y,q1,q2⟩:=CapOk.get h.2.2 i j (by simpa using e);exact⟨y,by simpa using q1,q2⟩
theorem CapOk.len:∀{cap:List Nat} {N':List Str},CapOk X scope cap N'->cap.length<=N'.length
 |[],_,_=>cg _
 |k::t,[],h=>False.elim h
 |k::t,x::r,h=>jv (CapOk.len h.2.2)
theorem vP(kind:scope.kind=.function:=by rfl)(nc:∀y∈scope.names,y.2≠.cell:=by decide +kernel)(nm:∀y∈scope.names,y.2=.local->scope.names.lookup y.1=some .local:=by decide +kernel)(fr:∀y∈scope.names,y.2=.free->X.env.kindOf y.1=some .cell\/X.env.kindOf y.1=some .free:=by repeat (first|exact wp _|refine vt.mpr ⟨λe=>(by first|exact absurd e (by decide)|exact .inl rfl|exact .inr rfl),?_⟩))(capt:CapOk X scope cap N':=by repeat (first|exact trivial|refine⟨rfl,rfl,?_⟩)):CmpOk X N' cap scope:=⟨kind,nc,nm,fr,capt.get,capt.len⟩
end DD
namespace ZZ
open PySem
structure Ap(z a b i j:Addr)(f g:List Addr):Prop where
 az:a≠z
 bz:b≠z
 iz:i≠z
 jz:j≠z
 ab:a≠b
 ai:a≠i
 aj:a≠j
 bi:b≠i
 bj:b≠j
 ij:i≠j
 fz:z∉f
 fb:b∉f
 fj:j∉f
 gz:z∉g
 gb:b∉g
 gi:i∉g
section
variable{R:Nat->Value->Prop}
theorem zOB{Q:Value->Shared->Prop}(D:Draws prog w A i f n P S)(C:Draws prog w A j g m R U)(ap:Ap z a b i j f g)(hz:IsZip s.heap z a b .none)(ha:IsPair s.heap a (.ref i) (.ref j))(hb:IsPair s.heap b p q)(hS:S k s.heap)(hU:U k s.heap)(hn:k<n)(hm:k<m)(h:∀x y g' tk,P k x->R k y->IsZip g' z a b (rawInt s.heap.objs.size)->IsPair g' b x y->S (k+1) g'->U (k+1) g'->IsPair g' s.heap.objs.size x y->g'.objs.size=s.heap.objs.size+1 ->
   (∀c o,c≠z->c≠b->c≠i->c≠j->s.heap.get? c=some o->g'.get? c=some o)->Q (.ref s.heap.objs.size) { s with heap:=g',toks:=tk }):wpAny (model prog w) A (Builtin.«zip.__next__» ⟨[.ref z],[]⟩) (λr s'=>∃y,r=.done (.ret y)/\Q y s') E s:=by
 show wpAny _ _ (field (.ref z) 2 >>= _) _ _ _;refine ac (cr hz rfl (x:=.bool false) rfl (?_));show wpAny _ _ (field (.ref z) 3 >>= _) _ _ _;refine ac (cr hz rfl (x:=.ref a) rfl (ac (jc ha rfl (?_))));show wpAny _ _ (Builtin.SmallTypes.ownedTupleIsFree (.ref z) >>= _) _ _ _;refine ac (?_);unfold Builtin.SmallTypes.ownedTupleIsFree;refine ac (cr hz rfl (x:=.none) rfl (ah (?_)));simp only[if_true];refine ac (nw (ac (cr hz rfl (x:=.ref b) rfl (?_))));refine ac (jb hz (by simp) λg1 z1 t1=>?_)
 replace z1:IsZip g1 z a b .ellipsis:=z1
 have keep1:∀{c:Addr} {o:Obj},c≠z->s.heap.get? c=some o->g1.get? c=some o:=λn e=>t1.extBut _ _ n e
 refine ac (?_);simp only[List.zipIdx_cons,List.zipIdx_nil,lw,qc];refine ac (ac (qm (?_)));show wpAny _ _ (Builtin.SmallTypes.nextOf (.ref i) >>= _) _ _ _;refine ac (D.item k _ _ _ hn (D.frame _ _ _ hS λc hc o e=>keep1 (λw'=>ap.fz (w' ▸ hc)) e) λx g2 tk2 Px S2 t2=>ah (?_));have b2:IsPair g2 b p q:=t2.extBut _ _ ap.bi (keep1 ap.bz hb);refine ac (jc b2 rfl (ac (pe b2 λg3 b3 t3=>?_)))
 replace b3:IsPair g3 b x q:=b3
 refine ac (vo (ah (?_)));refine ac (ac (qm (?_)));show wpAny _ _ (Builtin.SmallTypes.nextOf (.ref j) >>= _) _ _ _;have U3:U k g3:=C.frame _ _ _ hU λc hc o e=>t3.extBut _ _ (λw'=>ap.gb (w' ▸ hc)) (t2.extBut _ _ (λw'=>ap.gi (w' ▸ hc)) (keep1 (λw'=>ap.gz (w' ▸ hc)) e))
 refine ac (C.item k _ _ _ hm U3 λy g4 tk4 Ry U4 t4=>ah (?_));have b4:IsPair g4 b x q:=t4.extBut _ _ ap.bj b3;refine ac (jc b4 rfl (ac (pe b4 λg5 b5 t5=>?_)))
 replace b5:IsPair g5 b x y:=b5
 refine ac (vo (ah (ah (?_))));refine ac (jc b5 rfl (ac (wpAny_newTuple (?_))));have sz:g5.objs.size=s.heap.objs.size:=by rw[t5.1,t4.1,t3.1,t2.1,t1.1]
 have z5:IsZip g5 z a b .ellipsis:=t5.extBut _ _ ap.bz.symm (t4.extBut _ _ ap.jz.symm (t3.extBut _ _ ap.bz.symm (t2.extBut _ _ ap.iz.symm z1)));have k5:∀c o,c≠z->c≠b->c≠i->c≠j->s.heap.get? c=some o->g5.get? c=some o:=λc o c1 c2 c3 c4 e=>t5.extBut _ _ c2 (t4.extBut _ _ c4 (t3.extBut _ _ c2 (t2.extBut _ _ c3 (keep1 c1 e))))
 have S5:S (k+1) g5:=D.frame _ _ _ S2 λc hc o e=>t5.extBut _ _ (λw'=>ap.fb (w' ▸ hc)) (t4.extBut _ _ (λw'=>ap.fj (w' ▸ hc)) (t3.extBut _ _ (λw'=>ap.fb (w' ▸ hc)) e))
 have U5:U (k+1) g5:=C.frame _ _ _ U4 λc hc o e=>t5.extBut _ _ (λw'=>ap.gb (w' ▸ hc)) e
 have zl:z<g5.objs.size:=au z5;show wpAny _ _ (Builtin.SmallTypes.ownedTupleHandOut (.ref z) (.ref g5.objs.size) >>= _) _ _ _;refine ac (?_);unfold Builtin.SmallTypes.ownedTupleHandOut;have z6:IsZip (g5.push { cls:=.type "tuple",data:=.seq #[x,y] }) z a b .ellipsis:=al _ z5;refine ac (jb z6 (by simp) λg7 z7 t7=>?_)
 replace z7:IsZip g7 z a b (rawInt g5.objs.size):=z7
 refine jb z7 (by simp) λg8 z8 t8=>?_
 replace z8:IsZip g8 z a b (rawInt g5.objs.size):=z8
 have up:∀c o,c≠z->g5.get? c=some o->g8.get? c=some o:=λc o c1 e=>t8.extBut _ _ c1 (t7.extBut _ _ c1 (al _ e))
 have p8:IsPair g8 g5.objs.size x y:=t8.extBut _ _ (gf zl) (t7.extBut _ _ (gf zl) (bo _ rfl));have s8:g8.objs.size=g5.objs.size+1:=by rw[t8.1,t7.1,qd]
 rw[sz] at z8 p8 s8;refine ah ⟨_,rfl,(?_)⟩;show Q (.ref g5.objs.size) _;rw[sz];exact h x y g8 _ Px Ry z8 (up _ _ ap.bz b5) (D.frame _ _ _ S5 λc hc o e=>up c o (λw'=>ap.fz (w' ▸ hc)) e) (C.frame _ _ _ U5 λc hc o e=>up c o (λw'=>ap.gz (w' ▸ hc)) e) p8 s8 λc o c1 c2 c3 c4 e=>up c o c1 (k5 c o c1 c2 c3 c4 e)
theorem zRS(D:Draws prog w A i f n P S)(C:Draws prog w A j g m R U)(ap:Ap z a b i j f g)(hz:IsZip s.heap z a b .none)(ha:IsPair s.heap a (.ref i) (.ref j))(hb:IsPair s.heap b p q)(hS:S k s.heap)(hU:U k s.heap)(hk:(k=n)\/(k<n/\k=m))(h:∀g' e,(∀c o,c≠z->c≠b->c≠i->c≠j->s.heap.get? c=some o->g'.get? c=some o)->(∃o,g'.get? e=some o/\o.cls=.type "StopIteration")->∀tk,E (.ref e) { s with heap:=g',toks:=tk }):wpAny (model prog w) A (PySem.Builtin.«zip.__next__» ⟨[.ref z],[]⟩) Q E s:=by
 show wpAny _ _ (field (.ref z) 2 >>= _) _ _ _;refine ac (cr hz rfl (x:=.bool false) rfl (?_));show wpAny _ _ (field (.ref z) 3 >>= _) _ _ _;refine ac (cr hz rfl (x:=.ref a) rfl (ac (jc ha rfl (?_))));show wpAny _ _ (Builtin.SmallTypes.ownedTupleIsFree (.ref z) >>= _) _ _ _;refine ac (?_);unfold Builtin.SmallTypes.ownedTupleIsFree;refine ac (cr hz rfl (x:=.none) rfl (ah (?_)));simp only[if_true];refine ac (nw (ac (cr hz rfl (x:=.ref b) rfl (?_))));refine ac (jb hz (by simp) λg1 z1 t1=>?_)
 replace z1:IsZip g1 z a b .ellipsis:=z1
 have keep1:∀{c:Addr} {o:Obj},c≠z->s.heap.get? c=some o->g1.get? c=some o:=λn e=>t1.extBut _ _ n e
 refine ac (?_);simp only[List.zipIdx_cons,List.zipIdx_nil,lw,qc];refine ac (ac (qm (?_)));show wpAny _ _ (Builtin.SmallTypes.nextOf (.ref i) >>= _) _ _ _;have S1:S k g1:=D.frame _ _ _ hS λc hc o e=>keep1 (λw'=>ap.fz (w' ▸ hc)) e
 rcases hk with hk|⟨hn,hk⟩
 ·subst hk;refine ac (D.done _ _ _ S1 λg2 e t2 he=>?_);obtain⟨oe,ho,ce⟩:=he;have z2:IsZip g2 z a b .ellipsis:=t2 _ _ ap.iz.symm z1;have ez:e≠z:=λx=>by subst x;rw[z2] at ho;cases ho;simp at ce
  exact jb z2 (by simp) λg3 _ t3=>h g3 e (λc o c1 _ c3 _ x=>t3.extBut _ _ c1 (t2 _ _ c3 (keep1 c1 x))) ⟨oe,t3.extBut _ _ ez ho,ce⟩ _
 ·subst hk;refine ac (D.item k _ _ _ hn S1 λx g2 tk2 Px S2 t2=>ah (?_));have b2:IsPair g2 b p q:=t2.extBut _ _ ap.bi (keep1 ap.bz hb);refine ac (jc b2 rfl (ac (pe b2 λg3 b3 t3=>?_)));refine ac (vo (ah (?_)));refine ac (ac (qm (?_)));show wpAny _ _ (Builtin.SmallTypes.nextOf (.ref j) >>= _) _ _ _;have U3:U k g3:=C.frame _ _ _ hU λc hc o e=>t3.extBut _ _ (λw'=>ap.gb (w' ▸ hc)) (t2.extBut _ _ (λw'=>ap.gi (w' ▸ hc)) (keep1 (λw'=>ap.gz (w' ▸ hc)) e))
  refine ac (C.done _ _ _ U3 λg4 e t4 he=>?_);obtain⟨oe,ho,ce⟩:=he;have z4:IsZip g4 z a b .ellipsis:=t4 _ _ ap.jz.symm (t3.extBut _ _ ap.bz.symm (t2.extBut _ _ ap.iz.symm z1));have ez:e≠z:=λx=>by subst x;rw[z4] at ho;cases ho;simp at ce
  exact jb z4 (by simp) λg5 _ t5=>h g5 e (λc o c1 c2 c3 c4 x=>t5.extBut _ _ c1 (t4 _ _ c4 (t3.extBut _ _ c2 (t2.extBut _ _ c3 (keep1 c1 x))))) ⟨oe,t5.extBut _ _ ez ho,ce⟩ _
end
theorem zJG{R:Nat->Value->Prop}(D:Draws prog w A.in1 i f n P S)(C:Draws prog w A.in1 j g m R U)(ap:Ap z a b i j f g)(hz:IsZip s.heap z a b .none)(ha:IsPair s.heap a (.ref i) (.ref j))(hb:IsPair s.heap b p q)(hS:S k s.heap)(hU:U k s.heap)(hn:k<n)(hm:k<m)(h:∀x y g' tk,P k x->R k y->IsZip g' z a b (rawInt s.heap.objs.size)->IsPair g' b x y->S (k+1) g'->U (k+1) g'->IsPair g' s.heap.objs.size x y->g'.objs.size=s.heap.objs.size+1 ->
   (∀c o,c≠z->c≠b->c≠i->c≠j->s.heap.get? c=some o->g'.get? c=some o)->Q (some (.ref s.heap.objs.size)) { s with heap:=g',toks:=tk }):wpAny (model prog w) A (pyNext (.ref z)) Q E s:=by
 have hT:s.TypeIs (.ref z) "zip" := ⟨_,hz,rfl⟩;unfold pyNext;refine ac (jx (fq (name:=Str.ofString "__next__") hT jg (ge jg hT nv (?_) (my _))));refine gv (zOB (Q:=λv s'=>Q (some v) s') D C ap hz ha hb hS hU hn hm h) (λfin s' hq=>?_) λ_ _ x=>x
 obtain⟨v,e,hq⟩:=hq;exact⟨v,e,ah hq⟩
theorem zJH{R:Nat->Value->Prop}(D:Draws prog w A.in1 i f n P S)(C:Draws prog w A.in1 j g m R U)(ap:Ap z a b i j f g)(hz:IsZip s.heap z a b .none)(ha:IsPair s.heap a (.ref i) (.ref j))(hb:IsPair s.heap b p q)(hS:S k s.heap)(hU:U k s.heap)(hk:(k=n)\/(k<n/\k=m))(h:∀g' tk,(∀c o,c≠z->c≠b->c≠i->c≠j->s.heap.get? c=some o->g'.get? c=some o)->Q none { s with heap:=g',toks:=tk }):wpAny (model prog w) A (pyNext (.ref z)) Q E s:=by
 have hT:s.TypeIs (.ref z) "zip" := ⟨_,hz,rfl⟩;unfold pyNext;refine ac (jx (fq (name:=Str.ofString "__next__") hT jg (ge jg hT nv (zRS D C ap hz ha hb hS hU hk λg' e kp he tk=>?_) (my _))));obtain⟨o,ho,hc⟩:=he;refine ac (nj (T:="StopIteration") (b:=true) ⟨o,ho,hc⟩ ro (?_));exact ah (h _ _ kp)
end ZZ
namespace DD
open PySem PySem.Spec PyProof.Rows L2
theorem zPT(I:Inv X pZ σ H s)(h:X.K.lookup a=some o)(f:W1 X pZ H b):a≠b:=by
 rintro rfl;have e:=I.ok.mod.kin a o h;rcases f.2.2.2.1 with z|z
 ·exact I.ok.noex a o e z
 ·exact absurd (bh (bh (au e) I.ok.bsz) z) (iw _)
theorem zPS(h:Rd H a u)(f:W1 X pZ H b):a≠b:=by
 rintro rfl;obtain⟨o,e⟩:=Rd.some h;rw[f.1] at e;cases e
structure Dw(K:Fg)(sq:Hp->Addr->List V->Prop)(isI:Heap->Addr->Addr->Nat->Prop)(nm:String):Prop where
 get:∀{X:Cx} {pZ σ H s a xs},X.K=K->Inv X pZ σ H s->sq H a xs->∃its:List Value,Vals xs its/\xs.length<=af/\∃o,s.heap.get? a=some o/\o.cls=.type nm/\∃n,o.data=.seq its.toArray n
 inj:∀{X:Cx} {pZ σ H s a xs ys},X.K=K->Inv X pZ σ H s->sq H a xs->sq H a ys->xs=ys
 ne:∀{X:Cx} {pZ σ H s a xs b},X.K=K->Inv X pZ σ H s->sq H a xs->W1 X pZ H b->a≠b
 it:∀{h i a k},isI h i a k->∃o,h.get? i=some o/\∃vs,o.data=.fields vs
 at_:∀{h h':Heap} {i a k},isI h i a k->(∀o,h.get? i=some o->h'.get? i=some o)->isI h' i a k
 dr:∀{prog w A} (_:A.handled=none) (i a:Addr) (_:a≠i) (ys:Array Value),Draws prog w A i [i,a] ys.size (λk v=>ys[k]?=some v) (λk h=>isI h i a k/\∃o,h.get? a=some o/\o.cls=.type nm/\∃n,o.data=.seq ys n)
theorem dw_list(K:Fg):Dw K (SqL K) Heap.IsListIter "list" where
 get:=λ{X pZ σ H s a xs} hK I h=>by
  subst hK;obtain⟨its,r,⟨o,n,e,c,_,d⟩,z⟩:=I.list h;exact⟨its,r,z,o,e,c,n,d⟩
 inj:=λ{X pZ σ H s a xs ys} hK I h g=>by subst hK;exact I.list_inj h g
 ne:=λ{X pZ σ H s a xs b} hK I h f=>by
  subst hK;rcases h with h|⟨o,_,_,hk,_⟩
  ·exact zPS h f
  ·exact zPT I hk f
 it:=λ{h i a k} ⟨o,e,c,d⟩=>⟨o,e,_,d⟩
 at_:=λh k=>h.at k
 dr:=λhh i a ne ys=>Draws.list hh i a ne ys
section
variable{X:Cx}{pos:Pos}{a b c:Expr}{f g h:ME}
theorem zMS(ha:DE X a f):DE X (.UnaryOp .USub a pos) (mUn kP f):=zP0 zDH (λO H dx d vx Q i e q=>by
 cases dx<;>first|(simp only[kP,reduceCtorEq] at e;done)|skip
 simp only[kP,gk] at e;subst e;rw[Is.int_iff] at i;exact⟨_,i,q _ (by rw[Is.int_iff])⟩) ha
noncomputable def leA:D->D->Option D
 |.int i,.int j=>some (.bl (decide (i<=j)))
 |.str s,.str t=>some (.bl (!decide (t<s)))
 |_,_=>none
theorem zK2:OpR X (cz .LtE) (λx y H Q=>∃i j,x=.str i/\y=.str j/\Q (.bl (!decide (j.cps.toList<i.cps.toList))) H):=by
 intro pZ s σ H x y v u Q I rx ry hq;obtain⟨i,j,rfl,rfl,q⟩:=hq;obtain⟨t,rfl⟩:=rx;obtain⟨t',rfl⟩:=ry;exact PySem.P.le_str ⟨.bl _,H,I,rfl,q⟩
def zQ5:R2:=λx y H Q=>rI0 (λi j=>.bl (decide (i<=j))) x y H Q\/∃i j,x=.str i/\y=.str j/\Q (.bl (!decide (j.cps.toList<i.cps.toList))) H
theorem zE9:OpR X (cz .LtE) zQ5:=op_le.or zK2
theorem zFJ{K:Fg}:OpD K zQ5 leA:=by
 intro O H dx dy d vx vy Q ol ix iy e q;unfold leA at e;split at e
 ·have e:=bw e;subst e;rw[Is.int_iff] at ix iy;exact .inl ⟨_,_,ix,iy,q _ H (Same.refl H) (by rw[Is.bl_iff])⟩
 ·have e:=bw e;subst e;rw[Is.str_iff] at ix iy;exact .inr ⟨_,_,ix,iy,q _ H (Same.refl H) (by rw[Is.bl_iff])⟩
 ·cases e
def gJ(m m':D->D->Option D)(f g h:ME):ME:=λr=>(f r).bind λx=>(g r).bind λy=>(m x y).bind λk=>match k with
 |.bl true=>(h r).bind λz=>m' y z
 |.bl false=>some (.bl false)
 |_=>none
theorem rJ{r2 r3:R2}{m m':D->D->Option D}(hd:OpD X.K r2 m)(hd':OpD X.K r3 m'){σ:St}{H:Hp}{Q:VK}(hq:lE X.K (gJ m m' f g h) σ H Q):zDU r2 r3 (lE X.K f) (lE X.K g) (lE X.K h) σ H Q:=by
 obtain⟨O0,r,d,hR,e,q⟩:=hq;obtain⟨x,e1,e⟩:=bnS e;obtain⟨y,e2,e⟩:=bnS e;obtain⟨k,e3,e⟩:=bnS e;refine⟨O0,r,x,hR,e1,λv1 H1 s1 i1=>⟨O0,r,y,hR.same s1,e2,λv2 H2 s2 i2=>?_⟩⟩;have R2:=hR.same (s1.trans s2);refine hd (Ow O0 r σ) H2 x y k v1 v2 _ R2.ol (i1.same s2 (hR.same s1).ol) i2 e3 λv H3 s3 i3=>?_
 have s13:=(s1.trans s2).trans s3;cases k with
 |bl kb=>
  rw[Is.bl_iff] at i3;refine⟨kb,i3,?_⟩;cases kb with
  |true=>
   obtain⟨z,e4,e5⟩:=bnS e;refine zNV ⟨O0,r,z,hR.same s13,e4,λv3 H4 s4 i4=>?_⟩;exact hd' (Ow O0 r σ) H4 y z d v2 v3 Q (hR.same (s13.trans s4)).ol (i2.same (s3.trans s4) R2.ol) i4 e5 λv' H' s' i'=>q v' H' ((s13.trans s4).trans s') i'
  |false=>
   cases e;exact zNW (q _ H3 s13 (by rw[Is.bl_iff]))
 |_=>cases e
theorem zB0(ho:OpR X (cz op) r2)(hd:OpD X.K r2 m)(ho':OpR X (cz op') r3)(hd':OpD X.K r3 m')(ha:DE X a f)(hb:DE X b g)(hc:DE X c h)(hm:lastMarks [op,op'] [b,c]=false:=by with_unfolding_all rfl):DT X (.Compare a [op,op'] [b,c] pos) (mBl (gJ m m' f g h)):=by
 refine PT.conseq (zAI ho ho' ha hb hc hm) λσ H Q hq=>?_
 obtain⟨O0,r,k,hR,e,q⟩:=hq;obtain⟨d,e1,e⟩:=bnS e;refine rJ (m:=m) (m':=m') hd hd' ⟨O0,r,d,hR,e1,λv H' s' i'=>?_⟩;cases d<;>first|cases e|skip
 rw[Is.bl_iff] at i';exact⟨_,i',q H' s'⟩
noncomputable def X4:List D->Option (List Int)
 |[]=>some []
 |.int i::r=>(X4 r).map (i::·)
 |_=>none
def zI2(fs:ML):ME:=λr=>(fs r).bind λl=>match l with
 |[.int i,.int j]=>some (.int (if j > i then j else i))
 |[.int i,.int j,.int k]=>some (.int (if j > i then (if k > j then k else j) else (if k > i then k else i)))
 |_=>none
theorem WU(hc:X.calm=true):CallR X (.builtin "max") (λxs H Q=>∃i j k,xs=[.int i,.int j,.int k]/\Q (.int (if j > i then (if k > j then k else j) else (if k > i then k else i))) H):=by
 intro pZ s σ H xs us Q I r hq;obtain⟨i,j,k,rfl,q⟩:=hq;cases r with
 |cons r1 r=>
  obtain⟨u2,u3,rfl,⟨t2,rfl⟩,⟨t3,rfl⟩⟩:=Vals.two r;obtain⟨t1,rfl⟩:=r1;refine max_three_ints (I.ok.hd hc) λh' tk kp=>⟨_,H,I.kept kp,?_,q⟩
  split<;>split<;>exact⟨_,rfl⟩
theorem zMT(hc:X.calm=true)(hg:Gl X "max")(hm:X.mg "max" = none)(ha:DA X (a::es) fs)(hs:ag (a::es) X.env=(false,eval a X.env)::ag es X.env:=by rfl)(hpl:(dq pos (ag es X.env)).any (·.1)=false:=by rfl):DE X (.Call (.Name "max" p') (a::es) [] pos) (zI2 fs):=by
 refine PE.conseq (kC ((WV hc).or (WU hc)) hg hm vc ha (he:=hs) (hpl:=hpl)) λσ H Q hq=>?_
 obtain⟨O0,r,d,hR,e,q⟩:=hq;obtain⟨l,e1,e2⟩:=bnS e;refine⟨O0,r,l,hR,e1,λvs H1 s1 il=>?_⟩;split at e2
 ·cases e2;obtain⟨v,u,rfl,i1,i2⟩:=il.inv2;rw[Is.int_iff] at i1 i2;exact .inl ⟨_,_,by rw[i1,i2],q _ H1 s1 (by rw[Is.int_iff])⟩
 ·cases e2;obtain⟨v,u,w,rfl,i1,i2,i3⟩:=il.inv3;rw[Is.int_iff] at i1 i2 i3;exact .inr ⟨_,_,_,by rw[i1,i2,i3],q _ H1 s1 (by rw[Is.int_iff])⟩
 ·cases e2
def dI(fl:ML):ME:=λr=>(fl r).bind λl=>(X4 l).bind λns=>match ns with
 |[]=>none
 |i::t=>some (.int (t.foldl max i))
theorem ZM{K:Fg}:∀{l:List D} {ns:List Int} {vs:List V},X4 l=some ns->IsL K O H l vs->vs=ns.map V.int
 |[],ns,vs,e,il=>by cases e;unfold IsL at il;subst il;rfl
 |d::l,ns,vs,e,il=>by
  unfold IsL at il;obtain⟨v,r,rfl,i1,i2⟩:=il;cases d<;>first|(simp only[X4,reduceCtorEq] at e;done)|skip
  simp only[X4] at e;obtain⟨ms,e1,rfl⟩:=mpS e;rw[Is.int_iff] at i1;rw[i1,ZM e1 i2];rfl
theorem nZ:∀(t:List Int) (i:Int),t.foldl max i∈i::t/\∀x∈i::t,x<=t.foldl max i
 |[],i=>⟨dw,λx hx=>by simp at hx;rw[hx];exact vz _⟩
 |j::t,i=>by
  obtain⟨h1,h2⟩:=nZ t (max i j);refine⟨?_,λx hx=>?_⟩
  ·rw[jf];rcases ca.mp h1 with z|z
   ·rw[z];rcases Int.le_total i j with y|y
    ·rw[Int.max_eq_right y];simp
    ·rw[Int.max_eq_left y];simp
   ·exact bm _ (bm _ z)
  ·rw[jf];have hm:=h2 (max i j) dw;rcases ca.mp hx with z|z
   ·rw[z];exact Int.le_trans (Int.le_max_left i j) hm
   ·rcases ca.mp z with z|z
    ·rw[z];exact Int.le_trans (Int.le_max_right i j) hm
    ·exact h2 x (bm _ z)
theorem WT(hc:X.calm=true):CallR X (.builtin "max") (λxs H Q=>∃p i ns,xs=[.ref p]/\SqL X.K H p ((i::ns).map V.int)/\Q (.int (ns.foldl max i)) H):=by
 intro pZ s σ H xs us Q I r hq;obtain⟨p,i,ns,rfl,hS,q⟩:=hq;obtain⟨u,rfl,ru⟩:=Vals.one r;cases ru;obtain⟨its,rv,pl,hz⟩:=I.list hS;have hi:IntsAre its (i::ns):=p6 rv;obtain⟨xs,e⟩:=hi.allInts.items;have hns:(i::ns)=xs.toList.map (·.1):=by rw[<-hi.numsOf,<-nums_intItems,<-e]
 have hsz:0<xs.size:=by
  have h3:=congrArg List.length hns;have h4:ns.length+1=xs.toList.length:=by simpa using h3
  have h5:xs.toList.length=xs.size:=by simp
  omega
 have pl':=pl.isList;rw[e] at pl';refine max_intList (I.ok.hd hc) pl' hsz λv h' tk hv hk=>?_
 obtain⟨t,rfl⟩:=intItems_at hv;obtain⟨h1,h2⟩:=argBest_gt (numAt xs) (xs.size-1);refine⟨.int (ns.foldl max i),H,I.kept hk,⟨t,?_⟩,q⟩;obtain⟨m1,m2⟩:=nZ ns i
 congr 1
 refine Int.le_antisymm ?_ ?_
 ·refine m2 _ ?_;rw[hns,numAt_eq];exact getD_mem (by rw[ak,iq];omega)
 ·rw[hns] at m1;obtain⟨k,hk',ek⟩:=mem_getD m1;rw[<-ek];rw[ak,iq] at hk';rw[<-numAt_eq];exact h2 k (by omega)
theorem zH0(hc:X.calm=true)(hg:Gl X "max")(hm:X.mg "max" = none)(ha:DB X a fl)(hs:ag [a] X.env=(false,eval a X.env)::ag [] X.env:=by rfl):DE X (.Call (.Name "max" p') [a] [] pos) (dI fl):=by
 refine PE.conseq (kC (WT hc) hg hm vc (zY ha yV hs) (he:=hs)) λσ H Q hq=>?_
 obtain⟨O0,r,d,hR,e,q⟩:=hq;obtain⟨l,e1,e2⟩:=bnS e;obtain⟨ns,e3,e4⟩:=bnS e2;refine⟨O0,r,l,hR,e1,λp xs H1 s1 sq il=>?_⟩;cases ns with
 |nil=>cases e4
 |cons i t=>
  cases e4;have ex:=ZM e3 il;subst ex;exact⟨p,i,t,rfl,sq,q _ H1 s1 (by rw[Is.int_iff])⟩
def zBF(fl:ML):ME:=λr=>(fl r).map .tup
theorem rC(hg:Gl X "tuple")(hm:X.mg "tuple" = none)(ha:DB X a fl)(hs:ag [a] X.env=(false,eval a X.env)::ag [] X.env:=by rfl):DE X (.Call (.Name "tuple" p') [a] [] pos) (zBF fl):=by
 refine PE.conseq (kO cU hg hm tz (zY ha yV hs) (he:=hs)) λσ H Q hq=>?_
 obtain⟨O0,r,d,hR,e,q⟩:=hq;obtain⟨l,e1,rfl⟩:=mpS e;refine⟨O0,r,l,hR,e1,λp xs H1 s1 sq il=>⟨p,xs,rfl,.inl ⟨sq,λt ht=>q _ _ (s1.trans (zX ht)) ?_⟩⟩⟩;rw[Is.tup_iff];exact⟨t,xs,rfl,SqT.of zJ,il.same (zX ht) (hR.same s1).ol⟩
theorem zRN(h:DF X a fl):DB X a fl:=by
 refine PE.conseq h λσ H Q hq=>?_
 obtain⟨O0,r,l,hR,e,q⟩:=hq;refine⟨O0,r,l,hR,e,λp xs H1 s1 n1 e1 il=>q p xs H1 s1 (SqL.of e1) ?_⟩;have ol:j9 (λb=>Ow O0 r σ b\/b=p) H1:=λb z=>z.elim (λz=>(hR.same s1).ol b z) λz=>by subst z;exact⟨.lst xs,e1,trivial⟩
 exact IsL.mono (Same.kp (Same.refl H1) _) ol (λa z _=>.inl z) l xs il
end
def zQN(f:ME)(bd:D->En->Option En):MS:=λr=>(f r).bind λd=>(bd d r).map .nx
theorem zML(he:DE X e f)(hg:DG X tg bd)(hs:swapsWithSole [tg] e pos.line X.env=pure false:=by rfl)(hw:swappedStores [tg] e X.env=pure none:=by rfl)(h1:(io [tg] X.env).map (·.2)=[assign tg X.env]:=by rfl):DS X (.Assign [tg] e pos) (zQN f bd):=by
 refine PS.conseq (zKL he hg hs hw h1) λDn σ H hq=>?_
 obtain⟨O0,r,fl,hR,e,q⟩:=hq;obtain⟨d,e1,e2⟩:=bnS e;obtain⟨r',e3,rfl⟩:=mpS e2;refine⟨O0,r,d,hR,e1,λv H1 s1 i1=>⟨O0,r,d,r',hR.same s1,i1,e3,λσ' R' k'=>q σ' H1 R' ((Kp.of_same r σ s1).trans k')⟩⟩
open PySem PySem.Spec PyProof.Rows L2 PySem.StrLaws
def bR(xs:List α)(lo hi:Option Int):List α:=(xs.drop (HT.sIx xs.length 0 lo)).take (HT.sIx xs.length xs.length hi-HT.sIx xs.length 0 lo)
theorem tF(n d:Nat)(hd:d<=n)(o:Option Int):HT.sIx n d o<=n:=HT.sIx_le n d hd o
theorem mS(lo hi:Option Int)(n:Nat):Builtin.Str.strSliceIndices lo hi 1 n=Builtin.Str.strSliceIndices (some ((HT.sIx n 0 lo:Nat):Int)) (some ((HT.sIx n n hi:Nat):Int)) 1 n:=by
 have key:∀(v:Option Int) (d:Nat),d<=n->(match v with|none=>(d:Int)|some i=>max 0 (min (if i<0 then i+(n:Int) else i) (n:Int)))=max 0 (min (if ((HT.sIx n d v:Nat):Int)<0 then ((HT.sIx n d v:Nat):Int)+(n:Int) else ((HT.sIx n d v:Nat):Int)) (n:Int)):=by
  intro v d hd;have hle:=tF n d hd v;have h0:¬(((HT.sIx n d v:Nat):Int)<0):=by omega
  rw[if_neg h0];cases v with
  |none=>
   have e:HT.sIx n d none=d:=rfl;rw[e];show(d:Int)=_;omega
  |some i=>
   have e:HT.sIx n d (some i)=if i<0 then (i+(n:Int)).toNat else min i.toNat n:=rfl
   show max 0 (min (if i<0 then i+(n:Int) else i) (n:Int))=_;rw[e] at hle ⊢
   split<;>split at hle<;>omega
 have e1:(1:Int) > 0:=by omega
 unfold PySem.Builtin.Str.strSliceIndices;simp only[e1,if_true];have k1:=key lo 0 (cg _);have k2:=key hi n (ae _);cases lo<;>cases hi<;>simp only at k1 k2 ⊢<;>rw[<-k1,<-k2]<;>rfl
theorem vU(x:Str)(lo hi:Option Int):sliceText x lo hi=⟨(bR x.cps.toList lo hi).toArray⟩:=by
 have hl:x.cps.toList.length=x.length:=by simp[Str.length]
 unfold bR;rw[hl];have ha:=tF x.length 0 (cg _) lo;have hb:=tF x.length x.length (ae _) hi;have e:sliceText x lo hi=sliceText x (some ((HT.sIx x.length 0 lo:Nat):Int)) (some ((HT.sIx x.length x.length hi:Nat):Int)):=by
  unfold sliceText;rw[mS lo hi x.length]
 rw[e];by_cases hab:HT.sIx x.length 0 lo<=HT.sIx x.length x.length hi
 ·exact sliceText_nat x hab hb
 ·have z:HT.sIx x.length x.length hi-HT.sIx x.length 0 lo=0:=by omega
  rw[z,List.take_zero];have em:Builtin.Str.strSliceIndices (some ((HT.sIx x.length 0 lo:Nat):Int)) (some ((HT.sIx x.length x.length hi:Nat):Int)) 1 x.length=[]:=by
   have e1:(1:Int) > 0:=by omega
   unfold PySem.Builtin.Str.strSliceIndices;simp only[e1,if_true];have h0:¬(((HT.sIx x.length 0 lo:Nat):Int)<0):=by omega
   have h1:¬(((HT.sIx x.length x.length hi:Nat):Int)<0):=by omega
   rw[if_neg h0,if_neg h1];unfold PySem.sliceRange;simp only[e1,if_true];split
   ·omega
   ·rfl
  unfold sliceText;rw[em];split
  ·rename_i q;have q':x.length=0:=by
                  have:0=x.length:=by simpa using q
                  exact this.symm
   apply Str.ext'
   have:x.cps.size=0:=q'
   exact Array.eq_empty_of_size_eq_zero this
  ·rfl
def zQ0:V->Option Int->Option Int->Hp->VK->Prop:=λx lo hi H Q=>∃z,x=.str z/\z.length<=af/\Q (.str ⟨(bR z.cps.toList lo hi).toArray⟩) H
theorem zCB(xs:List α)(lo hi:Option Int):(bR xs lo hi).length<=xs.length:=by
 unfold bR;rw[gp,ja];omega
theorem d8:SlR X zQ0:=by
 intro pZ s σ H x v vl vu lo hi sl Q I rx hs pl pu hq;obtain⟨z,rfl,hz,q⟩:=hq;obtain⟨t,rfl⟩:=rx;refine⟨"str",_,PySem.F.slot_str_getitem.lookup,typeIs_str _ _ _,?_⟩;have main:∀(l u:Option (Int×Tok)),l.map (·.1)=lo->u.map (·.1)=hi->s.heap.IsSlice sl l u none->wpAny (model X.prog X.w) X.A (getItem (.str z t) (.ref sl)) (EP X pZ σ Q) X.xe s:=by
  intro l u hl hu hsl;refine wpAny_getItem_str_slice hsl rfl ?_;have e:∀t' k,EP X pZ σ Q (.str (sliceText z lo hi) t') { s with toks:=k }:=λt' k=>⟨.str _,H,I.tok k,⟨t',rfl⟩,by rw[vU];exact q⟩
  have hle:(sliceText z lo hi).length<=af:=by
   rw[vU,kG]
   have:=zCB z.cps.toList lo hi
   have h2:z.cps.toList.length=z.length:=by simp[Str.length]
   omega
  unfold sliceMade slicePicked;rw[hl,hu];exact post_val_or_str ⟨hle,e⟩
 obtain⟨o,h1,h2,h3⟩:=hs;cases pl with
 |none=>cases pu with
  |none=>exact main none none rfl rfl ⟨o,h1,h2,h3⟩
  |int j tj=>exact main none (some (j,tj)) rfl rfl ⟨o,h1,h2,h3⟩
 |int i ti=>cases pu with
  |none=>exact main (some (i,ti)) none rfl rfl ⟨o,h1,h2,h3⟩
  |int j tj=>exact main (some (i,ti)) (some (j,tj)) rfl rfl ⟨o,h1,h2,h3⟩
abbrev MO:=En->Option (Option Int)
def x2:MO:=λ_=>some none
def xA(f:ME):MO:=λr=>(f r).bind λd=>(intD d).map some
def lO(K:Fg)(f:MO):TO:=λσ H Q=>∃O0 r o,R K O0 H r σ/\f r=some o/\∀H',Same H H'->Q o H'
def DO(X:Cx)(e:Option Expr)(f:MO):Prop:=PO X e (lO X.K f)
theorem PO.conseq(h:PO X e t)(i:∀σ H Q,t' σ H Q->t σ H Q):PO X e t':=λpZ s σ H Q I q=>h pZ s σ H Q I (i σ H Q q)
theorem zHP:DO X none x2:=PO.conseq zEQ λσ H Q ⟨O0,r,o,hR,e,q⟩=>by
 unfold x2 at e;cases e;exact q H (Same.refl H)
theorem zHO(ha:DE X a f):DO X (some a) (xA f):=PO.conseq (zEP ha) λσ H Q ⟨O0,r,o,hR,e,q⟩=>by
 obtain⟨d,e1,e2⟩:=bnS e;obtain⟨i,e3,rfl⟩:=mpS e2;cases j6 e3;exact⟨O0,r,_,hR,e1,λv H1 s1 i1=>⟨i,by rw[Is.int_iff] at i1;exact i1,q H1 s1⟩⟩
def slD(d:D)(lo hi:Option Int):Option D:=match d with
 |.lst l=>some (.lst (bR l lo hi))
 |.tup l=>if HT.sIx l.length 0 lo=0/\HT.sIx l.length l.length hi=l.length then none else some (.tup (bR l lo hi))
 |.str s=>if s.length<=af then some (.str (bR s lo hi)) else none
 |_=>none
def mSl(f:ME)(lo hi:MO):ME:=λr=>(f r).bind λd=>(lo r).bind λi=>(hi r).bind λj=>slD d i j
def zR4(K:Fg):V->Option Int->Option Int->Hp->VK->Prop:=λx lo hi H Q=>zQ1 K x lo hi H Q\/zQZ K x lo hi H Q\/zQ0 x lo hi H Q
theorem IsL.cut{K:Fg}(h:IsL K O H l xs)(lo hi:Option Int):IsL K O H (bR l lo hi) (zI9 xs lo hi):=by
 unfold bR zI9;rw[h.length];exact(h.drop _).take _
theorem zP1{lo:Option Expr}(ha:DE X a f)(hl:DO X lo fl)(hh:DO X hi fh):DE X (.Subscript a (.Slice lo hi none p2) pos) (mSl f fl fh):=by
 refine PE.conseq (zAQ (r:=zR4 X.K) (sl_list.or (sl_tup.or d8)) ha hl hh) λσ H Q hq=>?_
 obtain⟨O0,r,d,hR,e,q⟩:=hq;obtain⟨x,e1,e⟩:=bnS e;obtain⟨i,e2,e⟩:=bnS e;obtain⟨j,e3,e⟩:=bnS e;refine⟨O0,r,x,hR,e1,λv H1 s1 i1=>⟨O0,r,i,hR.same s1,e2,λH2 s2=>⟨O0,r,j,hR.same (s1.trans s2),e3,λH3 s3=>?_⟩⟩⟩;have s13:=(s1.trans s2).trans s3;have R3:=hR.same s13;have i3:=i1.same (s2.trans s3) (hR.same s1).ol;cases x<;>first|(simp only[slD,reduceCtorEq] at e;done)|skip
 ·simp only[slD] at e;split at e
  ·rename_i hl';cases e;rw[Is.str_iff] at i3;refine .inr (.inr ⟨_,i3,by rw[kG];exact hl',q _ H3 s13 (by rw[Is.str_iff])⟩)
  ·cases e
 ·simp only[slD] at e;split at e
  ·cases e
  ·rename_i hw;cases e;rw[Is.tup_iff] at i3;obtain⟨p,xs,rfl,hs,il⟩:=i3;refine .inr (.inl ⟨p,xs,rfl,hs,by rw[<-il.length];exact hw,λt ht=>q _ _ (s13.trans (zX ht)) ?_⟩);rw[Is.tup_iff];exact⟨t,_,rfl,SqT.of zJ,(il.cut i j).same (zX ht) R3.ol⟩
 ·simp only[slD,gk] at e;subst e;rw[Is.lst_iff] at i3;obtain⟨p,xs,rfl,hs,il⟩:=i3;refine .inl ⟨p,xs,rfl,hs.sq,λt ht=>q _ _ (s13.trans (zX ht)) ?_⟩;rw[Is.lst_iff];exact⟨t,_,rfl,.inl ⟨R3.nofresh ht,.inl zJ⟩,(il.cut i j).same (zX ht) R3.ol⟩
theorem zKD(n:Nat):Builtin.Slice.sliceAdjust none none (-1) (n:Int)=((n:Int)-1,-1):=by
 unfold Builtin.Slice.sliceAdjust;simp
theorem zKB(n:Nat):Builtin.Slice.slicePlaces ((n:Int)-1) (-1) (-1)=n:=by
 unfold Builtin.Slice.slicePlaces;have h1:¬((-1:Int) > 0):=by omega
 simp only[h1,if_false];split
 ·have : -(-1:Int)=1:=by omega
  rw[this,Int.ediv_one];omega
 ·omega
theorem zKC{sl:Addr}{t:Tok}{n:Nat}{Q:Int×Int×Nat->Shared->Prop}(hs:s.heap.IsSliceOf sl .none .none (.int (-1) t))(h:Q ((n:Int)-1,-1,n) s):wpAny (model prog w) A (Builtin.Slice.sliceApplied (.ref sl) (pure (n:Int))) Q E s:=by
 obtain⟨os,ho,hc,hd⟩:=id hs;unfold Builtin.Slice.sliceApplied Builtin.Slice.sliceFields;refine ac (ac (cr ho hd (x:=.none) rfl (ac (cr ho hd (x:=.none) rfl (ac (cr ho hd (x:=.int (-1) t) rfl (ah (?_))))))));refine ac (slicePart_int (?_));show wpAny _ _ (if ((-1:Int) == 0)=true then _ else _) _ _ s;rw[if_neg (by decide)];refine ac (ph (ac (ph (ac (ah (?_))))));show wpAny _ _ (match Builtin.Slice.sliceAdjust none none (-1) (n:Int) with|(lo,hi)=>pure (lo,(-1:Int),Builtin.Slice.slicePlaces lo hi (-1))) _ _ s;rw[zKD n];show wpAny _ _ (pure ((n:Int)-1,(-1:Int),Builtin.Slice.slicePlaces ((n:Int)-1) (-1) (-1))) _ _ s;rw[zKB];exact ah h
theorem zGW:∀(l:List α),(∀m∈l,F m=some (G m))->l.filterMap F=l.map G
 |[],_=>rfl
 |a::l,h=>by
  rw[cn,h a dw,aq,zGW l λm hm=>h m (bm _ hm)]
theorem zAE(xs:Array Value):((List.range xs.size).filterMap λ(m:Nat)=>xs[((xs.size:Int)-1+(m:Int)*(-1)).toNat]?).toArray=xs.toList.reverse.toArray:=by
 congr 1
 apply List.ext_getElem?;intro k;have e:∀m,m<xs.size->xs[((xs.size:Int)-1+(m:Int)*(-1)).toNat]?=some (xs.toList.reverse.getD m .none):=by
  intro m hm;have h1:((xs.size:Int)-1+(m:Int)*(-1)).toNat=xs.size-1-m:=by omega
  rw[h1,sg,ku (by simpa using hm)];have h2:xs.size-1-m<xs.size:=by omega
  simp[h2]
 have e2:(List.range xs.size).filterMap (λ(m:Nat)=>xs[((xs.size:Int)-1+(m:Int)*(-1)).toNat]?)=(List.range xs.size).map λm=>xs.toList.reverse.getD m .none:=by
  exact zGW _ λm hm=>e m (kl.mp hm)
 rw[e2,bn];by_cases hk:k<xs.size
 ·rw[qk hk,bt (by simpa using hk)];simp[sg,hk]
 ·rw[kz (by simpa using hk),kz (by simpa using hk)];rfl
theorem zEE(ht:IsTup s.heap t its)(hs:s.heap.IsSliceOf sl .none .none (.int (-1) tk))(hsz:its.size<=af)(h:Q (.ref s.heap.objs.size) { s with heap:=s.heap.push { cls:=.type "tuple",data:=.seq its.toList.reverse.toArray } }):wpAny (model prog w) A (getItem (.ref t) (.ref sl)) Q E s:=by
 have hz:sizeOk (.seq its.toList.reverse.toArray):=by show its.toList.reverse.toArray.size<=af;simpa using hsz
 obtain⟨os,ho,hc,hd⟩:=id hs;have hT:s.TypeIs (.ref sl) "slice" := ⟨os,ho,hc⟩;unfold getItem
 try with_reducible refine ee ?_
 first|refine ac (ah ?_)|skip
 refine ac (wpAny_sequenceKey ht.typeIs (by decide) ?_);refine ac (fq (name:=Str.ofString "__getitem__") ht.typeIs ft (ge ft ht.typeIs wg (?_) (args_tuple_getitem _ _)));show wpAny _ _ (Builtin.Tuple.tupleItemsOf (.ref t) >>= _) _ _ s;refine ac (tupleItemsOf_ ht (ac (mi hT (?_))));rw[if_pos (by decide)];refine ac (zKC hs (?_));show wpAny _ _ (if (((its.size:Int)-1) == 0 && (-1:Int) == 1 && its.size == its.size)=true then _ else _) _ _ s;rw[if_neg (by simp),zAE]
 first
  |exact ac (m:=Builtin.Tuple.tupleExact _) (dj (ah ⟨_,rfl,ah h⟩) hz)
  |exact ac (m:=Builtin.Tuple.tupleExact _) (dj (ac (ah (ah ⟨_,rfl,ah h⟩))) hz)
  |exact ac (ac (m:=Builtin.Tuple.tupleExact _) (dj (ah (ah ⟨_,rfl,ah h⟩)) hz))
  |exact ac (ac (m:=Builtin.Tuple.tupleExact _) (dj (ah ⟨_,rfl,ah h⟩) hz))
def zRV(K:Fg)(ta:TE):TE:=λσ H Q=>ta σ H λx H1=>(∃p xs,x=.ref p/\SqL K H1 p xs/\∀q,H1 q=none->Q (.ref q) (upd H1 q (.lst xs.reverse)))\/(∃p xs,x=.ref p/\SqT K H1 p xs/\∀q,H1 q=none->Q (.ref q) (upd H1 q (.tup xs.reverse)))
theorem zEY(he:PE X a ta):PE X (.Subscript a (.Slice none none (some (.UnaryOp .USub (.Constant (.int 1) j p3) pos)) p2) pn) (zRV X.K ta):=by
 intro pZ s σ H Q I h;refine rq (thn (he pZ s σ H _ I h) λv s1 ⟨x,H1,I1,r1,q1⟩=>?_);refine wpAny_Slice ?_;rw[sx];refine ah (ah ?_);rw[evalPart_some];have hst:PE X (.UnaryOp .USub (.Constant (.int 1) j p3) pos) (tUn (rU λi=>.int (-i)) (tC (.int 1))):=zNK zDH pH;refine thn (hst pZ s1 σ H1 (λw H'=>w=.int (-1)/\H'=H1) I1 ⟨1,rfl,rfl,rfl⟩) λu s2 ⟨y,H2,I2,r2,q2,eH⟩=>?_
 subst eH q2;obtain⟨t,rfl⟩:=r2;have I4:Inv X pZ σ H2 { s2 with heap:=s2.heap.push { cls:=.type "slice",data:=.fields #[.none,.none,.int (-1) t] } }:=I2.kept (t':=s2.toks) λb ob q=>al _ q
 have hsl:({ s2 with heap:=s2.heap.push { cls:=.type "slice",data:=.fields #[.none,.none,.int (-1) t] } }:Shared).heap.IsSliceOf s2.heap.objs.size .none .none (.int (-1) t):=Heap.IsSliceOf.new ..;rcases q1 with⟨p,xs,rfl,hx,q⟩|⟨p,xs,rfl,hx,q⟩
 ·cases r1;obtain⟨its,r,pl,hz⟩:=I4.list hx;have hlen:=r.length;refine tail_any (ops:=[.ref p,.ref s2.heap.objs.size]) pl.isList.typeIs qt.lookup (su pl.isList hsl .none .none (.int (-1) t) (by simp) ?_ (by simp only[am];omega)) (by with_unfolding_all rfl);rw[PySem.W.krv_pick];exact⟨.ref _,_,I4.lnew (t':=s2.toks) r.reverse (by rw[eh];exact hz),rfl,q _ I4.fresh⟩
 ·cases r1;obtain⟨its,r,pl,hz⟩:=I4.tuple hx;have hlen:=r.length;refine tail_any (ops:=[.ref p,.ref s2.heap.objs.size]) pl.typeIs ft.lookup (zEE pl hsl (by simp only[am];omega) ?_) (by with_unfolding_all rfl);refine⟨.ref _,_,I4.laid (t':=s2.toks) (o:=.tup xs.reverse) (λb ob q=>al _ q) (ae _) ?_,rfl,q _ (I4.hok.fresh (ae _))⟩;exact⟨by rw[eh];exact hz,_,r.reverse,ud _ _⟩
noncomputable def zIU:D->Option D
 |.lst l=>some (.lst l.reverse)
 |.tup l=>some (.tup l.reverse)
 |_=>none
theorem zMP(ha:DE X a f):DE X (.Subscript a (.Slice none none (some (.UnaryOp .USub (.Constant (.int 1) j p3) pos)) p2) pn) (mUn zIU f):=by
 refine PE.conseq (zEY ha) λσ H Q hq=>?_
 obtain⟨O0,r,d,hR,e,q⟩:=hq;obtain⟨x,e1,e2⟩:=bnS e;refine⟨O0,r,x,hR,e1,λv H1 s1 i1=>?_⟩;have R1:=hR.same s1;cases x<;>first|(simp only[zIU,reduceCtorEq] at e2;done)|skip
 ·simp only[zIU,gk] at e2;subst e2;rw[Is.tup_iff] at i1;obtain⟨p,xs,rfl,hs,il⟩:=i1;refine .inr ⟨p,xs,rfl,hs,λt ht=>q _ _ (s1.trans (zX ht)) ?_⟩;rw[Is.tup_iff];exact⟨t,_,rfl,SqT.of zJ,il.reverse.same (zX ht) R1.ol⟩
 ·simp only[zIU,gk] at e2;subst e2;rw[Is.lst_iff] at i1;obtain⟨p,xs,rfl,hs,il⟩:=i1;refine .inl ⟨p,xs,rfl,hs.sq,λt ht=>q _ _ (s1.trans (zX ht)) ?_⟩;rw[Is.lst_iff];exact⟨t,_,rfl,.inl ⟨R1.nofresh ht,.inl zJ⟩,il.reverse.same (zX ht) R1.ol⟩
noncomputable def YV:List D->Option (List (List Nat))
 |[]=>some []
 |.str s::r=>(YV r).map (s::·)
 |_=>none
noncomputable def Q3(sep:List Nat):List (List Nat)->List Nat
 |[]=>[]
 |[s]=>s
 |s::r=>s++sep++Q3 sep r
theorem rV{K:Fg}:∀{l:List D} {ss:List (List Nat)} {vs:List V},YV l=some ss->IsL K O H l vs->vs=ss.map λs=>V.str ⟨s.toArray⟩
 |[],ss,vs,e,il=>by cases e;unfold IsL at il;subst il;rfl
 |d::l,ss,vs,e,il=>by
  unfold IsL at il;obtain⟨v,r,rfl,i1,i2⟩:=il;cases d<;>first|(simp only[YV,reduceCtorEq] at e;done)|skip
  simp only[YV] at e;obtain⟨ms,e1,rfl⟩:=mpS e;rw[Is.str_iff] at i1;rw[i1,rV e1 i2];rfl
theorem c7:∀{ss:List (List Nat)} {us:List Value},Vals (ss.map λs=>V.str ⟨s.toArray⟩) us->StrsAre us (ss.map λs=>(⟨s.toArray⟩:Str))
 |[],us,r=>by rw[jw] at r;cases r;exact .nil
 |s::ss,us,r=>by
  rw[aq] at r;cases r with
  |cons r1 r2=>
   obtain⟨t,e⟩:=r1;subst e;exact .cons _ t (c7 r2)
theorem Q2(sep:List Nat):∀ss:List (List Nat),Str.join (⟨sep.toArray⟩:Str) (ss.map λs=>(⟨s.toArray⟩:Str))=⟨(Q3 sep ss).toArray⟩
 |[]=>rfl
 |[s]=>rfl
 |s::t::r=>by
  have ih:=Q2 sep (t::r);show(⟨s.toArray⟩:Str)++⟨sep.toArray⟩++Str.join _ ((t::r).map λs=>(⟨s.toArray⟩:Str))=_;rw[ih,rW,rW];rfl
def zO2(K:Fg):V->List V->Hp->VK->Prop:=λx vs H Q=>∃sep p ss,x=.str ⟨sep.toArray⟩/\vs=[.ref p]/\SqL K H p (ss.map λs=>V.str ⟨s.toArray⟩)/\(ss.map List.length).sum+ss.length*sep.length<=16777216/\Q (.str ⟨(Q3 sep ss).toArray⟩) H
theorem zFR:MtR X "str.join" (zO2 X.K):=by
 intro pZ s σ H x vs v us Q I rx rv hq;obtain⟨sep,p,ss,rfl,rfl,hs,hl,q⟩:=hq;obtain⟨t,rfl⟩:=rx;obtain⟨u,rfl,ru⟩:=Vals.one rv;cases ru;obtain⟨its,r,pl,hz⟩:=I.list hs;refine join_list pl.isList (ys:=ss.map λs=>(⟨s.toArray⟩:Str)) (by simpa using c7 r) ?_ λt' k=>⟨.str _,H,I.tok k,⟨t',rfl⟩,?_⟩
 ·have e:(ss.map λs=>(⟨s.toArray⟩:Str)).map (·.length)=ss.map List.length:=by rw[gm];exact qh λs _=>kG s
  rw[e,ak,kG];exact hl
 ·show Q (.str (Txt.join _ _)) H;unfold Txt.join;rw[glued_eq_join,Q2];exact q
def zI3(f:ME)(fl:ML):ME:=λr=>(f r).bind λd=>match d with
 |.str sep=>(fl r).bind λl=>(YV l).bind λss=>if (ss.map List.length).sum+ss.length*sep.length<=16777216 then some (.str (Q3 sep ss)) else none
 |_=>none
theorem zH2(ho:DE X a f)(ha:DB X b fl)(hbase:cb a "join" X.env (eval a X.env)=eval a X.env:=by rfl)(hline:(apos.endLine == cpos.line)=true:=by rfl)(hfew:((dq cpos (ag [b] X.env)).all (λx=>!x.1) && (jd cpos (fu [] X.env)).all (λx=>x.1.isSome) && decide ([b].length+([]:List Keyword).length+(if ([]:List Keyword).isEmpty then 0 else 1)<30))=true:=by rfl)(hs:ag [b] X.env=(false,eval b X.env)::ag [] X.env:=by rfl):DE X (.Call (.Attribute a "join" apos) [b] [] cpos) (zI3 f fl):=by
 refine PE.conseq (XB PySem.F.plainAttrs_str PySem.F.slot_str_join PySem.F.type_str_join zFR ho (zY ha yV hs) hbase hfew hline hs) λσ H Q hq=>?_
 obtain⟨O0,r,d,hR,e,q⟩:=hq;obtain⟨x,e1,e2⟩:=bnS e;refine⟨O0,r,x,hR,e1,λv H1 s1 i1=>?_⟩;cases x<;>first|(simp only[reduceCtorEq] at e2;done)|skip
 simp only at e2;obtain⟨l,e3,e4⟩:=bnS e2;obtain⟨ss,e5,e6⟩:=bnS e4;rw[Is.str_iff] at i1;subst i1;split at e6
 ·rename_i hl;cases e6;refine⟨rfl,O0,r,l,hR.same s1,e3,λp xs H2 s2 sq il=>?_⟩;have ex:=rV e5 il;subst ex;exact⟨_,p,ss,rfl,rfl,sq,hl,q _ H2 (s1.trans s2) (by rw[Is.str_iff])⟩
 ·cases e6
open PySem PySem.Spec PyProof.Rows L2 PySem.StrLaws PySem.Builtin.Str
def z2(F:V->V->Hp->Prop):List V->Hp->Prop
 |[x,y],H=>F x y H
 |_,_=>False
theorem zJK:∀{vs:List V} {H:Hp},z2 F vs H->∃x y,vs=[x,y]/\F x y H
 |[x,y],_,h=>⟨x,y,rfl,h⟩
 |[],_,h=>h.elim
 |[_],_,h=>h.elim
 |_::_::_::_,_,h=>h.elim
def z1(F:V->Hp->Prop):List V->Hp->Prop
 |[x],H=>F x H
 |_,_=>False
theorem zC3:∀{vs:List V} {H:Hp},z1 F vs H->∃x,vs=[x]/\F x H
 |[x],_,h=>⟨x,rfl,h⟩
 |[],_,h=>h.elim
 |_::_::_,_,h=>h.elim
noncomputable def zJJ(l m:List D):List D:=List.zipWith (λx y=>.tup [x,y]) l m
def frZ(i:Nat)(r:En):Option En:=match r[i]? with
 |some (.o l)=>some (r.set i (.z l))
 |_=>none
def unZ(i:Nat)(r:En):Option En:=match r[i]? with
 |some (.z l)=>some (r.set i (.o l))
 |_=>none
def unF(i:Nat):Fl->Option Fl
 |.nx r=>(unZ i r).map .nx
 |.bk r=>(unZ i r).map .bk
 |.ct r=>(unZ i r).map .ct
 |.rt d r=>(unZ i r).map (.rt d)
 |.rf _ _=>none
 |.rg _ _ _=>none
def sZ(i:Nat)(g:MS):MS:=λr=>(frZ i r).bind λr1=>(g r1).bind (unF i)
theorem R.swap{K:Fg}(h:R K O0 H r σ)(hy:(r[i]?=some (.o l)/\y=.z l)\/(r[i]?=some (.z l)/\y=.o l)):R K O0 H (r.set i y) σ/\∀b,w8 (r.set i y) σ b↔w8 r σ b:=by
 have eo:(r[i]?).bind Sl.own=some l:=by rcases hy with⟨e,_⟩|⟨e,_⟩<;>rw[e]<;>rfl
 have yo:y.own=some l:=by rcases hy with⟨_,e⟩|⟨_,e⟩<;>rw[e]<;>rfl
 have hi:i<r.length:=by
  rcases hy with⟨e,_⟩|⟨e,_⟩<;>exact(av.mp e).1
 have own:∀j,((r.set i y)[j]?).bind Sl.own=(r[j]?).bind Sl.own:=λj=>by
  by_cases hj:i=j
  ·subst hj;rw[zH hi,eo];exact yo
  ·rw[zE hj]
 have lss:∀j,((r.set i y)[j]?).bind Sl.ls=(r[j]?).bind Sl.ls:=λj=>by
  by_cases hj:i=j
  ·subst hj;rw[zH hi];rcases hy with⟨e,e2⟩|⟨e,e2⟩<;>rw[e,e2]<;>rfl
  ·rw[zE hj]
 have at_:∀b,w8 (r.set i y) σ b↔w8 r σ b:=λb=>⟨λ⟨j,m,e,q⟩=>⟨j,m,by rw[<-own j];exact e,q⟩,λ⟨j,m,e,q⟩=>⟨j,m,by rw[own j];exact e,q⟩⟩
 have ow:∀b,Ow O0 (r.set i y) σ b->H b≠none->Ow O0 r σ b:=λb z _=>z.imp id (at_ b).mp
 refine⟨⟨by simp[h.len],λj d ej=>?_,λj m ej=>?_,λj k b m n e4 e5=>?_,h.o0,λj m b ej q=>?_,λj m b ej q=>?_,λj f ks m ej=>?_⟩,at_⟩
 ·have hj:i≠j:=λz=>by subst z;rw[zH hi] at ej;cases ej;cases yo
  rw[zE hj] at ej;obtain⟨v,q1,q2⟩:=h.val j d ej;exact⟨v,q1,Is.mono (Same.kp (Same.refl H) _) h.ol ow _ _ q2⟩
 ·rw[lss j] at ej;obtain⟨b,ys,q1,q2,q3⟩:=h.own j m ej;exact⟨b,ys,q1,q2,IsL.mono (Same.kp (Same.refl H) _) h.ol ow _ _ q3⟩
 ·rw[own j] at e4;rw[own k] at e5;exact h.apart j k b m n e4 e5
 ·by_cases hj:i=j
  ·subst hj;rcases hy with⟨e,_⟩|⟨e,_⟩
   ·exact h.loc i l b (.inl e) q
   ·exact h.loc i l b (.inr (.inl e)) q
  ·rw[zE hj] at ej;exact h.loc j m b ej q
 ·by_cases hj:i=j
  ·subst hj;rw[zH hi] at ej;rcases hy with⟨_,e⟩|⟨_,e⟩<;>rw[e] at ej<;>cases ej
  ·rw[zE hj] at ej;exact h.par j m b ej q
 ·have hj:i≠j:=λz=>by
   subst z;rw[zH hi] at ej;rcases hy with⟨_,e⟩|⟨_,e⟩<;>rw[e] at ej<;>cases ej
  rw[zE hj] at ej;obtain⟨b,kvs,q1,q2,q4,q3⟩:=h.dct j f ks m ej;exact⟨b,kvs,q1,q2,q4,IsL.mono (Same.kp (Same.refl H) _) h.ol ow _ _ q3⟩
theorem ZR(e:frZ i r=some r1):∃l,r[i]?=some (.o l)/\r1=r.set i (.z l):=by
 unfold frZ at e;split at e
 ·rename_i l h;cases e;exact⟨l,h,rfl⟩
 ·cases e
theorem JX(e:unZ i r=some r1):∃l,r[i]?=some (.z l)/\r1=r.set i (.o l):=by
 unfold unZ at e;split at e
 ·rename_i l h;cases e;exact⟨l,h,rfl⟩
 ·cases e
theorem Kp.froze{K:Fg}(hR:R K O0 H r σ)(e:frZ i r=some r1)(k:Kp H r1 σ H' r2 σ2)(R2:R K O0 H' r2 σ2)(e':unZ i r2=some r3):R K O0 H' r3 σ2/\Kp H r σ H' r3 σ2:=by
 obtain⟨l,el,rfl⟩:=ZR e;obtain⟨l2,el2,rfl⟩:=JX e';have hi:i<r.length:=(av.mp el).1;have hi2:i<r2.length:=(av.mp el2).1;obtain⟨R1,at1⟩:=hR.swap (y:=.z l) (.inl ⟨el,rfl⟩);obtain⟨R3,at3⟩:=R2.swap (y:=.o l2) (.inr ⟨el2,rfl⟩);obtain⟨q1,q2⟩:=k.fz i l (zH hi);have m1:∀b,MutAt (r.set i (.z l)) σ b->MutAt r σ b:=λb ⟨j,m,ej,qj⟩=>by
  have hj:i≠j:=λz=>by subst z;rw[zH hi] at ej;cases ej
  rw[zE hj] at ej;exact⟨j,m,ej,qj⟩
 refine⟨R3,⟨λb o eb n=>k.keep b o eb λz=>n (m1 b z),k.live,k.lst,λb z=>(k.new b ((at3 b).mp z)).imp (at1 b).mp id,λb z=>?_,λj m ej=>?_,λj m ej=>?_⟩⟩
 ·obtain⟨j,m,ej,qj⟩:=z;by_cases hj:i=j
  ·subst hj;exact .inl ⟨i,l,by rw[el];rfl,by rw[<-q2];exact qj⟩
  ·rw[zE hj] at ej;exact(k.mnew b ⟨j,m,ej,qj⟩).imp (m1 b) id
 ·have hj:i≠j:=λz=>by subst z;rw[el] at ej;cases ej
  obtain⟨e1,e2⟩:=k.par j m (by rw[zE hj];exact ej);exact⟨by rw[zE hj];exact e1,e2⟩
 ·have hj:i≠j:=λz=>by subst z;rw[el] at ej;cases ej
  obtain⟨e1,e2⟩:=k.fz j m (by rw[zE hj];exact ej);exact⟨by rw[zE hj];exact e1,e2⟩
theorem zSF(i:Nat){st:Stmt}(h:DS X st g):DS X st (sZ i g):=by
 refine PS.conseq h λDn σ H hq=>?_
 obtain⟨O0,r,fl,hR,e,q⟩:=hq;obtain⟨r1,e1,e2⟩:=bnS e;obtain⟨f1,e3,e4⟩:=bnS e2;have R1:R X.K O0 H r1 σ:=by
  obtain⟨l,el,rfl⟩:=ZR e1;exact(hR.swap (y:=.z l) (.inl ⟨el,rfl⟩)).1
 refine⟨O0,r1,f1,R1,e3,?_⟩;cases f1 with
 |nx r2=>
  obtain⟨r3,e5,rfl⟩:=mpS e4;exact λσ' H' R' k'=>let ⟨R3,k3⟩:=Kp.froze hR e1 k' R' e5;q σ' H' R3 k3
 |bk r2=>
  obtain⟨r3,e5,rfl⟩:=mpS e4;exact λσ' H' R' k'=>let ⟨R3,k3⟩:=Kp.froze hR e1 k' R' e5;q σ' H' R3 k3
 |ct r2=>
  obtain⟨r3,e5,rfl⟩:=mpS e4;exact λσ' H' R' k'=>let ⟨R3,k3⟩:=Kp.froze hR e1 k' R' e5;q σ' H' R3 k3
 |rt d r2=>
  obtain⟨r3,e5,rfl⟩:=mpS e4;exact λv σ' H' R' k' iv=>let ⟨R3,k3⟩:=Kp.froze hR e1 k' R' e5;q v σ' H' R3 k3 iv
 |rf l r2=>cases e4
 |rg ks l r2=>cases e4
def lK(K:Fg)(f:ML):TE:=λσ H Q=>∃O0 r l,R K O0 H r σ/\f r=some l/\∀u xs H',Same H H'->(∀H1,oR (MutAt r σ) H' H1->SqL K H1 u xs)->IsL K (Ow O0 r σ) H' l xs->Q (.ref u) H'
def DK(X:Cx)(e:Expr)(f:ML):Prop:=PE X e (lK X.K f)
def mZs(i:Nat):ML:=λr=>match r[i]? with
 |some (.z l)=>some l
 |_=>none
theorem zSH(i:Nat)(h:PE X (.Name x pos) (vG i)):DK X (.Name x pos) (mZs i):=by
 refine PE.conseq h λσ H Q hq=>?_
 obtain⟨O0,r,l,hR,e,q⟩:=hq;have e':r[i]?=some (.z l):=by
  unfold mZs at e;split at e
  ·rename_i l' h;cases e;exact h
  ·cases e
 obtain⟨u,xs,e1,e2,e3⟩:=hR.own i l (by rw[e'];rfl);refine⟨.ref u,e1,q u xs H (Same.refl H) (λH1 k1=>SqL.of (k1 _ _ e2 λ⟨j,m,ej,qj⟩=>?_)) e3⟩;obtain⟨y,ey,ym⟩:=bnS ej
 have:=hR.apart i j u l m (by rw[e'];rfl) (by rw[ey];exact v7 ym) e1 qj
 subst this;rw[e'] at ey;cases ey;cases ym
theorem noF:j9 (λ_=>False) H:=λ_ z=>z.elim
theorem zNZ(hne:l≠it):∀(n i:Nat) (s:Shared) (Q:List Value->Shared->Prop),s.heap.IsListIter it l i->s.heap.IsList l ys->i+n<=ys.size ->
  (∀g,g.IsListIter it l (i+n)->Heap.SameBut it s.heap g->Q ((ys.toList.drop i).take n) { s with heap:=g })->wpAny (model prog w) A (draw (.ref it) n) Q E s
 |0,i,s,Q,h1,_,_,h=>by
  show wpAny _ _ (pure []) Q E s;exact ah (by simpa using h s.heap h1 (qz ..))
 |n+1,i,s,Q,h1,h2,h3,h=>by
  have hl:i<ys.size:=by omega
  show wpAny _ _ (pyNext (.ref it) >>= _) Q E s;refine ac (og h1 h2 (x:=ys[i]) (by simp[hl]) λg1 k1 t1=>?_);refine ac (ee (zNZ hne n (i+1) _ _ k1 (h2.extBut t1.extBut hne) (by omega) λg2 k2 t2=>ah (?_)));have hd:ys.toList.drop i=ys[i]::ys.toList.drop (i+1):=by simp[so,hl]
  have:=h g2 (by rw[show i+(n+1)=i+1+n by omega];exact k2) (t1.trans t2)
  rw[hd,List.take_succ_cons] at this;exact this
theorem zDG(hh:A.handled=none)(h2:s.heap.IsList l ys)(h:∀g,Heap.ExtBut s.heap.objs.size s.heap g->Q ys.toList { s with heap:=g }):wpAny (model prog w) A (unpackItems (.ref l) ys.size none) Q E s:=by
 have hlt:l≠s.heap.objs.size:=by obtain⟨o,e,_⟩:=h2;exact bq (au e)
 unfold unpackItems;refine ac (?_);unfold notIterableAtAll;refine ac (ii h2.typeIs F.slot_list_iter.lookup (ah (?_)));simp only[bx,if_false];refine ac (ee (qr h2 (?_)));refine ac (ee (zNZ hlt ys.size 0 _ _ ⟨_,bo _ rfl,rfl,rfl⟩ (h2.push _) (by omega) λg1 k1 t1=>?_));have ha:List.take ys.size (List.drop 0 ys.toList)=ys.toList:=by rw[si];exact kj (by simp)
 rw[ha,if_neg (by simp)];refine ac (ee (oz hh k1 ((h2.push _).extBut t1.extBut hlt) (by simp) λg2 t2=>?_));simp only[Option.isSome_none,bx,if_false];exact ah (h g2 λb o hb e=>t2 b o hb (t1.extBut b o hb (al _ e)))
theorem zKN(hc:X.calm=true)(h:PGs X es t)(hn:(io es X.env).length=n:=by rfl)(hst:(io es X.env).findIdx? (·.1)=none:=by rfl):PG X (.Tuple es k pos) (λv σ H Q=>∃a xs,v=.ref a/\(SqT X.K H a xs\/SqL X.K H a xs)/\xs.length=n/\t xs σ H Q):=by
 intro pZ s σ H v u Q I r hw;obtain⟨a,xs,e1,hq,hl,hw⟩:=hw;subst e1;cases r;rcases hq with hq|hq
 ·exact zKM hc h hn hst pZ s σ H (.ref a) (.ref a) Q I rfl ⟨a,xs,rfl,hq,hl,hw⟩
 ·obtain⟨its,rv,pl,hz⟩:=I.list hq;rw[assign_Tuple];refine ac (sr ?_);unfold unpack;rw[hst];have hsz:(io es X.env).length=its.toArray.size:=by rw[hn,am,<-rv.length];exact hl.symm
  rw[hsz];refine ac (ee (zDG (I.ok.hd hc) pl.isList λg hx=>?_));have I1:Inv X pZ σ H { s with heap:=g }:=I.kept (t':=s.toks) λb o e=>hx b o (bq (au e)) e
  exact h pZ _ σ H xs _ Q I1 (by simpa using rv) hw
def dX(n:Nat)(bs:List D->En->Option En):D->En->Option En:=λd r=>match d with
 |.tup l=>if l.length=n then bs l r else none
 |.lst l=>if l.length=n then bs l r else none
 |_=>none
theorem zB6(hc:X.calm=true)(h:DGs X es bs)(hn:(io es X.env).length=n:=by rfl)(hst:(io es X.env).findIdx? (·.1)=none:=by rfl):DG X (.Tuple es k pos) (dX n bs):=by
 refine PG.conseq (zKN hc h hn hst) λv σ H Q h=>?_
 obtain⟨O0,r,d,r',hR,iv,e,q⟩:=h;cases d<;>first|(simp only[dX,reduceCtorEq] at e;done)|skip
 ·rename_i l;rw[Is.tup_iff] at iv;obtain⟨a,xs,rfl,hs,il⟩:=iv;simp only[dX] at e;split at e
  ·rename_i hl;exact⟨a,xs,rfl,.inl hs,by rw[<-il.length];exact hl,O0,r,l,r',hR,il,e,q⟩
  ·cases e
 ·rename_i l;rw[Is.lst_iff] at iv;obtain⟨a,xs,rfl,hs,il⟩:=iv;simp only[dX] at e;split at e
  ·rename_i hl;exact⟨a,xs,rfl,.inr hs.sq,by rw[<-il.length];exact hl,O0,r,l,r',hR,il,e,q⟩
  ·cases e
set_option maxRecDepth 9000 in
theorem zSC(l:Addr)(xs:Array Value)(n:Nat)(b:Addr)(cl:Value)(dd:Option Addr)(ys:Array Value)(n2:Nat)(sl:Array (Option Value))(hcl:cl=.type "tuple")(h0:¬(!xs.isEmpty && Builtin.List.listTooLong (xs.size+ys.size))=true)(h1:xs.size<=af)(h2:xs.size+ys.size<=af+1):Meets (Builtin.«list.extend» ⟨[.ref l,.ref b],[]⟩) (λ_ R s=>s.heap.get? l=some { cls:=.type "list",dict:=none,data:=.seq xs n,slots:=#[] }/\s.heap.get? b=some { cls:=cl,dict:=dd,data:=.seq ys n2,slots:=sl }/\R (.ok (.ret Value.none)) { s with heap:=s.heap.update l (Obj.mapSeq λx=>x++ys),toks:=s.toks }):=
 .of_wp λprog w A R s h=>by
  subst hcl;obtain⟨hp,g,d,tk,os⟩:=s;obtain⟨hl,hb,h⟩:=h;have f1:=AutoSeq1.idx_int;have f2:=tt;have f3:=uy;have f4:=uf;have f5:=ug;have hz:(xs++ys).size<=af+1:=by rw[Array.size_append];exact h2
  wp_walk using (lr hl rfl (hz:=h1) (_hz':=hz)),wpAny_loadPart' hl,wpAny_loadPart' hb;exact⟨_,rfl,h⟩
set_option maxRecDepth 9000 in
theorem zSD(l:Addr)(xs:Array Value)(n:Nat)(b:Addr)(cl:Value)(dd:Option Addr)(ys:Array Value)(n2:Nat)(sl:Array (Option Value))(hcl:cl=.type "list")(h0:¬(!xs.isEmpty && Builtin.List.listTooLong (xs.size+ys.size))=true)(h1:xs.size<=af)(h2:xs.size+ys.size<=af+1):Meets (Builtin.«list.extend» ⟨[.ref l,.ref b],[]⟩) (λ_ R s=>s.heap.get? l=some { cls:=.type "list",dict:=none,data:=.seq xs n,slots:=#[] }/\s.heap.get? b=some { cls:=cl,dict:=dd,data:=.seq ys n2,slots:=sl }/\R (.ok (.ret Value.none)) { s with heap:=s.heap.update l (Obj.mapSeq λx=>x++ys),toks:=s.toks }):=
 .of_wp λprog w A R s h=>by
  subst hcl;obtain⟨hp,g,d,tk,os⟩:=s;obtain⟨hl,hb,h⟩:=h;have f1:=AutoSeq1.idx_int;have f2:=tt;have f3:=uy;have f4:=uf;have f5:=ug;have hz:(xs++ys).size<=af+1:=by rw[Array.size_append];exact h2
  wp_walk using (lr hl rfl (hz:=h1) (_hz':=hz)),wpAny_loadPart' hl,wpAny_loadPart' hb;exact⟨_,rfl,h⟩
def zO3(K:Fg):V->List V->Hp->VK->Prop:=λx vs H Q=>∃l b xs zs,x=.ref l/\vs=[.ref b]/\H l=some (.lst xs)/\(SqL K H b zs\/SqT K H b zs)/\xs.length+zs.length<=af/\Q .non (upd H l (.lst (xs++zs)))
theorem zFT:MtR X "list.extend" (zO3 X.K):=by
 intro pZ s σ H x vs v us Q I rx rv h;obtain⟨l,b,xs,zs,rfl,rfl,hH,hB,hz,q⟩:=h;cases rx;obtain⟨u,rfl,ru⟩:=rv.one;cases ru;obtain⟨z,its,n,r,hl,e⟩:=I.lstM hH;have fin:∀(its2:List Value),Vals zs its2->¬(!its.toArray.isEmpty && Builtin.List.listTooLong (its.toArray.size+its2.toArray.size))=true/\its.toArray.size<=af/\its.toArray.size+its2.toArray.size<=af+1 /\
   EP X pZ σ Q Value.none { s with heap:=s.heap.update l (Obj.mapSeq λx=>x++its2.toArray),toks:=s.toks }:=λits2 r2=>by
  have hl2:=r2.length;have hsz:its.toArray.size+its2.toArray.size<=af:=by rw[am,am];omega
  refine⟨by rw[zA7 hsz,Bool.and_false];exact ax,by rw[am];omega,by omega,.non,_,I.lset (its':=its++its2) hH e (by simp) (r.append r2) ?_,rfl,q⟩;rw[bb];omega
 rcases hB with hB|hB
 ·obtain⟨its2,r2,⟨⟨c2,d2,dt2,sl2⟩,n2,g2,hc,hd,hs⟩,z2⟩:=I.list hB;simp only at hc hd hs;subst hs;obtain⟨f1,f2,f3,f4⟩:=fin its2 r2;exact oi F.slot_list_extend ⟨_,e,rfl⟩ wq (we _ _) (zSD l its.toArray n b _ _ its2.toArray n2 _ hc f1 f2 f3) ⟨e,g2,f4⟩
 ·obtain⟨its2,r2,⟨⟨c2,d2,dt2,sl2⟩,g2,hc,n2,hs⟩,z2⟩:=I.tuple hB;simp only at hc hs;subst hs;obtain⟨f1,f2,f3,f4⟩:=fin its2 r2;exact oi F.slot_list_extend ⟨_,e,rfl⟩ wq (we _ _) (zSC l its.toArray n b _ _ its2.toArray n2 _ hc f1 f2 f3) ⟨e,g2,f4⟩
theorem WA(i:Nat)(h:PE X (.Name x pn) (vG i))(he:DE X e f)(hline:(apos.endLine == cpos.line)=true:=by rfl)(hbase:cb (.Name x pn) "extend" X.env (eval (.Name x pn) X.env)=eval (.Name x pn) X.env:=by rfl)(hfew:((dq cpos (ag [e] X.env)).all (λx=>!x.1) && (jd cpos (fu [] X.env)).all (λx=>x.1.isSome) && decide ([e].length+([]:List Keyword).length+(if ([]:List Keyword).isEmpty then 0 else 1)<30))=true:=by rfl)(hs:ag [e] X.env=(false,eval e X.env)::ag [] X.env:=by rfl):DX X (.Call (.Attribute (.Name x pn) "extend" apos) [e] [] cpos) (zLS i f):=by
 refine PE.conseq (XB di PySem.F.slot_list_extend PySem.F.type_list_extend zFT h (zY he yV hs) hbase hfew hline hs) λσ H Q hq=>?_
 obtain⟨O0,r,d',r',hR,e,q⟩:=hq;obtain⟨d,e1,e⟩:=bnS e;obtain⟨m,em,e⟩:=bnS e;obtain⟨l,e2,e⟩:=bnS e;split at e
 ·rename_i hl;obtain⟨r2,e3,e4⟩:=mpS e;cases e4;obtain⟨a,xs,q1,q2,q3⟩:=XT hR e2;refine⟨.ref a,q1,.inl ⟨rfl,xs,SqL.of q2⟩,O0,r,d,hR,e1,λv H1 s1 i1=>?_⟩;have R1:=hR.same s1;have key:∃b zs,v=.ref b/\(SqL X.K H1 b zs\/SqT X.K H1 b zs)/\IsL X.K (Ow O0 r σ) H1 m zs:=by
   cases d<;>first|(cases em;done)|skip
   ·cases em;rw[Is.tup_iff] at i1;obtain⟨b,zs,rfl,h1,h2⟩:=i1;exact⟨b,zs,rfl,.inr h1,h2⟩
   ·cases em;rw[Is.lst_iff] at i1;obtain⟨b,zs,rfl,h1,h2⟩:=i1;exact⟨b,zs,rfl,.inl h1.sq,h2⟩
  obtain⟨b,zs,rfl,hb,il⟩:=key;obtain⟨R2,k2⟩:=R1.upd (xs':=xs++zs) e3 q1 (s1 _ _ q2) ((q3.same s1 hR.ol).append il);exact⟨a,b,xs,zs,rfl,rfl,s1 _ _ q2,hb,by rw[<-q3.length,<-il.length];exact hl,q _ _ R2 ((Kp.of_same r σ s1).trans k2) (by rw[Is.non_iff])⟩
 ·cases e
def zG3:List V->List V->Bool
 |[],[]=>true
 |x::xs,y::ys=>eqV x y && zG3 xs ys
 |_,_=>false
def zL7:List D->List D->Bool
 |[],[]=>true
 |x::xs,y::ys=>eqF x y && zL7 xs ys
 |_,_=>false
def zG6(xs ys:List V)(j:Nat):Bool:=match xs[j]?,ys[j]? with
 |some x,some y=>eqV x y
 |_,_=>false
theorem b8:∀(xs ys:List V),xs.length=ys.length->(List.range xs.length).all (zG6 xs ys)=zG3 xs ys
 |[],[],_=>rfl
 |x::xs,y::ys,h=>by
  rw[ao,List.range_succ_eq_map,ji,List.all_map,zG3,<-b8 xs ys (by simpa using h)];rfl
 |[],y::ys,h=>by simp at h
 |x::xs,[],h=>by simp at h
theorem mE:∀(xs ys:List V),xs.length≠ys.length->zG3 xs ys=false
 |[],[],h=>by simp at h
 |x::xs,y::ys,h=>by rw[zG3,mE xs ys (by simpa using h),Bool.and_false]
 |[],y::ys,h=>rfl
 |x::xs,[],h=>rfl
theorem hZ{K:Fg}:∀{l:List D} {xs:List V},IsL K O H l xs->l.all jG=true->xs.all kY=true
 |[],xs,h,_=>by unfold IsL at h;subst h;rfl
 |d::l,xs,h,f=>by
  rw[ji,cw] at f;unfold IsL at h;obtain⟨v,r,rfl,h1,h2⟩:=h;rw[ji,n9 h1 f.1,hZ h2 f.2];rfl
theorem JA{K:Fg}:∀{l m:List D} {xs ys:List V},IsL K O H l xs->IsL K O H m ys->l.all jG=true->m.all jG=true->zG3 xs ys=zL7 l m
 |[],m,xs,ys,h,h',_,_=>by
  unfold IsL at h;subst h;cases m with
  |nil=>unfold IsL at h';subst h';rfl
  |cons e m=>unfold IsL at h';obtain⟨v,r,rfl,_,_⟩:=h';rfl
 |d::l,m,xs,ys,h,h',f,f'=>by
  unfold IsL at h;obtain⟨v,r,rfl,h1,h2⟩:=h;cases m with
  |nil=>unfold IsL at h';subst h';rfl
  |cons e m=>
   rw[ji,cw] at f f';unfold IsL at h';obtain⟨v',r',rfl,h1',h2'⟩:=h';rw[zG3,zL7,JA h2 h2' f.2 f'.2,zG4 h1 f.1 h1' f'.1]
theorem Q9{K:Fg}:∀{l m:List D} {xs ys:List V},IsL K O H l xs->IsL K O H m ys->l.all jG=true->m.all jG=true->xs.all kY=true/\ys.all kY=true/\zG3 xs ys=zL7 l m:=λh h' f f'=>⟨hZ h f,hZ h' f',JA h h' f f'⟩
def zO4(K:Fg)(neg:Bool):R2:=λx y H Q=>∃p q xs ys,x=.ref p/\y=.ref q/\SqL K H p xs/\SqL K H q ys/\xs.all kY=true/\ys.all kY=true/\Q (.bl (if neg then !zG3 xs ys else zG3 xs ys)) H
theorem JN{xs:List V}{j:Nat}{x:V}(h:xs.all kY=true)(e:xs[j]?=some x):kY x=true:=rh.mp h x (lq e)
theorem W9(r:Vals xs its)(h:j<its.toArray.size):∃x,xs[j]?=some x/\RelV x its.toArray[j]:=by
 have hj:j<xs.length:=by rw[r.length];simpa using h
 obtain⟨u,e,q⟩:=r.get (i:=j) (x:=xs[j]) (by simp[hj]);refine⟨xs[j],by simp[hj],?_⟩
 have:its.toArray[j]=u:=by
  have h':j<its.length:=by simpa using h
  simp only[List.getElem_toArray];rw[bt h'] at e;exact bw e
 rw[this];exact q
theorem ZK{A:Around}{s:Shared}{xs ys:List V}{its its2:List Value}(r:Vals xs its)(r2:Vals ys its2)(fx:xs.all kY=true)(fy:ys.all kY=true):∀j (h1:j<its.toArray.size) (h2:j<its2.toArray.size),SeqAt.EqAt A s its.toArray[j] its2.toArray[j] (zG6 xs ys j):=by
 intro j h1 h2;obtain⟨x,e1,q1⟩:=W9 r h1;obtain⟨y,e2,q2⟩:=W9 r2 h2
 have:zG6 xs ys j=eqV x y:=by unfold zG6;rw[e1,e2]
 rw[this];exact zG5 q1 q2 (JN fx e1) (JN fy e2)
theorem zK4(hu:X.A.units<cLine):OpR X (cz .Eq) (zO4 X.K false):=by
 intro pZ s σ H x y v u Q I rx ry h;obtain⟨p,q',xs,ys,rfl,rfl,h1,h2,fx,fy,q⟩:=h;cases rx;cases ry;obtain⟨its,r,pl,hz⟩:=I.list h1;obtain⟨its2,r2,pl2,hz2⟩:=I.list h2;have n1:=r.length;have n2:=r2.length;by_cases hl:xs.length=ys.length
 ·refine SeqAt.eq_listAt pl.isList pl2.isList (by simp only[am];omega) hu (ZK r r2 fx fy) (yK I q ?_);rw[am,<-n1,b8 xs ys hl];rfl
 ·refine SeqAt.eq_list_lengthsAt pl.isList pl2.isList (by simp only[am,bne_iff_ne];omega) hu (yK I q ?_);rw[mE xs ys hl];rfl
theorem zKW(hu:X.A.units<cLine):OpR X (cz .NotEq) (zO4 X.K true):=by
 intro pZ s σ H x y v u Q I rx ry h;obtain⟨p,q',xs,ys,rfl,rfl,h1,h2,fx,fy,q⟩:=h;cases rx;cases ry;obtain⟨its,r,pl,hz⟩:=I.list h1;obtain⟨its2,r2,pl2,hz2⟩:=I.list h2;have n1:=r.length;have n2:=r2.length;by_cases hl:xs.length=ys.length
 ·refine SeqAt.RcNeAt.lists pl.isList pl2.isList (by simp only[am];omega) hu (ZK r r2 fx fy) _ _ _ _ (yK I q ?_);rw[am,<-n1,b8 xs ys hl];rfl
 ·refine SeqAt.RcNeAt.lists_lengths pl.isList pl2.isList (by simp only[am,bne_iff_ne];omega) hu _ _ _ _ (yK I q ?_);rw[mE xs ys hl];rfl
def eqA(x y:D):Option D:=match x,y with
 |.lst l,.lst m=>if l.all jG=true/\m.all jG=true then some (.bl (zL7 l m)) else none
 |x,y=>eqD x y
def neA(x y:D):Option D:=match x,y with
 |.lst l,.lst m=>if l.all jG=true/\m.all jG=true then some (.bl (!zL7 l m)) else none
 |x,y=>neD x y
def zRA(K:Fg):R2:=λx y H Q=>zO4 K false x y H Q\/rEq x y H Q
def zQ3(K:Fg):R2:=λx y H Q=>zO4 K true x y H Q\/rNe x y H Q
theorem zK5(hu:X.A.units<cLine):OpR X (cz .Eq) (zRA X.K):=(zK4 hu).or zPB
theorem zKX(hu:X.A.units<cLine):OpR X (cz .NotEq) (zQ3 X.K):=(zKW hu).or zO9
theorem zLI{K:Fg}:OpD K (zRA K) eqA:=by
 intro O H dx dy d vx vy Q ol ix iy e q;unfold eqA at e;split at e
 ·rename_i l m;split at e
  ·rename_i hf;cases e;rw[Is.lst_iff] at ix iy;obtain⟨a,xs,rfl,hs,il⟩:=ix;obtain⟨b,ys,rfl,hs',il'⟩:=iy;obtain⟨f1,f2,f3⟩:=Q9 il il' hf.1 hf.2;exact .inl ⟨a,b,xs,ys,rfl,rfl,hs.sq,hs'.sq,f1,f2,q _ H (Same.refl H) (by rw[Is.bl_iff,f3];rfl)⟩
  ·cases e
 ·exact .inr (zPG O H dx dy d vx vy Q ol ix iy e q)
theorem zLD{K:Fg}:OpD K (zQ3 K) neA:=by
 intro O H dx dy d vx vy Q ol ix iy e q;unfold neA at e;split at e
 ·rename_i l m;split at e
  ·rename_i hf;cases e;rw[Is.lst_iff] at ix iy;obtain⟨a,xs,rfl,hs,il⟩:=ix;obtain⟨b,ys,rfl,hs',il'⟩:=iy;obtain⟨f1,f2,f3⟩:=Q9 il il' hf.1 hf.2;exact .inl ⟨a,b,xs,ys,rfl,rfl,hs.sq,hs'.sq,f1,f2,q _ H (Same.refl H) (by rw[Is.bl_iff,f3];rfl)⟩
  ·cases e
 ·exact .inr (zPD O H dx dy d vx vy Q ol ix iy e q)
theorem QQ(e:zAG i l' r=some r')(h:w8 r' σ b):w8 r σ b:=by
 obtain⟨x,y,ex,rfl,yo,ym,⟨l0,xm⟩,_⟩:=b9 e;obtain⟨j,m,ej,qj⟩:=h;by_cases hj:j=i
 ·subst hj;exact⟨j,l0,by rw[ex];exact v7 xm,qj⟩
 ·rw[zE (λz=>hj z.symm)] at ej;exact⟨j,m,ej,qj⟩
theorem QE{c k}:ag (.Constant c k p::es) env=(false,eval (.Constant c k p) env)::ag es env:=rfl
theorem zJW{x}:ag (.Name x p::es) env=(false,eval (.Name x p) env)::ag es env:=rfl
theorem zD1{l k}:ag (.Tuple l k p::es) env=(false,eval (.Tuple l k p) env)::ag es env:=rfl
theorem zJX{f l k}:ag (.Call f l k p::es) env=(false,eval (.Call f l k p) env)::ag es env:=rfl
theorem zOU{a b}:ag (.Subscript a b p::es) env=(false,eval (.Subscript a b p) env)::ag es env:=rfl
theorem zOV{a o b}:ag (.BinOp a o b p::es) env=(false,eval (.BinOp a o b p) env)::ag es env:=rfl
noncomputable def zN8:List Expr->Option (List (List Nat))
 |[]=>some []
 |.Constant (.str x) _ _::es=>(zN8 es).map (x.cps.toList::·)
 |_=>none
def zLR(ss:List (List Nat)):ML:=λ_=>some (ss.map D.str)
theorem ZY:∀{es:List Expr} {ss:List (List Nat)},zN8 es=some ss->DA X es (zLR ss)
 |[],ss,h=>by
  cases h;exact oE
 |e::es,ss,h=>by
  cases e<;>first|(simp only[zN8,reduceCtorEq] at h;done)|skip
  rename_i c j p;cases c<;>first|(simp only[zN8,reduceCtorEq] at h;done)|skip
  rename_i x;simp only[zN8] at h;obtain⟨ss',e1,rfl⟩:=mpS h;exact wD (f:=mC (.str x.cps.toList)) (fs:=zLR ss') (WK rfl) (ZY e1) (hs:=QE)
section
variable{X:Cx}{pos:Pos}{a b tg:Expr}{f g:ME}
theorem JF{x:Str}{i:Int}(h:∃t,X.mg x=some (.int i t))(hg:Gl X x)(hd:(x == ("__debug__" : Str))=false:=by decide):DE X (.Name x pos) (mC (.int i)):=by
 obtain⟨t,h⟩:=h;exact oC (QO (v:=.int i) hg h ⟨t,rfl⟩ hd) λO H=>by rw[Is.int_iff]
theorem ZL{K:Fg}{O:Addr->Prop}{H:Hp}:∀ss:List (List Nat),IsL K O H (ss.map D.str) (ss.map λs=>V.str ⟨s.toArray⟩)
 |[]=>IsL.nil
 |s::ss=>.cons (by rw[Is.str_iff]) (ZL ss)
theorem zBU{Ps:Params}{x:Str}{tbl:List (List Nat×List Nat)}{pZ:List (Addr×Obj)}{σ:St}{H:Hp}{s:Shared}{p:Addr}{es:Array DictEntry}{n:Nat}(I:Inv X pZ σ H s)(hl:X.K.lookup p=some ⟨.type "dict",none,.dict es n,#[]⟩)(hk:PySem.W.KeysLit X.w.params es.toList):s.heap.MapOf (strKind X.prog X.w) p (λk=>findBy Value.isStrOf es k):=PySem.W.mapOf_K (I.mod.kin.keeps I.bk) hl hk
theorem dU(es:Array DictEntry)(k:Str):findBy Value.isStrOf es k=(es.toList.find? λd=>Value.isStrOf k d.key).map (·.val):=by
 obtain⟨l⟩:=es;unfold findBy;rw[List.find?_toArray]
theorem JE{x:Str}{p:Addr}(h:X.mg x=some (.ref p))(hg:Gl X x)(hd:(x == ("__debug__" : Str))=false:=by decide):DE X (.Name x pos) (mC (.ref p)):=
 oC (QO (v:=.ref p) hg h rfl hd) λO H=>by rw[Is.ref_iff]
end
open Builtin.Str
noncomputable def zI4:D->Option D
 |.bl b=>some (.int (if b then 1 else 0))
 |_=>none
theorem WW:CallR X (.type "int") (λxs H Q=>∃b:Bool,xs=[.bl b]/\Q (.int (if b then 1 else 0)) H):=by
 intro pZ s σ H xs us Q I r hq;obtain⟨y,rfl,q⟩:=hq;obtain⟨u,rfl,ru⟩:=Vals.one r;obtain rfl:u=.bool y:=ru;exact call_int_bool ⟨.int _,H,I.tok _,⟨_,rfl⟩,q⟩
theorem zH3(hg:Gl X "int")(hm:X.mg "int" = none)(ha:DE X a f)(hs:ag [a] X.env=(false,eval a X.env)::ag [] X.env:=by rfl):DE X (.Call (.Name "int" p') [a] [] pos) (mUn zI4 f):=by
 refine PE.conseq (kO WW hg hm PyProof.Rows.boot_int (zY ha yV hs) (he:=hs)) λσ H Q hq=>?_
 obtain⟨O0,r,d,hR,e,q⟩:=hq;obtain⟨x,e1,e2⟩:=bnS e;refine⟨O0,r,x,hR,e1,λv H1 s1 i1=>?_⟩;cases x<;>first|(simp only[zI4,reduceCtorEq] at e2;done)|skip
 cases e2;rw[Is.bl_iff] at i1;exact⟨_,by rw[i1],q _ H1 s1 (by rw[Is.int_iff])⟩
theorem QS{K:Fg}{Dn:Ends}(h:lS K (xH i (xR fl)) Dn σ H):lF K fl σ H (λv H1=>X7 i v σ H1 Dn.nx):=by
 obtain⟨O0,r,fl',hR,e,q⟩:=h;obtain⟨d,e1,e2⟩:=bnS e;obtain⟨r',e3,rfl⟩:=mpS e2;obtain⟨l,e4,rfl⟩:=mpS e1;obtain⟨hl,np,rfl⟩:=jD e3;refine⟨O0,r,l,hR,e4,λp xs H1 s1 n1 e5 i1=>?_⟩;have ol:j9 (λb=>Ow O0 r σ b\/b=p) H1:=λb z=>z.elim (λz=>(hR.same s1).ol b z) λz=>by subst z;exact⟨.lst xs,e5,trivial⟩
 have iv:Is K (Ow O0 r σ) H1 (.lst l) (.ref p):=by
  rw[Is.lst_iff];exact⟨p,xs,rfl,.inl ⟨hR.nofresh n1,.inl e5⟩,IsL.mono (Same.kp (Same.refl H1) _) ol (λa z _=>.inl z) l xs i1⟩
 obtain⟨R1,k1⟩:=(hR.same s1).setv hl np iv;exact q _ H1 R1 ((Kp.of_same r σ s1).trans k1)
theorem zHL(i:Nat)(hc:X.calm=true)(o:CmpOk X N' cap scope)(hi:DI X tg iter it)(hg:∀C fp s H,DG (cxC X N' scope C fp s H) tg bd)(he:∀C fp s H,DE (cxC X N' scope C fp s H) elt x)(n:Nat)(hN:X.N.Nodup)(hn:N'.length=n:=by rfl)(hy:X.N[i]?=some y:=by rfl)(hx:Loc X.env.scope y:=by first|exact Or.inl rfl|exact Or.inr rfl)(hf:X.fn y=true\/X.env.scope.names.lookup y=some .local:=by first|exact .inl rfl|exact .inr rfl)(hsw:gx (.ListComp elt [⟨tg,iter,[],0⟩] scope pos) (some (.Name y py)) spos.line X.env=pure true:=by rfl)(hs:∀x,fg iter X.env x=pure x:=by intro _;rfl):DS X (.Assign [.Name y py] (.ListComp elt [⟨tg,iter,[],0⟩] scope pos) spos) (xH i (xR (xS cap n it bd x))):=by
 subst hn;exact PS.conseq (tO (i:=i) (g:=lG X.K bd) (te:=lE X.K x) (tc:=none) hc o hi hg rfl he hN hy hx hf hsw hs) λDn σ H h=>uG (tc:=none) (λ{σ H K1 K0 te} z=>by
  obtain⟨O0,r,b,hR,e,q⟩:=z;unfold uX at e;cases e;have z1:(if true=true then te σ H K1 else K0 H):=q H (Same.refl H);rw[if_pos rfl] at z1;exact z1) N'.length (QS h)
theorem WD(i:Nat)(hc:X.calm=true)(o:CmpOk X N' cap scope)(hi:DI X tg iter it)(hg:∀C fp s H,DG (cxC X N' scope C fp s H) tg bd)(ht:∀C fp s H,DT (cxC X N' scope C fp s H) ce c)(he:∀C fp s H,DE (cxC X N' scope C fp s H) elt x)(n:Nat)(hN:X.N.Nodup)(hn:N'.length=n:=by rfl)(hy:X.N[i]?=some y:=by rfl)(hx:Loc X.env.scope y:=by first|exact Or.inl rfl|exact Or.inr rfl)(hf:X.fn y=true\/X.env.scope.names.lookup y=some .local:=by first|exact .inl rfl|exact .inr rfl)(hsw:gx (.ListComp elt [⟨tg,iter,[ce],0⟩] scope pos) (some (.Name y py)) spos.line X.env=pure true:=by rfl)(hs:∀x,fg iter X.env x=pure x:=by intro _;rfl):DS X (.Assign [.Name y py] (.ListComp elt [⟨tg,iter,[ce],0⟩] scope pos) spos) (xH i (xR (xI cap n it bd c x))):=by
 subst hn;exact PS.conseq (tO (i:=i) (g:=lG X.K bd) (te:=lE X.K x) (tc:=some (lT X.K c)) hc o hi hg ⟨ce,rfl,ht⟩ he hN hy hx hf hsw hs) λDn σ H h=>uG (tc:=some (lT X.K c)) (λz=>z) N'.length (QS h)
end DD
namespace TS
open PySem PyProof.Rows
open PySem PyProof.Rows PySem.W
end TS
namespace DD
open PySem PySem.Spec PyProof.Rows L2
noncomputable def ltA:D->D->Option D
 |.int i,.int j=>some (.bl (decide (i<j)))
 |.str s,.str t=>some (.bl (decide (s<t)))
 |_,_=>none
theorem zK0:OpR X (cz .Lt) (λx y H Q=>∃i j,x=.str i/\y=.str j/\Q (.bl (decide (i.cps.toList<j.cps.toList))) H):=by
 intro pZ s σ H x y v u Q I rx ry hq;obtain⟨i,j,rfl,rfl,q⟩:=hq;obtain⟨t,rfl⟩:=rx;obtain⟨t',rfl⟩:=ry;exact PySem.P.lt_str ⟨.bl _,H,I,rfl,q⟩
def zQ4:R2:=λx y H Q=>rI0 (λi j=>.bl (decide (i<j))) x y H Q\/∃i j,x=.str i/\y=.str j/\Q (.bl (decide (i.cps.toList<j.cps.toList))) H
theorem zK1:OpR X (cz .Lt) zQ4:=op_lt.or zK0
theorem zLG{K:Fg}:OpD K zQ4 ltA:=by
 intro O H dx dy d vx vy Q ol ix iy e q;cases dx<;>cases dy<;>first|(simp only[ltA,reduceCtorEq] at e;done)|skip
 ·simp only[ltA,gk] at e;subst e;rw[Is.int_iff] at ix iy;exact .inl ⟨_,_,ix,iy,q _ H (Same.refl H) (by rw[Is.bl_iff])⟩
 ·simp only[ltA,gk] at e;subst e;rw[Is.str_iff] at ix iy;exact .inr ⟨_,_,ix,iy,q _ H (Same.refl H) (by rw[Is.bl_iff])⟩
mutual
noncomputable def toP:D->PyData
 |.non=>.none
 |.bl b=>.bool b
 |.int i=>.int i
 |.str s=>.str ⟨s.toArray⟩
 |.tup l=>.tuple (pB l)
 |.lst l=>.list (pB l)
 |.ty _=>.none
 |.ref _=>.none
 |.dct _ _=>.none
noncomputable def pB:List D->List PyData
 |[]=>[]
 |d::l=>toP d::pB l
end
mutual
noncomputable def okD:D->Bool
 |.tup l=>zFF l
 |.lst l=>zFF l
 |.ty _=>false
 |.ref _=>false
 |.dct _ _=>false
 |_=>true
noncomputable def zFF:List D->Bool
 |[]=>true
 |d::l=>okD d && zFF l
end
mutual
theorem gZ(I:Inv X pZ σ H s):∀(d:D) (v:V) (u:Value),okD d=true->Is X.K O H d v->RelV v u->∃as,Reads s.heap u (toP d) as
 |.non,v,u,_,h,r=>by rw[Is.non_iff] at h;subst h;cases r;exact⟨_,.none⟩
 |.bl b,v,u,_,h,r=>by rw[Is.bl_iff] at h;subst h;cases r;exact⟨_,.bool b⟩
 |.int i,v,u,_,h,r=>by rw[Is.int_iff] at h;subst h;obtain⟨t,rfl⟩:=r;exact⟨_,.int i t⟩
 |.str x,v,u,_,h,r=>by rw[Is.str_iff] at h;subst h;obtain⟨t,rfl⟩:=r;exact⟨_,.str _ t⟩
 |.ty n,v,u,o,_,_=>by simp[okD] at o
 |.ref a,v,u,o,_,_=>by simp[okD] at o
 |.dct ks l,v,u,o,_,_=>by simp[okD] at o
 |.tup l,v,u,o,h,r=>by
  rw[Is.tup_iff] at h;obtain⟨a,xs,rfl,sq,il⟩:=h;cases r;obtain⟨its,rv,⟨ob,e,c,n,dt⟩,_⟩:=I.tuple sq;obtain⟨as,q⟩:=vW I l xs its (by simpa [okD] using o) il rv;exact⟨_,.tuple e c dt (by simpa using q)⟩
 |.lst l,v,u,o,h,r=>by
  rw[Is.lst_iff] at h;obtain⟨a,xs,rfl,sq,il⟩:=h;cases r;obtain⟨its,rv,⟨ob,n,e,c,_,dt⟩,_⟩:=I.list sq.sq;obtain⟨as,q⟩:=vW I l xs its (by simpa [okD] using o) il rv;exact⟨_,.list e c dt (by simpa using q)⟩
theorem vW(I:Inv X pZ σ H s):∀(l:List D) (vs:List V) (us:List Value),zFF l=true->IsL X.K O H l vs->Vals vs us->∃as,ReadsAll s.heap us (pB l) as
 |[],vs,us,_,h,r=>by unfold IsL at h;subst h;cases r;exact⟨_,.nil⟩
 |d::l,vs,us,o,h,r=>by
  unfold IsL at h;obtain⟨v,vr,rfl,h1,h2⟩:=h;simp only[zFF,cw] at o;cases r with
  |cons r1 r2=>
   obtain⟨as,q1⟩:=gZ I d v _ o.1 h1 r1;obtain⟨bs,q2⟩:=vW I l vr _ o.2 h2 r2;exact⟨_,.cons q1 q2⟩
end
theorem un2(r:Room k A):A.units+200<cLine:=by have:=r.un;omega
def fre:Sl->Prop
 |.un=>True
 |.v _=>True
 |_=>False
theorem zW(e:r[i]?=some x)(h:fre x):yN i d r=some (r.set i (.v d)):=by
 unfold yN;rw[e];cases x<;>first|rfl|cases h
theorem zEO(e:r[i]?=some (.o (S++[d]))):oV i r=some (d,r.set i (.o S)):=by
 simp[oV,zFU,e,Sl.ml,zAG]
theorem WY(e:r[i]?=some (.o S))(e2:f r=some d)(h:S.length<af):zCN i f r=some (.non,r.set i (.o (S++[d]))):=by
 simp[zCN,zFU,e,Sl.ml,zAG,e2,h]
theorem yT(e:g r=some (.nx r')):zZ g h r=h r':=by
 unfold zZ;rw[e];rfl
theorem zJ6(e:g r=some (.rt d r')):zZ g h r=some (.rt d r'):=by
 unfold zZ;rw[e];rfl
theorem mV(e:f r=some (d,r')):sX f r=some (.nx r'):=by
 unfold sX;rw[e];rfl
theorem kZ(e:f r=some d)(e2:yN i d r=some r2):xH i f r=some (.nx r2):=by
 unfold xH;rw[e];show(yN i d r).map Fl.nx=_;rw[e2];rfl
theorem zCI(e:c r=some true):sIf c g h r=g r:=by
 unfold sIf;rw[e];rfl
theorem oS(e:c r=some false):sIf c g h r=h r:=by
 unfold sIf;rw[e];rfl
theorem bV(h:c r=some true)(e:g r=some (.nx r')):qB (n+1) c g r=qB n c g r':=by
 show(c r).bind _=_;rw[h,aa,if_pos rfl,e,aa]
theorem vQ(h:c r=some false):qB (n+1) c g r=some (.nx r):=by
 show(c r).bind _=_;rw[h,aa,if_neg (by simp)]
theorem bC(h:bd d r=some r1)(e:g r1=some (.nx r')):nY bd g (d::l) r=nY bd g l r':=by
 show(bd d r).bind _=_;rw[h,aa,e,aa]
theorem zP(e1:f r=some x)(e2:g r=some y)(e:m x y=some d):zD m f g r=some d:=by
 unfold zD;rw[e1,aa,e2];exact e
theorem jV(e1:f r=some x)(e:m x=some d):mUn m f r=some d:=by
 unfold mUn;rw[e1];exact e
theorem xK(e1:f r=some (.int i))(e2:g r=some (.int j)):zD xB f g r=some (.int (i+j)):=zP e1 e2 rfl
theorem yM(e1:f r=some (.int i))(e2:g r=some (.int j))(h:0<j):zD xL f g r=some (.int (i % j)):=zP e1 e2 (if_pos h)
theorem XR(e1:f r=some (.int i))(e2:g r=some (.int j))(h : -(2 ^ 64)<i/\i<2 ^ 64):zD zFO f g r=some (.int (i*j)):=zP e1 e2 (if_pos (.inl h))
theorem x4(e1:f r=some (.int i))(e2:g r=some (.int j))(h:0<j/\j<1073741824):zD xY f g r=some (.int (i / j)):=zP e1 e2 (if_pos h)
theorem zF:mC d r=some d:=rfl
theorem zC(e1:f r=some x)(e2:fl r=some l):zA f fl r=some (x::l):=by
 unfold zA;rw[e1,aa,e2];rfl
theorem zN:zK r=some []:=rfl
theorem j3(e:fl r=some l)(h:l.length<=100):xR (yO fl) r=some (.lst l):=by
 unfold xR yO;rw[e,aa,if_pos (bv h (by decide))];rfl
theorem qA(e:fl r=some l)(h:l.length<=100):xM fl r=some (.tup l):=by
 unfold xM;rw[e,aa,if_pos (bv h (by decide))]
theorem zR(e:fl r=some l)(hl:l.length=n)(h:∃as,m (l.map .v)=some (p,as)):zM n m fl r=some (rsD p):=by
 obtain⟨as,h⟩:=h;unfold zM;rw[e,aa,if_pos hl,h];rfl
theorem kK(e:f r=some (.bl b)):mBl f r=some b:=by
 unfold mBl;rw[e];rfl
theorem yI(e:f r=some d):wQ f r=some (.rt d r):=by
 unfold wQ;rw[e];rfl
theorem zQ(d:D)(e:f r=some d)(e2:yN k d r=some r2)(q:h r2=z):zZ (xH k f) h r=z:=by
 rw[yT (kZ e e2)];exact q
theorem yS(e:c r=some false)(q:h r=z):zZ (sIf c a y0) h r=z:=by
 rw[yT (r':=r) (by rw[oS e];rfl)];exact q
theorem qK(e:c r=some true)(q:a r=some (.rt d r')):zZ (sIf c a y0) h r=some (.rt d r'):=zJ6 (by rw[zCI e];exact q)
theorem xP(e:s (as++List.replicate (N-n) .un)=some (.rt d r')):∃bs,mkF n N s as=some (.v d,bs):=by
 unfold mkF;rw[e];exact⟨_,rfl⟩
theorem c8(h:s.length+t.length<=100):xB (.str s) (.str t)=some (.str (s++t)):=if_pos (bv h (by decide))
theorem bF{lo:MO}(e1:f r=some x)(e2:lo r=some a)(e3:hi r=some b)(e:slD x a b=some d):mSl f lo hi r=some d:=by
 unfold mSl;rw[e1,aa,e2,aa,e3];exact e
theorem XO(e:g r=some (.int i)):mUn kP g r=some (.int (-i)):=jV e rfl
theorem xC(e:g r=some (.int i)):xA g r=some (some i):=by
 unfold xA;rw[e];rfl
theorem nX(e1:f r=some (.int i))(e2:g r=some (.int j)):mBl (zD gtD f g) r=some (decide (j<i)):=kK (zP e1 e2 rfl)
theorem zGC(h:l.length+m.length<=100000):xB (.lst l) (.lst m)=some (.lst (l++m)):=if_pos (bv h (by decide))
theorem JI(s:List α)(i k:Nat):bR s (some (i:Int)) (some (k:Int))=(s.take k).drop i:=by
 unfold bR;rw[HT.sIx_nat,HT.sIx_nat,List.drop_take];by_cases h:i<=s.length
 ·rw[ri h,List.take_eq_take_iff,ja];rw[vg,vg,Nat.min_assoc,Nat.min_self]
 ·have e1:s.drop (min i s.length)=[]:=ko (by omega);have e2:s.drop i=[]:=ko (by omega);rw[e1,e2];simp
theorem pE(e:f r=some (.int (n:Int)))(h:n<1000):gS f r=some ((List.range n).map λk=>.int ((0:Int)+(k:Nat))):=by
 have h1 : -(2 ^ 62:Int)<=(n:Int)/\(n:Int)<2 ^ 62:=by constructor<;>omega
 have h2:DD.intD (.int (n:Int))=some (n:Int):=by unfold DD.intD;rfl
 unfold gS;rw[e,aa,h2,aa,if_pos h1,qy];unfold zND;rfl
theorem zPO(e1:f r=some (.lst l))(e2:g r=some (.lst m))(h:l.length+m.length<=100000):zD xB f g r=some (.lst (l++m)):=zP e1 e2 (zGC h)
theorem bdP(h1:yN i a r=some r1)(h2:yN j b r1=some r2):dX 2 (qL (yN i) (qL (yN j) oQ)) (.tup [a,b]) r=some r2:=by
 show((yN i a r).bind λz=>(yN j b z).bind λy=>some y)=_;rw[h1,aa,h2];rfl
def ItB(K:Fg)(a:Addr)(n:Nat):It:=
 ⟨λi H=>∃xs x,SqL K H a xs/\xs.length=n/\i<n/\xs[n-1-i]?=some x,λi H x H'=>H'=H/\∀xs,SqL K H a xs->xs[n-1-i]?=some x,λi _=>i=n⟩
theorem YS{K:Fg}(a it:Addr)(n:Nat):Turn P w K tg (ItB K a n) [it] it (λi h=>h.IsRevIter it a ((n:Int)-1-(i:Int))) where
 mem:=by simp
 obj:=λi h st b hb=>by
  have e:b=it:=by simpa using hb
  subst e;obtain⟨o,e,c,d⟩:=st;exact⟨o,e,λv z=>by rw[d] at z;cases z⟩
 keep:=λi h h' st k=>st.at λo e=>k it (by simp) o e
 item:=by
  intro X hP hw hK hc i pZ s σ H E I hf st hg;subst hP hw hK;obtain⟨xs,x,hq,hn,hi,hx⟩:=hg;obtain⟨its,rv,p,hz⟩:=I.list hq;obtain⟨u,hu,ru⟩:=rv.get hx;obtain⟨f0,f1,f2,f3,f4,f5⟩:=hf it (by simp);have e1:(n:Int)-1-(i:Int)=((n-1-i:Nat):Int):=by clear st hu hx hq hn rv p;omega
  rw[e1] at st;refine wpAny_pyNext_rev_item st p.isList (x:=u) (by simpa using hu) λh' st' sb=>?_
  have e2:((n-1-i:Nat):Int)-1=(n:Int)-1-((i+1:Nat):Int):=by clear st st' hu hx hq hn rv p;omega
  rw[e2] at st';have I1:Inv X pZ σ H { s with heap:=h' }:=I.turned (t':=s.toks) (λb o hb e=>(sb.2 b hb).trans e) f0 f1 f3 f4 f5;obtain⟨o,e,c,d⟩:=id st';exact⟨u,rfl,Q8 (s:={ s with heap:=h' }) e c d (by decide) ⟨x,H,I1,ru,⟨rfl,λys hy=>by rw[I.list_inj hy hq];exact hx⟩,st',λb hb=>(hf b hb).1⟩⟩
 done:=by
  intro X hP hw hK hc i pZ s σ H E I hf st hg;subst hP hw hK;obtain rfl:i=n:=hg;obtain⟨f0,f1,f2,f3,f4,f5⟩:=hf it (by simp);have e1:(i:Int)-1-(i:Int)=-1:=by clear st;omega
  rw[e1] at st;exact wpAny_pyNext_rev_end (I.ok.hd hc) st λh' eb=>⟨rfl,I.turned (t':=s.toks) (λb o hb e=>eb b o hb e) f0 f1 f3 f4 f5⟩
 self:=λ_ _ _ _ _ st h=>vm st h
theorem zC7{K:Fg}(mo:∀a,M a->O a)(ol:j9 O H)(rd:∀H1,oR M H H1->SqL K H1 a xs)(il:IsL K O H ds xs):zJE K O M H (ItB K a xs.length) ds.reverse:=by
 intro i H1 O' kp oo;have kp':oR O H H1:=λb o e n=>kp b o e λz=>n (mo b z)
 have rd1:SqL K H1 a xs:=rd H1 kp;have ll:=il.length;have bk:∀d,ds.reverse[i]?=some d->i<xs.length/\ds[xs.length-1-i]?=some d:=λd e=>by
  have hi:i<ds.length:=by
   obtain⟨h,_⟩:=av.mp e;rw[eh] at h;exact h
  rw[ku hi,ll] at e;exact⟨ll ▸ hi,e⟩
 refine⟨λhi=>⟨?_,λx H' y=>?_⟩,λhi=>by rw[eh,ll] at hi;exact hi⟩
 ·obtain⟨d,e⟩:=uC hi;obtain⟨hi',e'⟩:=bk d e;obtain⟨v,e1,_⟩:=il.get e';exact⟨xs,v,rd1,rfl,hi',e1⟩
 ·obtain⟨rfl,y⟩:=y;refine⟨Same.refl _,λd e=>?_⟩;obtain⟨hi',e'⟩:=bk d e;obtain⟨v,e1,q⟩:=il.get e'
  have:=y xs rd1
  rw[e1] at this;cases this;exact Is.mono kp' ol oo _ _ q
theorem zEV(hg:Gl X "reversed")(hm:X.mg "reversed" = none)(ha:PE X a ta)(hs:ag [a] X.env=[(false,eval a X.env)]:=by rfl):PI X tg (.Call (.Name "reversed" p) [a] [] pos) (λσ H R=>ta σ H λx H1=>∃u xs,x=.ref u/\SqL X.K H1 u xs/\R (ItB X.K u xs.length) H1):=by
 intro pZ s σ H R I h;have hA:PA X [a] (YU ta zIQ):=zY ha yV (by rw[hs];rfl);refine Call_ (bB I hg hm sf (fi (thn (hA pos pZ s σ H (z1 λx H1=>∃u xs,x=.ref u/\SqL X.K H1 u xs/\R (ItB X.K u xs.length) H1) I h) λus s1 ⟨vs,H1,I1,r1,q1⟩=>?_) hs rfl));obtain⟨_,rfl,u,xs,rfl,hx,q⟩:=zC3 q1;obtain⟨uu,rfl,ru⟩:=Vals.one r1;cases ru;obtain⟨its,rv,pl,_⟩:=I1.list hx;have hl:its.toArray.size=xs.length:=by rw[am];exact rv.length.symm
 have z1:(s1.heap.push (revObj u ((its.toArray.size:Int)-1))).IsRevIter s1.heap.objs.size u ((its.toArray.size:Int)-1):=⟨_,bo _ rfl,rfl,rfl⟩;refine call_reversed_list pl.isList (vm z1 ?_);refine⟨_,[s1.heap.objs.size],_,_,H1,rfl,I1.kept (t':=s1.toks) (λb o e=>al _ e),YS u _ xs.length,?_,λb hb=>?_,q⟩
 ·rw[hl] at z1 ⊢;rw[show((xs.length:Int)-1-((0:Nat):Int))=(xs.length:Int)-1 from Int.sub_zero _];exact z1
 ·have e:b=s1.heap.objs.size:=by simpa using hb
  subst e;exact I1.fpOk (ae _) (I1.hok.fresh (ae _))
def XV(f:ML):ML:=λr=>(f r).map List.reverse
theorem zB5(hg:Gl X "reversed")(hm:X.mg "reversed" = none)(ha:DK X a fl)(hs:ag [a] X.env=[(false,eval a X.env)]:=by rfl):DI X tg (.Call (.Name "reversed" p) [a] [] pos) (XV fl):=by
 refine PI.conseq (zEV hg hm ha hs) λσ H Rr hq=>?_
 obtain⟨O0,r,ds,hR,e,q⟩:=hq;obtain⟨l,e1,rfl⟩:=mpS e;refine⟨O0,r,l,hR,e1,λu xs H1 s1 kp il=>?_⟩;exact⟨u,xs,rfl,kp H1 λb o e _=>e,q _ H1 s1 (zC7 (λa z=>.inr z.own) (hR.same s1).ol kp il)⟩
theorem hJ{K:Fg}(ol:j9 O H)(hp:H p=none)(h:IsL K O H l xs):IsL K (λb=>O b\/b=p) (upd H p (.lst ys)) l xs:=
 IsL.mono (Same.kp (zX hp) _) ol (λa z n=>z.elim id λz=>by subst z;exact absurd hp n) _ _ h
def zPL(f g:ML):ML:=λr=>(f r).bind λl=>(g r).bind λm=>if l.length+m.length<=af then some (l++m) else none
theorem zMO(ha:DB X a fl)(hb:DB X b gl):DF X (.BinOp a .Add b pos) (zPL fl gl):=by
 refine PE.conseq (zNL op_catR ha hb) λσ H Q h=>?_
 obtain⟨O0,r,d,hR,e,q⟩:=h;obtain⟨l,e1,e⟩:=bnS e;obtain⟨m,e2,e⟩:=bnS e;split at e
 ·rename_i hz;cases e;refine⟨O0,r,l,hR,e1,λp xs H1 s1 sq il=>⟨O0,r,m,hR.same s1,e2,λp' ys H2 s2 sq' il'=>?_⟩⟩;refine⟨p,p',xs,ys,rfl,rfl,s2.seq sq,sq',by rw[<-il.length,<-il'.length];exact hz,λt ht=>q t _ _ ((s1.trans s2).trans (zX ht)) ((s1.trans s2).free ht) zJ ?_⟩;exact hJ (hR.same (s1.trans s2)).ol ht ((il.same s2 (hR.same s1).ol).append il')
 ·cases e
def Y2(l:List (List Nat)):Prop:=l.Pairwise λa b=>¬b<a
open Classical in
noncomputable def c9(l:List (List Nat)):List (List Nat):=if h:∃m,m.Perm l/\Y2 m then h.choose else l
theorem Y1(h1:Y2 l)(h2:Y2 m)(p:l.Perm m):l=m:=
 List.Perm.eq_of_pairwise (le:=λa b=>¬b<a) (λa b _ _ x y=>List.le_antisymm (as:=a) (bs:=b) x y) h1 h2 p
theorem zD3(p:m.Perm l)(h:Y2 m):m=c9 l:=by
 have ex:∃m,m.Perm l/\Y2 m:=⟨m,p,h⟩;unfold c9;rw[dif_pos ex];exact Y1 h ex.choose_spec.2 (p.trans ex.choose_spec.1.symm)
theorem uN(l:List (List Nat)):(c9 l).length=l.length:=by
 unfold c9;split
 ·rename_i h;exact h.choose_spec.1.length_eq
 ·rfl
theorem dF:∀(p:Str) (l:List Str),risingS p l=true->((p::l).map λs=>s.cps.toList).Pairwise λa b=>¬b<a
 |p,[],_=>by simp
 |p,x::r,h=>by
  unfold risingS at h;rw[cw] at h;have ih:=dF x r h.2;have hx:¬x.cps.toList<p.cps.toList:=by
   have:=h.1
   rw[ltCps_eq] at this;simpa using this
  rw[aq,List.pairwise_cons];refine⟨λb hb=>?_,ih⟩;rw[aq,ca] at hb;rcases hb with rfl|hb
  ·exact hx
  ·rw[aq,List.pairwise_cons] at ih;exact List.le_trans (l₁:=p.cps.toList) (l₂:=x.cps.toList) hx (ih.1 b hb)
theorem pC:∀(l:List Str),sortedS l=true->Y2 (l.map λs=>s.cps.toList)
 |[],_=>by simp[Y2]
 |x::r,h=>dF x r h
theorem vS:∀{ss:List (List Nat)} {its:List Value},Vals (ss.map λs=>V.str ⟨s.toArray⟩) its->StrsAre its (ss.map λs=>(⟨s.toArray⟩:Str))
 |[],_,.nil=>.nil
 |s::ss,_,.cons r t=>by
  obtain⟨u,rfl⟩:=r;exact .cons _ _ (vS t)
theorem vR:∀{ss:List Str} {its:List Value},StrsAre its ss->Vals ((ss.map λs=>s.cps.toList).map λs=>V.str ⟨s.toArray⟩) its
 |_,_,.nil=>.nil
 |_,_,.cons x t h=>.cons ⟨t,by simp⟩ (vR h)
def cS(bd:D->En->Option En)(x:En->Option (D×En)):List D->En->Option (List D×En)
 |[],r=>some ([],r)
 |d::l,r=>(bd d r).bind λr1=>(x r1).bind λp=>(cS bd x l p.2).map λq=>(p.1::q.1,q.2)
def cM(i n:Nat)(it:ML)(bd:D->En->Option En)(x:En->Option (D×En)):En->Option (D×En):=λr=>(it r).bind λl=>(zFU r i).bind λL=>if l.length<af then (cS bd x l (Sl.p L::List.replicate (n-1) Sl.un)).bind λ(q:List D×En)=>match (q.2[0]?:Option Sl) with
 |some (.p L')=>(zAG i L' r).map λr'=>(.lst q.1,r')
 |_=>none
 else none
section
variable{X:Cx}{N':List Str}{scope:Scope}{elt tg iter:Expr}{pos:Pos}{it:ML}{bd:D->En->Option En}{x:En->Option (D×En)}{i:Nat}
theorem pI(hu:q .un=none)(e:((Sl.p L::List.replicate k Sl.un)[j]?).bind q=some m):j=0/\q (.p L)=some m:=by
 cases j with
 |zero=>exact⟨rfl,e⟩
 |succ j=>
  rw[ua,cj] at e;split at e
  ·rw[aa,hu] at e;cases e
  ·cases e
theorem R.cap1{K:Fg}(ol:j9 O H)(ha:O a)(ea:H a=some (.lst xs))(il:IsL K O H L xs):R K O H (.p L::List.replicate k .un) (some (.ref a)::List.replicate k none):=by
 have ow:∀b,Ow O (.p L::List.replicate k .un) (some (.ref a)::List.replicate k none) b->H b≠none->O b:=λb z _=>z.elim id λ⟨j,m,ej,qj⟩=>by
  obtain⟨rfl,_⟩:=pI rfl ej;cases qj;exact ha
 have get:∀(j:Nat) (x:Sl),(Sl.p L::List.replicate k Sl.un)[j]?=some x->(j=0/\x=.p L)\/x=.un:=λj x e=>by
  cases j with
  |zero=>cases e;exact .inl ⟨rfl,rfl⟩
  |succ j=>
   rw[ua,cj] at e;split at e
   ·cases e;exact .inr rfl
   ·cases e
 refine⟨by simp,λj d e=>?_,λj m e=>?_,λj j' b m m' e1 e2 _ _=>?_,ol,λj m b e _=>?_,λj m b e q=>?_,λj _ ks m e=>?_⟩
 ·rcases get _ _ e with⟨_,z⟩|z<;>cases z
 ·obtain⟨rfl,e2⟩:=pI rfl e;cases e2;exact⟨a,xs,rfl,ea,IsL.mono (Same.kp (Same.refl H) _) ol ow _ _ il⟩
 ·rw[(pI rfl e1).1,(pI rfl e2).1]
 ·rcases e with e|e|⟨_,e⟩<;>rcases get _ _ e with⟨_,z⟩|z<;>cases z
 ·obtain⟨x,e1,e2⟩:=bnS e;rcases get _ _ e1 with⟨rfl,z⟩|z
  ·cases q;exact ha
  ·subst z;cases e2
 ·rcases get _ _ e with⟨_,z⟩|z<;>cases z
theorem rG(hx:∀r d r',x r=some (d,r')->∀σ b,w8 r' σ b->w8 r σ b){σ:St}{H:Hp}{Q:VK}(h:lX X.K (cM i N'.length it bd x) σ H Q):zDT [i] N'.length (lI X.K it) (lG X.K bd) none (lX X.K x) σ H Q:=by
 obtain⟨O0,r,dv,r',hR,e,q⟩:=h;obtain⟨l,e1,e⟩:=bnS e;obtain⟨L,e2,e⟩:=bnS e;split at e
 ·rename_i hlen;obtain⟨⟨out,rE⟩,e3,e⟩:=bnS e;simp only at e;split at e
  ·rename_i L' eL;obtain⟨r2',e4,e5⟩:=mpS e;have hd1:D.lst out=dv:=congrArg Prod.fst e5;have hr1:r2'=r':=congrArg Prod.snd e5;subst hd1 hr1;refine⟨O0,r,l,hR,e1,λJ H1 s1 yl p hp=>?_⟩;have R1:=hR.same s1;obtain⟨a,xs,ha,hxa,il⟩:=XT R1 e2;have mut_a:MutAt r σ a:=⟨i,L,zLQ e2,ha⟩;have own_a:Ow O0 r σ a:=.inr mut_a.own;have hpa:a≠p:=λz=>by subst z;rw[hp] at hxa;cases hxa
   have hnO:¬Ow O0 r σ p:=R1.nofresh hp
   let O':Addr->Prop:=λb=>Ow O0 r σ b\/b=p
   have ol1:j9 O' (upd H1 p (.lst [])):=λb z=>by
    by_cases hb:b=p
    ·subst hb;exact⟨_,zJ,trivial⟩
    ·rw[zI hb];exact z.elim (R1.ol b) λz=>absurd z hb
   have hsig:zCY [i] N'.length σ=some (.ref a)::List.replicate (N'.length-1) none:=by
    unfold zCY;rw[aq,jw,ha];rfl
   rw[hsig];refine⟨λk m ys σ2 H2=>m=l.length-k/\k<=l.length/\ys.length<=k/\H2 p=some (.lst ys)/\σ2[0]?=some (some (.ref a))/\(∀b u,b≠a->H1 b=some u->H2 b=some u)/\(∀b,H2 b=none->H1 b=none) /\
     ∃r2 dn rest,R X.K O' H2 r2 σ2/\(∀b,w8 r2 σ2 b->b=a)/\(∃L2,r2[0]?=some (.p L2))/\IsL X.K O' H2 dn ys/\cS bd x (l.drop k) r2=some (rest,rE)/\dn++rest=out,
    ⟨l.length,by simp,cg _,ae _,zJ,?_,?_,?_,_,[],out,R.cap1 (k:=N'.length-1) ol1 (.inl own_a) (by rw[zI hpa];exact hxa) (hJ R1.ol hp il),?_,⟨L,rfl⟩,.nil,by simpa using e3,rfl⟩,?_⟩
   ·rfl
   ·intro b u hb eb;rw[zI (λz=>by subst z;rw[hp] at eb;cases eb)];exact eb
   ·intro b eb;by_cases hb:b=p
    ·subst hb;exact hp
    ·rw[zI hb] at eb;exact eb
   ·rintro b ⟨j,m,ej,qj⟩;obtain⟨rfl,_⟩:=pI rfl ej;cases qj;rfl
   ·rintro k m ys σ2 H2 ⟨rfl,hkl,hyl,hp2,hs2,kp2,lv2,r2,dn,rest,R2,no2,⟨L2,eL2⟩,il2,e6,eo⟩;refine⟨hp2,by omega,?_⟩;have hO:∀b,Ow O' r2 σ2 b->O' b:=λb z=>z.elim id λz=>.inl (by rw[no2 b z];exact own_a)
    obtain⟨y1,y2⟩:=yl k H2 O' (λb u eb nb=>kp2 b u (λz=>nb (by rw[z];exact mut_a)) eb) λb z nn=>z.elim id λz=>by subst z;exact absurd hp nn
    by_cases hlt:k<l.length
    ·obtain⟨go,yd⟩:=y1 hlt;have hd:l[k]?=some l[k]:=by simp[hlt]
     rw[uF hd] at e6;obtain⟨r3,e7,e8⟩:=bnS e6;obtain⟨⟨y,r4⟩,e9,e10⟩:=bnS e8;obtain⟨⟨rest',rE'⟩,e11,e12⟩:=mpS e10;have ha1:y::rest'=rest:=congrArg Prod.fst e12;have ha2:rE'=rE:=congrArg Prod.snd e12;subst ha1 ha2;refine .inr ⟨go,λv H3 yv=>?_⟩;obtain⟨s3,iv⟩:=yd v H3 yv;have R3:=R2.same s3;refine⟨O',r2,l[k],r3,R3,?_,e7,λσ4 R4 k4=>?_⟩
     ·exact Is.mono (Same.kp (Same.refl H3) _) R3.o0 (λb z _=>hO b z) _ _ (iv _ hd)
     have hp3:=s3 _ _ hp2;have no4:∀b,w8 r3 σ4 b->b=a:=λb z=>by
      rcases k4.new b z with z'|z'
      ·exact no2 b z'
      ·obtain⟨zs,ez,_⟩:=R4.ol b (.inr z);rw[z'] at ez;cases ez
     obtain⟨eL3',hs4⟩:=k4.par 0 false (by rw[eL2];rfl);obtain⟨L3,eL3⟩:=zQP eL3';refine⟨O',r3,y,r4,R4,e9,λu H6 R6 k6 iu=>?_⟩;have nm:∀b,MutAt r3 σ4 b->b=a:=λb z=>no4 b z.own
     have hp6:H6 p=some (.lst ys):=k6.keep p _ hp3 λz=>hpa (nm p z).symm
     have no6:∀b,w8 r4 σ4 b->b=a:=λb z=>by
      exact no4 b (hx _ _ _ e9 σ4 b z)
     obtain⟨eL4',_⟩:=k6.par 0 false (by rw[eL3];rfl);obtain⟨L4,eL4⟩:=zQP eL4';have kk:oR O' H6 (upd H6 p (.lst (ys++[u]))):=λb' o' e' nn=>by rw[zI (λz=>nn (.inr z))];exact e'
     have k36:oR O' H3 H6:=λb' o' e' nn=>k6.keep b' o' e' λz=>nn (.inl (by rw[nm b' z];exact own_a))
     refine⟨hp6,l.length-(k+1),by omega,rfl,hlt,by simp;omega,zJ,by rw[hs4];exact hs2,?_,?_,r4,dn++[y],rest',?_,no6,⟨L4,eL4⟩,?_,e11,by rw[<-eo];simp⟩
     ·intro b u' hb eb;have hbp:b≠p:=λz=>by subst z;rw[hp] at eb;cases eb
      rw[zI hbp];exact k6.keep b _ (s3 _ _ (kp2 b u' hb eb)) λz=>hb (nm b z)
     ·intro b eb;by_cases hb:b=p
      ·subst hb;exact hp
      ·rw[zI hb] at eb;exact lv2 b (s3.free (k6.live b eb))
     ·refine⟨R6.len,λj d ej=>?_,λj m ej=>?_,R6.apart,λb' z=>?_,R6.loc,R6.par,λj f ks m ej=>?_⟩
      ·obtain⟨w,q1,q2⟩:=R6.val j d ej;exact⟨w,q1,Is.mono (λb' o' e' nn=>kk b' o' e' λz=>nn (.inl z)) R6.ol (λ_ z _=>z) _ _ q2⟩
      ·obtain⟨a',xs',q1,q2,q3⟩:=R6.own j m ej;have ha':=no6 a' ⟨j,m,j4 ej,q1⟩;exact⟨a',xs',q1,by rw[zI (by rw[ha'];exact hpa)];exact q2,IsL.mono (λb' o' e' nn=>kk b' o' e' λz=>nn (.inl z)) R6.ol (λ_ z _=>z) _ _ q3⟩
      ·rcases z with z|z
       ·by_cases hb:b'=p
        ·subst hb;exact⟨_,zJ,trivial⟩
        ·rw[zI hb];exact R6.o0 b' (.inl z)
       ·subst z;exact⟨_,zJ,trivial⟩
      ·obtain⟨a',kvs,q1,q2,q4,q3⟩:=R6.dct j f ks m ej;have ha':=no6 a' ⟨j,m,by rw[ej];rfl,q1⟩;exact⟨a',kvs,q1,by rw[zI (by rw[ha'];exact hpa)];exact q2,q4,IsL.mono (λb' o' e' nn=>kk b' o' e' λz=>nn (.inl z)) R6.ol (λ_ z _=>z) _ _ q3⟩
     ·have i1:=IsL.mono k36 R3.o0 (λ_ z _=>z) _ _ (il2.same s3 R2.o0);have i2:Is X.K O' H6 y u:=Is.mono (Same.kp (Same.refl H6) _) R6.ol (λa z _=>.inl z) _ _ iu;exact IsL.mono kk R6.o0 (λ_ z _=>z) _ _ (i1.append (.cons i2 .nil))
    ·have hl:l.drop k=[]:=kq (by omega);rw[hl] at e6;have e6':some ([],r2)=some (rest,rE):=e6;cases e6';rw[dm] at eo;subst eo;obtain⟨c0,zs,q0,q1,q2⟩:=R2.own 0 L' (by rw[eL];rfl);rw[hs2] at q0;cases q0;obtain⟨RE,kE⟩:=R1.put e4 ha kp2 (λb _=>lv2 b) q1 (IsL.mono (Same.kp (Same.refl H2) _) R2.ol (λb z _=>.inl (.inl z)) _ _ q2);refine .inl ⟨y2 (by omega),q _ H2 RE ((Kp.of_same r σ s1).trans kE) ?_⟩;rw[Is.lst_iff];have np:∀b,Ow O0 r2' σ b->Ow O0 r σ b:=λb z=>z.imp id λz=>QQ e4 z
     exact⟨p,ys,rfl,.inl ⟨λz=>hnO (np p z),.inl hp2⟩,IsL.mono (Same.kp (Same.refl H2) _) R2.o0 (λb z _=>.inl (np b z)) _ _ il2⟩
  ·cases e
 ·cases e
theorem zBY(hc:X.calm=true)(o:CmpOk X N' [i] scope)(hi:DI X tg iter it)(hg:∀C fp s H,DG (cxC X N' scope C fp s H) tg bd)(he:∀C fp s H,DX (cxC X N' scope C fp s H) elt x)(hx:∀r d r',x r=some (d,r')->∀σ b,w8 r' σ b->w8 r σ b)(n:Nat)(hn:N'.length=n:=by rfl)(hs:∀x,fg iter X.env x=pure x:=by intro _;rfl):DX X (.ListComp elt [⟨tg,iter,[],0⟩] scope pos) (cM i n it bd x):=by
 subst hn;exact PE.conseq (cB (g:=lG X.K bd) (te:=lX X.K x) (tc:=none) hc o hi hg rfl he hs) λσ H Q h=>rG hx h
theorem zEN:∀r d r',oV j r=some (d,r')->∀σ b,w8 r' σ b->w8 r σ b:=λr d r' e σ b h=>by
 obtain⟨l,_,e⟩:=bnS e;obtain⟨d',_,e⟩:=bnS e;obtain⟨r2,e3,e4⟩:=mpS e
 have:r2=r':=congrArg Prod.snd e4
 subst this;exact QQ e3 h
end
abbrev MXA:=En->Option (List D×En)
def lXA(K:Fg)(f:MXA):TA:=λσ H Q=>∃O0 r l r',R K O0 H r σ/\f r=some (l,r')/\∀vs H',R K O0 H' r' σ->Kp H r σ H' r' σ->IsL K (Ow O0 r' σ) H' l vs->Q vs H'
def DXA(X:Cx)(es:List Expr)(f:MXA):Prop:=PA X es (lXA X.K f)
def vF(fx:En->Option (D×En)):MXA:=λr=>(fx r).map λp=>([p.1],p.2)
def jU(f:ME)(z:MXA):MXA:=λr=>(f r).bind λd=>(z r).map λq=>(d::q.1,q.2)
theorem zBW(ha:DX X a fx)(hs:ag [a] X.env=(false,eval a X.env)::ag [] X.env:=by rfl):DXA X [a] (vF fx):=by
 refine PA.conseq (zY ha yV hs) λσ H Q hq=>?_
 obtain⟨O0,r,l,r',hR,e,q⟩:=hq;obtain⟨⟨d,r1⟩,e1,e2⟩:=mpS e;cases e2;exact⟨O0,r,d,r1,hR,e1,λv H1 R1 k1 i1=>q [v] H1 R1 k1 (.cons i1 .nil)⟩
theorem Is.kp{K:Fg}(hR:R K O0 H r σ)(k:Kp H r σ H' r' σ')(h:Is K (Ow O0 r σ) H d v):Is K (Ow O0 r' σ') H' d v:=
 Is.mono (λb o e nn=>k.keep b o e λz=>nn (.inr z.own)) hR.ol (λb z n=>z.imp id λz=>(k.new b z).elim id λz=>absurd z n) _ _ h
theorem zBX(ha:DE X a f)(hr:DXA X es z)(hs:ag (a::es) X.env=(false,eval a X.env)::ag es X.env:=by rfl):DXA X (a::es) (jU f z):=by
 refine PA.conseq (zY ha hr hs) λσ H Q hq=>?_
 obtain⟨O0,r,l,r',hR,e,q⟩:=hq;obtain⟨d,e1,e⟩:=bnS e;obtain⟨⟨l',r1⟩,e2,e3⟩:=mpS e;cases e3;refine⟨O0,r,d,hR,e1,λv H1 s1 i1=>⟨O0,r,l',r1,hR.same s1,e2,λvs H2 R2 k2 i2=>q (v::vs) H2 R2 ((Kp.of_same r σ s1).trans k2) (.cons (Is.kp (hR.same s1) k2 i1) i2)⟩⟩
def j0(n:Nat)(m:MF)(z:MXA):En->Option (D×En):=λr=>(z r).bind λq=>if q.1.length=n then (m (q.1.map .v)).map λp=>(rsD p.1,q.2) else none
theorem zBZ(F:FnOk X.prog X.w X.K X.mg X.base CX0 k fa fd ps (spD X.K n m))(hr:Room k X.A)(hg:Gl X x)(hm:X.mg x=some (.ref fa))(hk:PySem.W.keepIn X.K (.ref fa)=true)(hb:Binds X.K fd ps [])(ha:DXA X (a::es) z)(hdb:(x == ("__debug__" : Str))=false:=by decide)(he:ag (a::es) X.env=(false,eval a X.env)::ag es X.env:=by rfl)(hpl:(dq pos (ag es X.env)).any (·.1)=false:=by rfl):DX X (.Call (.Name x p) (a::es) [] pos) (j0 n m z):=by
 refine PE.conseq (dG (E:=λ_ _ _=>False) (dvs:=[]) F hr hg hm hk hb .nil nA ha hdb he hpl) λσ H Q h=>?_
 obtain⟨O0,r,d,r',hR,e,q⟩:=h;obtain⟨⟨ds,r1⟩,e1,e2⟩:=bnS e;split at e2
 ·rename_i hl;obtain⟨⟨rs,as'⟩,e3,e4⟩:=mpS e2;have h1:rsD rs=d:=congrArg Prod.fst e4;have h2:r1=r':=congrArg Prod.snd e4;subst h1 h2;refine⟨O0,r,ds,r1,hR,e1,λvs H1 R1 k1 il=>dB R1 (Same.refl H1) il hl e3 ?_⟩;have go:∀{H2:Hp},Same H1 H2->R X.K O0 H2 r1 σ/\Kp H r σ H2 r1 σ:=λs=>⟨R1.same s,k1.trans (Kp.of_same r1 σ s)⟩
  cases rs with
  |v d=>exact λv H2 pf iv=>q v H2 (go pf.same).1 (go pf.same).2 iv
  |f l=>
   refine λa xs H2 pf na ea il2=>q _ H2 (go pf.same).1 (go pf.same).2 ?_
   have olp:j9 (λb=>Ow O0 r1 σ b\/b=a) H2:=λb z=>z.elim (λz=>(R1.same pf.same).ol b z) λz=>by subst z;exact⟨.lst xs,ea,trivial⟩
   show Is X.K (Ow O0 r1 σ) H2 (.lst l) (.ref a);rw[Is.lst_iff];exact⟨a,xs,rfl,.inl ⟨R1.nofresh na,.inl ea⟩,IsL.mono (Same.kp (Same.refl H2) _) olp (λ_ z _=>.inl z) _ _ il2⟩
  |g ks l=>
   refine λa kvs H2 pf na ea ek il2=>q _ H2 (go pf.same).1 (go pf.same).2 ?_
   have olp:j9 (λb=>Ow O0 r1 σ b\/b=a) H2:=λb z=>z.elim (λz=>(R1.same pf.same).ol b z) λz=>by subst z;exact⟨.dK kvs,ea,trivial⟩
   show Is X.K (Ow O0 r1 σ) H2 (.dct ks l) (.ref a);rw[Is.dct_iff];exact⟨a,kvs,rfl,R1.nofresh na,.inl ea,ek,IsL.mono (Same.kp (Same.refl H2) _) olp (λ_ z _=>.inl z) _ _ il2⟩
 ·cases e2
end DD
namespace ZZ
open PySem
end ZZ
namespace DD
open PySem PySem.Spec PyProof.Rows L2
open PySem PySem.Spec PyProof.Rows L2 PySem.W
open PySem PySem.Spec PyProof.Rows L2 PySem.W PySem.Calls Builtin Builtin.ObjectAttr Builtin.Getset_descriptor
noncomputable def It3(lo c:Int)(n:Nat):It:=⟨λi _=>i<n,λi H x H'=>H'=H/\x=.int (lo+(i:Nat)*c),λi _=>n<=i⟩
theorem mL{K:Fg}(it:Addr)(lo c:Int)(n:Nat):Turn P w K tg (It3 lo c n) [it] it (λi h=>IsRangeIter h it (lo+(i:Nat)*c) ((n:Int)-(i:Nat)) c) where
 mem:=by simp
 obj:=λi h st b hb=>by
  obtain rfl:b=it:=ba.mp hb;exact⟨_,st,λv z=>by
   have z':Data.fields _=Data.cell v:=z;cases z'⟩
 keep:=λi h h' st k=>k it (ba.mpr rfl) _ st
 item:=by
  intro X hP hw hK hc i pZ s σ H E I hf st hg;subst hP hw hK;obtain⟨f0,f1,f2,f3,f4,f5⟩:=hf it (ba.mpr rfl);refine(Walks.range (prog:=X.prog) (w:=X.w) (I.ok.hd hc) it lo c n).item i s _ _ hg st λv h' tk hv st' kk=>?_
  obtain⟨t,rfl⟩:=hv;have I1:Inv X pZ σ H { s with heap:=h',toks:=tk }:=I.turned (λb o hb e=>kk b o (by simpa using hb) e) f0 f1 f3 f4 f5;exact⟨_,rfl,Q8 (s:={ s with heap:=h',toks:=tk }) (n:="range_iterator") st' rfl rfl (by decide) ⟨.int (lo+(i:Nat)*c),H,I1,⟨t,rfl⟩,⟨rfl,rfl⟩,st',λb hb=>(hf b hb).1⟩⟩
 done:=by
  intro X hP hw hK hc i pZ s σ H E I hf st hg;subst hP hw hK;obtain⟨f0,f1,f2,f3,f4,f5⟩:=hf it (ba.mpr rfl);exact uh (I.ok.hd hc) st (by have:n<=i:=hg;omega) λh' eb=>⟨rfl,I.turned (t':=s.toks) (λb o hb e=>eb b o hb e) f0 f1 f3 f4 f5⟩
 self:=λ_ _ _ _ _ st h=>ui st h
noncomputable def gQ(a b c:Int):Nat:=((b-a+c-1) / c).toNat
theorem J5(hc:0<c):(gQ a b c:Int)=Builtin.Range.rangeSize a b c:=by
 unfold gQ Builtin.Range.rangeSize;rw[if_pos hc];have e:b-a+c-1=(b-a-1)+1*c:=by omega
 split
 ·have q:0<=(b-a-1) / c:=oy (by omega) (by omega);rw[e,ux _ _ (by omega)];omega
 ·have q:(b-a-1) / c<0:=Int.ediv_neg_of_neg_of_pos (by omega) hc;rw[e,ux _ _ (by omega)];omega
theorem zJY(h1:0<=a)(h2:a<=1000)(h3:0<=b)(h4:b<=1000)(h5:0<c)(h6:c<=1000):Builtin.Range.small a b c=true:=by
 have z:0<=Builtin.Range.rangeSize a b c/\Builtin.Range.rangeSize a b c<=1001:=by
  unfold Builtin.Range.rangeSize;rw[if_pos h5];split
  ·have q:0<=(b-a-1) / c:=oy (by omega) (by omega);have q':(b-a-1) / c<=b-a-1:=Int.ediv_le_self _ (by omega);omega
  ·omega
 unfold Builtin.Range.small;simp only[Builtin.Range.rangeFitsLong,cw,Bool.or_eq_true,decide_eq_true_eq,beq_iff_eq];rw[if_pos h5];refine⟨⟨⟨⟨?_,?_⟩,?_⟩,?_⟩,.inr ?_⟩<;>simp<;>omega
theorem Y3{R:It->Hp->Prop}{lo:Int}(I:Inv X pZ σ H s)(hs:Builtin.Range.small lo hi c=true)(hc:0<c)(q:R (It3 lo c (gQ lo hi c)) H):wpAny (model X.prog X.w) X.A (pyIter (.ref s.heap.objs.size)) (PIE X pZ σ tg R) E { s with heap:=s.heap.push { cls:=.type "range",data:=.fields #[.int lo t,.int hi u,.int c v] },toks:=tk }:=by
 refine wpAny_pyIter_range (IsRange.new ..) hs ?_;have I1:Inv X pZ σ H { s with heap:=s.heap.push { cls:=.type "range",data:=.fields #[.int lo t,.int hi u,.int c v] },toks:=tk }:=I.kept λb o e=>al _ e
 generalize hz:(s.heap.push { cls:=.type "range",data:=.fields #[.int lo t,.int hi u,.int c v] })=h1 at I1 ⊢;refine⟨h1.objs.size,[h1.objs.size],_,_,H,rfl,I1.kept (t':=tk) λb o e=>al _ e,mL _ lo c (gQ lo hi c),?_,λb hb=>?_,q⟩
 ·show IsRangeIter _ _ (lo+((0:Nat):Int)*c) ((gQ lo hi c:Int)-((0:Nat):Int)) c;rw[J5 hc,show lo+((0:Nat):Int)*c=lo by simp,show Builtin.Range.rangeSize lo hi c-((0:Nat):Int)=Builtin.Range.rangeSize lo hi c by simp];exact bo _ rfl
 ·obtain rfl:=(ba.mp hb);exact I1.fpOk (ae _) (I1.hok.fresh (ae _))
def zPP(ta:TA):TI:=λσ H R=>ta σ H λvs H1=>∃i j c:Int,vs=[.int i,.int j,.int c]/\(0<=i/\i<=1000/\0<=j/\j<=1000/\0<c/\c<=1000)/\R (It3 i c (gQ i j c)) H1
theorem Y8(hg:Gl X "range")(hm:X.mg "range" = none)(ha:PA X [a,b,c] ta)(hs:ag [a,b,c] X.env=[(false,eval a X.env),(false,eval b X.env),(false,eval c X.env)]:=by rfl)(hs2:ag [b,c] X.env=[(false,eval b X.env),(false,eval c X.env)]:=by rfl):PI X tg (.Call (.Name "range" p) [a,b,c] [] pos) (zPP ta):=by
 intro pZ s σ H R I h;refine Call_ (bB I hg hm boot_range (fi (thn (ha pos pZ s σ H _ I h) λus s1 ⟨vs,H1,I1,r1,q1⟩=>?_) (by rw[hs,hs2]) (by rw[hs2];rfl)));obtain⟨i,j,k,e,⟨q1,q2,q3,q4,q5,q6⟩,q⟩:=q1;subst e;cases r1 with
 |cons a1 r1=>cases r1 with
  |cons a2 r1=>cases r1 with
   |cons a3 r1=>
    cases r1;obtain⟨t,rfl⟩:=a1;obtain⟨t',rfl⟩:=a2;obtain⟨t2,rfl⟩:=a3;exact call_range_3 (by omega) (Y3 I1 (zJY q1 q2 q3 q4 q5 q6) q5 q) (.inl (uq (by omega)))
noncomputable def zNE(lo c:Int)(n:Nat):List D:=(List.range n).map λ(i:Nat)=>.int (lo+(i:Int)*c)
theorem zC5{K:Fg}(lo c:Int)(n:Nat):zJE K O M H (It3 lo c n) (zNE lo c n):=by
 intro i H1 O' kp oo;have hl:(zNE lo c n).length=n:=by simp[zNE]
 refine⟨λhi=>⟨by rw[hl] at hi;exact hi,λx H' y=>?_⟩,λhi=>by rw[hl] at hi;exact jj hi.symm⟩;obtain⟨rfl,rfl⟩:=y;refine⟨Same.refl _,λd e=>?_⟩;rw[hl] at hi;unfold zNE at e;rw[bn,qk hi] at e;cases e;rw[Is.int_iff]
def QW(f g h:ME):ML:=λr=>(f r).bind λd=>(intD d).bind λi=>(g r).bind λd=>(intD d).bind λj=>(h r).bind λd=>(intD d).bind λc=>if 0<=i/\i<=1000/\0<=j/\j<=1000/\0<c/\c<=1000 then some (zNE i c (gQ i j c)) else none
theorem zHS(hg:Gl X "range")(hm:X.mg "range" = none)(ha:DE X l f)(hb:DE X l2 g)(hc:DE X l3 h)(hs:ag [l,l2,l3] X.env=[(false,eval l X.env),(false,eval l2 X.env),(false,eval l3 X.env)]:=by rfl)(hs2:ag [l2,l3] X.env=[(false,eval l2 X.env),(false,eval l3 X.env)]:=by rfl)(hs3:ag [l3] X.env=[(false,eval l3 X.env)]:=by rfl):DI X tg (.Call (.Name "range" p) [l,l2,l3] [] pos) (QW f g h):=by
 refine PI.conseq (Y8 hg hm (zY ha (zY hb (zY hc yV hs3) (by rw[hs2,hs3])) (by rw[hs,hs2])) hs hs2) λσ H Rr hq=>?_
 obtain⟨O0,r,ds,hR,e,q⟩:=hq;obtain⟨d,e1,y1⟩:=bnS e;obtain⟨i,z1,y2⟩:=bnS y1;obtain⟨d2,e2,y3⟩:=bnS y2;obtain⟨j,z2,y4⟩:=bnS y3;obtain⟨d3,e3,y5⟩:=bnS y4;obtain⟨c,z3,y6⟩:=bnS y5;cases j6 z1;cases j6 z2;cases j6 z3;split at y6
 ·rename_i hj;cases y6;refine⟨O0,r,_,hR,e1,λv H1 s1 i1=>⟨O0,r,_,hR.same s1,e2,λv2 H2 s2 i2=>⟨O0,r,_,(hR.same s1).same s2,e3,λv3 H3 s3 i3=>?_⟩⟩⟩;rw[Is.int_iff] at i1 i2 i3;exact⟨i,j,c,by rw[i1,i2,i3],hj,q _ H3 ((s1.trans s2).trans s3) (zC5 i c _)⟩
 ·cases y6
end DD
namespace L2
open PySem PySem.Spec PyProof.Rows
section
variable[DecidableEq κ]
noncomputable def W3(kvs:List (κ×V))(k:κ):Option V:=(kvs.find? λkv=>decide (kv.1=k)).map (·.2)
noncomputable def d9(kvs:List (κ×V))(k:κ)(v:V):List (κ×V):=
 if (kvs.any λkv=>decide (kv.1=k))=true then kvs.map (λkv=>if kv.1=k then (kv.1,v) else kv) else kvs++[(k,v)]
noncomputable def ZV(kvs:List (κ×V))(k:κ):List (κ×V):=kvs.filter λkv=>decide (kv.1≠k)
theorem bX{p:κ×V}{r:List (κ×V)}{k:κ}(e:p.1=k):W3 (p::r) k=some p.2:=by simp[W3,gn,e]
theorem bY{p:κ×V}{r:List (κ×V)}{k:κ}(e:¬p.1=k):W3 (p::r) k=W3 r k:=by simp[W3,gn,e]
theorem rN(k:κ):∀kvs:List (κ×V),(kvs.any λkv=>decide (kv.1=k))=(W3 kvs k).isSome
 |[]=>rfl
 |p::r=>by
  rw[jn];by_cases e:p.1=k
  ·simp only[bX e,decide_eq_true e,Bool.true_or,mq]
  ·rw[bY e,decide_eq_false e,Bool.false_or];exact rN k r
theorem bL(kvs:List (κ×V))(k:κ)(v:V):(d9 kvs k v).length<=kvs.length+1:=by
 unfold d9;split
 ·rw[ak];omega
 ·rw[bb,ao,bu];omega
theorem RelO.isSome_eq(r:RelO o u):o.isSome=u.isSome:=by
 cases o with
 |none=>cases u with
  |none=>rfl
  |some _=>exact(show False from r).elim
 |some _=>cases u with
  |none=>exact(show False from r).elim
  |some _=>rfl
theorem KV.val{kvs:List (κ×V)}{vs:List (κ×Value)}(r:KV kvs vs)(k:κ):RelO (W3 kvs k) (valueAt vs k):=by
 unfold KV at r
 induction r with
 |nil=>exact True.intro
 |@cons p q ps qs h t ih=>
  obtain⟨h1,h2⟩:=h;by_cases e:p.1=k
  ·have e':q.1=k:=h1.symm.trans e;have b:valueAt (q::qs) k=some q.2:=by simp[valueAt,gn,e']
   rw[bX e,b];exact h2
  ·have e':¬q.1=k:=λz=>e (h1.trans z)
   have b:valueAt (q::qs) k=valueAt qs k:=by simp[valueAt,gn,e']
   rw[bY e,b];exact ih
theorem KV.any(r:KV kvs vs)(k:κ):(kvs.any λkv=>decide (kv.1=k))=vs.any λkv=>decide (kv.1=k):=by
 unfold KV at r
 induction r with
 |nil=>rfl
 |cons h t ih=>rw[jn,jn,ih,h.1]
theorem KV.repl(r:KV kvs vs)(k:κ)(ry:RelV y u):KV (kvs.map λkv=>if kv.1=k then (kv.1,y) else kv) (vs.map λkv=>if kv.1=k then (kv.1,u) else kv):=by
 unfold KV at r ⊢
 induction r with
 |nil=>exact .nil
 |@cons p q ps qs h t ih=>
  rw[aq,aq];refine .cons ?_ ih;obtain⟨h1,h2⟩:=h;by_cases e:p.1=k
  ·rw[if_pos e,if_pos (h1.symm.trans e)];exact⟨h1,ry⟩
  ·rw[if_neg e,if_neg (λz=>e (h1.trans z))];exact⟨h1,h2⟩
theorem KV.put(r:KV kvs vs)(k:κ)(ry:RelV y u):KV (d9 kvs k y) (stored vs k u):=by
 unfold d9 stored;rw[r.any k];by_cases e:(vs.any λkv=>decide (kv.1=k))=true
 ·rw[if_pos e,if_pos e];exact r.repl k ry
 ·rw[if_neg e,if_neg e];exact Paired.snoc r ⟨rfl,ry⟩
theorem KV.drop(r:KV kvs vs)(k:κ):KV (ZV kvs k) (without vs k):=by
 unfold KV at r ⊢;unfold ZV without
 induction r with
 |nil=>exact .nil
 |@cons p q ps qs h t ih=>
  obtain⟨h1,h2⟩:=h;rw[List.filter_cons,List.filter_cons];by_cases e:p.1=k
  ·have a:¬decide (p.1≠k)=true:=by simp[e]
   have b:¬decide (q.1≠k)=true:=by simp[h1.symm.trans e]
   rw[if_neg a,if_neg b];exact ih
  ·have e':¬q.1=k:=λz=>e (h1.trans z)
   have a:decide (p.1≠k)=true:=by simp[e]
   have b:decide (q.1≠k)=true:=by simp[e']
   rw[if_pos a,if_pos b];exact .cons ⟨h1,h2⟩ ih
theorem KV.keys{kvs:List (κ×V)}{vs:List (κ×Value)}(r:KV kvs vs):kvs.map (·.1)=vs.map (·.1):=by
 unfold KV at r
 induction r with
 |nil=>rfl
 |cons h t ih=>rw[aq,aq,ih,h.1]
theorem KV.length(r:KV kvs vs):kvs.length=vs.length:=qo r
theorem zB2(kvs:List (κ×V))(k:κ):(ZV kvs k).length<=kvs.length:=vj _ _
end
theorem Q1(r:RelV (kV k) u):(yE P w).is k u=true:=by
 cases k with
 |inl i=>obtain⟨t,e⟩:=(show ∃t,u=Value.int i t from r);subst e;exact nM P w i t
 |inr x=>obtain⟨t,e⟩:=(show ∃t,u=Value.str x t from r);subst e;exact nL P w x t
theorem nU:∀{ks:List Key} {us:List Value},Vals (ks.map kV) us->ItemsAre (yE P w) ks us
 |[],_,r=>by rw[jw] at r;cases r;exact .nil
 |k::ks,_,r=>by
  rw[aq] at r;cases r with
  |cons h t=>exact .cons (Q1 h) (nU t)
abbrev KT(H:Hp):List (List Key×V)->List (List Key×Addr×Value)->Prop:=Paired λp q=>p.1=q.1/\H q.2.1=some (.tup (p.1.map kV))/\RelV p.2 q.2.2
theorem KT.val{H:Hp}{kvs:List (List Key×V)}{xs:List (List Key×Addr×Value)}(r:KT H kvs xs)(k:List Key):RelO (W3 kvs k) ((atKey xs k).map (·.2)):=by
 induction r with
 |nil=>exact True.intro
 |@cons p q ps qs h t ih=>
  obtain⟨h1,_,h2⟩:=h;by_cases e:p.1=k
  ·have e':q.1=k:=h1.symm.trans e;have b:atKey (q::qs) k=some q.2:=by simp[atKey,gn,e']
   rw[bX e,b];exact h2
  ·have e':¬q.1=k:=λz=>e (h1.trans z)
   have b:atKey (q::qs) k=atKey qs k:=by simp[atKey,gn,e']
   rw[bY e,b];exact ih
theorem KT.repl(r:KT H kvs xs)(k:List Key)(ry:RelV y u):KT H (kvs.map λkv=>if kv.1=k then (kv.1,y) else kv) (xs.map (putAt k u)):=by
 induction r with
 |nil=>exact .nil
 |@cons p q ps qs h t ih=>
  rw[aq,aq];refine .cons ?_ ih;obtain⟨h1,h2,h3⟩:=h;unfold putAt;by_cases e:p.1=k
  ·rw[if_pos e,if_pos (h1.symm.trans e)];exact⟨h1,h2,ry⟩
  ·rw[if_neg e,if_neg (λz=>e (h1.trans z))];exact⟨h1,h2,h3⟩
theorem KT.put(r:KT H kvs xs)(k:List Key)(hb:H b=some (.tup (k.map kV)))(ry:RelV y u):KT H (d9 kvs k y) (storedH xs k b u):=by
 have e:(kvs.any λkv=>decide (kv.1=k))=(atKey xs k).isSome:=by
  rw[rN,(r.val k).isSome_eq,Option.isSome_map]
 unfold d9 storedH;rw[e];by_cases q:(atKey xs k).isSome=true
 ·rw[if_pos q,if_pos q];exact r.repl k ry
 ·rw[if_neg q,if_neg q];exact Paired.snoc r ⟨rfl,hb,ry⟩
theorem KT.keeps(r:KT H kvs xs)(ht:∀b ys,H b=some (.tup ys)->H' b=some (.tup ys)):KT H' kvs xs:=
 Paired.mapP r λ_ _ z=>⟨z.1,ht _ _ z.2.1,z.2.2⟩
theorem zNF(ok:HOk P w H h)(e:Rd H a u):ObjOk P w H h a u:=e.ok ok
theorem ZW(ok:HOk P w H h)(e:Rd H a (.dK kvs)):kvs.length<=af/\(a == ik)=false/\∃vs,KV kvs vs/\h.DictOf (yE P w) a vs:=
 show ObjOk P w H h a (.dK kvs) from zNF ok e
theorem zN0(ok:HOk P w H h)(e:H a=some (.dK kvs)):kvs.length<=af/\(a == ik)=false/\∃vs,KV kvs vs/\h.DictOf (yE P w) a vs:=ZW ok (.inl e)
theorem zBK(ok:HOk P w H h)(e:H a=some (.tup (ks.map kV))):(tupleKind (yE P w)).is h ks a:=by
 obtain⟨_,its,r,o,h1,h2,n,h3⟩:=(show ObjOk P w H h a (.tup (ks.map kV)) from ok a _ e);exact⟨o,its.toArray,n,h1,h2,h3,by simpa using nU r⟩
theorem zHE(ok:HOk P w H h)(e:Rd H a (.dT kvs)):kvs.length<=af/\(a == ik)=false /\
  ∃xs,KT H kvs xs/\h.DictOfH (tupleKind (yE P w)) a xs:=by
 obtain⟨z,y,xs,r,o,es,ep,h1,h2,h3,h4,h5⟩:=(show ObjOk P w H h a (.dT kvs) from zNF ok e);refine⟨z,y,xs,r,o,es,ep,h1,h2,h3,h4,λx hx=>?_,h5⟩;have all:∀{l:List (List Key×V)} {m:List (List Key×Addr×Value)},KT H l m->∀x∈m,(tupleKind (yE P w)).is h x.1 x.2.1:=by
  intro l m q
  induction q with
  |nil=>intro x hx;exact nomatch hx
  |@cons p q ps qs hq t ih=>
   intro x hx;rcases ca.mp hx with e|hx
   ·subst e;exact zBK ok (by rw[<-hq.1];exact hq.2.1)
   ·exact ih x hx
 exact all r x hx
theorem zPX(ok:HOk P w H h)(e:H a=some (.dT kvs)):kvs.length<=af/\(a == ik)=false /\
  ∃xs,KT H kvs xs/\h.DictOfH (tupleKind (yE P w)) a xs:=zHE ok (.inl e)
def zQW(H:Hp)(a:Addr)(y:V)(r:Option V):Prop:=
 (∃kvs k,Rd H a (.dK kvs)/\y=kV k/\r=W3 kvs k)\/∃kvs k b,Rd H a (.dT kvs)/\y=.ref b/\H b=some (.tup (k.map kV))/\r=W3 kvs k
def DPut(H:Hp)(a:Addr)(y v:V)(H':Hp):Prop:=
 (∃kvs k,H a=some (.dK kvs)/\y=kV k/\kvs.length<af/\H'=upd H a (.dK (d9 kvs k v))) \/
 ∃kvs k b,H a=some (.dT kvs)/\y=.ref b/\H b=some (.tup (k.map kV))/\kvs.length<af/\H'=upd H a (.dT (d9 kvs k v))
theorem DPut.k{H:Hp}{a:Addr}{kvs:List (Key×V)}{k:Key}{v:V}(e:H a=some (.dK kvs))(hl:kvs.length<af):DPut H a (kV k) v (upd H a (.dK (d9 kvs k v))):=.inl ⟨kvs,k,e,rfl,hl,rfl⟩
theorem Inv.big(I:Inv X pZ σ H s):ik<s.heap.objs.size:=by
 have h:ay<s.heap.objs.size:=(I.mod.glob.keeps I.bk).lt;exact om (by decide) h
theorem WN(hu:A.units+1<cLine)(I:Inv X pZ σ H s)(g:zQW H a y (some v))(ry:RelV y u)(h:∀w' s',Inv X pZ σ H s'->RelV v w'->Q w' s'):wpAny (model X.prog X.w) A (getItem (.ref a) u) Q E s:=by
 rcases g with⟨kvs,k,e,ey,l⟩|⟨kvs,k,b,e,ey,eb,l⟩
 ·subst ey;obtain⟨z,hd,vs,rel,dd⟩:=ZW I.hok e;obtain⟨w',hw,rw'⟩:=RelO.some_of (v:=v) (o:=valueAt vs k) (by rw[l];exact rel.val k);exact wpAny_getItem_of (Q1 ry) dd.mapOf hw (h w' _ (I.tok _) rw')
 ·subst ey;cases (show u=Value.ref b from ry);obtain⟨z,hd,xs,rel,dd⟩:=zHE I.hok e;obtain⟨w',hw,rw'⟩:=RelO.some_of (v:=v) (o:=(atKey xs k).map (·.2)) (by rw[l];exact rel.val k);obtain⟨p,hp,hp2⟩:=Option.map_eq_some_iff.mp hw;refine wpAny_getItem_heap (tupleKind_room_in1 hu) (zBK I.hok eb) dd hp ?_;rw[hp2];exact h w' _ (I.tok _) rw'
theorem Z0(I:Inv X pZ σ H s)(mu:Mut (H a))(hs:Heap.SameBut a s.heap h')(he:∃q,h'.get? a=some q)(new:ObjOk X.prog X.w (upd H a ob) h' a ob):Inv X pZ σ (upd H a ob) { s with heap:=h',toks:=t' }:=
 I.write (x:=a) (e:=a) mu (.inl rfl) (λb q hb z=>(hs.2 b hb).trans z) he new
theorem WG(z:kvs.length<=af)(hd:(a == ik)=false)(rel:KV kvs vs)(dd:h'.DictOf (yE P w) a vs):ObjOk P w H' h' a (.dK kvs):=⟨z,hd,vs,rel,dd⟩
theorem WM(hu:A.units+1<cLine)(I:Inv X pZ σ H s)(g:DPut H a y v H')(ry:RelV y u)(rv:RelV v r)(h:∀s',Inv X pZ σ H' s'->Q () s'):wpAny (model X.prog X.w) A (setItem (.ref a) u r) Q E s:=by
 rcases g with⟨kvs,k,e,ey,l,eH⟩|⟨kvs,k,b,e,ey,eb,l,eH⟩
 ·subst ey eH;obtain⟨z,hd,vs,rel,dd⟩:=zN0 I.hok e;have hz:vs.length<=af:=by rw[<-rel.length];exact z
  have hl:(d9 kvs k v).length<=af:=by have:=bL kvs k v;omega
  refine wpAny_setItem_pairs (hsz:=hz) (Q1 ry) dd λh' dd' hs=>h _ ?_
  have he:∃q,h'.get? a=some q:=let ⟨q,_,_,hq,_⟩:=dd';⟨q,hq⟩
  exact Z0 I (by rw[e];exact True.intro) hs he (WG hl hd (rel.put k rv) dd')
 ·subst ey eH;cases (show u=Value.ref b from ry);obtain⟨z,hd,xs,rel,dd⟩:=zPX I.hok e;have hz:xs.length<=af:=by rw[<-qo rel];exact z
  have hl:(d9 kvs k v).length<=af:=by have:=bL kvs k v;omega
  refine wpAny_setItem_heap (hsz:=hz) (tupleKind_room_in1 hu) (zBK I.hok eb) dd λh' dd' hs=>h _ ?_
  obtain⟨q,es,ep,hq,h2,h3,h4,_,h5⟩:=dd';refine Z0 I (by rw[e];exact True.intro) hs ⟨q,hq⟩ ⟨hl,hd,_,(rel.put k eb rv).keeps λc ys ec=>?_,q,es,ep,hq,h2,h3,h4,h5⟩;rw[zI (zIZ ec e (λz=>nomatch z))];exact ec
theorem zP5(I:Inv X pZ σ H s)(e:H a=some (.dK kvs))(ry:RelV (kV k) u)(l:W3 kvs k=some v)(hm:more=[]\/∃x,more=[x])(h:∀w' s',Inv X pZ σ (upd H a (.dK (ZV kvs k))) s'->RelV v w'->Q w' s'):wpAny (model X.prog X.w) A (call (.builtin "dict.pop") (.ref a::u::more)) Q E s:=by
 obtain⟨z,hd,vs,rel,dd⟩:=zN0 I.hok e;obtain⟨w',hw,rw'⟩:=RelO.some_of (v:=v) (o:=valueAt vs k) (by rw[<-l];exact rel.val k);have hp:(keyPart u).isSome=true:=by
  cases k with
  |inl i=>obtain⟨t,q⟩:=(show ∃t,u=Value.int i t from ry);subst q;rfl
  |inr x=>obtain⟨t,q⟩:=(show ∃t,u=Value.str x t from ry);subst q;rfl
 have ha:argsOk "dict.pop" ⟨.ref a::u::more,[]⟩:=by
  rcases hm with q|⟨x,q⟩
  ·subst q;exact PySem.F.args_dict_pop_2 _ _
  ·subst q;exact PySem.F.args_dict_pop_3 _ _ _
 refine call_meetsIn va dd.typeIs PySem.F.entry_dict_pop ha (meets_dict_pop_there (yE X.prog X.w) a (Q1 ry) more hm hp)
  ⟨vs,w',dd,by rw[<-rel.length];exact z,hw,λh' dd' hs=>h w' _ ?_ rw'⟩
 have he:∃q,h'.get? a=some q:=let ⟨q,_,_,hq,_⟩:=dd';⟨q,hq⟩
 exact Z0 I (by rw[e];exact True.intro) hs he (WG (bv (zB2 kvs k) z) hd (rel.drop k) dd')
def zQC(i:Expr):Prop:=∀ov iv,subscripted i false ov iv=operate [ov,iv] (getItem ov iv)
theorem zDZ{id:String}(hl:typeLookup (.type T) "__getitem__" = pure (some (.builtin id)))(hs:zQC slice)(h:wpAny (model prog w) A (eval value env) (λo s₁=>wpAny (model prog w) A (eval slice env) (λi s₂=>s₂.TypeIs o T/\wpAny (model prog w) A (getItem o i) Q E s₂) E s₁) E s):wpAny (model prog w) A (eval (.Subscript value slice pos) env) Q E s:=by
 refine rq (gv h (λo s₁ h₁=>gv h₁ (λi s₂ h₂=>?_) λ_ _ x=>x) λ_ _ x=>x);obtain⟨hT,h₂⟩:=h₂;unfold subscriptTail;refine ac ?_;rw[getitemInPython_of_ne hT.not_modules];refine ac (ii hT hl ?_);have fin:wpAny (model prog w) A (subscripted slice false o i) (λr s₃=>wpAny (model prog w) A (letTemporaryGo value o r >>= λ_=>pure r) Q E s₃) E s₂:=by
  rw[hs o i];exact wpAny_operating (gv h₂ (λr s₃ h₃=>ac (wpAny_letTemporaryGo (ah h₃))) λ_ _ x=>x)
 first
  |exact ah (ac fin)
  |exact ac (ah (ac fin))
  |exact ac fin
theorem oA(I:Inv X pZ σ H s)(g:zQW H a y o):s.TypeIs (.ref a) "dict" := by
 rcases g with⟨kvs,k,e,_,_⟩|⟨kvs,k,b,e,_,_,_⟩
 ·obtain⟨_,_,vs,_,dd⟩:=ZW I.hok e;exact dd.typeIs
 ·obtain⟨_,_,xs,_,dd⟩:=zHE I.hok e;exact dd.typeIs
noncomputable def zOQ(td ty:TE):TE:=λσ H Q=>td σ H λx H1=>ty σ H1 λy H2=>∃a v,x=.ref a/\zQW H2 a y (some v)/\Q v H2
noncomputable def zO1(td ty tv:TE):TS:=λD σ H=>tv σ H λv H1=>td σ H1 λx H2=>ty σ H2 λy H3=>∃a H4,x=.ref a/\DPut H3 a y v H4/\D.nx σ H4
theorem QP(hu:X.A.units+1<cLine)(ho:PE X o td)(hi:PE X i ty)(hs:zQC i):PE X (.Subscript o i pos) (zOQ td ty):=by
 intro pZ s σ H Q I h;refine zDZ PySem.F.slot_dict_getitem.lookup hs (thn (ho pZ s σ H _ I h) λu s1 ⟨x,H1,I1,rx,q1⟩=>thn (hi pZ s1 σ H1 _ I1 q1) λiv s2 ⟨y,H2,I2,ry,a,v,ex,g,q2⟩=>?_);subst ex;obtain rfl:u=Value.ref a:=rx;exact⟨oA I2 g,WN hu I2 g ry λw' s3 I3 rw'=>⟨v,H2,I3,rw',q2⟩⟩
theorem zEM(hu:X.A.units+1<cLine)(ho:PE X o td)(hi:PE X i ty)(hv:PE X value tv)(hs:gx value (some (.Subscript o i pos')) pos.line X.env=pure false):PS X (.Assign [.Subscript o i pos'] value pos) (zO1 td ty tv):=by
 intro pZ s σ H D I h;refine wpAny_Assign_Subscript (thn (hv pZ s σ H _ I h) λr s1 ⟨v,H1,I1,rv,q1⟩=>thn (ho pZ s1 σ H1 _ I1 q1) λu s2 ⟨x,H2,I2,rx,q2⟩=>thn (hi pZ s2 σ H2 _ I2 q2) λiv s3 ⟨y,H3,I3,ry,a,H4,ex,g,q3⟩=>?_) hs;subst ex;obtain rfl:u=Value.ref a:=rx;exact WM hu I3 g ry rv λs4 I4=>⟨σ,H4,I4,q3⟩
theorem zB4(h:Heap)(hb:ik<h.objs.size):ObjOk P w H (h.push { cls:=.type "dict",data:=.dict #[] }) h.objs.size (.dK []):=
 ⟨cg _,beq_eq_false_iff_ne.mpr (lm (bq hb)),[],.nil,Heap.DictOf.new h⟩
def zJV:TE:=λ_ H Q=>∀p,H p=none->Q (.ref p) (upd H p (.dK []))
theorem zAV:PE X (.Dict [] [] pos) zJV:=λpZ s σ H Q I h=>
 wpAny_Dict_empty ⟨.ref s.heap.objs.size,_,I.laid (a:=s.heap.objs.size) (o:=.dK []) (t':=s.toks) (λ_ _ q=>al _ q) (ae _) (zB4 s.heap I.big),rfl,h _ (I.hok.fresh (ae _))⟩
structure M1(X:Cx)(o:Expr)(m:Str)(apos:Pos)(e:Expr)(cpos:Pos):Prop where
 base:cb o m X.env (eval o X.env)=eval o X.env
 few:((dq cpos (ag [e] X.env)).all (λx=>!x.1) && (jd cpos (fu [] X.env)).all (λx=>x.1.isSome)
  && decide (([e]:List Expr).length+([]:List Keyword).length+(if ([]:List Keyword).isEmpty then 0 else 1)<30))=true
 line:(apos.endLine == cpos.line)=true
 trees:dq cpos (ag [e] X.env)=[(false,eval e X.env)]
def IsD(H:Hp)(a:Addr):Prop:=(∃kvs,Rd H a (.dK kvs))\/∃kvs,Rd H a (.dT kvs)
theorem zL3(I:Inv X pZ σ H s)(d:IsD H a):s.TypeIs (.ref a) "dict" /\ (∀b,Value.ref a=.ref b->∃ob,s.heap.get? b=some ob/\ob.dict=none)/\(a == ik)=false:=by
 rcases d with⟨kvs,e⟩|⟨kvs,e⟩
 ·obtain⟨_,hd,vs,_,dd⟩:=ZW I.hok e;refine⟨dd.typeIs,λb q=>?_,hd⟩;cases q;obtain⟨ob,_,_,h1,h2,_⟩:=dd;exact⟨ob,h1,h2.2.1⟩
 ·obtain⟨_,hd,xs,_,dd⟩:=zHE I.hok e;refine⟨dd.typeIs,λb q=>?_,hd⟩;cases q;obtain⟨ob,_,_,h1,h2,_⟩:=dd;exact⟨ob,h1,h2.2.1⟩
def zJU(td ty:TE):TE:=λσ H Q=>td σ H λx H1=>∃a,x=.ref a/\IsD H1 a/\ty σ H1 λy H2=>∃kvs k v,H2 a=some (.dK kvs)/\y=kV k/\W3 kvs k=some v/\Q v (upd H2 a (.dK (ZV kvs k)))
theorem zAU(ho:PE X o td)(he:PE X e ty)(m:M1 X o "pop" apos e cpos):PE X (.Call (.Attribute o "pop" apos) [e] [] cpos) (zJU td ty):=by
 intro pZ s σ H Q I h;refine wpAny_Call_method m.base m.few m.line tw va PySem.F.type_dict_pop (thn (ho pZ s σ H _ I h) λu s1 ⟨x,H1,I1,rx,a,ex,d,q1⟩=>?_);subst ex;obtain rfl:u=Value.ref a:=rx;obtain⟨t1,t2,_⟩:=zL3 I1 d;refine⟨t1,t2,?_⟩;rw[m.trees];refine kt rfl (qe (kg (thn (he pZ s1 σ H1 _ I1 q1) λiv s2 ⟨y,H2,I2,ry,kvs,k,v,ea,ey,l,q2⟩=>mz ?_)));subst ey;exact zP5 I2 ea ry l (.inl rfl) λw' s3 I3 rw'=>⟨v,_,I3,rw',q2⟩
theorem zB9(I:Inv X pZ σ H s)(e:Rd H a (.dK kvs))(h:∀p s',H p=none->Inv X pZ σ (upd H p (.dK kvs)) s'->Q (.ref p) s'):wpAny (model X.prog X.w) A (call (.type "dict") [.ref a]) Q E s:=by
 obtain⟨z,hd,vs,rel,dd⟩:=ZW I.hok e;refine kt_call_dict hd dd (by rw[<-rel.length];exact z) λh' dd' hs=>?_
 refine h _ _ (I.hok.fresh (ae _)) (I.laid (a:=s.heap.objs.size) (o:=.dK kvs) (t':=s.toks) (λb q hq=>?_) (ae _) (WG z (beq_eq_false_iff_ne.mpr (lm (bq I.big))) rel dd'));exact(hs.2 b (bq (au hq))).trans (al _ hq)
end L2
namespace DD
open PySem PySem.Spec PyProof.Rows L2
def zNU:D->Option Key
 |.int i=>some (.inl i)
 |.str s=>some (.inr ⟨s.toArray⟩)
 |_=>none
theorem nT{K:Fg}{O:Addr->Prop}{H:Hp}{d:D}{v:V}{k:Key}(e:zNU d=some k)(h:Is K O H d v):v=kV k:=by
 cases d<;>first|(cases e;done)|skip
 ·cases e;rw[Is.int_iff] at h;exact h
 ·cases e;rw[Is.str_iff] at h;exact h
def jL(ks:List Key)(l:List D)(k:Key)(d:D):List Key×List D:=if (ks.any λj=>decide (j=k))=true then (ks,List.zipWith (λj e=>if j=k then d else e) ks l) else (ks++[k],l++[d])
section
variable{K:Fg}{O0:Addr->Prop}{H H1 H':Hp}{r:En}{σ:St}{i:Nat}{d:D}{v:V}{a:Addr}
theorem tI{O:Addr->Prop}{k:Key}(hd:Is K O H d v):∀{kvs:List (Key×V)} {l:List D},IsL K O H l (kvs.map (·.2))->IsL K O H (List.zipWith (λj e=>if j=k then d else e) (kvs.map (·.1)) l) ((kvs.map λkv=>if kv.1=k then (kv.1,v) else kv).map (·.2))
 |[],[],_=>.nil
 |[],d'::l,h=>by unfold IsL at h;obtain⟨_,_,e,_⟩:=h;cases e
 |p::kvs,[],h=>by unfold IsL at h;cases h
 |p::kvs,d'::l,h=>by
  unfold IsL at h;obtain⟨x,y,e,h1,h2⟩:=h;rw[aq] at e;cases e;rw[aq,aq,aq,List.zipWith_cons_cons];refine .cons ?_ (tI hd h2);by_cases q:p.1=k
  ·rw[if_pos q,if_pos q];exact hd
  ·rw[if_neg q,if_neg q];exact h1
theorem QL{O:Addr->Prop}{k:Key}{kvs:List (Key×V)}{ks:List Key}{l:List D}(hk:kvs.map (·.1)=ks)(hl:IsL K O H l (kvs.map (·.2)))(hd:Is K O H d v):(d9 kvs k v).map (·.1)=(jL ks l k d).1/\IsL K O H (jL ks l k d).2 ((d9 kvs k v).map (·.2)):=by
 subst hk;have ea:(kvs.any λkv=>decide (kv.1=k))=((kvs.map (·.1)).any λj=>decide (j=k)):=by rw[List.any_map];rfl
 unfold d9 jL;rw[ea];by_cases q:((kvs.map (·.1)).any λj=>decide (j=k))=true
 ·rw[if_pos q,if_pos q];refine⟨?_,tI hd hl⟩;rw[gm];refine qh λx _=>?_
  show(if x.1=k then (x.1,v) else x).1=x.1
  split<;>rfl
 ·rw[if_neg q,if_neg q,cy,cy];exact⟨rfl,hl.append (.cons hd .nil)⟩
theorem R.setd{ks:List Key}{l:List D}{kvs:List (Key×V)}{p:Addr}(h:R K O0 H r σ)(s:Same H H1)(n:H p=none)(e:H1 p=some (.dK kvs))(hk:kvs.map (·.1)=ks)(hl:IsL K (λb=>Ow O0 r σ b\/b=p) H1 l (kvs.map (·.2)))(hi:i<r.length)(np:∀l,(r[i]?).bind Sl.pk=none/\r[i]?≠some (.z l)):R K O0 H1 (r.set i (.d false ks l)) (σ.set i (some (.ref p)))/\Kp H r σ H1 (r.set i (.d false ks l)) (σ.set i (some (.ref p))):=by
 have his:i<σ.length:=by rw[<-h.len];exact hi
 have ow:∀{q:Sl->Option (List D)} a,AtS q (r.set i (.d false ks l)) (σ.set i (some (.ref p))) a->AtS q r σ a\/a=p:=λ{q} a z=>by
  obtain⟨j,m,e1,q1⟩:=z;by_cases hj:i=j
  ·subst hj;rw[zH his] at q1;cases q1;exact .inr rfl
  ·rw[zE hj] at e1 q1;exact .inl ⟨j,m,e1,q1⟩
 have sub:∀a,Ow O0 (r.set i (.d false ks l)) (σ.set i (some (.ref p))) a->H a≠none->Ow O0 r σ a:=λa z nn=>z.elim .inl λz=>(ow a z).elim .inr λz=>by subst z;exact absurd n nn
 have olp:j9 (λb=>Ow O0 r σ b\/b=p) H1:=λb z=>z.elim (λz=>(h.same s).ol b z) λz=>by subst z;exact⟨.dK kvs,e,trivial⟩
 refine⟨⟨by simp[h.len],λj d' e1=>?_,λj m e1=>?_,λj k a l1 m e1 e2 q1 q2=>?_,(h.same s).o0,λj m a e1 q=>?_,λj m a e1 q=>?_,λj f ks' m e1=>?_⟩,⟨λb o e1 _=>s b o e1,λb e1=>s.free e1,λb o e1 mb=>⟨o,s _ _ e1,mb⟩,λb z=>(ow b z).imp id λz=>by subst z;exact n,λb z=>(ow b z).imp id λz=>by subst z;exact n,λj m e1=>?_,λj m e1=>?_⟩⟩
 ·have hj:i≠j:=λz=>by subst z;rw[zH hi] at e1;cases e1
  rw[zE hj] at e1;obtain⟨u,e2,q⟩:=h.val j d' e1;exact⟨u,by rw[zE hj];exact e2,Is.mono (Same.kp s _) h.ol sub _ _ q⟩
 ·have hj:i≠j:=λz=>by subst z;rw[zH hi] at e1;cases e1
  rw[zE hj] at e1;obtain⟨a,ys,e2,e3,q⟩:=h.own j m e1;exact⟨a,ys,by rw[zE hj];exact e2,s _ _ e3,IsL.mono (Same.kp s _) h.ol sub _ _ q⟩
 ·have out:∀(j:Nat) (m:List D) (a:Addr),i≠j->((r.set i (.d false ks l))[j]?).bind Sl.own=some m->(σ.set i (some (.ref p)))[j]?=some (some (.ref a))->a≠p:=λj m a hj e1 q1 z=>by
   rw[zE hj] at e1 q1;obtain⟨b,ys,e2,e3,_⟩:=h.obj e1;rw[q1] at e2;cases e2;subst z;rw[n] at e3;cases e3
  by_cases hj:i=j
  ·by_cases hk:i=k
   ·exact hj.symm.trans hk
   ·subst hj;rw[zH his] at q1;cases q1;exact absurd rfl (out k m p hk e2 q2)
  ·by_cases hk:i=k
   ·subst hk;rw[zH his] at q2;cases q2;exact absurd rfl (out j l1 p hj e1 q1)
   ·rw[zE hj] at e1 q1;rw[zE hk] at e2 q2;exact h.apart j k a l1 m e1 e2 q1 q2
 ·by_cases hj:i=j
  ·subst hj;rw[zH his] at q;cases q;exact λz=>by obtain⟨ys,e3,_⟩:=h.o0 p z;rw[n] at e3;cases e3
  ·rw[zE hj] at e1 q;exact h.loc j m a e1 q
 ·have hj:i≠j:=λz=>by subst z;rw[zH hi] at e1;cases e1
  rw[zE hj] at e1 q;exact h.par j m a e1 q
 ·by_cases hj:i=j
  ·subst hj;rw[zH hi] at e1;cases e1;exact⟨p,kvs,zH his,e,hk,IsL.mono (Same.kp (Same.refl H1) _) olp (λa z _=>z.elim (λz=>.inl (.inl z)) λz=>(ow a z).imp .inr id) _ _ hl⟩
  ·rw[zE hj] at e1;obtain⟨a,kv2,e2,e3,e4,q⟩:=h.dct j f ks' m e1;exact⟨a,kv2,by rw[zE hj];exact e2,s _ _ e3,e4,IsL.mono (Same.kp s _) h.ol sub _ _ q⟩
 ·have hj:i≠j:=λz=>by subst z;rw[(np []).1] at e1;cases e1
  exact⟨by rw[zE hj];exact e1,zE hj⟩
 ·have hj:i≠j:=λz=>by subst z;exact(np m).2 e1
  exact⟨by rw[zE hj];exact e1,zE hj⟩
theorem pk_d{f:Bool}{ks ks':List Key}{l l':List D}:(Sl.d f ks l).pk=(Sl.d f ks' l').pk:=by cases f<;>rfl
theorem R.putd{K:Fg}{O0:Addr->Prop}{H H':Hp}{r:En}{σ:St}{c:Addr}{fb:Bool}{ks ks':List Key}{l l':List D}{kvs':List (Key×V)}(h:R K O0 H r σ)(ei:r[i]?=some (.d fb ks l))(ha:σ[i]?=some (some (.ref c)))(kp:∀b o,b≠c->H b=some o->H' b=some o)(lv:∀b,b≠c->H' b=none->H b=none)(e':H' c=some (.dK kvs'))(hk:kvs'.map (·.1)=ks')(il:IsL K (Ow O0 r σ) H' l' (kvs'.map (·.2))):R K O0 H' (r.set i (.d fb ks' l')) σ/\Kp H r σ H' (r.set i (.d fb ks' l')) σ:=by
 have hi:i<r.length:=(av.mp ei).1;have own_i:w8 r σ c:=⟨i,l,by rw[ei];rfl,ha⟩;have mut_i:MutAt r σ c:=⟨i,l,by rw[ei];rfl,ha⟩;have atO:∀b,w8 (r.set i (.d fb ks' l')) σ b->w8 r σ b:=λb ⟨j,m,e1,q1⟩=>by
  by_cases hj:i=j
  ·subst hj;rw[ha] at q1;cases q1;exact own_i
  ·rw[zE hj] at e1;exact⟨j,m,e1,q1⟩
 have atM:∀b,MutAt (r.set i (.d fb ks' l')) σ b->MutAt r σ b:=λb ⟨j,m,e1,q1⟩=>by
  by_cases hj:i=j
  ·subst hj;rw[ha] at q1;cases q1;exact mut_i
  ·rw[zE hj] at e1;exact⟨j,m,e1,q1⟩
 have sub:∀{H2:Hp} b,Ow O0 (r.set i (.d fb ks' l')) σ b->H2 b≠none->Ow O0 r σ b:=λb z _=>z.imp id (atO b)
 have keep:oR (Ow O0 r σ) H H':=λb o e1 n=>kp b o (λz=>n (by subst z;exact .inr own_i)) e1
 have lst:∀b o,H b=some o->Mb o->∃o',H' b=some o'/\Mb o':=λb o e1 mb=>by
  by_cases hb:b=c
  ·subst hb;exact⟨_,e',trivial⟩
  ·exact⟨o,kp b _ hb e1,mb⟩
 have ol':j9 (Ow O0 r σ) H':=λb z=>by obtain⟨o,q,mb⟩:=h.ol b z;exact lst b o q mb
 have other:∀(j:Nat) (m:List D) (b:Addr),i≠j->(r[j]?).bind Sl.own=some m->σ[j]?=some (some (.ref b))->b≠c:=λj m b hj e1 q1 z=>by
  subst z;exact hj (h.apart i j b l m (by rw[ei];rfl) e1 ha q1)
 refine⟨⟨by simp[h.len],λj d' e1=>?_,λj m e1=>?_,λj k b m n e1 e2 q1 q2=>?_,λb z=>?_,λj m b e1 q1=>?_,λj m b e1 q1=>?_,λj f2 ks2 m e1=>?_⟩,⟨λb o e1 n=>kp b o (λz=>n (by subst z;exact mut_i)) e1,λb e1=>?_,lst,λb z=>.inl (atO b z),λb z=>.inl (atM b z),λj m e1=>?_,λj m e1=>?_⟩⟩
 ·have hj:i≠j:=λz=>by subst z;rw[zH hi] at e1;cases e1
  rw[zE hj] at e1;obtain⟨v,q1,q2⟩:=h.val j d' e1;exact⟨v,q1,Is.mono keep h.ol sub _ _ q2⟩
 ·have hj:i≠j:=λz=>by subst z;rw[zH hi] at e1;cases e1
  rw[zE hj] at e1;obtain⟨b,ys,q1,q2,q3⟩:=h.own j m e1;exact⟨b,ys,q1,kp b _ (other j m b hj (j4 e1) q1) q2,IsL.mono keep h.ol sub _ _ q3⟩
 ·have get:∀(j:Nat) (m:List D),((r.set i (.d fb ks' l'))[j]?).bind Sl.own=some m->∃m',(r[j]?).bind Sl.own=some m':=λj m e1=>by
   by_cases hj:i=j
   ·subst hj;exact⟨l,by rw[ei];rfl⟩
   ·rw[zE hj] at e1;exact⟨m,e1⟩
  obtain⟨m',z1⟩:=get j m e1;obtain⟨n',z2⟩:=get k n e2;exact h.apart j k b m' n' z1 z2 q1 q2
 ·obtain⟨o,q,mb⟩:=h.o0 b z;exact lst b o q mb
 ·by_cases hj:i=j
  ·subst hj;rw[zH hi] at e1;rcases e1 with e1|e1|⟨_,e1⟩<;>cases e1
   exact h.loc i l b (.inr (.inr ⟨ks,ei⟩)) q1
  ·rw[zE hj] at e1;exact h.loc j m b e1 q1
 ·by_cases hj:i=j
  ·subst hj;rw[zH hi] at e1;exact h.par i m b (by rw[ei];exact pk_d.trans e1) q1
  ·rw[zE hj] at e1;exact h.par j m b e1 q1
 ·by_cases hj:i=j
  ·subst hj;rw[zH hi] at e1;cases e1;exact⟨c,kvs',ha,e',hk,IsL.mono (Same.kp (Same.refl H') _) ol' sub _ _ il⟩
  ·rw[zE hj] at e1;obtain⟨b,kv2,q1,q2,q4,q3⟩:=h.dct j f2 ks2 m e1;exact⟨b,kv2,q1,kp b _ (other j m b hj (by rw[e1];rfl) q1) q2,q4,IsL.mono keep h.ol sub _ _ q3⟩
 ·by_cases hb:b=c
  ·subst hb;rw[e'] at e1;cases e1
  ·exact lv b hb e1
 ·by_cases hj:i=j
  ·subst hj;rw[ei] at e1;exact⟨by rw[zH hi];exact pk_d.trans e1,rfl⟩
  ·exact⟨by rw[zE hj];exact e1,rfl⟩
 ·have hj:i≠j:=λz=>by subst z;rw[ei] at e1;cases e1
  exact⟨by rw[zE hj];exact e1,rfl⟩
theorem R.updd{f:Bool}{ks ks':List Key}{l l':List D}{kvs kvs':List (Key×V)}(h:R K O0 H r σ)(ei:r[i]?=some (.d f ks l))(ha:σ[i]?=some (some (.ref a)))(hx:H a=some (.dK kvs))(hk:kvs'.map (·.1)=ks')(il:IsL K (Ow O0 r σ) H l' (kvs'.map (·.2))):R K O0 (L2.upd H a (.dK kvs')) (r.set i (.d f ks' l')) σ/\Kp H r σ (L2.upd H a (.dK kvs')) (r.set i (.d f ks' l')) σ:=by
 have own_a:Ow O0 r σ a:=.inr ⟨i,l,by rw[ei];rfl,ha⟩;exact h.putd ei ha (λb o hb e1=>by rw[zI hb];exact e1) (λb hb e1=>by rw[zI hb] at e1;exact e1) zJ hk (IsL.mono (λb o e1 n=>by rw[zI (λz=>n (by subst z;exact own_a))];exact e1) h.ol (λ_ z _=>z) _ _ il)
end
def zQL(i:Nat)(ks:List Key)(l:List D)(r:En):Option En:=match r[i]? with
 |some (.p _)=>none
 |some (.z _)=>none
 |some (.d true _ _)=>none
 |some _=>some (r.set i (.d false ks l))
 |none=>none
theorem YY{i:Nat}{r r':En}{ks:List Key}{l:List D}(e:zQL i ks l r=some r'):i<r.length/\(∀l,(r[i]?).bind Sl.pk=none/\r[i]?≠some (.z l))/\r'=r.set i (.d false ks l):=by
 unfold zQL at e;cases e1:r[i]? with
 |none=>rw[e1] at e;cases e
 |some x=>
  have hi:i<r.length:=(av.mp e1).1;rw[e1] at e;cases x with
  |d f ks l=>cases f<;>first|(cases e;done)|(cases e;exact⟨hi,λl=>⟨rfl,(λz=>by cases z)⟩,rfl⟩)
  |_=>first|(cases e;done)|(cases e;exact⟨hi,λl=>⟨rfl,(λz=>by cases z)⟩,rfl⟩)
def tG(i:Nat)(fk fe:ME):MS:=λr=>(fe r).bind λd=>(fk r).bind λkd=>(zNU kd).bind λk=>match r[i]? with
 |some (.d f ks l)=>if ks.length<af then some (.nx (r.set i (.d f (jL ks l k d).1 (jL ks l k d).2))) else none
 |_=>none
section
variable{X:Cx}{a k e:Expr}{f g:ME}{pos ps pn p:Pos}{x:Str}
theorem zHJ(i:Nat)(hu:X.A.units+1<cLine)(h:PE X (.Name x pn) (vG i))(hk:DE X k g)(he:DE X a f)(hs:gx a (some (.Subscript (.Name x pn) k ps)) pos.line X.env=pure false:=by rfl):DS X (.Assign [.Subscript (.Name x pn) k ps] a pos) (tG i g f):=by
 refine PS.conseq (zEM hu h hk he hs) λDn σ H hq=>?_
 obtain⟨O0,r,fl,hR,e,q⟩:=hq;obtain⟨d,e1,e⟩:=bnS e;obtain⟨kd,e2,e⟩:=bnS e;obtain⟨key,e3,e⟩:=bnS e;cases er:r[i]? with
 |none=>rw[er] at e;cases e
 |some y=>
  rw[er] at e;cases y<;>first|(cases e;done)|skip
  rename_i fb ks l;simp only at e;split at e
  ·rename_i hlen;cases e;obtain⟨b,kvs,q1,q2,q4,q3⟩:=hR.dct i fb ks l er;refine⟨O0,r,d,hR,e1,λv H1 s1 i1=>⟨.ref b,q1,O0,r,kd,hR.same s1,e2,λu H2 s2 i2=>?_⟩⟩;have hu2:=nT e3 i2;subst hu2;have R2:=(hR.same s1).same s2;have q3':=(q3.same s1 hR.ol).same s2 (hR.same s1).ol;have i1':Is X.K (Ow O0 r σ) H2 d v:=Is.mono (Same.kp s2 _) (hR.same s1).ol (λ_ z _=>z) _ _ i1;obtain⟨p1,p2⟩:=QL (k:=key) q4 q3' i1';have q2':=s2 _ _ (s1 _ _ q2);obtain⟨R3,k3⟩:=R2.updd er q1 q2' p1 p2;have hl:kvs.length<af:=by rw[<-q4,ak] at hlen;exact hlen
   exact⟨b,_,rfl,DPut.k q2' hl,q σ _ R3 ((Kp.of_same r σ (s1.trans s2)).trans k3)⟩
  ·cases e
theorem zL2{P:Program}{w:World}{k:Key}{u:Value}(h:(yE P w).is k u=true):RelV (kV k) u:=by
 rcases yJ h with⟨i,t,rfl,rfl⟩|⟨y,t,rfl,rfl⟩
 ·exact⟨t,rfl⟩
 ·exact⟨t,rfl⟩
theorem W8:∀{xs:List V} {us:List Value},xs.length=us.length->(∀(j:Nat) (u:Value),us[j]?=some u->∃y,xs[j]?=some y/\RelV y u)->Vals xs us
 |[],[],_,_=>.nil
 |[],_::_,h,_=>by cases h
 |_::_,[],h,_=>by cases h
 |y::xs,u::us,hl,h=>by
  obtain⟨z,e,q⟩:=h 0 u rfl;cases e;exact .cons q (W8 (by simpa using hl) λj w ew=>h (j+1) w (by simpa using ew))
end
theorem mY(h:Q 4238894112 { s with toks:=s.toks+1 }):wpAny (model prog w) A (pyHash .none) Q E s:=by
 unfold pyHash pyHashByItsType;have hv:[Value.none].any Value.onHeap=false:=rfl;refine ac ?_;rw[cRoomFor,if_neg (by rw[hv];exact ax)];refine ah ?_;refine ac (ii (T:="NoneType") rfl js.lookup ?_);show wpAny _ _ (if (some (Value.builtin "NoneType.__hash__") == some Value.none)=true then _ else _) Q E s;rw[if_neg (by decide)];refine ac (ii (T:="NoneType") rfl js.lookup ?_);show wpAny _ _ (callSpecialIfBoundUnlessNone? .none "__hash__" _ >>= _) Q E s;refine ac (wpAny_callSpecialIfBoundUnlessNone?_slot (T:="NoneType") rfl js
  (ge (T:="NoneType") js rfl PySem.F.entry_NoneType_hash
   (show wpAny _ _ (do ret (<- mkInt 4238894112)) _ _ s from wpAny_ret_mkInt ?_) (PySem.F.args_NoneType_hash_1 _)))
 exact ah h
def X1:Option Key->Value->Bool
 |none,.none=>true
 |none,_=>false
 |some k,v=>gU k v
theorem yU(h:X1 k v=true):(k=none/\v=.none)\/∃j,k=some j/\gU j v=true:=by
 cases k with
 |none=>cases v<;>first|exact .inl ⟨rfl,rfl⟩|cases h
 |some j=>exact .inr ⟨j,rfl,h⟩
theorem dL:gU k .none=false:=by cases k<;>rfl
theorem zG0(h:Q true s):wpAny (model prog w) A (eqBool .none .none) Q E s:=by
 show wpAny (model prog w) A (do rule "eq-bool.same-object";pure true) Q E s;exact ac (nw (ah h))
def QR(prog:Program)(w:World):PySem.KeyKind prog w (Option Key) where
 is:=X1
 hash:=λk=>match k with
  |none=>4238894112
  |some k=>zRJ w k
 inj:=λv a b ha hb=>by
  rcases yU ha with⟨rfl,rfl⟩|⟨i,rfl,h1⟩
  ·rcases yU hb with⟨rfl,_⟩|⟨j,rfl,h2⟩
   ·rfl
   ·rw[dL] at h2;cases h2
  ·rcases yU hb with⟨rfl,rfl⟩|⟨j,rfl,h2⟩
   ·rw[dL] at h1;cases h1
   ·rw[(yE prog w).inj v i j h1 h2]
 byValue:=λk v h=>by
  rcases yU h with⟨rfl,rfl⟩|⟨i,rfl,h1⟩
  ·rfl
  ·exact(yE prog w).byValue i v h1
 pyHash:=λhv h=>by
  rcases yU hv with⟨rfl,rfl⟩|⟨i,rfl,h1⟩
  ·exact mY h
  ·exact(yE prog w).pyHash h1 h
 eqBool:=λ{A E s a b u v Q} hu hv h=>by
  rcases yU hu with⟨rfl,rfl⟩|⟨i,rfl,h1⟩
  ·rcases yU hv with⟨rfl,rfl⟩|⟨j,rfl,h2⟩
   ·exact zG0 (by simpa using h)
   ·have h':Q false s:=by rw[decide_eq_false (by intro z;cases z)] at h;exact h
    rcases yJ h2 with⟨n,t,rfl,rfl⟩|⟨y,t,rfl,rfl⟩
    ·exact wm n t _ _ _ _ h'
    ·exact wl y t _ _ _ _ h'
  ·rcases yU hv with⟨rfl,rfl⟩|⟨j,rfl,h2⟩
   ·have h':Q false s:=by rw[decide_eq_false (by intro z;cases z)] at h;exact h
    rcases yJ h1 with⟨n,t,rfl,rfl⟩|⟨y,t,rfl,rfl⟩
    ·exact wo n t _ _ _ _ h'
    ·exact wj y t _ _ _ _ h'
   ·refine(yE prog w).eqBool h1 h2 ?_;have e:decide (some i=some j)=decide (i=j):=by
     by_cases q:i=j
     ·rw[decide_eq_true q,decide_eq_true (by rw[q])]
     ·rw[decide_eq_false q,decide_eq_false (λz=>q (bw z))]
    rw[e] at h;exact h
 «strs»:=λk x t v h=>by
  rcases yU h with⟨rfl,e⟩|⟨i,rfl,h1⟩
  ·cases e
  ·exact(yE prog w).strs i x t v h1
def vO:Option Key->V
 |none=>.non
 |some k=>kV k
theorem zM3(r:RelV (vO k) u):(QR P w).is k u=true:=by
 cases k with
 |none=>cases (show u=Value.none from r);rfl
 |some k=>exact Q1 (P:=P) (w:=w) r
def valO(kvs:List (Key×V)):Option Key->Option V
 |none=>none
 |some k=>W3 kvs k
theorem zRH{P:Program}{w:World}{h:Heap}{a:Addr}{vs:List (Key×Value)}(d:h.DictOf (yE P w) a vs):h.MapOf (QR P w) a (λk=>match k with|none=>none|some k=>valueAt vs k):=by
 obtain⟨o,es,ep,ho,hc,hdat,hk,hf⟩:=d.mapOf;refine⟨o,es,ep,ho,hc,hdat,λe he=>?_,λk=>?_⟩
 ·obtain⟨j,h1,h2⟩:=hk e he;exact⟨some j,h1,h2⟩
 ·cases k with
  |some k=>exact hf k
  |none=>
   have nof:∀e∈es,X1 none e.key=false:=λe he=>by
    obtain⟨j,h1,_⟩:=hk e he;rcases yJ (show gU j e.key=true from h1) with⟨n,t,_,q⟩|⟨y,t,_,q⟩<;>rw[q]<;>rfl
   show findBy X1 es none=none;unfold findBy;rw[Array.find?_eq_none.mpr (λe he=>by rw[nof e he];exact ax)];rfl
theorem tJ(rel:KV kvs vs)(k:Option Key):RelO (valO kvs k) (match k with|none=>none|some k=>valueAt vs k):=by
 cases k with
 |none=>exact trivial
 |some k=>exact rel.val k
theorem zRE{Q:Value->Shared->Prop}(I:Inv X pZ σ H s)(e:Rd H a (.dK kvs))(ry:RelV (vO k) u)(h:∀s',Inv X pZ σ H s'->Q (.bool (valO kvs k).isSome) s'):wpAny (model X.prog X.w) A (cz .In u (.ref a)) Q E s:=by
 obtain⟨z,hd,vs,rel,dd⟩:=ZW I.hok e;refine wpAny_in_of (zM3 ry) hd (zRH dd) ?_;rw[<-(tJ rel k).isSome_eq];exact h _ (I.tok _)
theorem zFL{Q:Value->Shared->Prop}(I:Inv X pZ σ H s)(e:Rd H a (.dK kvs))(ry:RelV (vO k) u)(h:∀s',Inv X pZ σ H s'->Q (.bool (!(valO kvs k).isSome)) s'):wpAny (model X.prog X.w) A (cz .NotIn u (.ref a)) Q E s:=by
 obtain⟨z,hd,vs,rel,dd⟩:=ZW I.hok e;refine wpAny_notIn_of (zM3 ry) hd (zRH dd) ?_;rw[<-(tJ rel k).isSome_eq];exact h _ (I.tok _)
abbrev MD:=En->Option (List Key×List D)
def lDc(K:Fg)(f:MD):TE:=λσ H Q=>∃O0 r ks l,R K O0 H r σ/\f r=some (ks,l)/\∀a kvs H',Same H H'->Rd H' a (.dK kvs)->kvs.map (·.1)=ks->IsL K (Ow O0 r σ) H' l (kvs.map (·.2))->Q (.ref a) H'
def lFd(K:Fg)(f:MD):TE:=λσ H Q=>∃O0 r ks l,R K O0 H r σ/\f r=some (ks,l)/\∀a kvs H',Same H H'->H a=none->H' a=some (.dK kvs)->kvs.map (·.1)=ks->IsL K (λb=>Ow O0 r σ b\/b=a) H' l (kvs.map (·.2))->Q (.ref a) H'
def DDc(X:Cx)(e:Expr)(f:MD):Prop:=PE X e (lDc X.K f)
def DFd(X:Cx)(e:Expr)(f:MD):Prop:=PE X e (lFd X.K f)
def dJ(f:ME):MD:=λr=>(f r).bind λd=>match d with
 |.dct ks l=>some (ks,l)
 |_=>none
def mD0:MD:=λ_=>some ([],[])
def pW(f:MD):ME:=λr=>(f r).map λq=>.dct q.1 q.2
def tE(i:Nat)(f:MD):MS:=λr=>(f r).bind λq=>(zQL i q.1 q.2 r).map .nx
def zEA(i:Nat):MS:=λr=>match r[i]? with
 |some (.d false ks l)=>some (.rg ks l r)
 |_=>none
def zRI:D->Option (Option Key)
 |.non=>some none
 |.int i=>some (some (.inl i))
 |.str s=>some (some (.inr ⟨s.toArray⟩))
 |_=>none
def yW:List Key->List D->Key->Option D
 |k'::ks,d::l,k=>if k'=k then some d else yW ks l k
 |_,_,_=>none
def zGD(ks:List Key)(l:List D):Option Key->Option D
 |none=>none
 |some k=>yW ks l k
def zGB(neg:Bool)(fk:ME)(fd:MD):MB:=λr=>(fk r).bind λkd=>(fd r).bind λq=>(zRI kd).map λk=>if neg then !(zGD q.1 q.2 k).isSome else (zGD q.1 q.2 k).isSome
def zIK(fd:MD)(fk:ME):ME:=λr=>(fd r).bind λq=>(fk r).bind λkd=>(zNU kd).bind λk=>yW q.1 q.2 k
theorem ZI{K:Fg}(e:zRI d=some k)(h:Is K O H d v):v=vO k:=by
 cases d<;>first|(cases e;done)|skip
 ·cases e;rw[Is.non_iff] at h;exact h
 ·cases e;rw[Is.int_iff] at h;exact h
 ·cases e;rw[Is.str_iff] at h;exact h
theorem uP{K:Fg}(k:Key):∀{kvs:List (Key×V)} {l:List D},IsL K O H l (kvs.map (·.2))->(∃d v,yW (kvs.map (·.1)) l k=some d/\W3 kvs k=some v/\Is K O H d v)\/(yW (kvs.map (·.1)) l k=none/\W3 kvs k=none)
 |[],[],_=>.inr ⟨rfl,rfl⟩
 |[],d'::l,h=>by unfold IsL at h;obtain⟨_,_,e,_⟩:=h;cases e
 |p::kvs,[],h=>by unfold IsL at h;cases h
 |p::kvs,d'::l,h=>by
  unfold IsL at h;obtain⟨x,y,e,h1,h2⟩:=h;rw[aq] at e;cases e;by_cases q:p.1=k
  ·exact .inl ⟨d',p.2,by rw[aq];unfold yW;rw[if_pos q],bX q,h1⟩
  ·have e1:yW ((p::kvs).map (·.1)) (d'::l) k=yW (kvs.map (·.1)) l k:=by rw[aq];show(if p.1=k then _ else _)=_;rw[if_neg q]
   rw[e1,bY q];exact uP k h2
theorem hE{K:Fg}(k:Option Key)(h:IsL K O H l (kvs.map (·.2))):(∃d v,zGD (kvs.map (·.1)) l k=some d/\valO kvs k=some v/\Is K O H d v)\/(zGD (kvs.map (·.1)) l k=none/\valO kvs k=none):=by
 cases k with
 |none=>exact .inr ⟨rfl,rfl⟩
 |some k=>exact uP k h
theorem Rd.same(s:Same H H')(h:Rd H a u):Rd H' a u:=by
 rcases h with h|⟨ob,h⟩
 ·exact .inl (s _ _ h)
 ·exact .inr ⟨ob,s _ _ h⟩
theorem zSJ(h:DE X a f):DDc X a (dJ f):=by
 refine PE.conseq h λσ H Q hq=>?_
 obtain⟨O0,r,ks,l,hR,e,q⟩:=hq;obtain⟨d,e1,e⟩:=bnS e;refine⟨O0,r,d,hR,e1,λv H1 s1 i1=>?_⟩;cases d<;>first|(cases e;done)|skip
 cases e;rw[Is.dct_iff] at i1;obtain⟨c,kvs,rfl,_,rd,ek,il⟩:=i1;exact q c kvs H1 s1 rd ek il
theorem zGX:DFd X (.Dict [] [] pos) mD0:=by
 refine PE.conseq zAV λσ H Q hq=>?_
 obtain⟨O0,r,ks,l,hR,e,q⟩:=hq;cases e;exact λp hp=>q p [] _ (zX hp) hp zJ rfl .nil
theorem gO:CallR X (.type "dict") (λxs H Q=>∃p kvs,xs=[.ref p]/\Rd H p (.dK kvs)/\∀l,H l=none->Q (.ref l) (upd H l (.dK kvs))):=by
 intro pZ s σ H xs us Q I r h;obtain⟨p,kvs,rfl,e,q⟩:=h;obtain⟨u,rfl,rx⟩:=rM r;cases rx;exact zB9 I e λl s' hl I'=>⟨.ref l,_,I',rfl,q l hl⟩
theorem zGY(hg:Gl X "dict")(hm:X.mg "dict" = none)(ha:DDc X a fd)(hs:ag [a] X.env=(false,eval a X.env)::ag [] X.env:=by rfl):DFd X (.Call (.Name "dict" p') [a] [] pos) fd:=by
 refine PE.conseq (kO gO hg hm ur (zY ha yV hs) (he:=hs)) λσ H Q hq=>?_
 obtain⟨O0,r,ks,l,hR,e,q⟩:=hq;refine⟨O0,r,ks,l,hR,e,λc kvs H1 s1 rd ek il=>⟨c,kvs,rfl,rd,λt ht=>?_⟩⟩;refine q t kvs _ (s1.trans (zX ht)) (s1.free ht) zJ ek ?_;exact IsL.mono (Same.kp (zX ht) _) (hR.same s1).ol (λb z nn=>z.elim id λz=>by subst z;exact absurd ht nn) _ _ il
theorem zI8(h:DFd X a fd):DE X a (pW fd):=by
 refine PE.conseq h λσ H Q hq=>?_
 obtain⟨O0,r,d,hR,e,q⟩:=hq;obtain⟨⟨ks,l⟩,e1,rfl⟩:=mpS e;refine⟨O0,r,ks,l,hR,e1,λc kvs H1 s1 n1 e2 ek il=>q _ H1 s1 ?_⟩;have ol:j9 (λb=>Ow O0 r σ b\/b=c) H1:=λb z=>z.elim (λz=>(hR.same s1).ol b z) λz=>by subst z;exact⟨.dK kvs,e2,trivial⟩
 rw[Is.dct_iff];exact⟨c,kvs,rfl,hR.nofresh n1,.inl e2,ek,IsL.mono (Same.kp (Same.refl H1) _) ol (λ_ z _=>.inl z) _ _ il⟩
theorem zHI(i:Nat)(he:DFd X e fd)(hN:X.N.Nodup)(hi:X.N[i]?=some nm:=by rfl)(hx:Loc X.env.scope nm:=by first|exact Or.inl rfl|exact Or.inr rfl)(hs:gx e (some (.Name nm pos')) pos.line X.env=pure false:=by rfl)(hf:X.fn nm=true\/X.env.scope.names.lookup nm=some .local:=by first|exact .inl rfl|exact .inr rfl):DS X (.Assign [.Name nm pos'] e pos) (tE i fd):=by
 refine PS.conseq (m5 hN hi hx he hs hf) λDn σ H hq=>?_
 obtain⟨O0,r,fl',hR,e,q⟩:=hq;obtain⟨⟨ks,l⟩,e1,e2⟩:=bnS e;obtain⟨r',e4,rfl⟩:=mpS e2;obtain⟨hl,np,rfl⟩:=YY e4;refine⟨O0,r,ks,l,hR,e1,λp kvs H1 s1 n1 e3 ek i1=>?_⟩;obtain⟨R1,k1⟩:=hR.setd s1 n1 e3 ek i1 hl np;exact q _ H1 R1 k1
theorem zHH(i:Nat)(h:PE X (.Name nm pos') (vG i)):DS X (.Return (some (.Name nm pos')) pos) (zEA i):=by
 refine PS.conseq (Y4 h) λDn σ H hq=>?_
 obtain⟨O0,r,fl',hR,e,q⟩:=hq;have⟨ks,l,e1,e2⟩:∃ks l,r[i]?=some (.d false ks l)/\fl'=.rg ks l r:=by
  unfold zEA at e;split at e
  ·rename_i ks l h;cases e;exact⟨ks,l,h,rfl⟩
  ·cases e
 subst e2;obtain⟨c,kvs,q1,q2,q4,q3⟩:=hR.dct i false ks l e1;refine⟨.ref c,q1,q c kvs σ H hR (Kp.refl H r σ) (.inr ⟨i,l,.inr ⟨ks,e1⟩,q1⟩) (hR.loc i l c (.inr (.inr ⟨ks,e1⟩)) q1) q2 q4 ?_⟩;exact IsL.mono (Same.kp (Same.refl H) _) hR.ol (λb z _=>z.elim .inl λz=>by subst z;exact .inr ⟨i,l,by rw[e1];rfl,q1⟩) _ _ q3
theorem zHF(hk:DE X k g)(ho:DDc X o fd)(hm:eg .In o=false:=by rfl):DT X (.Compare k [.In] [o] pos) (zGB false g fd):=by
 refine PT.conseq (zEK (t:=λσ H Q=>lE X.K g σ H λy H1=>lDc X.K fd σ H1 λx H2=>∃c kvs j,x=.ref c/\Rd H2 c (.dK kvs)/\y=vO j/\Q (.bl (valO kvs j).isSome) H2) ?_ hm) λσ H Q hq=>?_
 ·intro pZ s σ H Q I h;refine thn (hk pZ s σ H _ I h) λiv s1 ⟨y,H1,I1,ry,q1⟩=>thn (ho pZ s1 σ H1 _ I1 q1) λu s2 ⟨x,H2,I2,rx,c,kvs,j,ex,rd,ey,q2⟩=>?_
  subst ex ey;obtain rfl:u=Value.ref c:=rx;exact zRE I2 rd ry λs3 I3=>⟨.bl (valO kvs j).isSome,H2,I3,rfl,q2⟩
 ·obtain⟨O0,r,t,hR,e,q⟩:=hq;obtain⟨kd,e1,e⟩:=bnS e;obtain⟨⟨ks,l⟩,e2,e⟩:=bnS e;obtain⟨j,e3,rfl⟩:=mpS e;refine⟨O0,r,kd,hR,e1,λy H1 s1 iy=>⟨O0,r,ks,l,hR.same s1,e2,λc kvs H2 s2 rd ek il=>⟨c,kvs,j,rfl,rd,ZI e3 iy,_,rfl,?_⟩⟩⟩;subst ek;have q':=q H2 (s1.trans s2);rcases hE j il with⟨dd,v,p1,p2,p3⟩|⟨p1,p2⟩
  ·rw[p1] at q';rw[p2];exact q'
  ·rw[p1] at q';rw[p2];exact q'
theorem zMY(hu:X.A.units+1<cLine)(ho:DDc X o fd)(hk:DE X k g)(hs:zQC k:=by intro _ _;rfl):DE X (.Subscript o k pos) (zIK fd g):=by
 refine PE.conseq (QP hu ho hk hs) λσ H Q hq=>?_
 obtain⟨O0,r,d,hR,e,q⟩:=hq;obtain⟨⟨ks,l⟩,e1,e⟩:=bnS e;obtain⟨kd,e2,e⟩:=bnS e;obtain⟨j,e3,e⟩:=bnS e;refine⟨O0,r,ks,l,hR,e1,λc kvs H1 s1 rd ek il=>⟨O0,r,kd,hR.same s1,e2,λy H2 s2 iy=>?_⟩⟩;subst ek;have il2:=il.same s2 (hR.same s1).ol;rcases uP j il2 with⟨dd,v,p1,p2,p3⟩|⟨p1,p2⟩
 ·rw[p1] at e;cases e;exact⟨c,v,rfl,.inl ⟨kvs,j,Rd.same s2 rd,nT e3 iy,p2.symm⟩,q v H2 (s1.trans s2) p3⟩
 ·rw[p1] at e;cases e
open PySem PySem.Spec PyProof.Rows L2 PySem.W
open PySem PySem.Spec PyProof.Rows L2 PySem.W TS
theorem un1(r:Room k A):A.units+1<cLine:=by have:=un2 r;omega
theorem WH(hg:Gl X "list")(hm:X.mg "list" = none)(ha:DE X a f)(hs:ag [a] X.env=(false,eval a X.env)::ag [] X.env:=by rfl):DF X (.Call (.Name "list" p') [a] [] pos) (mIt f):=by
 refine PE.conseq (kO gM hg hm PyProof.Rows.boot_list (zY ha yV hs) (he:=hs)) λσ H Q hq=>?_
 obtain⟨O0,r,l,hR,e,q⟩:=hq;obtain⟨d,e1,e⟩:=bnS e;refine⟨O0,r,d,hR,e1,λv H1 s1 i1=>?_⟩;have fin:∀xs,IsL X.K (Ow O0 r σ) H1 l xs->∀t,H1 t=none->Q (.ref t) (upd H1 t (.lst xs)):=λxs il t ht=>q t xs _ (s1.trans (zX ht)) (s1.free ht) zJ (hJ (hR.same s1).ol ht il)
 cases d<;>first|(cases e;done)|skip
 ·cases e;rw[Is.tup_iff] at i1;obtain⟨c,xs,rfl,sq,il⟩:=i1;exact⟨c,xs,rfl,.inr sq,fin xs il⟩
 ·cases e;rw[Is.lst_iff] at i1;obtain⟨c,xs,rfl,sq,il⟩:=i1;exact⟨c,xs,rfl,.inl sq.sq,fin xs il⟩
def zBH(n:Nat)(d:D):Bool:=okD d && (toP d).canLay0 && decide ((toP d).depth<=n)
def eqN(n:Nat)(x y:D):Option D:=if zBH n x=true/\zBH n y=true then some (.bl (PyData.eqv (toP x) (toP y))) else none
def neN(n:Nat)(x y:D):Option D:=if zBH n x=true/\zBH n y=true then some (.bl (!PyData.eqv (toP x) (toP y))) else none
def zQ9(K:Fg)(n:Nat)(neg:Bool):R2:=λx y H Q=>∃O dx dy,Is K O H dx x/\Is K O H dy y/\zBH n dx=true/\zBH n dy=true/\Q (.bl (if neg then !PyData.eqv (toP dx) (toP dy) else PyData.eqv (toP dx) (toP dy))) H
theorem zKV(hu:X.A.units+n<cLine):OpR X (cz .NotEq) (zQ9 X.K n true):=by
 intro pZ s σ H x y v u Q I rx ry hq;obtain⟨O,dx,dy,ix,iy,lx,ly,q⟩:=hq;unfold zBH at lx ly;simp only[cw,decide_eq_true_eq] at lx ly;obtain⟨as,qa⟩:=gZ I dx x v lx.1.1 ix rx;obtain⟨bs,qb⟩:=gZ I dy y u ly.1.1 iy ry;exact PySem.SeqAt.compareNe_reads qa qb lx.1.2 ly.1.2 (by have:=Nat.min_le_left (toP dx).depth (toP dy).depth;omega) ⟨.bl _,H,I,rfl,q⟩
theorem zLC{K:Fg}:OpD K (zQ9 K n true) (neN n):=by
 intro O H dx dy d vx vy Q ol ix iy e q;unfold neN at e;split at e
 ·rename_i h;cases e;exact⟨O,dx,dy,ix,iy,h.1,h.2,q _ H (Same.refl H) (by rw[Is.bl_iff];rfl)⟩
 ·cases e
theorem mD(h:zBH n d=true):eqN n d d=some (.bl true)/\neN n d d=some (.bl false):=by
 unfold eqN neN;rw[if_pos ⟨h,h⟩,if_pos ⟨h,h⟩];unfold zBH at h;simp only[cw,decide_eq_true_eq] at h;rw[PySem.SeqAt.eqv_refl _ h.1.2];exact⟨rfl,rfl⟩
theorem zOJ(r:Room k A)(h:16<=k):A.units+400<cLine:=by have:=r.un;omega
def vM(n:Nat)(m:MF)(fs:ML):MD:=λr=>(fs r).bind λds=>if ds.length=n then (m (ds.map .v)).bind λp=>match p.1 with
 |.g ks l=>some (ks,l)
 |_=>none
 else none
theorem zGZ(F:FnOk X.prog X.w X.K X.mg X.base CX0 k f fd ps (spD X.K n m))(hr:Room k X.A)(hg:Gl X x)(hm:X.mg x=some (.ref f))(hk:PySem.W.keepIn X.K (.ref f)=true)(hb:Binds X.K fd ps [])(ha:DA X (e::es) fs)(hdb:(x == ("__debug__" : Str))=false:=by decide)(he:ag (e::es) X.env=(false,eval e X.env)::ag es X.env:=by rfl)(hpl:(dq pos (ag es X.env)).any (·.1)=false:=by rfl):DFd X (.Call (.Name x p) (e::es) [] pos) (vM n m fs):=by
 refine PE.conseq (dG (E:=λ_ _ _=>False) (dvs:=[]) F hr hg hm hk hb .nil nA ha hdb he hpl) λσ H Q h=>?_
 obtain⟨O0,r,ks,l,hR,e,q⟩:=h;obtain⟨ds,e1,e2⟩:=bnS e;split at e2
 ·rename_i hl;obtain⟨⟨rs,as'⟩,e3,e4⟩:=bnS e2;refine⟨O0,r,ds,hR,e1,λvs H1 s1 il=>dB hR s1 il hl e3 ?_⟩;cases rs with
  |v d=>cases e4
  |f l'=>cases e4
  |g ks' l'=>cases e4;exact λa kvs H2 pf na ea ek il2=>q a kvs H2 (s1.trans pf.same) (s1.free na) ea ek il2
 ·cases e2
def sFz(i:Nat)(g:MS):MS:=λr=>match r[i]? with
 |some (.d false ks l)=>g (r.set i (.v (.dct ks l)))
 |_=>none
theorem R.fz2{K:Fg}(h:R K O0 H r σ)(er:r[i]?=some (.d false ks l))(c1:σ[i]?=some (some (.ref c)))(c2:H c=some (.dK kvs))(c3:kvs.map (·.1)=ks)(c4:IsL K (Ow O0 r σ) H l (kvs.map (·.2)))(hne:∀b,b≠c->H2 b=H b)(h2:∃o,H2 c=some o/\Mb o)(rd:Rd H2 c (.dK kvs)):R K O0 H2 (r.set i (.v (.dct ks l))) σ/\Kp H r σ H2 (r.set i (.v (.dct ks l))) σ/\IsL K (Ow O0 (r.set i (.v (.dct ks l))) σ) H2 l (kvs.map (·.2))/\¬Ow O0 (r.set i (.v (.dct ks l))) σ c:=by
 have hi:i<r.length:=(av.mp er).1;have own:∀j m,((r.set i (.v (.dct ks l)))[j]?).bind Sl.own=some m->i≠j/\(r[j]?).bind Sl.own=some m:=λj m e=>by
  by_cases hj:i=j
  ·subst hj;rw[zH hi] at e;cases e
  ·rw[zE hj] at e;exact⟨hj,e⟩
 have mtt:∀j m,((r.set i (.v (.dct ks l)))[j]?).bind Sl.mt=some m->(r[j]?).bind Sl.mt=some m:=λj m e=>by
  by_cases hj:i=j
  ·subst hj;rw[zH hi] at e;cases e
  ·rw[zE hj] at e;exact e
 have at_:∀b,w8 (r.set i (.v (.dct ks l))) σ b->w8 r σ b:=λb ⟨j,m,e,q⟩=>⟨j,m,(own j m e).2,q⟩
 have nc:¬Ow O0 (r.set i (.v (.dct ks l))) σ c:=λz=>z.elim (λz=>h.loc i l c (.inr (.inr ⟨ks,er⟩)) c1 z) λ⟨j,m,e,q⟩=>by
  obtain⟨hj,e'⟩:=own j m e;exact hj (h.apart i j c l m (by rw[er];rfl) e' c1 q)
 have ow:∀b,Ow O0 (r.set i (.v (.dct ks l))) σ b->H b≠none->Ow O0 r σ b:=λb z _=>z.imp id (at_ b)
 have mc:MutAt r σ c:=⟨i,l,by rw[er];rfl,c1⟩;have kp:oR (Ow O0 r σ) H H2:=λb o e n=>(hne b λz=>n (by rw[z];exact .inr mc.own)).trans e
 have i4:=IsL.mono kp h.ol ow _ _ c4;refine⟨⟨by simp[h.len],λj d ej=>?_,λj m ej=>?_,λj k b m n e4 e5=>h.apart j k b m n (own j m e4).2 (own k n e5).2,λb z=>?_,λj m b ej q=>?_,λj m b ej q=>?_,λj f ks' m ej=>?_⟩,⟨λb o e n=>(hne b λz=>n (by rw[z];exact mc)).trans e,λb e=>?_,λb o e mb=>?_,λb z=>.inl (at_ b z),λb ⟨j,m,e,q⟩=>.inl ⟨j,m,mtt j m e,q⟩,λj m ej=>?_,λj m ej=>?_⟩,i4,nc⟩
 ·by_cases hj:i=j
  ·subst hj;rw[zH hi] at ej;cases ej;refine⟨.ref c,c1,?_⟩;rw[Is.dct_iff];exact⟨c,kvs,rfl,nc,rd,c3,i4⟩
  ·rw[zE hj] at ej;obtain⟨v,q1,q2⟩:=h.val j d ej;exact⟨v,q1,Is.mono kp h.ol ow _ _ q2⟩
 ·have hj:i≠j:=λz=>by subst z;rw[zH hi] at ej;cases ej
  rw[zE hj] at ej;obtain⟨b,ys,q1,q2,q3⟩:=h.own j m ej;exact⟨b,ys,q1,(hne b λz=>by rw[z,c2] at q2;cases q2).trans q2,IsL.mono kp h.ol ow _ _ q3⟩
 ·obtain⟨o,e,mb⟩:=h.o0 b z;exact⟨o,(hne b λy=>h.loc i l c (.inr (.inr ⟨ks,er⟩)) c1 (by rw[<-y];exact z)).trans e,mb⟩
 ·have hj:i≠j:=λz=>by subst z;rw[zH hi] at ej;rcases ej with ej|ej|⟨_,ej⟩<;>cases ej
  rw[zE hj] at ej;exact h.loc j m b ej q
 ·have hj:i≠j:=λz=>by subst z;rw[zH hi] at ej;cases ej
  rw[zE hj] at ej;exact h.par j m b ej q
 ·have hj:i≠j:=λz=>by subst z;rw[zH hi] at ej;cases ej
  rw[zE hj] at ej;obtain⟨b,kvs',q1,q2,q4,q3⟩:=h.dct j f ks' m ej;have hb:b≠c:=λz=>hj (h.apart i j c l m (by rw[er];rfl) (by rw[ej];rfl) c1 (by rw[q1,z]))
  exact⟨b,kvs',q1,(hne b hb).trans q2,q4,IsL.mono kp h.ol ow _ _ q3⟩
 ·by_cases hb:b=c
  ·subst hb;obtain⟨o,e',_⟩:=h2;rw[e] at e';cases e'
  ·rw[<-hne b hb];exact e
 ·by_cases hb:b=c
  ·subst hb;exact h2
  ·exact⟨o,(hne b hb).trans e,mb⟩
 ·have hj:i≠j:=λz=>by subst z;rw[er] at ej;cases ej
  exact⟨by rw[zE hj];exact ej,rfl⟩
 ·have hj:i≠j:=λz=>by subst z;rw[er] at ej;cases ej
  exact⟨by rw[zE hj];exact ej,rfl⟩
theorem R.fz{K:Fg}(h:R K O0 H r σ)(er:r[i]?=some (.d false ks l)):R K O0 H (r.set i (.v (.dct ks l))) σ/\Kp H r σ H (r.set i (.v (.dct ks l))) σ:=by
 obtain⟨c,kvs,c1,c2,c3,c4⟩:=h.dct i false ks l er;obtain⟨a,b,_⟩:=h.fz2 er c1 c2 c3 c4 (λ_ _=>rfl) ⟨_,c2,trivial⟩ (.inl c2);exact⟨a,b⟩
theorem zPZ(i:Nat){st:Stmt}(h:DS X st g):DS X st (sFz i g):=by
 refine PS.conseq h λDn σ H hq=>?_
 obtain⟨O0,r,fl,hR,e,q⟩:=hq;unfold sFz at e;split at e
 ·rename_i ks l er;obtain⟨R1,k1⟩:=hR.fz er;exact⟨O0,_,fl,R1,e,q.before R1 k1⟩
 ·cases e
structure Mst where
 most:Int
 steps:Int
 wait:List D
 come:List D
 ended:D
 defs:D
noncomputable def mfs(most steps:Int)(w c:Addr)(ve vd:V):List (Str×V):=[("most",.int most),("steps",.int steps),("waiting",.ref w),("come",.ref c),("ended",ve),("defs",vd)]
structure Mch(K:Fg)(O:Addr->Prop)(H:Hp)(C a w c:Addr)(st:Mst):Prop where
 ex:∃dx xs ys ve vd,H a=some (.ins C dx (mfs st.most st.steps w c ve vd))/\H w=some (.lst xs)/\H c=some (.lst ys)/\Is K O H st.ended ve/\Is K O H st.defs vd/\IsL K O H st.wait xs/\IsL K O H st.come ys
 wc:w≠c
 oa:O a
 ow:O w
 oc:O c
def NoOwn(r:En):Prop:=∀i:Nat,(r[i]?).bind Sl.own=none
structure McR(K:Fg)(O:Addr->Prop)(H:Hp)(C:Addr)(z:Nat)(a w c:Addr)(st:Mst)(r:En)(σ:St):Prop where
 ms:Mch K O H C a w c st
 rr:R K O H r σ
 no:NoOwn r
 me:σ[z]?=some (some (.ref a))
def KeepM(a w c:Addr)(H H':Hp):Prop:=∀b o,H b=some o->b≠a->b≠w->b≠c->H' b=some o
theorem KeepM.refl(H:Hp):KeepM a w c H H:=λ_ _ e _ _ _=>e
theorem KeepM.trans(x:KeepM a w c H H1)(y:KeepM a w c H1 H2):KeepM a w c H H2:=λb o e h1 h2 h3=>y b o (x b o e h1 h2 h3) h1 h2 h3
theorem KeepM.same(s:Same H H'):KeepM a w c H H':=λb o e _ _ _=>s b o e
section
variable{K:Fg}{st:Mst}
theorem NoOwn.at(hq:∀x l,q x=some l->x.own=some l)(h:NoOwn r):¬AtS q r σ b:=λ⟨i,l,e,_⟩=>by
 obtain⟨x,e1,e2⟩:=nk.mp e
 have:=h i
 rw[e1] at this;rw[show(some x).bind Sl.own=x.own from rfl,hq x l e2] at this;cases this
theorem NoOwn.ow(h:NoOwn r):Ow O r σ b↔O b:=⟨λz=>z.elim id λz=>absurd z (h.at λ_ _ e=>e),.inl⟩
theorem McR.is(m:McR K O H C z a w c st r σ):Is K (Ow O r σ) H' d v↔Is K O H' d v:=by
 rw[show Ow O r σ=O from funext λb=>propext m.no.ow]
theorem McR.ol(m:McR K O H C z a w c st r σ):j9 O H:=m.rr.o0
theorem Mch.kp(m:Mch K O H C a w c st)(k:KeepM a w c H H'):oR O H H':=λb o e n=>k b o e (λz=>n (z ▸ m.oa)) (λz=>n (z ▸ m.ow)) λz=>n (z ▸ m.oc)
theorem McR.step(m:McR K O H C z a w c st r σ)(k:KeepM a w c H H')(n:Mch K O H' C a w c st'):McR K O H' C z a w c st' r σ:=by
 have kp:=m.ms.kp k;have ol:j9 O H':=λb z=>by
  obtain⟨dx,xs,ys,ve,vd,e1,e2,e3,_⟩:=n.ex;by_cases h1:b=a
  ·rw[h1];exact⟨_,e1,trivial⟩
  ·by_cases h2:b=w
   ·rw[h2];exact⟨_,e2,trivial⟩
   ·by_cases h3:b=c
    ·rw[h3];exact⟨_,e3,trivial⟩
    ·obtain⟨o,e,mb⟩:=m.ol b z;exact⟨o,k b o e h1 h2 h3,mb⟩
 refine⟨n,⟨m.rr.len,λi d e=>?_,λi l e=>?_,m.rr.apart,ol,m.rr.loc,m.rr.par,λi _ ks l e=>?_⟩,m.no,m.me⟩
 ·obtain⟨v,e1,q⟩:=m.rr.val i d e;rw[m.is] at q;exact⟨v,e1,m.is.mpr (Is.mono kp m.ol (λ_ z _=>z) _ _ q)⟩
 ·have:=m.no i
  rw[j4 e] at this;cases this
 ·have:=m.no i
  rw[e] at this;cases this
theorem Mch.mono(m:Mch K O H C a w c st)(ol:j9 O H)(s:Same H H'):Mch K O H' C a w c st:=by
 obtain⟨dx,xs,ys,ve,vd,e1,e2,e3,e4,e5,e6,e7⟩:=m.ex;exact⟨⟨dx,xs,ys,ve,vd,s _ _ e1,s _ _ e2,s _ _ e3,e4.same s ol,e5.same s ol,e6.same s ol,e7.same s ol⟩,m.wc,m.oa,m.ow,m.oc⟩
theorem McR.same(m:McR K O H C z a w c st r σ)(s:Same H H'):McR K O H' C z a w c st r σ:=m.step (KeepM.same s) (m.ms.mono m.ol s)
theorem McR.aw(m:Mch K O H C a w c st):a≠w/\a≠c:=by
 obtain⟨dx,xs,ys,ve,vd,e1,e2,e3,_⟩:=m.ex;exact⟨zIZ e1 e2 (by intro z;cases z),zIZ e1 e3 (by intro z;cases z)⟩
theorem Mch.put(m:Mch K O H C a w c st)(ol:j9 O H)(k:KeepM a w c H H2)(e1:H2 a=some (.ins C dx (mfs most steps w c ve vd)))(e2:H2 w=some (.lst xs))(e3:H2 c=some (.lst ys))(h1:Is K O H en ve)(h2:Is K O H de vd)(h3:IsL K O H wa xs)(h4:IsL K O H co ys):Mch K O H2 C a w c ⟨most,steps,wa,co,en,de⟩:=by
 have kp:=m.kp k;have f:∀(b:Addr),O b->H b≠none->O b:=λ_ z _=>z
 exact⟨⟨dx,xs,ys,ve,vd,e1,e2,e3,Is.mono kp ol f _ _ h1,Is.mono kp ol f _ _ h2,IsL.mono kp ol f _ _ h3,IsL.mono kp ol f _ _ h4⟩,m.wc,m.oa,m.ow,m.oc⟩
end
abbrev MEf:=Mst->En->Option (D×Mst)
def lM(K:Fg)(C:Addr)(z:Nat)(m:MEf):TE:=λσ H Q=>∃O a w c st r d st',McR K O H C z a w c st r σ/\m st r=some (d,st')/\∀v H',McR K O H' C z a w c st' r σ->Is K O H' d v->KeepM a w c H H'->Q v H'
def spM(K:Fg)(C:Addr)(n:Nat)(m:Mst->List D->Option (D×Mst)):Sp:=λvs H Q _=>∃O a w c st ds us d st',vs=.ref a::us/\ds.length=n/\Mch K O H C a w c st/\j9 O H/\IsL K O H ds us/\m st ds=some (d,st')/\∀v H',Mch K O H' C a w c st'->j9 O H'->Is K O H' d v->KeepM a w c H H'->Q v H'
section
variable{X:Cx}{C:Addr}{z:Nat}{e o:Expr}{f:ME}{pos apos bpos cpos npos:Pos}{x:Str}
abbrev DMe(X:Cx)(C:Addr)(z:Nat)(e:Expr)(m:MEf):Prop:=PE X e (lM X.K C z m)
theorem ZC(h:DE X e f):DMe X C z e (λst r=>(f r).map λd=>(d,st)):=by
 refine PE.conseq h λσ H Q hq=>?_
 obtain⟨O,a,w,c,st,r,d,st',m,e1,q⟩:=hq;obtain⟨d',e2,e3⟩:=mpS e1;cases e3;exact⟨O,r,d,m.rr,e2,λv H' s iv=>q v H' (m.same s) ((m.same s).is.mp iv) (KeepM.same s)⟩
theorem qN{O:Addr->Prop}{H:Hp}{a w c:Addr}{st:Mst}{r:En}{σ:St}(m:McR X.K O H C z a w c st r σ):σ[z]?=some (some (.ref a)):=m.me
def zIH(f:Str)(sel:Mst->D):Prop:=∀(K:Fg) (O:Addr->Prop) (H:Hp) (st:Mst) (w c:Addr) (ve vd:V),Is K O H st.ended ve->Is K O H st.defs vd->∃v,(mfs st.most st.steps w c ve vd).lookup f=some v/\Is K O H (sel st) v
theorem zGV:zIH "most" λst=>.int st.most:=λK O H st w c ve vd _ _=>⟨_,rfl,by rw[Is.int_iff]⟩
theorem hV:zIH "steps" λst=>.int st.steps:=λK O H st w c ve vd _ _=>⟨_,rfl,by rw[Is.int_iff]⟩
theorem cR:zIH "ended" λst=>st.ended:=λK O H st w c ve vd h _=>⟨_,rfl,h⟩
theorem cK{fn:Str}{sel:Mst->D}(hv:PE X (.Name x npos) (vG z))(cl:Cls X.K C)(na:NoAttr X.K C fn)(hf:zIH fn sel)(hb:cb (.Name x npos) fn X.env (eval (.Name x npos) X.env)=eval (.Name x npos) X.env:=by rfl):DMe X C z (.Attribute (.Name x npos) fn pos) (λst _=>some (sel st,st)):=by
 refine PE.conseq (cC hv hb) λσ H Q hq=>?_
 obtain⟨O,a,w,c,st,r,d,st',m,e1,q⟩:=hq;cases e1;obtain⟨dx,xs,ys,ve,vd,g1,g2,g3,g4,g5,g6,g7⟩:=m.ms.ex;obtain⟨v,l,iv⟩:=hf X.K O H st w c ve vd g4 g5;exact⟨.ref a,qN m,a,C,dx,_,v,rfl,g1,cl,na,l,q v H m iv (KeepM.refl H)⟩
noncomputable def zEJ(st:Mst)(d:D):Mst:={ st with wait:=st.wait++[d] }
noncomputable def zKH(st:Mst)(d:D):Mst:={ st with come:=st.come++[d] }
theorem zF4(hv:PE X (.Name x npos) (vG z))(cl:Cls X.K C)(na:NoAttr X.K C "waiting")(h:DE X e f)(hs:ag [e] X.env=(false,eval e X.env)::ag [] X.env:=by rfl)(hb:cb (.Name x npos) "waiting" X.env (eval (.Name x npos) X.env)=eval (.Name x npos) X.env:=by rfl)(hbase:cb (.Attribute (.Name x npos) "waiting" bpos) "append" X.env (eval (.Attribute (.Name x npos) "waiting" bpos) X.env)=eval (.Attribute (.Name x npos) "waiting" bpos) X.env:=by rfl)(hfew:((dq cpos (ag [e] X.env)).all (λx=>!x.1) && (jd cpos (fu [] X.env)).all (λx=>x.1.isSome)
   && decide (([e]:List Expr).length+([]:List Keyword).length+(if ([]:List Keyword).isEmpty then 0 else 1)<30))=true:=by rfl)(hline:(apos.endLine == cpos.line)=true:=by rfl)(hplain:(dq cpos (ag [] X.env)).any (·.1)=false:=by rfl):DMe X C z (.Call (.Attribute (.Attribute (.Name x npos) "waiting" bpos) "append" apos) [e] [] cpos) (λst r=>(f r).bind λd=>if st.wait.length<af then some (.non,zEJ st d) else none):=by
 refine PE.conseq (XB di ke jy kQ (cC hv hb) (zY h yV hs) hbase hfew hline hs hplain) λσ H Q hq=>?_
 obtain⟨O,a,w,c,st,r,d,st',m,e1,q⟩:=hq;obtain⟨d',e2,e3⟩:=bnS e1;split at e3
 ·rename_i hl;cases e3;obtain⟨dx,xs,ys,ve,vd,g1,g2,g3,g4,g5,g6,g7⟩:=m.ms.ex;refine⟨.ref a,qN m,a,C,dx,_,.ref w,rfl,g1,cl,na,rfl,.inl ⟨rfl,_,SqL.of g2⟩,O,r,d',m.rr,e2,λv H1 s1 iv=>?_⟩;have m1:=m.same s1;have aw:=McR.aw m.ms;refine⟨w,xs,v,rfl,rfl,s1 _ _ g2,by rw[<-g6.length];exact hl,?_⟩;have k1:KeepM a w c H1 (upd H1 w (.lst (xs++[v]))):=λb o e _ h2 _=>by rw[zI h2];exact e
  have n:=Mch.put (K:=X.K) (H2:=upd H1 w (.lst (xs++[v]))) (wa:=st.wait++[d']) m1.ms m1.ol k1 (by rw[zI aw.1];exact s1 _ _ g1) zJ (by rw[zI m.ms.wc.symm];exact s1 _ _ g3) (g4.same s1 m.ol) (g5.same s1 m.ol) ((g6.same s1 m.ol).append (.cons (m1.is.mp iv) .nil)) (g7.same s1 m.ol);exact q .non _ (m1.step k1 n) (by rw[Is.non_iff]) ((KeepM.same s1).trans k1)
 ·cases e3
theorem zF5(hv:PE X (.Name x npos) (vG z))(cl:Cls X.K C)(na:NoAttr X.K C "come")(h:DE X e f)(hs:ag [e] X.env=(false,eval e X.env)::ag [] X.env:=by rfl)(hb:cb (.Name x npos) "come" X.env (eval (.Name x npos) X.env)=eval (.Name x npos) X.env:=by rfl)(hbase:cb (.Attribute (.Name x npos) "come" bpos) "append" X.env (eval (.Attribute (.Name x npos) "come" bpos) X.env)=eval (.Attribute (.Name x npos) "come" bpos) X.env:=by rfl)(hfew:((dq cpos (ag [e] X.env)).all (λx=>!x.1) && (jd cpos (fu [] X.env)).all (λx=>x.1.isSome)
   && decide (([e]:List Expr).length+([]:List Keyword).length+(if ([]:List Keyword).isEmpty then 0 else 1)<30))=true:=by rfl)(hline:(apos.endLine == cpos.line)=true:=by rfl)(hplain:(dq cpos (ag [] X.env)).any (·.1)=false:=by rfl):DMe X C z (.Call (.Attribute (.Attribute (.Name x npos) "come" bpos) "append" apos) [e] [] cpos) (λst r=>(f r).bind λd=>if st.come.length<af then some (.non,zKH st d) else none):=by
 refine PE.conseq (XB di ke jy kQ (cC hv hb) (zY h yV hs) hbase hfew hline hs hplain) λσ H Q hq=>?_
 obtain⟨O,a,w,c,st,r,d,st',m,e1,q⟩:=hq;obtain⟨d',e2,e3⟩:=bnS e1;split at e3
 ·rename_i hl;cases e3;obtain⟨dx,xs,ys,ve,vd,g1,g2,g3,g4,g5,g6,g7⟩:=m.ms.ex;refine⟨.ref a,qN m,a,C,dx,_,.ref c,rfl,g1,cl,na,rfl,.inl ⟨rfl,_,SqL.of g3⟩,O,r,d',m.rr,e2,λv H1 s1 iv=>?_⟩;have m1:=m.same s1;have aw:=McR.aw m.ms;refine⟨c,ys,v,rfl,rfl,s1 _ _ g3,by rw[<-g7.length];exact hl,?_⟩;have k1:KeepM a w c H1 (upd H1 c (.lst (ys++[v]))):=λb o e _ _ h2=>by rw[zI h2];exact e
  have n:=Mch.put (K:=X.K) (H2:=upd H1 c (.lst (ys++[v]))) (co:=st.come++[d']) m1.ms m1.ol k1 (by rw[zI aw.2];exact s1 _ _ g1) (by rw[zI m.ms.wc];exact s1 _ _ g2) zJ (g4.same s1 m.ol) (g5.same s1 m.ol) (g6.same s1 m.ol) ((g7.same s1 m.ol).append (.cons (m1.is.mp iv) .nil));exact q .non _ (m1.step k1 n) (by rw[Is.non_iff]) ((KeepM.same s1).trans k1)
 ·cases e3
theorem p7(h:l.getLast?=some d):l[l.length-1]?=some d/\l=l.dropLast++[d]:=by
 rw[List.getLast?_eq_getElem?] at h;refine⟨h,?_⟩;have hn:l≠[]:=by rintro rfl;simp at h
 rw[bt (by have:=qi.mpr hn;omega)] at h
 have:=rm hn
 rw[List.getLast_eq_getElem,bw h] at this;exact this.symm
theorem IsL.last{K:Fg}(h:IsL K O H l xs)(e:l.getLast?=some d):∃y,xs[xs.length-1]?=some y/\Is K O H d y/\IsL K O H l.dropLast xs.dropLast:=by
 obtain⟨y,e1,iy⟩:=h.get (p7 e).1;rw[h.length] at e1;refine⟨y,e1,iy,?_⟩;rw[jq,jq,h.length];exact h.take _
theorem zF2(hv:PE X (.Name x npos) (vG z))(cl:Cls X.K C)(na:NoAttr X.K C "waiting")(hb:cb (.Name x npos) "waiting" X.env (eval (.Name x npos) X.env)=eval (.Name x npos) X.env:=by rfl)(hbase:cb (.Attribute (.Name x npos) "waiting" bpos) "pop" X.env (eval (.Attribute (.Name x npos) "waiting" bpos) X.env)=eval (.Attribute (.Name x npos) "waiting" bpos) X.env:=by rfl)(hline:(apos.endLine == cpos.line)=true:=by rfl):DMe X C z (.Call (.Attribute (.Attribute (.Name x npos) "waiting" bpos) "pop" apos) [] [] cpos) (λst _=>st.wait.getLast?.map λd=>(d,{ st with wait:=st.wait.dropLast })):=by
 refine PE.conseq (XA di jp jo XS (cC hv hb) hbase hline) λσ H Q hq=>?_
 obtain⟨O,a,w,c,st,r,d,st',m,e1,q⟩:=hq;obtain⟨d',e2,e3⟩:=mpS e1;cases e3;obtain⟨dx,xs,ys,ve,vd,g1,g2,g3,g4,g5,g6,g7⟩:=m.ms.ex;have aw:=McR.aw m.ms;obtain⟨y,ey,iy,il⟩:=g6.last e2;refine⟨.ref a,qN m,a,C,dx,_,.ref w,rfl,g1,cl,na,rfl,.inl ⟨rfl,_,SqL.of g2⟩,w,xs,y,rfl,rfl,g2,ey,?_⟩;have k1:KeepM a w c H (upd H w (.lst xs.dropLast)):=λb o e _ h2 _=>by rw[zI h2];exact e
 have n:=Mch.put (K:=X.K) (H2:=upd H w (.lst xs.dropLast)) (wa:=st.wait.dropLast) m.ms m.ol k1 (by rw[zI aw.1];exact g1) zJ (by rw[zI m.ms.wc.symm];exact g3) g4 g5 il g7;exact q y _ (m.step k1 n) (Is.mono (m.ms.kp k1) m.ol (λ_ z _=>z) _ _ iy) k1
theorem zF3(hv:PE X (.Name x npos) (vG z))(cl:Cls X.K C)(na:NoAttr X.K C "come")(hb:cb (.Name x npos) "come" X.env (eval (.Name x npos) X.env)=eval (.Name x npos) X.env:=by rfl)(hbase:cb (.Attribute (.Name x npos) "come" bpos) "pop" X.env (eval (.Attribute (.Name x npos) "come" bpos) X.env)=eval (.Attribute (.Name x npos) "come" bpos) X.env:=by rfl)(hline:(apos.endLine == cpos.line)=true:=by rfl):DMe X C z (.Call (.Attribute (.Attribute (.Name x npos) "come" bpos) "pop" apos) [] [] cpos) (λst _=>st.come.getLast?.map λd=>(d,{ st with come:=st.come.dropLast })):=by
 refine PE.conseq (XA di jp jo XS (cC hv hb) hbase hline) λσ H Q hq=>?_
 obtain⟨O,a,w,c,st,r,d,st',m,e1,q⟩:=hq;obtain⟨d',e2,e3⟩:=mpS e1;cases e3;obtain⟨dx,xs,ys,ve,vd,g1,g2,g3,g4,g5,g6,g7⟩:=m.ms.ex;have aw:=McR.aw m.ms;obtain⟨y,ey,iy,il⟩:=g7.last e2;refine⟨.ref a,qN m,a,C,dx,_,.ref c,rfl,g1,cl,na,rfl,.inl ⟨rfl,_,SqL.of g3⟩,c,ys,y,rfl,rfl,g3,ey,?_⟩;have k1:KeepM a w c H (upd H c (.lst ys.dropLast)):=λb o e _ _ h2=>by rw[zI h2];exact e
 have n:=Mch.put (K:=X.K) (H2:=upd H c (.lst ys.dropLast)) (co:=st.come.dropLast) m.ms m.ol k1 (by rw[zI aw.2];exact g1) (by rw[zI m.ms.wc];exact g2) zJ g4 g5 g6 il;exact q y _ (m.step k1 n) (Is.mono (m.ms.kp k1) m.ol (λ_ z _=>z) _ _ iy) k1
end
abbrev MEa:=Mst->En->Option (List D×Mst)
def lMa(K:Fg)(C:Addr)(z:Nat)(m:MEa):TA:=λσ H Q=>∃O a w c st r l st',McR K O H C z a w c st r σ/\m st r=some (l,st')/\∀vs H',McR K O H' C z a w c st' r σ->IsL K O H' l vs->KeepM a w c H H'->Q vs H'
abbrev DMa(X:Cx)(C:Addr)(z:Nat)(es:List Expr)(m:MEa):Prop:=PA X es (lMa X.K C z m)
def z0:MEa:=λst _=>some ([],st)
def zL(m:MEf)(ms:MEa):MEa:=λst r=>(m st r).bind λp=>(ms p.2 r).map λq=>(p.1::q.1,q.2)
section
variable{X:Cx}{C:Addr}{z:Nat}{e:Expr}{es:List Expr}{m:MEf}{ms:MEa}{x:Str}{pos apos npos p:Pos}
theorem pU:DMa X C z [] z0:=by
 refine PA.conseq yV λσ H Q hq=>?_
 obtain⟨O,a,w,c,st,r,l,st',mr,e1,q⟩:=hq;cases e1;exact q [] H mr .nil (KeepM.refl H)
theorem jZ(h:DMe X C z e m)(hs:DMa X C z es ms)(hst:ag (e::es) X.env=(false,eval e X.env)::ag es X.env:=by rfl):DMa X C z (e::es) (zL m ms):=by
 refine PA.conseq (zY h hs hst) λσ H Q hq=>?_
 obtain⟨O,a,w,c,st,r,l,st',mr,e1,q⟩:=hq;obtain⟨⟨d,st1⟩,e2,e3⟩:=bnS e1;obtain⟨⟨l1,st2⟩,e4,e5⟩:=mpS e3;cases e5;refine⟨O,a,w,c,st,r,d,st1,mr,e2,λv H1 m1 iv k1=>⟨O,a,w,c,st1,r,l1,st2,m1,e4,λvs H2 m2 il k2=>?_⟩⟩;exact q (v::vs) H2 m2 (.cons (Is.mono (m1.ms.kp k2) m1.ol (λ_ z _=>z) _ _ iv) il) (k1.trans k2)
theorem zF6{fs:ML}(h:DA X es fs):DMa X C z es (λst r=>(fs r).map λl=>(l,st)):=by
 refine PA.conseq h λσ H Q hq=>?_
 obtain⟨O,a,w,c,st,r,l,st',mr,e1,q⟩:=hq;obtain⟨l',e2,e3⟩:=mpS e1;cases e3;refine⟨O,r,l,mr.rr,e2,λvs H' s il=>q vs H' (mr.same s) ?_ (KeepM.same s)⟩;rw[show Ow O r σ=O from funext λb=>propext mr.no.ow] at il;exact il
def yD(n:Nat)(mm:Mst->List D->Option (D×Mst))(ms:MEa):MEf:=λst r=>(ms st r).bind λp=>if p.1.length=n then mm p.2 p.1 else none
variable{k n:Nat}{f:Addr}{fd:FuncData}{ps:List Str}{mm:Mst->List D->Option (D×Mst)}{mn:Str}
theorem r8{O:Addr->Prop}{H:Hp}{a w c:Addr}{st st':Mst}{r:En}{σ:St}{ds:List D}{us:List V}{d:D}{Q:VK}{E:XK}(mr:McR X.K O H C z a w c st r σ)(hl:ds.length=n)(il:IsL X.K O H ds us)(e:mm st ds=some (d,st'))(q:∀v H',McR X.K O H' C z a w c st' r σ->Is X.K O H' d v->KeepM a w c H H'->Q v H'):spM X.K C n mm (.ref a::us++[]) H Q E:=by
 rw[dm];exact⟨O,a,w,c,st,ds,us,d,st',rfl,hl,mr.ms,mr.ol,il,e,λv H' m' ol' iv k=>q v H' (mr.step k m') iv k⟩
theorem QU{pl:Sem Bool}(hv:PE X (.Name x npos) (vG z))(cl:Cls X.K C)(hm:Meth X.K C mn f)(hn:∀(i j:Int) (w c:Addr) (ve vd:V),(mfs i j w c ve vd).lookup mn=none)(F:FnOk X.prog X.w X.K X.mg X.base CX0 k f fd ps (spM X.K C n mm))(hr:Room k X.A)(hb:Binds X.K fd ps [])(ha:DMa X C z (e::es) ms)(hst:ag (e::es) X.env=(false,eval e X.env)::ag es X.env:=by rfl)(hpl:(dq pos (ag es X.env)).any (·.1)=false:=by rfl)(ht:eval (.Call (.Attribute (.Name x npos) mn apos) (e::es) [] pos) X.env=(do
   let ov <- eval (.Name x npos) X.env
   standAt apos.atName
   let (f,first) <- holding [ov] (getMethod ov mn pl)
   callWith pos f first (dq pos (ag (e::es) X.env)) (jd pos (fu [] X.env))):=by rfl):DMe X C z (.Call (.Attribute (.Name x npos) mn apos) (e::es) [] pos) (yD n mm ms):=by
 refine PE.conseq (zE0 (E:=λ_ _ _=>False) (dvs:=[]) hv cl hm F hr hb .nil nA ha hst hpl ht) λσ H Q hq=>?_
 obtain⟨O,a,w,c,st,r,d,st',mr,e1,q⟩:=hq;obtain⟨⟨ds,st1⟩,e2,e3⟩:=bnS e1;split at e3
 ·rename_i hl;obtain⟨dx,xs,ys,ve,vd,g1,_⟩:=mr.ms.ex;refine⟨.ref a,qN mr,a,dx,_,rfl,g1,hn _ _ _ _ _ _,O,a,w,c,st,r,ds,st1,mr,e2,λvs H1 m1 il k1=>?_⟩;exact r8 m1 hl il e3 λv H' m' iv k'=>q v H' m' iv (k1.trans k')
 ·cases e3
theorem ZD{pl:Sem Bool}(hv:PE X (.Name x npos) (vG z))(cl:Cls X.K C)(hm:Meth X.K C mn f)(hn:∀(i j:Int) (w c:Addr) (ve vd:V),(mfs i j w c ve vd).lookup mn=none)(F:FnOk X.prog X.w X.K X.mg X.base CX0 k f fd ps (spM X.K C 0 mm))(hr:Room k X.A)(hb:Binds X.K fd ps [])(ht:eval (.Call (.Attribute (.Name x npos) mn apos) [] [] pos) X.env=(do
   let ov <- eval (.Name x npos) X.env
   standAt apos.atName
   let (f,first) <- holding [ov] (getMethod ov mn pl)
   callWith pos f first (dq pos (ag [] X.env)) (jd pos (fu [] X.env))):=by rfl):DMe X C z (.Call (.Attribute (.Name x npos) mn apos) [] [] pos) (λst _=>mm st []):=by
 refine PE.conseq (zAR (E:=λ_ _ _=>False) (dvs:=[]) hv cl hm F hr hb .nil nA ht) λσ H Q hq=>?_
 obtain⟨O,a,w,c,st,r,d,st',mr,e1,q⟩:=hq;obtain⟨dx,xs,ys,ve,vd,g1,_⟩:=mr.ms.ex;refine⟨.ref a,qN mr,a,dx,_,rfl,g1,hn _ _ _ _ _ _,?_⟩;exact r8 (us:=[]) (E:=λ_ _ _=>False) mr rfl .nil e1 q
end
abbrev MEt:=Mst->En->Option (Bool×Mst)
def lMt(K:Fg)(C:Addr)(z:Nat)(m:MEt):TT:=λσ H Q=>∃O a w c st r b st',McR K O H C z a w c st r σ/\m st r=some (b,st')/\∀H',McR K O H' C z a w c st' r σ->KeepM a w c H H'->Q b H'
abbrev DMt(X:Cx)(C:Addr)(z:Nat)(e:Expr)(m:MEt):Prop:=PT X e (lMt X.K C z m)
section
variable{X:Cx}{C:Addr}{z:Nat}{e:Expr}{m:MEf}
theorem zFQ{b:MB}(h:DT X e b):DMt X C z e (λst r=>(b r).map λz=>(z,st)):=by
 refine PT.conseq h λσ H Q hq=>?_
 obtain⟨O,a,w,c,st,r,z,st',mr,e1,q⟩:=hq;obtain⟨z',e2,e3⟩:=mpS e1;cases e3;exact⟨O,r,z,mr.rr,e2,λH' s=>q H' (mr.same s) (KeepM.same s)⟩
end
inductive MFl where
 |nx (st:Mst) (r:En)|rt (d:D) (st:Mst) (r:En)
abbrev MEs:=Mst->En->Option MFl
def MFl.to(K:Fg)(O:Addr->Prop)(C:Addr)(z:Nat)(a w c:Addr)(H:Hp)(Dn:Ends):MFl->Prop
 |.nx st' r'=>∀σ' H',McR K O H' C z a w c st' r' σ'->KeepM a w c H H'->Dn.nx σ' H'
 |.rt d st' r'=>∀v σ' H',McR K O H' C z a w c st' r' σ'->Is K O H' d v->KeepM a w c H H'->Dn.rt v H'
def lMs(K:Fg)(C:Addr)(z:Nat)(g:MEs):TS:=λDn σ H=>∃O a w c st r fl,McR K O H C z a w c st r σ/\g st r=some fl/\fl.to K O C z a w c H Dn
abbrev DMs(X:Cx)(C:Addr)(z:Nat)(st:Stmt)(g:MEs):Prop:=PS X st (lMs X.K C z g)
abbrev zCF(X:Cx)(C:Addr)(z:Nat)(sts:List Stmt)(g:MEs):Prop:=PSs X sts (lMs X.K C z g)
def rO:MEs:=λst r=>some (.nx st r)
def rP(g h:MEs):MEs:=λst r=>(g st r).bind λfl=>match fl with
 |.nx st' r'=>h st' r'
 |.rt d st' r'=>some (.rt d st' r')
def uDo(m:MEf):MEs:=λst r=>(m st r).map λp=>.nx p.2 r
def zCX(m:MEf):MEs:=λst r=>(m st r).map λp=>.rt p.1 p.2 r
def zN6(z i:Nat)(m:MEf):MEs:=λst r=>(m st r).bind λp=>if i=z then none else (yN i p.1 r).map λr'=>.nx p.2 r'
def uIf(t:MEt)(g h:MEs):MEs:=λst r=>(t st r).bind λp=>if p.1=true then g p.2 r else h p.2 r
theorem MFl.to_keep{K:Fg}{O:Addr->Prop}{z:Nat}{C a w c:Addr}{H H1:Hp}{Dn:Ends}{fl:MFl}(k:KeepM a w c H H1)(h:fl.to K O C z a w c H Dn):fl.to K O C z a w c H1 Dn:=by
 cases fl with
 |nx st r=>exact λσ' H' m k'=>h σ' H' m (k.trans k')
 |rt d st r=>exact λv σ' H' m iv k'=>h v σ' H' m iv (k.trans k')
section
variable{X:Cx}{C:Addr}{z:Nat}{e:Expr}{m:MEf}{st1:Stmt}{sts:List Stmt}{g h:MEs}{pos pos':Pos}{x:Str}{t:MEt}
theorem zFV:zCF X C z [] rO:=by
 refine PSs.conseq QN λDn σ H hq=>?_
 obtain⟨O,a,w,c,st,r,fl,mr,e1,q⟩:=hq;cases e1;exact q σ H mr (KeepM.refl H)
theorem nK(h1:DMs X C z st1 g)(h2:zCF X C z sts h):zCF X C z (st1::sts) (rP g h):=by
 refine PSs.conseq (jO h1 h2) λDn σ H hq=>?_
 obtain⟨O,a,w,c,st,r,fl,mr,e1,q⟩:=hq;obtain⟨fl1,e2,e3⟩:=bnS e1;refine⟨O,a,w,c,st,r,fl1,mr,e2,?_⟩;cases fl1 with
 |nx st' r'=>exact λσ' H' m' k'=>⟨O,a,w,c,st',r',fl,m',e3,MFl.to_keep k' q⟩
 |rt d st' r'=>cases e3;exact q
theorem XU(h1:DMs X C z st1 g):zCF X C z [st1] g:=mZ h1
theorem zFX(he:DMe X C z e m)(hs:gx e none pos.line X.env=pure false:=by rfl):DMs X C z (.Expr e pos) (uDo m):=by
 refine PS.conseq (tP he hs) λDn σ H hq=>?_
 obtain⟨O,a,w,c,st,r,fl,mr,e1,q⟩:=hq;obtain⟨⟨d,st'⟩,e2,e3⟩:=mpS e1;cases e3;exact⟨O,a,w,c,st,r,d,st',mr,e2,λv H' m' _ k'=>q σ H' m' k'⟩
theorem zBC(he:DMe X C z e m):DMs X C z (.Return (some e) pos) (zCX m):=by
 refine PS.conseq (Y4 he) λDn σ H hq=>?_
 obtain⟨O,a,w,c,st,r,fl,mr,e1,q⟩:=hq;obtain⟨⟨d,st'⟩,e2,e3⟩:=mpS e1;cases e3;exact⟨O,a,w,c,st,r,d,st',mr,e2,λv H' m' iv k'=>q v σ H' m' iv k'⟩
theorem zNR{c:Expr}{as bs:List Stmt}(hc:DMt X C z c t)(ha:zCF X C z as g)(hb:zCF X C z bs h):DMs X C z (.If c as bs pos) (uIf t g h):=by
 refine PS.conseq (zNJ hc ha hb) λDn σ H hq=>?_
 obtain⟨O,a,w,c,st,r,fl,mr,e1,q⟩:=hq;obtain⟨⟨b,st'⟩,e2,e3⟩:=bnS e1;refine⟨O,a,w,c,st,r,b,st',mr,e2,λH' m' k'=>?_⟩;cases b with
 |true=>exact⟨O,a,w,c,st',r,fl,m',e3,MFl.to_keep k' q⟩
 |false=>exact⟨O,a,w,c,st',r,fl,m',e3,MFl.to_keep k' q⟩
end
theorem NoOwn.set(h:NoOwn r):NoOwn (r.set i (.v d)):=λj=>by
 by_cases hj:i=j
 ·subst hj;by_cases hi:i<r.length
  ·rw[zH hi];rfl
  ·rw[kz (by rw[rl];omega)];rfl
 ·rw[zE hj];exact h j
theorem zLN(i:Nat)(he:DMe X C z e m)(hN:X.N.Nodup)(hi:X.N[i]?=some x:=by rfl)(hx:Loc X.env.scope x:=by first|exact Or.inl rfl|exact Or.inr rfl)(hs:gx e (some (.Name x pos')) pos.line X.env=pure false:=by rfl)(hf:X.fn x=true\/X.env.kindOf x=some .local:=by first|exact Or.inl rfl|exact Or.inr rfl):DMs X C z (.Assign [.Name x pos'] e pos) (zN6 z i m):=by
 refine PS.conseq (m5 hN hi hx he hs hf) λDn σ H hq=>?_
 obtain⟨O,a,w,c,st,r,fl,mr,e1,q⟩:=hq;obtain⟨⟨d,st'⟩,e2,e3⟩:=bnS e1;split at e3
 ·cases e3
 ·rename_i h0;obtain⟨r',e4,rfl⟩:=mpS e3;obtain⟨hl,np,rfl⟩:=jD e4;refine⟨O,a,w,c,st,r,d,st',mr,e2,λv H1 m1 iv k1=>?_⟩;obtain⟨R1,_⟩:=m1.rr.setv hl np (m1.is.mpr iv);exact q _ H1 ⟨m1.ms,R1,m1.no.set,by rw[gy h0];exact m1.me⟩ k1
def zM6(f:ME):MEs:=λst r=>(f r).map λd=>.nx { st with ended:=d } r
theorem zLP(hv:PE X (.Name x npos) (vG z))(cl:Cls X.K C)(na:NoAttr X.K C "ended")(h:DE X e f)(hs:gx e (some (.Attribute (.Name x npos) "ended" apos)) pos.line X.env=pure false:=by rfl):DMs X C z (.Assign [.Attribute (.Name x npos) "ended" apos] e pos) (zM6 f):=by
 refine PS.conseq (gA hv h hs) λDn σ H hq=>?_
 obtain⟨O,a,w,c,st,r,fl,mr,e1,q⟩:=hq;obtain⟨d,e2,rfl⟩:=mpS e1;refine⟨O,r,d,mr.rr,e2,λv H1 s1 iv=>?_⟩;have m1:=mr.same s1;obtain⟨dx,xs,ys,ve,vd,g1,g2,g3,g4,g5,g6,g7⟩:=m1.ms.ex;have aw:=McR.aw m1.ms;refine⟨.ref a,qN m1,a,C,dx,_,rfl,g1,cl,na,by show 6<1000;decide,?_⟩;have k1:KeepM a w c H1 (upd H1 a (.ins C dx (mfs st.most st.steps w c v vd))):=λb o e h2 _ _=>by rw[zI h2];exact e
 have n:=Mch.put (K:=X.K) (H2:=upd H1 a (.ins C dx (mfs st.most st.steps w c v vd))) (en:=d) m1.ms m1.ol k1 zJ (by rw[zI aw.1.symm];exact g2) (by rw[zI aw.2.symm];exact g3) (m1.is.mp iv) g5 g6 g7;exact q σ _ (m1.step k1 n) ((KeepM.same s1).trans k1)
theorem zFW(hv:PE X (.Name x npos) (vG z))(cl:Cls X.K C)(na:NoAttr X.K C "steps"):DMs X C z (.AugAssign (.Attribute (.Name x npos) "steps" tpos) .Add (.Constant (.int 1) j pos') pos) (λst r=>some (.nx { st with steps:=st.steps+1 } r)):=by
 refine PS.conseq (Y5 hv pH zL5) λDn σ H hq=>?_
 obtain⟨O,a,w,c,st,r,fl,mr,e1,q⟩:=hq;cases e1;obtain⟨dx,xs,ys,ve,vd,g1,g2,g3,g4,g5,g6,g7⟩:=mr.ms.ex;have aw:=McR.aw mr.ms;refine⟨.ref a,qN mr,a,C,dx,_,.int st.steps,rfl,g1,cl,na,rfl,?_⟩;refine⟨st.steps,1,rfl,rfl,dx,_,g1,by show 6<1000;decide,?_⟩;have k1:KeepM a w c H (upd H a (.ins C dx (mfs st.most (st.steps+1) w c ve vd))):=λb o e h2 _ _=>by rw[zI h2];exact e
 have n:=Mch.put (K:=X.K) (H2:=upd H a (.ins C dx (mfs st.most (st.steps+1) w c ve vd))) (steps:=st.steps+1) mr.ms mr.ol k1 zJ (by rw[zI aw.1.symm];exact g2) (by rw[zI aw.2.symm];exact g3) g4 g5 g6 g7;exact q σ _ (mr.step k1 n) k1
theorem zPI{i j:Mst->Int}(ha:DMe X C z e λst _=>some (.int (i st),st))(hb:DMe X C z e' λst _=>some (.int (j st),st))(hm:eg .GtE e'=false):DMt X C z (.Compare e [.GtE] [e'] pos) (λst _=>some (decide (j st<=i st),st)):=by
 refine PT.conseq (QM zNN ha hb hm) λσ H Q hq=>?_
 obtain⟨O,a,w,c,st,r,b,st',mr,e1,q⟩:=hq;cases e1;refine⟨O,a,w,c,st,r,_,st,mr,rfl,λv H1 m1 iv k1=>⟨O,a,w,c,st,r,_,st,m1,rfl,λu H2 m2 iu k2=>?_⟩⟩;rw[Is.int_iff] at iv iu;exact⟨i st,j st,iv,iu,_,rfl,q H2 m2 (k1.trans k2)⟩
theorem zPJ(ha:DMe X C z e m)(he:∀whole,isTrue e X.env whole=(do let v <- whole;standAt e.pos;holding [v] (truthy v)):=by intro _;rfl):DMt X C z e (λst r=>(m st r).bind λp=>match p.1 with | .bl b=>some (b,p.2)|_=>none):=by
 refine PT.conseq (zKI ha he) λσ H Q hq=>?_
 obtain⟨O,a,w,c,st,r,b,st',mr,e1,q⟩:=hq;obtain⟨⟨d,st1⟩,e2,e3⟩:=bnS e1;refine⟨O,a,w,c,st,r,d,st1,mr,e2,λv H1 m1 iv k1=>?_⟩;cases d<;>first|(cases e3;done)|skip
 cases e3;rw[Is.bl_iff] at iv;exact⟨b,iv,q H1 m1 k1⟩
def mkU(n N:Nat)(g:MEs):Mst->List D->Option (D×Mst):=λst ds=>(g st (.un::ds.map .v++List.replicate (N-(n+1)) .un)).bind λfl=>match fl with
 |.nx st' _=>some (.non,st')
 |.rt d st' _=>some (d,st')
section
variable{K:Fg}
theorem R.un0(h:R K O H r σ)(no:NoOwn r):R K O H (.un::r) (y::σ):=by
 have ow:Ow O r σ=O:=funext λb=>propext no.ow
 have no':NoOwn (.un::r):=λi=>by
  cases i with
  |zero=>rfl
  |succ i=>exact no i
 have ow':Ow O (.un::r) (y::σ)=O:=funext λb=>propext no'.ow
 refine⟨by simp[h.len],λi d e=>?_,λi l e=>?_,λi j b l m e1 e2 _ _=>?_,h.o0,λi l b e _=>?_,λi l b e _=>?_,λi _ ks l e=>?_⟩
 ·cases i with
  |zero=>cases e
  |succ i=>
   obtain⟨v,e1,q⟩:=h.val i d e;rw[ow] at q;rw[ow'];exact⟨v,e1,q⟩
 ·have:=no' i;rw[j4 e] at this;cases this
 ·have:=no' i;rw[e1] at this;cases this
 ·exfalso
  have:=no' i
  rcases e with e|e|⟨ks,e⟩<;>rw[e] at this<;>cases this
 ·have:=no' i;rw[(cA e).choose_spec] at this;cases this
 ·have:=no' i;rw[e] at this;cases this
theorem dH(ds:List D)(k:Nat):NoOwn (ds.map .v++List.replicate k .un):=λi=>by
 by_cases hi:i<ds.length
 ·rw[bg (by simpa using hi),bn,bt hi];rfl
 ·rw[cu (by simpa using hi),cj]
  split<;>rfl
theorem hX{st:Stmt}(F:Fun K x qual st f fd)(S:FnScope N ps (zG st))(n:Nat)(nN:Nat)(hn:ps.length=n+1:=by rfl)(hN:N.length=nN:=by rfl)(hb:∀(cdv:Value) (A:Around) (outer:List Env) (s:Shared) (H:Hp) (E:XK),Room k (A.deeper (envOfC qual (zG st) s.heap.objs.size f cdv)) ->
   zCF (zIM CX0 P w K mg base N qual (zG st) f cdv A outer s H E).nox C 0 (qS st) g):FnOk P w K mg base CX0 (k+1) f fd ps (spM K C n (mkU n nN g)):=by
 subst hN;refine F.ok S (λvs H Q E h=>?_) (λcdv A outer s H vs Q E hr h=>?_)
 ·obtain⟨O,a,w',c,st',ds,us,d,st2,rfl,hl,_,_,il,_⟩:=h
  have:=il.length
  rw[ao,hn];omega
 ·obtain⟨O,a,w',c,st',ds,us,d,st2,rfl,hl,ms,ol,il,e,q⟩:=h;refine⟨_,hb cdv A outer s H E hr,?_⟩;obtain⟨fl,e1,e2⟩:=bnS e;have hlu:=il.length;have hst:L2.start N (.ref a::us)=some (.ref a)::(us.map some++List.replicate (N.length-(n+1)) none):=by
   unfold L2.start;rw[aq,ao,<-hlu,hl];rfl
  rw[hst];have R0:R K O H (ds.map .v++List.replicate (N.length-(n+1)) .un) (us.map some++List.replicate (N.length-(n+1)) none):=R.start (R.args ol il);have mr:McR K O H C 0 a w' c st' (.un::(ds.map .v++List.replicate (N.length-(n+1)) .un)) (some (.ref a)::(us.map some++List.replicate (N.length-(n+1)) none)):=
   ⟨ms,R0.un0 (dH ds _),(λi=>by cases i with|zero=>rfl|succ i=>exact dH ds _ i),rfl⟩
  refine⟨O,a,w',c,st',_,fl,mr,e1,?_⟩;cases fl with
  |nx st3 r'=>cases e2;exact λσ' H' m' k'=>q .non H' m'.ms m'.ol (by rw[Is.non_iff]) k'
  |rt d' st3 r'=>cases e2;exact λv σ' H' m' iv k'=>q v H' m'.ms m'.ol iv k'
end
def zSP(e:DictEntry)(q:List Nat×Addr):Prop:=∃t,e.key=.str ⟨q.1.toArray⟩ t/\e.val=.ref q.2
def YA:List DictEntry->List (List Nat×Addr)->Prop
 |[],l=>l=[]
 |e::es,l=>∃q r,l=q::r/\zSP e q/\YA es r
def W0(mg:Str->Option Value)(K:Fg)(Ps:Params)(x:Str)(tbl:List (List Nat×Addr)):Prop:=∃(p:Addr) (es:Array DictEntry) (n:Nat),mg x=some (.ref p)/\(p == ik)=false/\K.lookup p=some ⟨.type "dict",none,.dict es n,#[]⟩/\PySem.W.KeysLit Ps es.toList/\YA es.toList tbl
noncomputable def qJ(tbl:List (List Nat×Addr))(s:List Nat):Option Addr:=(tbl.find? λq=>decide (q.1=s)).map (·.2)
theorem uT(s:List Nat):∀{es:List DictEntry} {tbl:List (List Nat×Addr)},YA es tbl->(es.find? λd=>Value.isStrOf ⟨s.toArray⟩ d.key).map (·.val)=(qJ tbl s).map Value.ref
 |[],tbl,h=>by unfold YA at h;subst h;rfl
 |e::es,tbl,h=>by
  unfold YA at h;obtain⟨q,r,rfl,⟨t,h1,h2⟩,h3⟩:=h;have ih:=uT s h3;have k:Value.isStrOf (⟨s.toArray⟩:Str) e.key=decide (q.1=s):=by
   rw[h1];show((⟨q.1.toArray⟩:Str) == ⟨s.toArray⟩)=_;by_cases c:q.1=s
   ·rw[decide_eq_true c,c];simp
   ·rw[decide_eq_false c];refine beq_eq_false_iff_ne.mpr λz=>c ?_
    have z2:=congrArg (λx:Str=>x.cps.toList) z;simpa using z2
  unfold qJ at ih ⊢;rw[gn,gn,k];cases hc:decide (q.1=s)
  ·exact ih
  ·rw[be,h2];rfl
def zR5(p:Addr)(tbl:List (List Nat×Addr)):R2:=λx y H Q=>∃(s:List Nat) (g:Addr),x=.ref p/\y=.str ⟨s.toArray⟩/\qJ tbl s=some g/\Q (.ref g) H
theorem zL1(hl:X.K.lookup p=some ⟨.type "dict",none,.dict es n,#[]⟩)(hk:PySem.W.KeysLit X.w.params es.toList)(he:YA es.toList tbl):IxR X (zR5 p tbl):=by
 intro value slice pZ s σ H x y v u Q I rx ry h hs;obtain⟨z,g,rfl,rfl,e,q⟩:=h;cases rx;obtain⟨t,rfl⟩:=ry;have hmap:=zBU (tbl:=[]) (Ps:=X.w.params) (x:="") I hl hk;have fnd:=uT z he;rw[e,<-dU] at fnd;exact oh (x:=.ref g) hmap.typeIs slot_dict_getitem.lookup (wpAny_getItem_of (Q:=λr s'=>r=Value.ref g/\EP X pZ σ Q r s') (strKind_is _ _ _ t) hmap fnd ⟨rfl,.ref g,H,I.tok _,rfl,q⟩) hs
def atR(tbl:List (List Nat×Addr)):D->Option D
 |.str s=>(qJ tbl s).map .ref
 |_=>none
theorem zH6(h:W0 X.mg X.K X.w.params wn tbl)(hg:Gl X wn)(hb:DE X b f)(hs:bT b:=by intro _ _;rfl)(hd:(wn == ("__debug__" : Str))=false:=by decide):DE X (.Subscript (.Name wn p') b pos) (mUn (atR tbl) f):=by
 obtain⟨p,es,n,h1,h2,h3,h4,h5⟩:=h;refine PE.conseq (zE2 (zL1 h3 h4 h5) (JE (p:=p) h1 hg hd) hb hs) λσ H Q hq=>?_
 obtain⟨O0,r,d,hR,e,q⟩:=hq;obtain⟨k,e1,e2⟩:=bnS e;cases k<;>first|(simp only[atR,reduceCtorEq] at e2;done)|skip
 simp only[atR] at e2;obtain⟨v,e3,rfl⟩:=mpS e2;refine⟨O0,r,_,hR,rfl,λv1 H1 s1 i1=>⟨O0,r,_,hR.same s1,e1,λv2 H2 s2 i2=>?_⟩⟩;rw[Is.ref_iff] at i1;rw[Is.str_iff] at i2;exact⟨_,v,i1,i2,e3,q _ H2 (s1.trans s2) (by rw[Is.ref_iff])⟩
def zIO(n:Nat)(ways:List Nat->Option (Mst->List D->Option (D×Mst)))(f:ME)(ms:MEa):MEf:=λst r=>(f r).bind λd=>match d with
 |.str key=>(ways key).bind λmm=>(ms st r).bind λp=>if p.1.length=n then mm p.2 p.1 else none
 |_=>none
theorem zFZ{ways:List Nat->Option (Mst->List D->Option (D×Mst))}(hG:W0 X.mg X.K X.w.params wn tbl)(hg:Gl X wn)(hk:DE X b f)(hv:PE X (.Name x npos) (vG z))(ha:DMa X C z es ms)(hw:∀key mm,ways key=some mm->∃(g:Addr) (fd:FuncData) (ps:List Str),qJ tbl key=some g/\FnOk X.prog X.w X.K X.mg X.base CX0 k g fd ps (spM X.K C n mm)/\Binds X.K fd ps []/\PySem.W.keepIn X.K (.ref g)=true)(hr:Room k X.A)(hs:bT b:=by intro _ _;rfl)(hd:(wn == ("__debug__" : Str))=false:=by decide)(he:ag (.Name x npos::es) X.env=(false,eval (.Name x npos) X.env)::ag es X.env:=by rfl)(hpl:(dq pos (ag es X.env)).any (·.1)=false:=by rfl):DMe X C z (.Call (.Subscript (.Name wn p') b bp) (.Name x npos::es) [] pos) (zIO n ways f ms):=by
 intro pZ s σ H Q I hq;obtain⟨O,a,w,c,st,r,d,st',mr,e1,q⟩:=hq;obtain⟨kd,e2,e3⟩:=bnS e1;cases kd<;>first|(cases e3;done)|skip
 rename_i key;obtain⟨mm,e4,e5⟩:=bnS e3;obtain⟨⟨ds,st1⟩,e6,e7⟩:=bnS e5;split at e7
 ·rename_i hl;obtain⟨g,fd,ps,g1,F,hb,hkp⟩:=hw key mm e4;show wpAny _ _ (do callWith pos (<- eval (.Subscript (.Name wn p') b bp) X.env) [] (dq pos (ag (.Name x npos::es) X.env)) (jd pos (fu [] X.env))) _ _ s;refine ac (thn ((zH6 hG hg hk hs hd) pZ s σ H (λv H1=>v=.ref g/\Same H H1) I ⟨O,r,.ref g,mr.rr,by unfold mUn;rw[e2,aa];show(qJ tbl key).map D.ref=_;rw[g1];rfl,λv H1 s1 iv=>⟨by rw[Is.ref_iff] at iv;exact iv,s1⟩⟩) λu s1 ⟨v,H1,I1,rv,ev,sm⟩=>?_);subst ev;obtain rfl:u=Value.ref g:=rv;have m1:=mr.same sm;refine kf (first:=[]) (h₀:=X.base) I.ok.mod.kin hkp (thn ((zY hv ha he) pos pZ s1 σ H1 (λvs H2=>spM X.K C n mm (vs++[]) H2 Q λ_ _ _=>False) I1 ⟨.ref a,qN m1,O,a,w,c,st,r,ds,st1,m1,e6,λvs H2 m2 il k2=>?_⟩) λus s2 ⟨vs,H2,I2,rr,q2⟩=>⟨I2.kIn,?_⟩) he hpl
  ·exact r8 m2 hl il e7 λv H' m' iv k'=>q v H' m' iv (((KeepM.same sm).trans k2).trans k')
  ·exact pD F hr hb .nil nA I2 rr q2
 ·cases e7
def YF(K:Fg)(p:Addr)(ns:List Int):Prop:=∃(o:Obj) (its:Array Value) (n:Nat),K.lookup p=some o/\o.cls=.type "tuple" /\ o.data=.seq its n/\its.size<=af/\Vals (ns.map V.int) its.toList
def zCW(K:Fg):List (List Nat×Addr)->List (List Nat×List Int)->Prop
 |[],l=>l=[]
 |q::r,l=>∃ns l',l=(q.1,ns)::l'/\YF K q.2 ns/\zCW K r l'
noncomputable def j5(tbl:List (List Nat×List Int))(s:List Nat):Option (List Int):=(tbl.find? λq=>decide (q.1=s)).map (·.2)
theorem dM{K:Fg}(s:List Nat):∀{tr:List (List Nat×Addr)} {tbl:List (List Nat×List Int)},zCW K tr tbl->match qJ tr s,j5 tbl s with
  |some p,some ns=>YF K p ns
  |none,none=>True
  |_,_=>False
 |[],tbl,h=>by unfold zCW at h;subst h;trivial
 |q::r,tbl,h=>by
  unfold zCW at h;obtain⟨ns,l',rfl,h1,h2⟩:=h;have ih:=dM s h2;unfold qJ j5 at ih ⊢;rw[gn,gn];cases hc:decide (q.1=s)
  ·exact ih
  ·exact h1
def zIG(mg:Str->Option Value)(K:Fg)(Ps:Params)(x:Str)(tbl:List (List Nat×List Int)):Prop:=∃tr,W0 mg K Ps x tr/\zCW K tr tbl
def zOA(tbl:List (List Nat×List Int)):D->Option D
 |.str s=>some (.tup (((j5 tbl s).getD []).map .int))
 |_=>none
theorem Q6{K:Fg}:∀l:List Int,IsL K O H (l.map D.int) (l.map V.int)
 |[]=>IsL.nil
 |i::l=>.cons (by rw[Is.int_iff]) (Q6 l)
theorem zH5(h:zIG X.mg X.K X.w.params x tbl)(hg:Gl X x)(he:DE X e f)(hb:DE X b (mC (.tup [])))(hd:(x == ("__debug__" : Str))=false:=by decide)(hbase:cb (.Name x p') "get" X.env (eval (.Name x p') X.env)=eval (.Name x p') X.env:=by rfl)(hfew:((dq cpos (ag [e,b] X.env)).all (λx=>!x.1) && (jd cpos (fu [] X.env)).all (λx=>x.1.isSome) && decide (([e,b]:List Expr).length+([]:List Keyword).length+(if ([]:List Keyword).isEmpty then 0 else 1)<30))=true:=by rfl)(hline:(apos.endLine == cpos.line)=true:=by rfl)(htr:dq cpos (ag [e,b] X.env)=[(false,eval e X.env),(false,eval b X.env)]:=by rfl):DE X (.Call (.Attribute (.Name x p') "get" apos) [e,b] [] cpos) (mUn (zOA tbl) f):=by
 obtain⟨tr,⟨p,es,n,h1,h2,h3,h4,h5⟩,ht⟩:=h;intro pZ s σ H Q I hq;obtain⟨O0,r,d,hR,e1,q⟩:=hq;obtain⟨kd,e2,e3⟩:=bnS e1;cases kd<;>first|(cases e3;done)|skip
 rename_i key;cases e3;refine wpAny_Call_method hbase hfew hline tw vb PySem.F.type_dict_get (thn ((JE (p:=p) h1 hg hd) pZ s σ H (λv H1=>v=.ref p/\Same H H1) I ⟨O0,r,.ref p,hR,rfl,λv H1 s1 iv=>⟨by rw[Is.ref_iff] at iv;exact iv,s1⟩⟩) λu s1 ⟨v,H1,I1,rv,ev,sm⟩=>?_);subst ev;obtain rfl:u=Value.ref p:=rv;have mp:=zBU (tbl:=[]) (Ps:=X.w.params) (x:="") I1 h3 h4;refine⟨mp.typeIs,λq hq=>by cases hq;exact⟨_,I1.kIn _ _ h3,rfl⟩,?_⟩;rw[htr];have R1:=hR.same sm;refine kt rfl (qe (kg (thn (he pZ s1 σ H1 (λv H2=>v=.str ⟨key.toArray⟩/\Same H1 H2) I1 ⟨O0,r,.str key,R1,e2,λv H2 s2 iv=>⟨by rw[Is.str_iff] at iv;exact iv,s2⟩⟩) λiv s2 ⟨y,H2,I2,ry,ey,sm2⟩=>
  kg (thn (hb pZ s2 σ H2 (λv H3=>Same H2 H3/\Is X.K (Ow O0 r σ) H3 (.tup []) v) I2 ⟨O0,r,.tup [],R1.same sm2,rfl,λv H3 s3 iv=>⟨s3,iv⟩⟩) λfv s3 ⟨z,H3,I3,rz,sm3,iz⟩=>mz ?_))))
 subst ey;obtain⟨t,rfl⟩:=ry;have mp3:=zBU (tbl:=[]) (Ps:=X.w.params) (x:="") I3 h3 h4;have fnd:=uT key h5;rw[<-dU] at fnd;have sall:=(sm.trans sm2).trans sm3;refine call_meetsIn vb mp3.typeIs PySem.F.entry_dict_get (PySem.F.args_dict_get_3 _ _ _) (meets_dict_get_default (strKind X.prog X.w) p (strKind_is _ _ _ t) h2 fv) ⟨_,mp3,?_⟩;rw[fnd];have lk:=dM key ht;cases e5:qJ tr key with
 |none=>
  rw[e5] at lk;cases e6:j5 tbl key with
  |none=>
   refine⟨z,H3,I3.tok _,rz,q z H3 sall ?_⟩;rw[e6];exact iz
  |some ns=>rw[e6] at lk;exact lk.elim
 |some a=>
  rw[e5] at lk;cases e6:j5 tbl key with
  |none=>rw[e6] at lk;exact lk.elim
  |some ns=>
   rw[e6] at lk;refine⟨.ref a,H3,I3.tok _,rfl,q (.ref a) H3 sall ?_⟩;rw[e6,Is.tup_iff];exact⟨a,ns.map V.int,rfl,.inr lk,Q6 ns⟩
namespace RV
theorem owner:Manifest.owners.lookup (String.ofList ['d','e','s','r','e','v','e','r'].reverse)=some Manifest.sig_reversed:=by kernel_rfl
theorem s_next:Slot "reversed" "__next__" "reversed.__next__" := Slot.of (owner:="reversed") (n:="__next__") (by(rw[jl,gt]);kernel_rfl) (by decide +kernel) (by decide +kernel) (by decide +kernel) (by first|exact .inl (by decide +kernel)|exact .inr (by decide +kernel)) (by(rw[kh]);kernel_rfl)
theorem e_next:entryFor table "reversed.__next__" = some Builtin.«reversed.__next__»:=entryFor_of_tree (by kernel_rfl)
theorem a_next(a:Value):argsOk "reversed.__next__" ⟨[a],[]⟩:=by
 unfold argsOk;rw[signature?_of (id:="reversed.__next__") (n:=['_','_','t','x','e','n','_','_']) (o:=['d','e','s','r','e','v','e','r']) (by kernel_rfl) owner];kernel_rfl
theorem s_iter:Slot "reversed" "__iter__" "reversed.__iter__" := Slot.of (owner:="reversed") (n:="__iter__") (by(rw[jl,gt]);kernel_rfl) (by decide +kernel) (by decide +kernel) (by decide +kernel) (by first|exact .inl (by decide +kernel)|exact .inr (by decide +kernel)) (by(rw[kh]);kernel_rfl)
theorem a_iter(a:Value):argsOk "reversed.__iter__" ⟨[a],[]⟩:=by
 unfold argsOk;rw[signature?_of (id:="reversed.__iter__") (n:=['_','_','r','e','t','i','_','_']) (o:=['d','e','s','r','e','v','e','r']) (by kernel_rfl) owner];kernel_rfl
theorem e_iter:entryFor table "reversed.__iter__" = some Builtin.«dict_keyiterator.__iter__»:=
 entryFor_alias (id':="dict_keyiterator.__iter__") (by kernel_rfl) (by first|rfl|decide +kernel|(unfold String.splitOn;simp +decide [String.splitOnAux])) (by decide +kernel) (by kernel_rfl)
theorem no_own:typeLookup (.type "tuple") "__reversed__" = pure none:=by(rw[jl,gt]);kernel_rfl
theorem no_dict:isSubtype (.type "tuple") (.type "dict")=pure false:=by(rw[kh]);kernel_rfl
theorem zJ7:Slot "reversed" "__init__" "object.__init__" := Slot.of (owner:="object") (n:="__init__") (by(rw[jl,gt]);kernel_rfl) (by decide +kernel) (by decide +kernel) (by decide +kernel) (by first|exact .inl (by decide +kernel)|exact .inr (by decide +kernel)) (by(rw[kh]);kernel_rfl)
theorem called:TypeCalled "reversed" "reversed.__new__" "object.__init__" := ⟨by decide +kernel,by decide +kernel,⟨_,_,F.mro_reversed⟩,F.made_reversed,by decide +kernel,by(rw[kh]);kernel_rfl,zJ7⟩
end RV
noncomputable def zCJ(l:Addr)(i:Int):Obj:={ cls:=.type "reversed",data:=.fields #[.ref l,rawInt i] }
def IsRv(h:Heap)(a l:Addr)(i:Int):Prop:=∃o,h.get? a=some o/\o.cls=.type "reversed" /\ o.data=.fields #[.ref l,rawInt i]
section
variable{prog:Program}{w:World}{A:Around}{E:Value->Shared->Prop}{s:Shared}
theorem IsRv.typeIs{a l:Addr}{i:Int}(x:IsRv s.heap a l i):s.TypeIs (.ref a) "reversed" := let ⟨o,ho,hc,_⟩:=x;⟨o,ho,hc⟩
theorem IsRv.at(x:IsRv h a l i)(e:∀o,h.get? a=some o->h'.get? a=some o):IsRv h' a l i:=let ⟨o,ho,r⟩:=x;⟨o,e _ ho,r⟩
theorem QI{it l:Addr}{i:Int}{Q:Value->Shared->Prop}(hit:IsRv s.heap it l i)(h:Q (.ref it) s):wpAny (model prog w) A (pyIter (.ref it)) Q E s:=by
 refine wpAny_pyIter_slot hit.typeIs RV.s_iter (ge RV.s_iter hit.typeIs RV.e_iter ?_ (RV.a_iter _));show wpAny _ _ (ret (.ref it)) _ _ s;exact ah ⟨_,rfl, "reversed",_,hit.typeIs,RV.s_next.lookup,h⟩
theorem zJ9(ht:IsTup s.heap l items)(hz:items.size<=af)(h:∀tk,Q₁ (.ref s.heap.objs.size) { s with heap:=s.heap.push (zCJ l ((items.size:Int)-1)),toks:=tk }):codeAny (model prog w) A (.call (.builtin "reversed.__new__") ⟨[.type "reversed",.ref l],[]⟩) (wants Q₁ E) s:=by
 refine codeAny_of_tree ?_;show wpAny _ A.in1 (do checkBuiltinCall "reversed.__new__" ⟨[.type "reversed",.ref l],[]⟩;again (.builtin "reversed.__new__" ⟨[.type "reversed",.ref l],[]⟩)) _ _ s;refine ac (gr (F.newCall_reversed_1 _) (ah ⟨lh wb _,jm F.entry_reversed_new ?_⟩));rw[ie wb _];unfold Builtin.«reversed.__new__»;refine ac (gr (newClass_reversed _) ?_)
 try dsimp only
 refine ac (gr (a:=()) (by first|rfl|kernel_rfl) ?_);refine ac (gr (a:=()) (by first|rfl|kernel_rfl) ?_)
 try dsimp only
 refine ac (ii ht.typeIs RV.no_own ?_)
 try dsimp only
 refine ac ?_;show wpAny _ _ (isInstance (Value.ref l) (.type "dict") >>= _) _ _ _;refine ac (nj ht.typeIs RV.no_dict ?_)
 try dsimp only
 simp only[bx,if_false];refine ac (ii ht.typeIs se.lookup ?_)
 try dsimp only
 rw[if_pos (by decide +kernel)];refine ah ?_;simp only[qp,bx,if_false];refine ac (len_tuple ht (by have:=pi;omega) ?_);refine ac (gr (a:=some (items.size:Int)) rfl ?_)
 try dsimp only
 unfold Builtin.SmallTypes.newRecord;refine ac (dj ?_ (by size_fits));exact ah (h _)
theorem zED(ht:IsTup s.heap l items)(hz:items.size<=af)(h:∀tk,Q (.ref s.heap.objs.size) { s with heap:=s.heap.push (zCJ l ((items.size:Int)-1)),toks:=tk }):wpAny (model prog w) A (call (.type "reversed") [.ref l]) Q E s:=by
 refine callType_codes (Q₁:=λobj s₁=>obj=.ref s.heap.objs.size/\∃tk,s₁={ s with heap:=s.heap.push (zCJ l ((items.size:Int)-1)),toks:=tk }) RV.called (F.typeCall_reversed_1 _) F.entry_object_init (zJ9 ht hz λtk=>⟨rfl,tk,rfl⟩) ?_;rintro obj s₁ ⟨rfl,tk,rfl⟩;have ty:Shared.TypeIs { s with heap:=s.heap.push (zCJ l ((items.size:Int)-1)),toks:=tk } (.ref s.heap.objs.size) "reversed" := ⟨_,bo _ rfl,rfl⟩;refine⟨ty,wd _ _,?_⟩;exact object_init_meets RV.called.init.lookup RV.called.made (by decide) prog w A.in1 _ _ ⟨ty,rfl,h tk⟩
theorem zEC{it l:Addr}{i:Nat}{items:Array Value}{x:Value}{Q:Option Value->Shared->Prop}(hit:IsRv s.heap it l (i:Int))(hl:IsTup s.heap l items)(hz:items.size<=af)(hx:items[i]?=some x)(hQ:∀h' tk,IsRv h' it l ((i:Int)-1)->Heap.SameBut it s.heap h'->Q (some x) { s with heap:=h',toks:=tk }):wpAny (model prog w) A (pyNext (.ref it)) Q E s:=by
 obtain⟨o,ho,hc,hd⟩:=id hit;unfold pyNext;refine ac (jx (fq (name:=Str.ofString "__next__") hit.typeIs RV.s_next
  (ge RV.s_next hit.typeIs RV.e_next ?_ (RV.a_next _))))
 unfold Builtin.«reversed.__next__»;refine ac (gr (a:=(Value.ref it,[])) rfl ?_)
 try dsimp only
 refine ac (cr ho hd (x:=.ref l) rfl ?_);refine ac (cr ho hd (x:=rawInt (i:Int)) rfl ?_);show wpAny _ _ (if (i:Int)<0 then _ else _) _ _ s;rw[if_neg (by omega)];refine ac (ii hl.typeIs se.lookup ?_);simp only[Option.isNone_some,bx,if_false];refine ac (wpAny_mkInt ?_);have hi:i<items.size:=by
  obtain⟨z,_⟩:=Array.getElem?_eq_some_iff.mp hx;exact z
 refine ac (jx (getItem_tuple (j:=i) (s:={ s with toks:=s.toks+1 }) hl (by omega) (by have:=pi;omega) (by unfold seqIndex?;simp;omega) hx ?_));dsimp only;refine ac (cr (s:={ s with toks:=s.toks+1 }) ho hd (x:=rawInt (i:Int)) rfl ?_);dsimp only[rawInt];refine ac (rn (s:={ s with toks:=s.toks+1 }) ho hd (by simp) ?_);refine ah ⟨x,rfl,ah (hQ _ _ ?_ (ql ..))⟩;exact⟨_,jr _ ho (vf (mw hd _)),(Obj.cls_mapFields ..).trans hc,by
  rw[mw hd];simp[rawInt]⟩
theorem zKA{it l:Addr}{Q:Option Value->Shared->Prop}(hh:A.handled=none)(hit:IsRv s.heap it l (-1))(hQ:∀h',Heap.ExtBut it s.heap h'->Q none { s with heap:=h' }):wpAny (model prog w) A (pyNext (.ref it)) Q E s:=by
 obtain⟨o,ho,hc,hd⟩:=id hit;unfold pyNext;refine ac (jx (fq (name:=Str.ofString "__next__") hit.typeIs RV.s_next
  (ge RV.s_next hit.typeIs RV.e_next ?_ (RV.a_next _))))
 unfold Builtin.«reversed.__next__»;refine ac (gr (a:=(Value.ref it,[])) rfl ?_)
 try dsimp only
 refine ac (cr ho hd (x:=.ref l) rfl ?_);refine ac (cr ho hd (x:=rawInt (-1)) rfl ?_);show wpAny _ _ (if (-1:Int)<0 then _ else _) _ _ s;rw[if_pos (by decide)];refine ac (nw ?_);show wpAny _ _ ((setField (.ref it) 1 (rawInt (-1)) >>= λ_=>setField (.ref it) 0 .none) >>= _) _ _ _;refine ac (ac (rn ho hd (by simp) ?_));refine rn (jr _ ho (vf (mw hd _))) (mw hd _) (by simp) ?_;refine ac ?_;show wpAny _ _ (newExc (.type "StopIteration") [] >>= _) _ _ _;refine ac ?_;simp only[newExc,newTuple];refine ac (dj ?_ (by size_fits));refine ac (m:=firstArgMember _ _) (gr (a:=Value.none) (by first|rfl|(simp only[firstArgMember];rfl)) ?_);refine dj ?_ (by size_fits);simp only[raiseNew];refine ac (wpAny_handled ?_)
 first|rw[show A.in1.handled=none from hh]|rw[hh]
 refine ac (ah (wpAny_throw ?_));refine ac (nj (T:="StopIteration") (b:=true) ⟨_,bo _ rfl,rfl⟩ ro ?_);refine ah (hQ _ λb o hb e=>?_);have e1:=(ql s.heap it (Obj.mapFields λx=>x.setIfInBounds 1 (rawInt (-1)))).2 b hb;have e2:=(ql (s.heap.update it (Obj.mapFields λx=>x.setIfInBounds 1 (rawInt (-1)))) it (Obj.mapFields λx=>x.setIfInBounds 0 .none)).2 b hb;exact al _ (al _ (e2.trans (e1.trans e)))
end
def zQD(K:Fg)(a:Addr)(n:Nat):It:=
 ⟨λi H=>∃xs x,SqT K H a xs/\xs.length=n/\i<n/\xs[n-1-i]?=some x,λi H x H'=>H'=H/\∀xs,SqT K H a xs->xs[n-1-i]?=some x,λi _=>i=n⟩
theorem zDN{K:Fg}(a it:Addr)(n:Nat):Turn P w K tg (zQD K a n) [it] it (λi h=>IsRv h it a ((n:Int)-1-(i:Int))) where
 mem:=by simp
 obj:=λi h st b hb=>by
  have e:b=it:=by simpa using hb
  subst e;obtain⟨o,e,c,d⟩:=st;exact⟨o,e,λv z=>by rw[d] at z;cases z⟩
 keep:=λi h h' st k=>st.at λo e=>k it (by simp) o e
 item:=by
  intro X hP hw hK hc i pZ s σ H E I hf st hg;subst hP hw hK;obtain⟨xs,x,hq,hn,hi,hx⟩:=hg;obtain⟨its,rv,p,hz⟩:=I.tuple hq;obtain⟨u,hu,ru⟩:=rv.get hx;obtain⟨f0,f1,f2,f3,f4,f5⟩:=hf it (by simp);have e1:(n:Int)-1-(i:Int)=((n-1-i:Nat):Int):=by clear st hu hx hq hn rv p;omega
  rw[e1] at st;refine zEC st p (by rw[am,<-rv.length];exact hz) (x:=u) (by simpa using hu) λh' tk st' sb=>?_
  have e2:((n-1-i:Nat):Int)-1=(n:Int)-1-((i+1:Nat):Int):=by clear st st' hu hx hq hn rv p;omega
  rw[e2] at st';have I1:Inv X pZ σ H { s with heap:=h',toks:=tk }:=I.turned (t':=tk) (λb o hb e=>(sb.2 b hb).trans e) f0 f1 f3 f4 f5;obtain⟨o,e,c,d⟩:=id st';exact⟨u,rfl,Q8 (s:={ s with heap:=h',toks:=tk }) e c d (by decide) ⟨x,H,I1,ru,⟨rfl,λys hy=>by rw[I.tuple_inj hy hq];exact hx⟩,st',λb hb=>(hf b hb).1⟩⟩
 done:=by
  intro X hP hw hK hc i pZ s σ H E I hf st hg;subst hP hw hK;obtain rfl:i=n:=hg;obtain⟨f0,f1,f2,f3,f4,f5⟩:=hf it (by simp);have e1:(i:Int)-1-(i:Int)=-1:=by clear st;omega
  rw[e1] at st;exact zKA (I.ok.hd hc) st λh' eb=>⟨rfl,I.turned (t':=s.toks) (λb o hb e=>eb b o hb e) f0 f1 f3 f4 f5⟩
 self:=λ_ _ _ _ _ st h=>QI st h
def lIo(K:Fg)(it:ML):TI:=λσ H Rr=>∃O0 r l,R K O0 H r σ/\it r=some l/\∀J H',Same H H'->zJE K (Ow O0 r σ) (Ow O0 r σ) H' J l->Rr J H'
def DIo(X:Cx)(tg iter:Expr)(it:ML):Prop:=PI X tg iter (lIo X.K it)
def mTp(f:ME):ML:=λr=>(f r).bind λd=>match d with
 |.tup l=>some l
 |_=>none
theorem zHQ(hl:DE X l f):DIo X tg l (mTp f):=by
 refine PI.conseq (zEU hl) λσ H Rr h=>?_
 obtain⟨O0,r,ds,hR,e,q⟩:=h;obtain⟨d,e1,e2⟩:=bnS e;refine⟨O0,r,d,hR,e1,λv H1 s1 i1=>?_⟩;have ol:=(hR.same s1).ol;cases d<;>first|(cases e2;done)|skip
 cases e2;rw[Is.tup_iff] at i1;obtain⟨a,xs,rfl,rd,il⟩:=i1;exact⟨a,rfl,.inr ⟨⟨xs,rd⟩,q _ H1 s1 (zC4 (λa z=>z) ol rd il)⟩⟩
theorem zOE{K:Fg}(ol:j9 O H)(rd:SqT K H a xs)(il:IsL K O H ds xs):zJE K O O H (zQD K a xs.length) ds.reverse:=by
 intro i H1 O' kp oo;have rd1:SqT K H1 a xs:=SqT.keep kp ol rd;have ll:=il.length;have bk:∀d,ds.reverse[i]?=some d->i<xs.length/\ds[xs.length-1-i]?=some d:=λd e=>by
  have hi:i<ds.length:=by
   obtain⟨h,_⟩:=av.mp e;rw[eh] at h;exact h
  rw[ku hi,ll] at e;exact⟨ll ▸ hi,e⟩
 refine⟨λhi=>⟨?_,λx H' y=>?_⟩,λhi=>by rw[eh,ll] at hi;exact hi⟩
 ·obtain⟨d,e⟩:=uC hi;obtain⟨hi',e'⟩:=bk d e;obtain⟨v,e1,_⟩:=il.get e';exact⟨xs,v,rd1,rfl,hi',e1⟩
 ·obtain⟨rfl,y⟩:=y;refine⟨Same.refl _,λd e=>?_⟩;obtain⟨hi',e'⟩:=bk d e;obtain⟨v,e1,q⟩:=il.get e'
  have:=y xs rd1
  rw[e1] at this;cases this;exact Is.mono kp ol oo _ _ q
theorem zO7(hg:Gl X "reversed")(hm:X.mg "reversed" = none)(ha:PE X a ta)(hs:ag [a] X.env=[(false,eval a X.env)]:=by rfl):PI X tg (.Call (.Name "reversed" p) [a] [] pos) (λσ H R=>ta σ H λx H1=>∃u xs,x=.ref u/\SqT X.K H1 u xs/\R (zQD X.K u xs.length) H1):=by
 intro pZ s σ H R I h;have hA:PA X [a] (YU ta zIQ):=zY ha yV (by rw[hs];rfl);refine Call_ (bB I hg hm sf (fi (thn (hA pos pZ s σ H (z1 λx H1=>∃u xs,x=.ref u/\SqT X.K H1 u xs/\R (zQD X.K u xs.length) H1) I h) λus s1 ⟨vs,H1,I1,r1,q1⟩=>?_) hs rfl));obtain⟨_,rfl,u,xs,rfl,hx,q⟩:=zC3 q1;obtain⟨uu,rfl,ru⟩:=Vals.one r1;cases ru;obtain⟨its,rv,pl,hz⟩:=I1.tuple hx;have hl:its.toArray.size=xs.length:=by rw[am];exact rv.length.symm
 refine zED pl (by rw[hl];exact hz) λtk=>?_
 have z1:IsRv (s1.heap.push (zCJ u ((its.toArray.size:Int)-1))) s1.heap.objs.size u ((its.toArray.size:Int)-1):=⟨_,bo _ rfl,rfl,rfl⟩;refine QI z1 ?_;refine⟨_,[s1.heap.objs.size],_,_,H1,rfl,I1.kept (t':=tk) (λb o e=>al _ e),zDN u _ xs.length,?_,λb hb=>?_,q⟩
 ·rw[hl] at z1 ⊢;rw[show((xs.length:Int)-1-((0:Nat):Int))=(xs.length:Int)-1 from Int.sub_zero _];exact z1
 ·have e:b=s1.heap.objs.size:=by simpa using hb
  subst e;exact I1.fpOk (ae _) (I1.hok.fresh (ae _))
def zPK(f:ME):ML:=λr=>(mTp f r).map List.reverse
theorem zMM(hg:Gl X "reversed")(hm:X.mg "reversed" = none)(ha:DE X a f)(hs:ag [a] X.env=[(false,eval a X.env)]:=by rfl):DIo X tg (.Call (.Name "reversed" p) [a] [] pos) (zPK f):=by
 refine PI.conseq (zO7 hg hm ha hs) λσ H Rr hq=>?_
 obtain⟨O0,r,ds,hR,e,q⟩:=hq;obtain⟨l,e0,rfl⟩:=mpS e;obtain⟨x,e1,e2⟩:=bnS e0;refine⟨O0,r,x,hR,e1,λv1 H1 s1 i1=>?_⟩;have ol:=(hR.same s1).ol;cases x<;>first|(cases e2;done)|skip
 cases e2;rw[Is.tup_iff] at i1;obtain⟨u,xs,rfl,hx,il⟩:=i1;exact⟨u,xs,rfl,hx,q _ H1 s1 (zOE ol hx il)⟩
def rQ(z i:Nat)(g:MEs):List D->MEs
 |[]=>rO
 |d::t=>λst r=>if i=z then none else (yN i d r).bind λr1=>(g st r1).bind λfl=>match fl with
  |.nx st' r'=>rQ z i g t st' r'
  |.rt d st' r'=>some (.rt d st' r')
def zQE(z i:Nat)(it:ML)(g:MEs):MEs:=λst r=>(it r).bind λl=>rQ z i g l st r
def bZ:Nat->MEt->MEs->MEs
 |0,_,_=>λ_ _=>none
 |n+1,t,g=>λst r=>(t st r).bind λp=>if p.1=true then (g p.2 r).bind λfl=>(match fl with
  |.nx st' r'=>bZ n t g st' r'
  |.rt d st' r'=>some (.rt d st' r')) else some (.nx p.2 r)
theorem zLO(i:Nat)(hp:PassesOwn (model X.prog X.w) X.A X.env X.xe)(hc:X.calm=true)(hi:DIo X (.Name x tpos) iter it)(hN:X.N.Nodup)(hb:zCF X C z body g)(hxi:X.N[i]?=some x:=by rfl)(hx:Loc X.env.scope x:=by first|exact Or.inl rfl|exact Or.inr rfl)(hf:X.fn x=true\/X.env.scope.names.lookup x=some .local:=by first|exact .inl rfl|exact .inr rfl)(hs:∀x,fg iter X.env x=pure x:=by intro _;rfl):DMs X C z (.For (.Name x tpos) iter body [] pos) (zQE z i it g):=by
 refine PS.conseq (zEL hp hc hi (tT hN hxi hx hf) hb hs) λDn σ H hq=>?_
 obtain⟨O,a,w,c,st,r,fl,mr,e,q⟩:=hq;obtain⟨l,e1,e2⟩:=bnS e;refine⟨O,r,l,mr.rr,e1,λJ H0 s0 yl=>?_⟩;have m0:=mr.same s0;rw[show Ow O r σ=O from funext λb=>propext mr.no.ow] at yl;refine⟨λi' m σ1 H1=>m=l.length-i'/\i'<=l.length/\∃st1 r1,McR X.K O H1 C z a w c st1 r1 σ1/\KeepM a w c H0 H1/\rQ z i g (l.drop i') st1 r1=some fl,⟨l.length,by simp,cg _,st,r,m0,KeepM.refl H0,by simpa using e2⟩,?_⟩;rintro i' m σ1 H1 ⟨rfl,hil,st1,r1,m1,k1,e3⟩;have k0:=(KeepM.same (a:=a) (w:=w) (c:=c) s0).trans k1;obtain⟨y1,y2⟩:=yl i' H1 O (m0.ms.kp k1) λ_ z _=>z
 by_cases hlt:i'<l.length
 ·obtain⟨go,yd⟩:=y1 hlt;have hd:l[i']?=some l[i']:=by simp[hlt]
  rw[uF hd] at e3;unfold rQ at e3;split at e3
  ·cases e3
  rename_i h0;obtain⟨r2,e4,e5⟩:=bnS e3;obtain⟨f1,e6,e7⟩:=bnS e5;refine .inr ⟨go,λσ3 H3=>∃st3 r3,McR X.K O H3 C z a w c st3 r3 σ3/\KeepM a w c H0 H3/\rQ z i g (l.drop (i'+1)) st3 r3=some fl,λσ3 H3 z=>⟨l.length-(i'+1),by omega,rfl,hlt,z⟩,λx H2 yx=>?_⟩;obtain⟨s2,ix⟩:=yd x H2 yx;have m2:=m1.same s2;obtain⟨hl,np,rfl⟩:=jD e4;obtain⟨R1,_⟩:=m2.rr.setv hl np (m2.is.mpr (ix _ hd));have m3:McR X.K O H2 C z a w c st1 (r1.set i (.v l[i'])) (σ1.set i (some x)):=⟨m2.ms,R1,m2.no.set,by rw[gy h0];exact m2.me⟩;refine⟨O,a,w,c,st1,_,f1,m3,e6,?_⟩;have k3:=k1.trans (KeepM.same (a:=a) (w:=w) (c:=c) s2);have k4:=k0.trans (KeepM.same (a:=a) (w:=w) (c:=c) s2);cases f1 with
  |nx st3 r3=>exact λσ3 H3 M3 kk=>⟨st3,r3,M3,k3.trans kk,e7⟩
  |rt d st3 r3=>cases e7;exact MFl.to_keep k4 q
 ·have hl:l.drop i'=[]:=kq (by omega);rw[hl] at e3;cases e3;exact .inl ⟨y2 (by omega),q σ1 H1 m1 k0⟩
theorem zBB(n:Nat)(hp:PassesOwn (model X.prog X.w) X.A X.env X.xe)(hc:DMt X C z c t)(hb:zCF X C z body g):DMs X C z (.While c body [] pos) (bZ n t g):=by
 refine PS.conseq (tN hp hc hb) λDn σ H hq=>?_
 obtain⟨O,a,w,c,st,r,fl,mr,e,q⟩:=hq;refine⟨λm σ1 H1=>∃st1 r1,McR X.K O H1 C z a w c st1 r1 σ1/\KeepM a w c H H1/\bZ m t g st1 r1=some fl,⟨n,st,r,mr,KeepM.refl H,e⟩,?_⟩;rintro m σ1 H1 ⟨st1,r1,m1,k1,e1⟩;cases m with
 |zero=>cases e1
 |succ m=>
  obtain⟨⟨b,st2⟩,e2,e3⟩:=bnS e1;refine⟨O,a,w,c,st1,r1,b,st2,m1,e2,λH2 m2 k2=>?_⟩;have k3:=k1.trans k2;cases b with
  |false=>
   cases e3;exact zNW (q σ1 H2 m2 k3)
  |true=>
   obtain⟨f1,e4,e5⟩:=bnS e3;refine zNV ⟨λσ3 H3=>∃st3 r3,McR X.K O H3 C z a w c st3 r3 σ3/\KeepM a w c H H3/\bZ m t g st3 r3=some fl,λσ3 H3 z=>⟨m,nr m,z⟩,O,a,w,c,st2,r1,f1,m2,e4,?_⟩;cases f1 with
   |nx st3 r3=>exact λσ3 H3 M3 kk=>⟨st3,r3,M3,k3.trans kk,e5⟩
   |rt d st3 r3=>cases e5;exact MFl.to_keep k3 q
theorem zFP(hv:PE X (.Name x npos) (vG z))(cl:Cls X.K C)(na:NoAttr X.K C "waiting")(hb:cb (.Name x npos) "waiting" X.env (eval (.Name x npos) X.env)=eval (.Name x npos) X.env:=by rfl)(he:∀whole,isTrue (.Attribute (.Name x npos) "waiting" apos) X.env whole=(do let v <- whole;standAt (Expr.Attribute (.Name x npos) "waiting" apos).pos;holding [v] (truthy v)):=by intro _;rfl):DMt X C z (.Attribute (.Name x npos) "waiting" apos) (λst _=>some (!st.wait.isEmpty,st)):=by
 refine PT.conseq (g0 (cC hv hb) he) λσ H Q hq=>?_
 obtain⟨O,a,w,c,st,r,b,st',mr,e,q⟩:=hq;cases e;obtain⟨dx,xs,ys,ve,vd,g1,g2,g3,g4,g5,g6,g7⟩:=mr.ms.ex;refine⟨.ref a,qN mr,a,C,dx,_,.ref w,rfl,g1,cl,na,rfl,!xs.isEmpty,.inl ⟨xs,SqL.of g2,rfl⟩,?_⟩
 have:=g6.length
 rw[show xs.isEmpty=st.wait.isEmpty by cases h1:st.wait<;>cases h2:xs<;>simp[h1,h2] at this ⊢];exact q H mr (KeepM.refl H)
noncomputable def nonB:D->Bool
 |.non=>true
 |_=>false
theorem Is.nonB{K:Fg}(h:Is K O H d v):decide (v=.non)=nonB d:=by
 cases d with
 |non=>rw[Is.non_iff] at h;subst h;rfl
 |bl b=>rw[Is.bl_iff] at h;subst h;rfl
 |int i=>rw[Is.int_iff] at h;subst h;rfl
 |str s=>rw[Is.str_iff] at h;subst h;rfl
 |ref a=>rw[Is.ref_iff] at h;subst h;rfl
 |tup l=>rw[Is.tup_iff] at h;obtain⟨a,xs,rfl,_⟩:=h;rfl
 |lst l=>rw[Is.lst_iff] at h;obtain⟨a,xs,rfl,_⟩:=h;rfl
 |dct ks l=>rw[Is.dct_iff] at h;obtain⟨a,xs,rfl,_⟩:=h;rfl
 |ty n=>unfold Is at h;subst h;rfl
theorem zFS(h:DMe X C z e m):DMt X C z (.Compare e [.Is] [.Constant .none j pos'] pos) (λst r=>(m st r).map λp=>(nonB p.1,p.2)):=by
 refine PT.conseq (zEK (zKS h)) λσ H Q hq=>?_
 obtain⟨O,a,w,c,st,r,b,st',mr,e,q⟩:=hq;obtain⟨⟨d,st1⟩,e1,e2⟩:=mpS e;cases e2;exact⟨O,a,w,c,st,r,d,st1,mr,e1,λv H1 m1 iv k1=>⟨_,rfl,by rw[Is.nonB iv];exact q H1 m1 k1⟩⟩
theorem zLM(h:DMt X C z e t)(h':DMt X C z e' t'):DMt X C z (.BoolOp .And [e,e'] pos) (λst r=>(t st r).bind λp=>if p.1=true then t' p.2 r else some (false,p.2)):=by
 refine PT.conseq (PW.pt (zEI h (QK h'))) λσ H Q hq=>?_
 obtain⟨O,a,w,c,st,r,b,st',mr,e,q⟩:=hq;obtain⟨⟨b1,st1⟩,e1,e2⟩:=bnS e;refine⟨O,a,w,c,st,r,b1,st1,mr,e1,λH1 m1 k1=>?_⟩;cases b1 with
 |false=>cases e2;exact zNW (q H1 m1 k1)
 |true=>exact zNV ⟨O,a,w,c,st1,r,b,st',m1,e2,λH2 m2 k2=>q H2 m2 (k1.trans k2)⟩
section
variable{pl:Pos}
theorem b0{α:Type}{cs:List α}{i:Nat}(h:i<cs.length):∃v,(cs.take (cs.length-i))[(cs.take (cs.length-i)).length-1]?=some v/\(cs.take (cs.length-i)).dropLast=cs.take (cs.length-(i+1))/\cs.reverse.take i++[v]=cs.reverse.take (i+1):=by
 have hl:(cs.take (cs.length-i)).length=cs.length-i:=by rw[gp];omega
 have h1:cs.length-i-1<cs.length:=by omega
 refine⟨cs[cs.length-i-1],?_,?_,?_⟩
 ·rw[hl,List.getElem?_take,if_pos (by omega),bt h1]
 ·rw[jq,hl,List.take_take];congr 1;omega
 ·rw[List.take_succ,ku h,show cs.length-1-i=cs.length-i-1 by omega,bt h1];rfl
def zIP(f:ME):MEf:=λst r=>(f r).bind λd=>match d with
 |.tup l=>if l.length<=st.come.length/\l.length<af then some (.lst (st.come.drop (st.come.length-l.length)),{ st with come:=st.come.take (st.come.length-l.length) }) else none
 |_=>none
theorem zF1(hc:X.calm=true)(o:CmpOk X N' [0] scope)(hi:DE X iter f)(hn:N'.length=2)(hg:∀C fp s H,PG (cxC X N' scope C fp s H) (.Name y tpos) (X7 1))(hv:∀C fp s H,PE (cxC X N' scope C fp s H) (.Name x npos) (vG 0))(cl:Cls X.K C)(na:NoAttr X.K C "come")(hb:∀C fp s H,cb (.Name x npos) "come" (cxC X N' scope C fp s H).env (eval (.Name x npos) (cxC X N' scope C fp s H).env)=eval (.Name x npos) (cxC X N' scope C fp s H).env)(hbase:∀C fp s H,cb (.Attribute (.Name x npos) "come" bpos) "pop" (cxC X N' scope C fp s H).env (eval (.Attribute (.Name x npos) "come" bpos) (cxC X N' scope C fp s H).env)=eval (.Attribute (.Name x npos) "come" bpos) (cxC X N' scope C fp s H).env)(hline:(apos.endLine == cpos.line)=true:=by rfl)(hs:∀x,fg iter X.env x=pure x:=by intro _;rfl):DMe X C 0 (.Subscript (.ListComp (.Call (.Attribute (.Attribute (.Name x npos) "come" bpos) "pop" apos) [] [] cpos) [⟨.Name y tpos,iter,[],0⟩] scope pl) (.Slice none none (some (.UnaryOp .USub (.Constant (.int 1) j p3) pos)) p2) pn) (zIP f):=by
 refine PE.conseq (zEY (cB (tc:=none) (g:=X7 1) (te:=zQY X.K "list" zQ2 (zQX X.K (vG 0) "come")) (cap:=[0]) hc o (zHQ hi) hg rfl (λC fp s H=>XA di jp jo XS (cC (hv C fp s H) (hb C fp s H)) (hbase C fp s H) hline) hs)) λσ H Q hq=>?_
 obtain⟨O,a,w,c,st,r,d,st',mr,e1,q⟩:=hq;obtain⟨d',e2,e3⟩:=bnS e1;cases d'<;>first|(cases e3;done)|skip
 rename_i l;dsimp only at e3;split at e3
 case isFalse=>cases e3
 rename_i hln;obtain⟨hln,hsz⟩:=hln;cases e3;refine⟨O,r,l,mr.rr,by unfold mTp;rw[e2];rfl,λJ H1 s1 yl p hp=>?_⟩;rw[show Ow O r σ=O from funext λb=>propext mr.no.ow] at yl;have m1:=mr.same s1;obtain⟨dx,xs,cs,ve,vd,g1,g2,g3,g4,g5,g6,g7⟩:=m1.ms.ex;have aw:=McR.aw m1.ms;have hcs:=g7.length;have pa:a≠p:=λz=>by rw[z,hp] at g1;cases g1
 have pw:w≠p:=λz=>by rw[z,hp] at g2;cases g2
 have pc:c≠p:=λz=>by rw[z,hp] at g3;cases g3
 rw[hn];refine⟨λi m ys σ2 H2=>m=l.length-i/\i<=l.length/\σ2.length=2/\σ2[0]?=some (some (.ref a))/\ys=cs.reverse.take i/\H2 p=some (.lst ys)/\H2 c=some (.lst (cs.take (cs.length-i)))/\∀b o,H1 b=some o->b≠c->H2 b=some o,
  ⟨l.length,rfl,cg _,rfl,by show some (σ[0]?.getD none)=_;rw[mr.me];rfl,rfl,zJ,by rw[zI pc,g3];simp,λb o e _=>by rw[zI (λz=>by rw[z,hp] at e;cases e)];exact e⟩,?_⟩
 rintro i m ys σ2 H2 ⟨rfl,hi',hl2,hs2,rfl,ep,ec,eo⟩;have kM:KeepM a w c H1 H2:=λb o e h1 h2 h3=>eo b o e h3
 obtain⟨y1,y2⟩:=yl i H2 O (m1.ms.kp kM) λ_ z _=>z
 have hlt':(cs.reverse.take i).length=i:=by rw[gp,eh];omega
 refine⟨ep,by rw[hlt'];omega,?_⟩;by_cases hlt:i<l.length
 ·obtain⟨go,yd⟩:=y1 hlt;refine .inr ⟨go,λxv H3 yx=>?_⟩;obtain⟨s3,_⟩:=yd xv H3 yx;obtain⟨v,v1,v2,v3⟩:=b0 (cs:=cs) (i:=i) (by omega);have ea3:H3 a=some (.ins C dx (mfs st.most st.steps w c ve vd)):=s3 _ _ (eo a _ g1 aw.2);have ec3:=s3 _ _ ec;refine⟨.ref a,by rw[gy (by decide)];exact hs2,a,C,dx,_,.ref c,rfl,ea3,cl,na,rfl,.inl ⟨rfl,_,SqL.of ec3⟩,c,_,v,rfl,rfl,ec3,v1,?_⟩;have ep3:=s3 _ _ ep;refine⟨by rw[zI pc.symm];exact ep3,l.length-(i+1),by omega,rfl,hlt,by rw[rl];exact hl2,by rw[gy (by decide)];exact hs2,v3,zJ,?_,λb o e h1=>?_⟩
  ·rw[zI pc,zJ,v2]
  ·rw[zI (λz=>by rw[z,hp] at e;cases e),zI h1];exact s3 _ _ (eo b o e h1)
 ·have hil:i=l.length:=by omega
  subst hil;refine .inl ⟨y2 rfl,.inl ⟨p,_,rfl,SqL.of ep,λt ht=>?_⟩⟩;have hne:∀b o,H2 b=some o->b≠t:=λb o e z=>by rw[z,ht] at e;cases e
  have k2:KeepM a w c H1 (upd H2 t (.lst (cs.reverse.take l.length).reverse)):=λb o e h1 h2 h3=>by rw[zI (hne b o (kM b o e h1 h2 h3))];exact kM b o e h1 h2 h3
  have n:=Mch.put (K:=X.K) (H2:=upd H2 t (.lst (cs.reverse.take l.length).reverse)) (co:=st.come.take (st.come.length-l.length)) m1.ms m1.ol k2 (by rw[zI (hne a _ (eo a _ g1 aw.2))];exact eo a _ g1 aw.2) (by rw[zI (hne w _ (eo w _ g2 m1.ms.wc))];exact eo w _ g2 m1.ms.wc) (by rw[zI (hne c _ ec)];exact ec) g4 g5 g6 (by rw[hcs];exact g7.take _);have m2:=m1.step k2 n;have ot:¬O t:=λz=>by
   obtain⟨o,e,_⟩:=m1.ol t z;by_cases h1:t=c
   ·rw[h1] at ht;rw[ht] at ec;cases ec
   ·have:=eo t o e h1;rw[ht] at this;cases this
  refine q _ _ m2 ?_ ((KeepM.same s1).trans k2);rw[Is.lst_iff];have e9:(cs.reverse.take l.length).reverse=cs.drop (cs.length-l.length):=by
   rw[List.take_reverse,List.reverse_reverse]
  refine⟨t,cs.drop (cs.length-l.length),rfl,.inl ⟨ot,.inl (by rw[zJ,e9])⟩,?_⟩;rw[<-hcs];exact IsL.mono (m1.ms.kp k2) m1.ol (λ_ z _=>z) _ _ (g7.drop _)
end
namespace DU
theorem e_loop:entryFor table "dict.update.loop" = some Builtin.«dict.update.loop»:=entryFor_of_tree (by kernel_rfl)
theorem p_loop:plainId "dict.update.loop" = true:=by decide +kernel
theorem lk_keys:typeLookup (.type "list") "keys" = pure none:=by rw[jl,gt];kernel_rfl
end DU
theorem XY(hx:s.heap.get? a=some o)(hc:o.cls=.type "list")(hdat:o.data=.seq xs k)(hd:o.dict=none)(hA:A.handled=none)(h:∀h' tk,(∀b ob,s.heap.get? b=some ob->h'.get? b=some ob)->Q none { s with heap:=h',toks:=tk }):wpAny (model prog w) A (getAttr? (.ref a) "keys") Q E s:=by
 obtain⟨c,dct,dat,sl⟩:=o;simp only at hc hdat hd;subst hc hdat hd;obtain⟨hp,g,d,tk,os⟩:=s;have hT:∀tk',(⟨hp,g,d,tk',os⟩:Shared).TypeIs (.ref a) "list" := λ_=>⟨_,hx,rfl⟩
 have f1:=sub_AttributeError;have f3:=nh.lookup;have f4:=nh.bind (.ref a);have f5:=am_list_getattr_none;unfold getAttr? getAttrBy? getAttrBy
 repeat (any_goals (first|assumption|exact hT _|((with_reducible show wpAny _ _ (call (Value.builtin "list.__getattribute__") _ _) _ _ _);refine oi nh (hT _) am_entry_list_getattribute (F.args_list_getattribute_2 _ _) (meets_getattribute_miss_list a xs k sl _ _ DU.lk_keys (by decide +kernel) (by size_fits)) ⟨hx,hA,λh' tk' e hx'=>?_⟩)|wp_step))
 obtain⟨t',u',he⟩:=hx'.there;show wpAny _ _ (getattributeRaised _ _ _ _ _ _ _) _ _ _;unfold getattributeRaised
 repeat (any_goals (first|assumption|wp_step))
 exact h _ _ hx'.keeps
def zQA(h:Heap)(v:Value)(k:Key)(u:Value):Prop:=∃t key,v=.ref t/\IsTup h t #[key,u]/\gU k key=true
theorem zHB(hh:A.handled=none)(hld:l≠d)(hli:l≠it)(hid:it≠d):∀(n i:Nat) (s:Shared) (ps:List (Key×Value)) (kvs:List (Key×Value)) (R:Result->Shared->Prop),i+n=its.size->ps.length=n->kvs.length+n<=af->s.heap.IsListIter it l i->PlainL s.heap l its ->
  (∀j (p:Key×Value),ps[j]?=some p->∃v,its[i+j]?=some v/\(∃t,v=.ref t/\t≠d/\t≠it)/\zQA s.heap v p.1 p.2)->s.heap.DictOf (yE prog w) d kvs ->
  (∀h' tk,h'.DictOf (yE prog w) d (ps.foldl (λz p=>stored z p.1 p.2) kvs)->(∀b o,b≠it->b≠d->s.heap.get? b=some o->h'.get? b=some o)->R (.ok (.ret .none)) { s with heap:=h',toks:=tk }) ->
  codeAny (model prog w) A (.builtin "dict.update.loop" ⟨[.ref d,.ref it,rawInt (i:Int),.none],[]⟩) R s:=by
 intro n
 induction n with
 |zero=>
  intro i s ps kvs R hi hl hz hit pl hp hd hR;obtain rfl:ps=[]:=List.length_eq_zero_iff.mp hl;refine jm DU.e_loop ?_;rw[ie DU.p_loop _];show wpAny _ A.in1 (pyNext (.ref it) >>= _) _ _ s;refine ac (oz (show A.in1.handled=none from hh) hit pl.isList (Array.getElem?_eq_none (by omega)) λh' eb=>?_);show wpAny _ A.in1 (Builtin.Dict.addKeywords d [] >>= λ_=>ret Value.none) _ _ _;refine ac (ah (ah (hR h' s.toks (hd.extBut eb hid.symm) λb o hb _ e=>eb b o hb e)))
 |succ n ih=>
  intro i s ps kvs R hi hl hz hit pl hp hd hR;obtain⟨p,ps,rfl⟩:∃p q,ps=p::q:=by cases ps with
   |nil=>cases hl
   |cons p q=>exact⟨p,q,rfl⟩
  obtain⟨v,ev,⟨t0,rfl,ntd,nti⟩,t,key,e0,tu,kk⟩:=hp 0 p rfl;cases e0;refine jm DU.e_loop ?_;rw[ie DU.p_loop _];show wpAny _ A.in1 (pyNext (.ref it) >>= _) _ _ s;refine ac (og hit pl.isList ev λh1 hit1 sb1=>?_);have k1:∀b o,b≠it->s.heap.get? b=some o->h1.get? b=some o:=λb o hb e=>(sb1.2 b hb).trans e
  have tu1:IsTup h1 t0 #[key,p.2]:=by obtain⟨o,e,r⟩:=tu;exact⟨o,k1 _ _ nti e,r⟩
  have hd1:h1.DictOf (yE prog w) d kvs:=hd.sameBut sb1 hid.symm;obtain⟨ot,hot,hct,nt,hdt⟩:=id tu1;refine ac (ee ?_);refine ac (wpAny_tryCatch ?_);unfold Builtin.Dict.pairItems;refine ac (mi (s:={ s with heap:=h1 }) tu1.typeIs ?_);rw[if_pos (by decide)];refine ac (jc (s:={ s with heap:=h1 }) hot hdt (ah ?_));dsimp only[Option.getD_some];refine ee ?_;refine wpAny_dictSet_pairs (knd:=yE prog w) (s:={ s with heap:=h1 }) (k:=p.1) kk hd1 (λh2 hd2 sb2=>?_) (by omega);have k2:∀b o,b≠it->b≠d->s.heap.get? b=some o->h2.get? b=some o:=λb o hb hb' e=>(sb2.2 b hb').trans (k1 b o hb e)
  have e1:((i:Int)+1)=((i+1:Nat):Int):=by omega
  rw[e1];refine ah ⟨lh DU.p_loop _,ih (i+1) _ ps (stored kvs p.1 p.2) R (by omega) (oj hl) ?_ (hit1.at λo e=>(sb2.2 it hid).trans e) (by obtain⟨o,n,e,r⟩:=pl;exact⟨o,n,k2 l o hli hld e,r⟩) (λj q hq=>?_) hd2 λh' tk hd' kp=>?_⟩
  ·have:(stored kvs p.1 p.2).length<=kvs.length+1:=by unfold stored;split<;>simp
   omega
  ·obtain⟨v,ev',⟨t1,rfl,n1,n2⟩,t2,key2,e2,tu2,kk2⟩:=hp (j+1) q hq;cases e2;refine⟨_,by rw[<-ev'];congr 1;omega,⟨t1,rfl,n1,n2⟩,t1,key2,rfl,?_,kk2⟩;obtain⟨o,e,r⟩:=tu2;exact⟨o,k2 t1 o n2 n1 e,r⟩
  ·exact hR h' tk hd' λb o hb hb' e=>kp b o hb hb' (k2 b o hb hb' e)
theorem zHC{l:Addr}{its:Array Value}{ps:List (Key×Value)}{Q:Value->Shared->Prop}(hh:A.handled=none)(pl:PlainL s.heap l its)(hl:ps.length=its.size)(hz:its.size<=af)(hp:∀(j:Nat) (p:Key×Value),ps[j]?=some p->∃v,its[j]?=some v/\zQA s.heap v p.1 p.2)(h:∀h' tk,h'.DictOf (yE prog w) s.heap.objs.size (ps.foldl (λz p=>stored z p.1 p.2) [])->(∀b o,s.heap.get? b=some o->h'.get? b=some o)->Q (.ref s.heap.objs.size) { s with heap:=h',toks:=tk }):wpAny (model prog w) A (call (.type "dict") [.ref l]) Q E s:=by
 refine callType_codes (Q₁:=λobj s₁=>obj=.ref s.heap.objs.size/\s₁={ s with heap:=s.heap.push { cls:=.type "dict",data:=.dict #[] } }) F.kt_called_dict (F.kt_typeCall_dict_1 _) F.entry_dict_init (kt_code_dict_new _ ⟨rfl,rfl⟩) ?_;rintro obj s₁ ⟨rfl,rfl⟩;have hnew:(s.heap.push { cls:=.type "dict",data:=.dict #[] }).DictOf (yE prog w) s.heap.objs.size []:=Heap.DictOf.new s.heap;obtain⟨ol,nl,hol,hcl,hdl,hsl⟩:=id pl;have hlt:l<s.heap.objs.size:=au hol;have k1:∀b o,s.heap.get? b=some o->(s.heap.push { cls:=.type "dict",data:=.dict #[] }).get? b=some o:=λb o e=>al _ e
 refine⟨hnew.typeIs,F.args_dict_init_2 _ _,?_⟩;unfold Builtin.«dict.__init__»;refine ac ?_;unfold Builtin.Dict.selfAndRest;refine ac (wpAny_notOrdered_dict hnew.typeIs ?_);show wpAny _ _ (pure (s.heap.objs.size,[Value.ref l])) _ _ _;refine ah ?_;show wpAny _ _ (Builtin.Dict.updateFrom "dict.__init__" s.heap.objs.size (.ref l) [] .none) _ _ _;unfold Builtin.Dict.updateFrom;refine ac (mi (T:="list") ⟨_,k1 _ _ hol,hcl⟩ ?_);rw[if_pos (by decide)];refine ac (XY (k1 _ _ hol) hcl hsl hdl (show A.in1.handled=none from hh) λh2 tk2 k2=>?_);rw[if_pos (by rfl)];refine ac (nw ?_);have pl2:PlainL h2 l its:=⟨ol,nl,k2 _ _ (k1 _ _ hol),hcl,hdl,hsl⟩;refine ac (qr (s:={ s with heap:=h2,toks:=tk2 }) pl2.isList ?_);have hd2:h2.DictOf (yE prog w) s.heap.objs.size []:=by
  obtain⟨o,es,ep,ho,r⟩:=hnew;exact⟨o,es,ep,k2 _ _ ho,r⟩
 have hds:s.heap.objs.size<h2.objs.size:=by
  obtain⟨o,es,ep,ho,r⟩:=hd2;exact au ho
 have k3:∀b o,h2.get? b=some o->(h2.push { cls:=.type "list_iterator",data:=.fields #[.ref l,.int 0 0] }).get? b=some o:=λb o e=>al _ e
 have ka:∀b o,s.heap.get? b=some o->(h2.push { cls:=.type "list_iterator",data:=.fields #[.ref l,.int 0 0] }).get? b=some o:=λb o e=>k3 _ _ (k2 _ _ (k1 _ _ e))
 refine ah ⟨lh DU.p_loop _,zHB (A:=A.in1) (l:=l) (it:=h2.objs.size) (d:=s.heap.objs.size) (its:=its) hh (bq hlt) (bq (om hlt hds)) (gf hds) its.size 0 _ ps [] _ (by omega) hl (by simpa using hz) ⟨_,bo _ rfl,rfl,rfl⟩ ⟨ol,nl,k3 _ _ (k2 _ _ (k1 _ _ hol)),hcl,hdl,hsl⟩ (λj p e=>?_) ?_ λh' tk hd' kp=>?_⟩
 ·obtain⟨v,ev,t,key,rfl,⟨o,e1,r⟩,kk⟩:=hp j p e
  have:=au e1
  exact⟨_,by rw[qw];exact ev,⟨t,rfl,bq this,bq (om this hds)⟩,t,key,rfl,⟨o,ka _ _ e1,r⟩,kk⟩
 ·obtain⟨o,es,ep,ho,r⟩:=hd2;exact⟨o,es,ep,k3 _ _ ho,r⟩
 ·refine⟨rfl,h h' tk hd' λb o e=>kp b o ?_ ?_ (ka _ _ e)⟩
  ·exact bq (om (au e) hds)
  ·exact bq (au e)
def zNM:D->Option (Key×D)
 |.tup [k,d]=>(zNU k).map λk=>(k,d)
 |_=>none
def nC:List D->Option (List (Key×D))
 |[]=>some []
 |d::l=>(zNM d).bind λp=>(nC l).map (p::·)
def zCQ(ps:List (Key×D)):List Key×List D:=ps.foldl (λz p=>jL z.1 z.2 p.1 p.2) ([],[])
def zBG(fl:ML):MD:=λr=>(fl r).bind λl=>(nC l).map zCQ
theorem uH(hc:X.calm=true):CallR X (.type "dict") (λxs H Q=>∃(l:Addr) (ys:List V) (ps:List (Key×V)),xs=[.ref l]/\SqL X.K H l ys/\ps.length=ys.length/\(∀(j:Nat) (p:Key×V),ps[j]?=some p->∃t,ys[j]?=some (.ref t)/\SqT X.K H t [kV p.1,p.2])/\∀p,H p=none->Q (.ref p) (upd H p (.dK (ps.foldl (λz p=>d9 z p.1 p.2) [])))):=by
 intro pZ s σ H xs us Q I r h;obtain⟨l,ys,ps,rfl,hl,hn,hp,q⟩:=h;obtain⟨u,rfl,rx⟩:=rM r;cases rx;obtain⟨its,rv,pl,hz⟩:=I.list hl;have hlen:=rv.length;have ex:∀(j:Nat) (p:Key×V),ps[j]?=some p->∃(v:Value) (u:Value),its[j]?=some v/\RelV p.2 u/\zQA s.heap v p.1 u:=λj p e=>by
  obtain⟨t,e1,st⟩:=hp j p e;obtain⟨v,ev,rv'⟩:=rv.get e1;cases rv';obtain⟨its2,rv2,tu,_⟩:=I.tuple st;obtain⟨key,u,rfl,rk,ru⟩:=Vals.two rv2;exact⟨_,u,ev,ru,t,key,rfl,tu,Q1 (P:=X.prog) (w:=X.w) rk⟩
 let us:List (Key×Value):=(List.range ps.length).pmap (λj hj=>((ps[j]'hj).1,Classical.choose (je (ex j ps[j] (bt hj))))) λj hj=>kl.mp hj
 have ul:us.length=ps.length:=by simp[us]
 have uj:∀(j:Nat) (hj:j<ps.length),us[j]?=some ((ps[j]).1,Classical.choose (je (ex j ps[j] (bt hj)))):=λj hj=>by
  rw[bt (by rw[ul];exact hj)];simp[us]
 have hpr:∀(j:Nat) (p:Key×Value),us[j]?=some p->∃v,its.toArray[j]?=some v/\zQA s.heap v p.1 p.2:=λj p e=>by
  have hj:j<ps.length:=by
   obtain⟨z,_⟩:=av.mp e;rw[ul] at z;exact z
  rw[uj j hj] at e;cases e;obtain⟨e1,e2,e3⟩:=je (je (ex j ps[j] (bt hj)));exact⟨_,by simpa using e1,e3⟩
 have kv:∀(z:List (Key×V)) (z':List (Key×Value)),KV z z'->KV (ps.foldl (λz p=>d9 z p.1 p.2) z) (us.foldl (λz p=>stored z p.1 p.2) z'):=by
  have gen:∀(as:List (Key×V)) (bs:List (Key×Value)),as.length=bs.length->(∀(j:Nat) (x:Key×V) (y:Key×Value),as[j]?=some x->bs[j]?=some y->x.1=y.1/\RelV x.2 y.2)->∀(z:List (Key×V)) (z':List (Key×Value)),KV z z'->KV (as.foldl (λz p=>d9 z p.1 p.2) z) (bs.foldl (λz p=>stored z p.1 p.2) z'):=by
   intro as
   induction as with
   |nil=>intro bs hl _ z z' hz;cases bs with
    |nil=>exact hz
    |cons _ _=>cases hl
   |cons x as ih=>intro bs hl hr z z' hz;cases bs with
    |nil=>cases hl
    |cons y bs=>
     obtain⟨e1,e2⟩:=hr 0 x y rfl rfl;rw[jf,jf];refine ih bs (oj hl) (λj x y e e'=>hr (j+1) x y e e') _ _ ?_;rw[e1];exact hz.put y.1 e2
  refine gen ps us ul.symm λj x y e e'=>?_
  have hj:j<ps.length:=by
   obtain⟨z,_⟩:=av.mp e;exact z
  rw[uj j hj] at e';rw[bt hj] at e;cases e;cases e';obtain⟨_,e2,_⟩:=je (je (ex j ps[j] (bt hj)));exact⟨rfl,e2⟩
 have lz:(ps.foldl (λz p=>d9 z p.1 p.2) []).length<=af:=by
  have gen:∀(as:List (Key×V)) (z:List (Key×V)),(as.foldl (λz p=>d9 z p.1 p.2) z).length<=z.length+as.length:=by
   intro as
   induction as with
   |nil=>intro z;simp
   |cons x as ih=>
    intro z;rw[jf];have h1:=ih (d9 z x.1 x.2);have h2:(d9 z x.1 x.2).length<=z.length+1:=by unfold d9;split<;>simp
    simp only[ao];omega
  have:=gen ps []
  simp only[bu] at this;omega
 refine zHC (I.ok.hd hc) pl (by rw[ul,am];omega) (by rw[am];omega) hpr λh' tk dd kp=>?_
 exact⟨.ref s.heap.objs.size,_,I.laid (a:=s.heap.objs.size) (o:=.dK (ps.foldl (λz p=>d9 z p.1 p.2) [])) (t':=tk) kp (ae _) (WG lz (beq_eq_false_iff_ne.mpr (lm (bq I.big))) (kv [] [] .nil) dd),rfl,q _ (I.hok.fresh (ae _))⟩
theorem nB{K:Fg}:∀{l:List D} {qs:List (Key×D)} {ys:List V},nC l=some qs->IsL K O H l ys->∃ps:List (Key×V),ps.length=ys.length/\(∀(j:Nat) (p:Key×V),ps[j]?=some p->∃t,ys[j]?=some (.ref t)/\SqT K H t [kV p.1,p.2]) /\
  ∀(kvs:List (Key×V)) (ks:List Key) (ds:List D),kvs.map (·.1)=ks->IsL K O H ds (kvs.map (·.2))->(ps.foldl (λz p=>d9 z p.1 p.2) kvs).map (·.1)=(qs.foldl (λz p=>jL z.1 z.2 p.1 p.2) (ks,ds)).1/\IsL K O H (qs.foldl (λz p=>jL z.1 z.2 p.1 p.2) (ks,ds)).2 ((ps.foldl (λz p=>d9 z p.1 p.2) kvs).map (·.2))
 |[],qs,ys,e,h=>by
  cases e;unfold IsL at h;subst h;exact⟨[],rfl,λj p e=>by simp at e,λkvs ks ds e1 e2=>⟨e1,e2⟩⟩
 |d::l,qs,ys,e,h=>by
  obtain⟨⟨k,d'⟩,e1,e2⟩:=bnS e;obtain⟨qs',e3,rfl⟩:=mpS e2;unfold IsL at h;obtain⟨y,ys',rfl,iy,il⟩:=h;obtain⟨ps,hl,hp,hf⟩:=nB e3 il;unfold zNM at e1;split at e1
  ·rename_i kd dd;obtain⟨k',e4,e5⟩:=mpS e1;cases e5;rw[Is.tup_iff] at iy;obtain⟨t,xs,rfl,st,i2⟩:=iy;unfold IsL at i2;obtain⟨v1,xs1,rfl,j1,i3⟩:=i2;unfold IsL at i3;obtain⟨v2,xs2,rfl,j2,i4⟩:=i3;unfold IsL at i4;subst i4;have ek:v1=kV k:=by
    cases kd<;>first|(cases e4;done)|skip
    ·cases e4;rw[Is.int_iff] at j1;exact j1
    ·cases e4;rw[Is.str_iff] at j1;exact j1
   subst ek;refine⟨(k,v2)::ps,by simp[hl],λj p e=>?_,λkvs ks ds g1 g2=>?_⟩
   ·cases j with
    |zero=>cases e;exact⟨t,rfl,st⟩
    |succ j=>exact hp j p e
   ·rw[jf,jf];obtain⟨q1,q2⟩:=QL (k:=k) g1 g2 j2;exact hf _ _ _ q1 q2
  ·cases e1
theorem zBV(hc:X.calm=true)(hg:Gl X "dict")(hm:X.mg "dict" = none)(ha:DB X a fl)(hs:ag [a] X.env=(false,eval a X.env)::ag [] X.env:=by rfl):DFd X (.Call (.Name "dict" p') [a] [] pos) (zBG fl):=by
 refine PE.conseq (kO (uH hc) hg hm ur (zY ha yV hs) (he:=hs)) λσ H Q hq=>?_
 obtain⟨O0,r,ks,l,hR,e,q⟩:=hq;obtain⟨ds,e1,e2⟩:=bnS e;obtain⟨qs,e3,e4⟩:=mpS e2;refine⟨O0,r,ds,hR,e1,λc xs H1 s1 sq il=>?_⟩;obtain⟨ps,hl,hp,hf⟩:=nB e3 il;refine⟨c,xs,ps,rfl,sq,hl,hp,λt ht=>?_⟩;obtain⟨q1,q2⟩:=hf [] [] [] rfl .nil;unfold zCQ at e4;rw[e4] at q1 q2;refine q t _ _ (s1.trans (zX ht)) (s1.free ht) zJ q1 ?_;exact IsL.mono (Same.kp (zX ht) _) (hR.same s1).ol (λb z nn=>z.elim id λz=>by subst z;exact absurd ht nn) _ _ q2
structure CMeth(K:Fg)(B:Addr)(m:Str)(f:Addr):Prop where
 ga:specialIn K (.ref B) "__getattribute__" = some (some (.builtin "type.__getattribute__"))
 rd:readsIn K B (.type "type")=true
 fc:findCls K (.ref B) (.type "type") m=some (.val (.ref f))
 hh:handedIn (.ref f)=true
 kp:keepIn K (.ref f)=true
theorem zAW{pl:Sem Bool}(M:CMeth X.K B m f)(F:FnOk X.prog X.w X.K X.mg X.base CX k f fd ps sp)(hr:Room k X.A)(hg:Gl X x)(hm:X.mg x=some (.ref B))(hb:Binds X.K fd ps ds)(hd:Vals dvs ds)(hx:cW CX X E)(ha:PA X (e::es) t)(hdb:(x == ("__debug__" : Str))=false:=by decide)(hst:ag (e::es) X.env=(false,eval e X.env)::ag es X.env:=by rfl)(hpl:(dq pos (ag es X.env)).any (·.1)=false:=by rfl)(ht:eval (.Call (.Attribute (.Name x p) m apos) (e::es) [] pos) X.env=(do
   let ov <- eval (.Name x p) X.env
   standAt apos.atName
   let (f,first) <- holding [ov] (getMethod ov m pl)
   callWith pos f first (dq pos (ag (e::es) X.env)) (jd pos (fu [] X.env))):=by rfl):PE X (.Call (.Attribute (.Name x p) m apos) (e::es) [] pos) (zIR sp dvs E t):=by
 intro pZ s σ H Q I h;refine pb (pl:=pl) ?_ ht;refine nR I hg hm ?_ hdb;refine method_cls I.kIn M.ga (cls_value I.kIn M.rd M.fc M.hh ?_);refine kf (first:=[]) (h₀:=X.base) I.ok.mod.kin M.kp (thn (ha pos pZ { s with toks:=s.toks+1 } σ H _ (I.tok _) h) λus s2 ⟨vs,H2,I2,r,q2⟩=>⟨I2.kIn,?_⟩) hst hpl;exact pD F hr hb hd hx I2 r q2
section
variable{K:Fg}{O O':Addr->Prop}{H:Hp}{r:En}{σ:St}{i:Nat}
theorem R.plain(no:NoOwn r)(len:r.length=σ.length)(ol:j9 O H)(val:∀(i:Nat) (d:D),r[i]?=some (.v d)->∃v,σ[i]?=some (some v)/\Is K O H d v):R K O H r σ:=by
 have ow:Ow O r σ=O:=funext λb=>propext no.ow
 refine⟨len,λi d e=>by rw[ow];exact val i d e,λi l e=>?_,λi j b l m e1 e2 _ _=>?_,ol,λi l b e _=>?_,λi l b e _=>?_,λi _ ks l e=>?_⟩
 ·have:=no i;rw[j4 e] at this;cases this
 ·have:=no i;rw[e1] at this;cases this
 ·exfalso
  have:=no i
  rcases e with e|e|⟨ks,e⟩<;>rw[e] at this<;>cases this
 ·have:=no i;rw[(cA e).choose_spec] at this;cases this
 ·have:=no i;rw[e] at this;cases this
theorem R.valO(h:R K O H r σ)(no:NoOwn r){d:D}(e:r[i]?=some (.v d)):∃v,σ[i]?=some (some v)/\Is K O H d v:=by
 obtain⟨v,e1,q⟩:=h.val i d e;rw[show Ow O r σ=O from funext λb=>propext no.ow] at q;exact⟨v,e1,q⟩
theorem Kp.plain(s:Same H H')(no:NoOwn r)(no':NoOwn r'):Kp H r σ H' r' σ':=by
 have k:=Kp.of_same r σ s;refine⟨k.keep,k.live,k.lst,λb z=>absurd z (no'.at λ_ _ e=>e),λb z=>absurd z (no'.at λx l e=>by cases x<;>first|exact e|cases e),λi l e=>?_,λi l e=>?_⟩
 ·have:=no i;rw[(cA e).choose_spec] at this;cases this
 ·have:=no i;rw[e] at this;cases this
def zA9(r:En):Bool:=r.all λs=>s.own.isNone
theorem cJ(h:zA9 r=true):NoOwn r:=λi=>by
 cases e:r[i]? with
 |none=>rfl
 |some x=>
  have:=rh.mp h x (lq e)
  show x.own=none;exact Option.isNone_iff_eq_none.mp this
end
def Ox(O:Addr->Prop)(x w c:Addr):Addr->Prop:=λb=>O b\/b=x\/b=w\/b=c
def zQI(K:Fg)(C:Addr):Sp:=λvs H Q _=>∃x dx m,vs=[.ref x,.int m]/\H x=some (.ins C dx []) /\
 ∀w c H',w≠c->H w=none->H c=none->H' x=some (.ins C dx [("most",.int m),("steps",.int 0),("waiting",.ref w),("come",.ref c),("ended",.non)])->H' w=some (.lst [])->H' c=some (.lst [])->(∀b o,H b=some o->b≠x->H' b=some o)->Q .non H'
def zQJ(K:Fg)(C:Addr)(dd:D->Option D):Sp:=λvs H Q _=>∃O x dx pd pv m d,vs=[.ref x,pv,.int m]/\H x=some (.ins C dx [])/\j9 O H/\¬O x/\Is K (Ox O x x x) H pd pv/\dd pd=some d /\
 ∀w c vd H',w≠c->H w=none->H c=none->H' x=some (.ins C dx (mfs m 0 w c .non vd))->H' w=some (.lst [])->H' c=some (.lst [])->(∀b o,H b=some o->b≠x->H' b=some o)->j9 (Ox O x w c) H'->Is K (Ox O x w c) H' d vd->Q .non H'
section
variable{K:Fg}
theorem zAD(hN:N.length=2)(cl:Cls K C)(n1:NoAttr K C "most")(n2:NoAttr K C "steps")(n3:NoAttr K C "waiting")(n4:NoAttr K C "come")(n5:NoAttr K C "ended")(h:zQI K C vs H Q E):zNA (zJ8 K (vG 0) (vG 1) "most") (zNA (zJ8 K (vG 0) (λ_ H Q=>Q (.int 0) H) "steps") (zNA (zJ8 K (vG 0) (zQG zIQ) "waiting") (zNA (zJ8 K (vG 0) (zQG zIQ) "come") (zJ8 K (vG 0) (λ_ H Q=>Q .non H) "ended")))) { nx:=λ_ H'=>Q .non H',rt:=Q } (L2.start N vs) H:=by
 obtain⟨x,dx,m,rfl,hx,q⟩:=h;have s0:(L2.start N [.ref x,.int m])[0]?=some (some (.ref x)):=rfl;have s1:(L2.start N [.ref x,.int m])[1]?=some (some (.int m)):=rfl;refine⟨.int m,s1,.ref x,s0,x,C,dx,[],rfl,hx,cl,n1,by decide,?_⟩;refine⟨.ref x,s0,x,C,dx,_,rfl,zJ,cl,n2,by show 1<1000;decide,?_⟩;refine⟨cg _,λw hw=>⟨.ref x,s0,x,C,dx,[("most",.int m),("steps",.int 0)],rfl,?_,cl,n3,by show 2<1000;decide,?_⟩⟩
 ·rw[zI (λz=>by rw[<-z,zJ] at hw;cases hw),zJ];rfl
 have xw:x≠w:=λz=>by rw[<-z,zJ] at hw;cases hw
 refine⟨cg _,λc hc=>⟨.ref x,s0,x,C,dx,[("most",.int m),("steps",.int 0),("waiting",.ref w)],rfl,?_,cl,n4,by show 3<1000;decide,?_⟩⟩
 ·rw[zI (λz=>by rw[<-z,zJ] at hc;cases hc),zJ];rfl
 have xc:x≠c:=λz=>by rw[<-z,zJ] at hc;cases hc
 refine⟨.ref x,s0,x,C,dx,[("most",.int m),("steps",.int 0),("waiting",.ref w),("come",.ref c)],rfl,zJ,cl,n5,by show 4<1000;decide,?_⟩;rw[zI xw.symm,zI xw.symm] at hw;rw[zI xc.symm] at hc;have wc:w≠c:=λz=>by rw[z,zJ] at hc;cases hc
 rw[zI wc.symm,zI xc.symm,zI xc.symm] at hc;refine q w c _ wc hw hc zJ ?_ ?_ λb o e hb=>?_
 ·rw[zI xw.symm,zI xw.symm,zI wc,zI xw.symm,zJ]
 ·rw[zI xc.symm,zI xc.symm,zJ]
 ·have h1:b≠w:=λz=>by rw[z,hw] at e;cases e
  have h2:b≠c:=λz=>by rw[z,hc] at e;cases e
  rw[zI hb,zI hb,zI h2,zI hb,zI h1,zI hb,zI hb];exact e
end
section
variable{K:Fg}
theorem zIV(ol:j9 O H)(nx:¬O x)(e1:H1 x=some o1)(e2:H1 w=some o2)(e3:H1 c=some o3)(m1:Mb o1)(m2:Mb o2)(m3:Mb o3)(k:∀b o,H b=some o->b≠x->H1 b=some o):j9 (Ox O x w c) H1:=λb z=>by
 rcases z with z|z|z|z
 ·obtain⟨o,e,mb⟩:=ol b z;exact⟨o,k b o e (λq=>nx (q ▸ z)),mb⟩
 ·subst z;exact⟨o1,e1,m1⟩
 ·subst z;exact⟨o2,e2,m2⟩
 ·subst z;exact⟨o3,e3,m3⟩
theorem zAN{dd:D->Option D}(hN:N.length=3)(cl:Cls K C)(n6:NoAttr K C "defs")(hdd:∀pd d,dd pd=some d->∀m,fd' [.un,.v pd,.v (.int m)]=some d)(h:zQJ K C dd vs H Q E):zNA (zNC (zIR (zQI K C) [] E0 (YU (vG 0) (YU (vG 2) zIQ)))) (zJ8 K (vG 0) (lE K fd') "defs") { nx:=λ_ H'=>Q .non H',rt:=Q } (L2.start N vs) H:=by
 obtain⟨O,x,dx,pd,pv,m,d,rfl,hx,ol,nx,ip,ed,q⟩:=h;have s0:(L2.start N [.ref x,pv,.int m])[0]?=some (some (.ref x)):=rfl;have s2:(L2.start N [.ref x,pv,.int m])[2]?=some (some (.int m)):=rfl;refine⟨.ref x,s0,.int m,s2,x,dx,m,rfl,hx,λw c H1 wc hw hc e1 e2 e3 k=>?_⟩;have ol0:j9 (Ox O x x x) H:=zIV ol nx hx hx hx trivial trivial trivial λb o e _=>e
 have ol1:j9 (Ox O x w c) H1:=zIV ol nx e1 e2 e3 trivial trivial trivial k;have ip1:Is K (Ox O x w c) H1 pd pv:=Is.mono (λb o e n=>k b o e λz=>n (.inr (.inl z))) ol0 (λb z nn=>by
  rcases z with z|z|z|z
  ·exact .inl z
  ·exact .inr (.inl z)
  ·exact absurd (z ▸ hw) nn
  ·exact absurd (z ▸ hc) nn) _ _ ip
 have hs:L2.start N [.ref x,pv,.int m]=[some (.ref x),some pv,some (.int m)]:=by
  unfold L2.start;rw[hN];rfl
 have no:NoOwn [.un,.v pd,.v (.int m)]:=cJ rfl;have rr:R K (Ox O x w c) H1 [.un,.v pd,.v (.int m)] (L2.start N [.ref x,pv,.int m]):=by
  rw[hs];refine R.plain no rfl ol1 λi d' e=>?_
  match i,e with
  |0,e=>cases e
  |1,e=>cases e;exact⟨pv,rfl,ip1⟩
  |2,e=>cases e;exact⟨.int m,rfl,by rw[Is.int_iff]⟩
  |i+3,e=>simp at e
 refine⟨_,_,d,rr,hdd pd d ed m,λv H2 s iv=>?_⟩;rw[show Ow (Ox O x w c) [.un,.v pd,.v (.int m)] (L2.start N [.ref x,pv,.int m])=Ox O x w c from funext λb=>propext no.ow] at iv;refine⟨.ref x,s0,x,C,dx,_,rfl,s _ _ e1,cl,n6,by show 5<1000;decide,?_⟩;have xw:w≠x:=λz=>by rw[z,hx] at hw;cases hw
 have xc:c≠x:=λz=>by rw[z,hx] at hc;cases hc
 have kx:∀b o,H2 b=some o->b≠x->upd H2 x (.ins C dx (mfs m 0 w c .non v)) b=some o:=λb o e hb=>by rw[zI hb];exact e
 refine q w c v _ wc hw hc zJ (kx _ _ (s _ _ e2) xw) (kx _ _ (s _ _ e3) xc) (λb o e hb=>kx _ _ (s _ _ (k b o e hb)) hb) ?_ ?_
 ·exact zIV ol nx zJ (kx _ _ (s _ _ e2) xw) (kx _ _ (s _ _ e3) xc) trivial trivial trivial λb o e hb=>kx _ _ (s _ _ (k b o e hb)) hb
 ·exact Is.mono (λb o e n=>kx b o e λz=>n (.inr (.inl z))) (λb z=>by obtain⟨o,e,mb⟩:=ol1 b z;exact⟨o,s _ _ e,mb⟩) (λ_ z _=>z) _ _ iv
end
noncomputable def zQR:Option Sl->Bool
 |some .un=>true
 |_=>false
theorem zGN(h:zQR s=true):s=some .un:=by
 unfold zQR at h;split at h<;>first|rfl|cases h
def zO0(i:Nat)(fp fm:ME)(dd:D->Option D)(g:MEs):MS:=λr=>if zA9 r=true/\zQR r[i]?=true then (fp r).bind λpd=>(fm r).bind λmd=>match md with
 |.int m=>(dd pd).bind λd=>(g ⟨m,0,[],[],.non,d⟩ r).bind λfl=>(match fl with
  |.rt d _ r'=>if zA9 r'=true then some (.rt d r') else none
  |_=>none)
 |_=>none else none
section
variable{dd:D->Option D}{rest:List Stmt}
theorem zMF(i:Nat)(M:Mk X.K C f)(F:FnOk X.prog X.w X.K X.mg X.base CX0 k f fd ps (zQJ X.K C dd))(hr:Room (k+1) X.A)(hg:Gl X x)(hm:X.mg x=some (.ref C))(hb:Binds X.K fd ps [])(ha:DE X a fp)(hb':DE X b fm)(hrest:zCF X C i rest g)(hN:X.N.Nodup)(hi:X.N[i]?=some nm:=by rfl)(hx:Loc X.env.scope nm:=by first|exact Or.inl rfl|exact Or.inr rfl)(hs:gx (.Call (.Name x p) [a,b] [] p') (some (.Name nm pos')) pos.line X.env=pure false:=by rfl)(hf:X.fn nm=true\/X.env.scope.names.lookup nm=some .local:=by first|exact .inl rfl|exact .inr rfl)(hdb:(x == ("__debug__" : Str))=false:=by decide)(he:ag [a,b] X.env=(false,eval a X.env)::ag [b] X.env:=by rfl)(he2:ag [b] X.env=(false,eval b X.env)::ag [] X.env:=by rfl)(hpl:(dq p' (ag [b] X.env)).any (·.1)=false:=by rfl):DSs X (.Assign [.Name nm pos'] (.Call (.Name x p) [a,b] [] p') pos::rest) (zO0 i fp fm dd g):=by
 refine PSs.conseq (jO (m5 hN hi hx (zE1 (dvs:=[]) (E:=E0) M F hr hg hm hb .nil nA (zY ha (zY hb' yV he2) he) hdb he hpl) hs hf) hrest) λDn σ H hq=>?_
 obtain⟨O,r,fl,hR,e,q⟩:=hq;unfold zO0 at e;split at e
 case isFalse=>cases e
 rename_i hno;obtain⟨hno,hun⟩:=hno;have hun:=zGN hun;have no:=cJ hno;have ow:Ow O r σ=O:=funext λb=>propext no.ow
 obtain⟨pd,e1,e⟩:=bnS e;obtain⟨md,e2,e⟩:=bnS e;cases md<;>first|(cases e;done)|skip
 rename_i m;obtain⟨d,e3,e⟩:=bnS e;obtain⟨fl1,e4,e⟩:=bnS e;cases fl1 with
 |nx st' r'=>cases e
 |rt d' st' r'=>
  dsimp only at e;split at e
  case isFalse=>cases e
  rename_i hno';cases e;have no':=cJ hno';refine⟨O,r,pd,hR,e1,λpv H1 s1 ip=>⟨O,r,.int m,hR.same s1,e2,λmv H2 s2 im=>?_⟩⟩;rw[ow] at ip im;rw[Is.int_iff] at im;subst im;intro y dx ny ndx hne;have R2:=(hR.same s1).same s2;have s3:Same H2 (upd (upd H2 dx (.own y)) y (.ins C dx [])):=λb o e=>by
   rw[zI (λz=>by rw[z,ny] at e;cases e),zI (λz=>by rw[z,ndx] at e;cases e)];exact e
  have nOy:¬O y:=λz=>by obtain⟨o,e,_⟩:=R2.o0 y z;rw[ny] at e;cases e
  have ip3:Is X.K (Ox O y y y) (upd (upd H2 dx (.own y)) y (.ins C dx [])) pd pv:=Is.mono (O:=O) (H:=H2) (λb o e _=>s3 _ _ e) R2.o0 (λb z nn=>by
   rcases z with z|z|z|z
   ·exact z
   all_goals exact absurd (z ▸ ny) nn) _ _ (Is.mono (O:=O) (λb o e _=>s2 _ _ e) (hR.same s1).o0 (λ_ z _=>z) _ _ ip)
  refine⟨O,y,dx,pd,pv,m,d,rfl,zJ,λb z=>by obtain⟨o,e,mb⟩:=R2.o0 b z;exact⟨o,s3 _ _ e,mb⟩,nOy,ip3,e3,λw c vd H4 wc hw hc f1 f2 f3 k4 ol4 iv=>⟨rfl,?_⟩⟩;have sA:Same H H4:=λb o e=>k4 b o (s3 _ _ (s2 _ _ (s1 _ _ e))) λz=>by have:=s2 _ _ (s1 _ _ e);rw[z,ny] at this;cases this
  have hyi:(σ.set i (some (.ref y)))[i]?=some (some (.ref y)):=by
   have hi':i<σ.length:=by
    rw[<-hR.len];obtain⟨z,_⟩:=av.mp hun;exact z
   exact zH hi'
  have R4:R X.K (Ox O y w c) H4 r (σ.set i (some (.ref y))):=by
   refine R.plain no (by rw[rl];exact hR.len) ol4 λj d' e=>?_
   have hj:i≠j:=λz=>by rw[<-z,hun] at e;cases e
   obtain⟨v,e5,q5⟩:=hR.valO no e;refine⟨v,by rw[gy hj];exact e5,Is.mono (O:=O) (H:=H) (λb o e _=>sA _ _ e) hR.o0 (λb z nn=>?_) _ _ q5⟩;rcases z with z|z|z|z
   ·exact z
   ·exact absurd (s1.free (s2.free (z ▸ ny))) nn
   ·exact absurd (s1.free (s2.free (s3.free (z ▸ hw)))) nn
   ·exact absurd (s1.free (s2.free (s3.free (z ▸ hc)))) nn
  have ms:Mch X.K (Ox O y w c) H4 C y w c ⟨m,0,[],[],.non,d⟩:=⟨⟨dx,[],[],.non,vd,f1,f2,f3,by rw[Is.non_iff],iv,.nil,.nil⟩,wc,.inr (.inl rfl),.inr (.inr (.inl rfl)),.inr (.inr (.inr rfl))⟩;refine⟨Ox O y w c,y,w,c,_,r,_,⟨ms,R4,no,hyi⟩,e4,λv σ' H' m' iv' k'=>?_⟩;have sB:Same H H':=λb o e=>by
   have hb:=s2 _ _ (s1 _ _ e);have hb3:=s3 _ _ hb;refine k' b o (sA _ _ e) (λz=>?_) (λz=>?_) (λz=>?_)
   ·rw[z,ny] at hb;cases hb
   ·rw[z,hw] at hb3;cases hb3
   ·rw[z,hc] at hb3;cases hb3
  have olB:j9 O H':=λb z=>by obtain⟨o,e,mb⟩:=hR.o0 b z;exact⟨o,sB _ _ e,mb⟩
  have dn:∀{d:D} {v:V},Is X.K (Ox O y w c) H' d v->Is X.K O H' d v:=λiv=>Is.mono (λb o e _=>e) m'.ol (λ_ z _=>.inl z) _ _ iv
  refine q v σ' H' (R.plain no' m'.rr.len olB λj d' e=>?_) (Kp.plain sB no no') (dn iv');obtain⟨u,e5,q5⟩:=m'.rr.valO no' e;exact⟨u,e5,dn q5⟩
end
section
variable{X:Cx}{C:Addr}{z:Nat}{a b e:Expr}{es:List Expr}{m:MEf}{ms:MEa}{f g:ME}{x y:Str}{p pos apos npos:Pos}{k n:Nat}{fa:Addr}{fd:FuncData}{ps:List Str}{sts:List Stmt}
theorem McR.ows{O:Addr->Prop}{H:Hp}{a w c:Addr}{st:Mst}{r:En}{σ:St}(mr:McR X.K O H C z a w c st r σ):Ow O r σ=O:=funext λb=>propext mr.no.ow
theorem zF0{x1}(h:DMa X C z es ms):DMe X C z (.Tuple es x1 pos) (λst r=>(ms st r).bind λp=>if p.1.length<=af then some (.tup p.1,p.2) else none):=by
 refine PE.conseq (zEX h) λσ H Q hq=>?_
 obtain⟨O,a,w,c,st,r,d,st',mr,e1,q⟩:=hq;obtain⟨⟨l,st1⟩,e2,e3⟩:=bnS e1;dsimp only at e3;split at e3
 case isFalse=>cases e3
 rename_i hl;cases e3;refine⟨O,a,w,c,st,r,l,_,mr,e2,λvs H1 m1 il k1=>⟨by rw[<-il.length];exact hl,λt ht=>?_⟩⟩;have s2:=zX (o:=.tup vs) ht;refine q _ _ (m1.same s2) ?_ (k1.trans (KeepM.same s2));rw[Is.tup_iff];exact⟨t,vs,rfl,SqT.of zJ,il.same s2 m1.ol⟩
theorem zNS(ha:DMe X C z a m)(hb:DE X b g)(hs:bT b:=by intro _ _;rfl):DMe X C z (.Subscript a b pos) (λst r=>(m st r).bind λp=>(g r).bind λk=>(ixD p.1 k).map λd=>(d,p.2)):=by
 refine PE.conseq (zE2 zGK ha hb hs) λσ H Q hq=>?_
 obtain⟨O,a,w,c,st,r,d,st',mr,e1,q⟩:=hq;obtain⟨⟨d1,st1⟩,e2,e3⟩:=bnS e1;obtain⟨kd,e4,e5⟩:=bnS e3;obtain⟨d2,e6,e7⟩:=mpS e5;cases e7;refine⟨O,a,w,c,st,r,d1,st1,mr,e2,λv H1 m1 iv k1=>⟨O,r,kd,m1.rr,e4,λu H2 s2 iu=>?_⟩⟩;have m2:=m1.same s2;rw[m1.ows] at iu;exact zNO O H2 _ _ _ _ _ _ m2.ol (iv.same s2 m1.ol) iu e6 λv' H3 s3 iv'=>q v' H3 (m2.same s3) iv' ((k1.trans (KeepM.same s2)).trans (KeepM.same s3))
theorem zBD{mf:MF}(F:FnOk X.prog X.w X.K X.mg X.base CX0 k fa fd ps (spD X.K n mf))(hr:Room k X.A)(hg:Gl X x)(hm:X.mg x=some (.ref fa))(hk:PySem.W.keepIn X.K (.ref fa)=true)(hb:Binds X.K fd ps [])(ha:DMa X C z (e::es) ms)(hdb:(x == ("__debug__" : Str))=false:=by decide)(he:ag (e::es) X.env=(false,eval e X.env)::ag es X.env:=by rfl)(hpl:(dq pos (ag es X.env)).any (·.1)=false:=by rfl):DMe X C z (.Call (.Name x p) (e::es) [] pos) (λst r=>(ms st r).bind λp=>if p.1.length=n then (mf (p.1.map .v)).bind λq=>(match q.1 with | .v d=>some (d,p.2)|_=>none) else none):=by
 refine PE.conseq (dG (E:=λ_ _ _=>False) (dvs:=[]) F hr hg hm hk hb .nil nA ha hdb he hpl) λσ H Q hq=>?_
 obtain⟨O,a,w,c,st,r,d,st',mr,e1,q⟩:=hq;obtain⟨⟨ds,st1⟩,e2,e3⟩:=bnS e1;dsimp only at e3;split at e3
 case isFalse=>cases e3
 rename_i hl;obtain⟨⟨rs,as'⟩,e4,e5⟩:=bnS e3;cases rs<;>first|(cases e5;done)|skip
 cases e5;refine⟨O,a,w,c,st,r,ds,_,mr,e2,λvs H1 m1 il k1=>?_⟩;refine dB m1.rr (Same.refl H1) (by rw[m1.ows];exact il) hl e4 ?_;intro v H2 pf iv;rw[m1.ows] at iv;exact q v H2 (m1.same pf.same) iv (k1.trans (KeepM.same pf.same))
def YQ(g:ME):MEf:=λst r=>(g r).bind λkd=>(zNU kd).bind λk=>match st.defs with
 |.dct ks l=>(yW ks l k).map λd=>(d,st)
 |_=>none
theorem QV(hu:X.A.units+1<cLine)(hv:PE X (.Name x npos) (vG z))(cl:Cls X.K C)(na:NoAttr X.K C "defs")(hk:DE X b g)(hs:zQC b:=by intro _ _;rfl)(hb:cb (.Name x npos) "defs" X.env (eval (.Name x npos) X.env)=eval (.Name x npos) X.env:=by rfl):DMe X C z (.Subscript (.Attribute (.Name x npos) "defs" apos) b pos) (YQ g):=by
 refine PE.conseq (QP hu (cC hv hb) hk hs) λσ H Q hq=>?_
 obtain⟨O,a,w,c,st,r,d,st',mr,e1,q⟩:=hq;obtain⟨kd,e2,e3⟩:=bnS e1;obtain⟨j,e4,e5⟩:=bnS e3;obtain⟨dx,xs,ys,ve,vd,g1,g2,g3,g4,g5,g6,g7⟩:=mr.ms.ex;split at e5
 case h_2=>cases e5
 rename_i ks l ed;obtain⟨d',e6,e7⟩:=mpS e5;cases e7;refine⟨.ref a,qN mr,a,C,dx,_,vd,rfl,g1,cl,na,rfl,O,r,kd,mr.rr,e2,λy H2 s2 iy=>?_⟩;have m2:=mr.same s2;have g5':=g5.same s2 mr.ol;rw[ed,Is.dct_iff] at g5';obtain⟨c',kvs,rfl,no,rd,rfl,il⟩:=g5';rw[mr.ows] at iy;rcases uP j il with⟨dd,v,p1,p2,p3⟩|⟨p1,p2⟩
 ·rw[p1] at e6;cases e6;exact⟨c',v,rfl,.inl ⟨kvs,j,rd,nT e4 iy,p2.symm⟩,q v H2 m2 p3 (KeepM.same s2)⟩
 ·rw[p1] at e6;cases e6
end
section
variable{K:Fg}
theorem yG(F:FnOk P w K mg base CX0 k f fd ps (spM K C n m))(i:∀st ds p,ds.length=n->m' st ds=some p->m st ds=some p):FnOk P w K mg base CX0 k f fd ps (spM K C n m'):=F.imp λvs H Q E h=>by
 obtain⟨O,a,w,c,st,ds,us,d,st',e1,e2,e3,e4,e5,e6,q⟩:=h;exact⟨O,a,w,c,st,ds,us,d,st',e1,e2,e3,e4,e5,i _ _ _ e2 e6,q⟩
end
namespace RP
theorem boot_repr:bootBuiltins "repr" = some (.builtin "repr"):=by decide +kernel
end RP
def pF(l:List D):Bool:=zFF l && (toP (.lst l)).showable && !(toP (.lst l)).hasDict && decide ((toP (.lst l)).depth<=150) && decide ((toP (.lst l)).shown.length<=af)
def mX(l:List D):D:=.str (toP (.lst l)).shown.cps.toList
def pV(fl:ML):ME:=λr=>(fl r).bind λl=>if pF l=true then some (mX l) else none
theorem WS(hr:Room k X.A):CallR X (.builtin "repr") (λxs H Q=>∃O l p ys,xs=[.ref p]/\SqL X.K H p ys/\IsL X.K O H l ys/\pF l=true/\Q (.str (toP (.lst l)).shown) H):=by
 intro pZ s σ H xs us Q I r h;obtain⟨O,l,p,ys,rfl,hl,il,ok,q⟩:=h;obtain⟨u,rfl,rx⟩:=rM r;cases rx;unfold pF at ok;simp only[cw,decide_eq_true_eq,Bool.not_eq_true'] at ok;obtain⟨⟨⟨⟨o1,o2⟩,o3⟩,o4⟩,o5⟩:=ok;obtain⟨its,rv,⟨ob,n,e,c,_,dt⟩,_⟩:=I.list hl;obtain⟨as,qa⟩:=vW I l ys its o1 il rv;have rd:Reads s.heap (.ref p) (toP (.lst l)) (p::as):=by
  have:=Reads.list e c dt (by simpa using qa)
  unfold toP;exact this
 have:=hr.un
 exact repr_of_reads' rd o2 (PyData.noDict_hsm o3) hr.gd (by omega) (λ_ _ e=>e) (λh' u tk kp=>⟨.str _,H,I.kept (t':=tk) kp,⟨u,rfl⟩,q⟩) o5
theorem zHZ(hr:Room k X.A)(hg:Gl X "repr")(hm:X.mg "repr" = none)(ha:DB X a fl)(he:ag [a] X.env=(false,eval a X.env)::ag [] X.env:=by rfl)(hpl:(dq pos (ag [] X.env)).any (·.1)=false:=by rfl):DE X (.Call (.Name "repr" p') [a] [] pos) (pV fl):=by
 refine PE.conseq (kC (WS hr) hg hm RP.boot_repr (zY ha yV he) (he:=he) (hpl:=hpl)) λσ H Q hq=>?_
 obtain⟨O0,r,d,hR,e,q⟩:=hq;obtain⟨l,e1,e2⟩:=bnS e;split at e2
 case isFalse=>cases e2
 rename_i ok;cases e2;refine⟨O0,r,l,hR,e1,λp xs H1 s1 sq il=>⟨_,l,p,xs,rfl,sq,il,ok,q _ H1 s1 ?_⟩⟩;unfold mX;rw[Is.str_iff]
def Y0(i:Nat)(f:ME):MS:=λr=>match r[i]? with
 |some (.v (.int a))=>(f r).bind λd=>match d with
  |.int b=>(yN i (.int (a+b)) r).map .nx
  |_=>none
 |_=>none
theorem zHM(i:Nat)(he:DE X e f)(hN:X.N.Nodup)(hi:X.N[i]?=some x:=by rfl)(hx:Loc X.env.scope x:=by first|exact Or.inl rfl|exact Or.inr rfl)(hf:X.fn x=true\/X.env.scope.names.lookup x=some .local:=by first|exact .inl rfl|exact .inr rfl):DS X (.AugAssign (.Name x pos') .Add e pos) (Y0 i f):=by
 refine PS.conseq (zKK hN hi hx he zL4 hf) λDn σ H hq=>?_
 obtain⟨O0,r,fl',hR,e,q⟩:=hq;unfold Y0 at e;split at e
 case h_2=>cases e
 rename_i a er;obtain⟨d,e1,e2⟩:=bnS e;cases d<;>first|(cases e2;done)|skip
 rename_i b;obtain⟨r',e4,rfl⟩:=mpS e2;obtain⟨hl,np,rfl⟩:=jD e4;obtain⟨v,es,iv⟩:=hR.val i _ er;rw[Is.int_iff] at iv;subst iv;refine⟨.int a,es,O0,r,.int b,hR,e1,λu H1 s1 iu=>?_⟩;rw[Is.int_iff] at iu;subst iu;refine⟨a,b,rfl,rfl,?_⟩;obtain⟨R1,k1⟩:=(hR.same s1).setv (d:=.int (a+b)) (v:=.int (a+b)) hl np (by rw[Is.int_iff]);exact q _ H1 R1 ((Kp.of_same r σ s1).trans k1)
theorem sx0(h:0<n):seqIndex? 0 n=some 0:=by
 have hb:(decide ((0:Int)<=(if (0:Int)<0 then (0:Int)+n else 0)) && decide ((if (0:Int)<0 then (0:Int)+n else 0)<(n:Int)))=true:=by
  rw[if_neg (by decide)];simp only[cw,decide_eq_true_eq];omega
 show(if (decide ((0:Int)<=(if (0:Int)<0 then (0:Int)+n else 0)) && decide ((if (0:Int)<0 then (0:Int)+n else 0)<(n:Int)))=true then some (if (0:Int)<0 then (0:Int)+n else 0).toNat else none)=some 0;rw[if_pos hb,if_neg (by decide)];rfl
def zCM(i:Nat):En->Option (D×En):=λr=>(zFU r i).bind λl=>(l[0]?).bind λd=>(zAG i l.tail r).map λr'=>(d,r')
theorem zG9(i:Nat)(h:PE X (.Name x pn) (vG i))(hbase:cb (.Name x pn) "pop" X.env (eval (.Name x pn) X.env)=eval (.Name x pn) X.env:=by rfl)(hline:(apos.endLine == cpos.line)=true:=by rfl)(hfew:((dq cpos (ag [.Constant (.int 0) j kpos] X.env)).all (λx=>!x.1) && (jd cpos (fu [] X.env)).all (λx=>x.1.isSome) && decide ([Expr.Constant (.int 0) j kpos].length+([]:List Keyword).length+(if ([]:List Keyword).isEmpty then 0 else 1)<30))=true:=by rfl)(hs:ag [.Constant (.int 0) j kpos] X.env=(false,eval (.Constant (.int 0) j kpos) X.env)::ag [] X.env:=by rfl):DX X (.Call (.Attribute (.Name x pn) "pop" apos) [.Constant (.int 0) j kpos] [] cpos) (zCM i):=by
 refine PE.conseq (XB di jp jo zBA h (zY pH yV hs) hbase hfew hline hs) λσ H Q hq=>?_
 obtain⟨O0,r,d',r',hR,e,q⟩:=hq;obtain⟨l,e2,e⟩:=bnS e;obtain⟨d,e1,e⟩:=bnS e;obtain⟨r2,e3,e4⟩:=mpS e;have e5:d=d':=congrArg Prod.fst e4;have e6:r2=r':=congrArg Prod.snd e4;subst e5 e6;obtain⟨a,xs,q1,q2,q3⟩:=XT hR e2;obtain⟨v,ev,iv⟩:=q3.get e1;have hlen:0<xs.length:=by
  obtain⟨z,_⟩:=av.mp ev;exact z
 have il:IsL X.K (Ow O0 r σ) H l.tail xs.tail:=by
  rw[<-List.drop_one,<-List.drop_one];exact q3.drop 1
 obtain⟨R2,k2⟩:=hR.upd (xs':=xs.tail) e3 q1 q2 il;refine⟨.ref a,q1,.inl ⟨rfl,xs,SqL.of q2⟩,a,xs,0,0,v,rfl,rfl,q2,by decide,by decide,sx0 hlen,ev,?_⟩;rw[List.eraseIdx_zero];refine q _ _ R2 k2 ?_;have own_a:Ow O0 r σ a:=by
  obtain⟨y,z1,z2⟩:=bnS e2;exact .inr ⟨i,l,by rw[z1];exact v7 (zFY z2).1,q1⟩
 have ow2:∀b,Ow O0 r2 σ b->H b≠none->Ow O0 r σ b:=λb z n=>z.imp id λz=>(k2.new b z).elim id λz=>absurd z n
 exact Is.mono (λb o e1 n=>by rw[zI (λz=>n (by subst z;exact own_a))];exact e1) hR.ol ow2 _ _ iv
theorem zHY:DE X (.Tuple [] k pos) (mC (.tup [])):=by
 have h:DE X (.Tuple [] k pos) (xM zK):=zB8 oE;have e:xM zK=mC (.tup []):=by
  funext r
  show(some ([]:List D)).bind _=_;rw[aa];exact if_pos (cg _)
 rw[<-e];exact h
section
variable{K:Fg}
theorem J3(F:FnOk P w K mg base CX0 k f fd ps (spD K n m))(i:∀as p,as.length=n->m' as=some p->m as=some p):FnOk P w K mg base CX0 k f fd ps (spD K n m'):=F.imp λvs H Q E h=>by
 obtain⟨O0,as,rs,as',e1,e2,e3,e4,e5⟩:=h;exact⟨O0,as,rs,as',e1,e2,e3,i _ _ e1 e4,e5⟩
end
abbrev zV(f:ME):MEf:=λst r=>(f r).map λd=>(d,st)
abbrev JY(sel:Mst->D):MEf:=λst _=>some (sel st,st)
abbrev zCH(f:ME):MEf:=λst r=>(f r).bind λd=>if st.wait.length<af then some (.non,zEJ st d) else none
abbrev zM7(f:ME):MEf:=λst r=>(f r).bind λd=>if st.come.length<af then some (.non,zKH st d) else none
abbrev zDJ:MEf:=λst _=>st.wait.getLast?.map λd=>(d,{ st with wait:=st.wait.dropLast })
abbrev zM4:MEf:=λst _=>st.come.getLast?.map λd=>(d,{ st with come:=st.come.dropLast })
abbrev d6(mm:Mst->List D->Option (D×Mst)):MEf:=λst _=>mm st []
abbrev zDI(fs:ML):MEa:=λst r=>(fs r).map λl=>(l,st)
abbrev zOK(ms:MEa):MEf:=λst r=>(ms st r).bind λp=>if p.1.length<=af then some (.tup p.1,p.2) else none
abbrev uIx(m:MEf)(g:ME):MEf:=λst r=>(m st r).bind λp=>(g r).bind λk=>(ixD p.1 k).map λd=>(d,p.2)
abbrev zDK(n:Nat)(mf:MF)(ms:MEa):MEf:=λst r=>(ms st r).bind λp=>if p.1.length=n then (mf (p.1.map .v)).bind λq=>(match q.1 with | .v d=>some (d,p.2)|_=>none) else none
abbrev xZ(b:MB):MEt:=λst r=>(b r).map λz=>(z,st)
abbrev vGe:MEt:=λst _=>some (decide (st.most<=st.steps),st)
abbrev vBl(m:MEf):MEt:=λst r=>(m st r).bind λp=>match p.1 with | .bl b=>some (b,p.2)|_=>none
abbrev zDF:MEt:=λst _=>some (!st.wait.isEmpty,st)
abbrev zIN(m:MEf):MEt:=λst r=>(m st r).map λp=>(nonB p.1,p.2)
abbrev zOI(t t':MEt):MEt:=λst r=>(t st r).bind λp=>if p.1=true then t' p.2 r else some (false,p.2)
abbrev zM5:MEs:=λst r=>some (.nx { st with steps:=st.steps+1 } r)
theorem zD2(S:KdlSrc prog w T r d n P OK)(hh:A.handled=none)(ok:OK s.heap)(hn:n<64)(h:∀(h':Heap) (tk:Nat) (acc:Array Value),(∀b o,s.heap.get? b=some o->h'.get? b=some o)->ItemsOf P acc n->∃ss:List Str,StrsAre acc.toList ss/\∀(out:Array Value) (ss':List Str),StrsAre out.toList ss'->ss'.Perm ss->sortedS ss'=true ->
   Q (.ref h'.objs.size) { s with heap:=sortedHeap (h'.push (seqObj "list" acc 0)) h'.objs.size acc.toList out,toks:=tk }):wpAny (model prog w) A (call (.builtin "sorted") [.ref r]) Q E s:=by
 refine Calls.call_function_entry (kind_sorted) plain_sorted entry_sorted (args_sorted1 _) ?_;unfold Builtin.«sorted»;refine ac (m:=checkCount "sorted" 1 1 _) (ah (ac (kdu_collect S hh ok (bv (ki hn) (by decide)) λh' tk acc hk hacc=>?_)));obtain⟨ss,hS,q⟩:=h h' tk acc hk hacc;have at1:(h'.push (seqObj "list" acc.toList.toArray 0)).get? h'.objs.size=some (seqObj "list" acc.toList.toArray 0):=bo _ rfl;have hl:acc.toList.length<64:=by
  have:=hacc.1
  rw[iq];omega
 refine ac (wpAny_newList ?_ (hsz:=bv (ki hl) (by decide)));refine ac (ee (ge slot_list_sort ⟨_,at1,rfl⟩ entry_list_sort (list_sort_treeK (κ:=PyProof.Rows.strKind) strKind_oneLt at1 hS.keysOf (λv₁ v₂ rest e=>?kk) hl λst' p1 p2=>⟨_,rfl,?_⟩) (args_list_sort _)))
 case kk=>
  rw[e] at hS;exact keyKind_strs hS
 obtain⟨ss',o1,o2,o3⟩:=sorted_out_str hS p1 p2
 have:=q _ ss' o1 o2 o3
 exact ah ⟨_,rfl,by simpa using this⟩
def rZ:List Key->Option (List (List Nat))
 |[]=>some []
 |.inr s::ks=>(rZ ks).map (s.cps.toList::·)
 |.inl _::_=>none
theorem rX:∀{kvs:List (Key×V)} {ss:List (List Nat)},rZ (kvs.map (·.1))=some ss->(kvs.map λkv=>kV kv.1)=ss.map λs=>V.str ⟨s.toArray⟩
 |[],ss,e=>by cases e;rfl
 |(.inl i,v)::kvs,ss,e=>by cases e
 |(.inr s,v)::kvs,ss,e=>by
  obtain⟨t,e1,rfl⟩:=mpS (show(rZ (kvs.map (·.1))).map (s.cps.toList::·)=some ss from e);have ih:=rX e1;rw[aq,aq,ih];show V.str s::_=V.str ⟨s.cps.toList.toArray⟩::_;rw[qf]
theorem WR(hc:X.calm=true):CallR X (.builtin "sorted") (λxs H Q=>∃p kvs ss,xs=[.ref p]/\Rd H p (.dK kvs)/\rZ (kvs.map (·.1))=some ss/\ss.length<64/\∀l,H l=none->Q (.ref l) (upd H l (.lst ((c9 ss).map λs=>V.str ⟨s.toArray⟩)))):=by
 intro pZ s σ H xs us Q I r h;obtain⟨p,kvs,ss,rfl,e,ek,hl,q⟩:=h;obtain⟨u,rfl,rx⟩:=rM r;cases rx;obtain⟨z,hd,vs,rel,dd⟩:=ZW I.hok e;obtain⟨ep,da⟩:=dd.dictAt;have hlen:=KV.length rel;have hkeys:=KV.keys rel;have hk0:=rX ek;have hlk:kvs.length=ss.length:=by have:=congrArg List.length hk0;simpa using this
 refine zD2 (kdl_dict (knd:=yE X.prog X.w) (kvs:=vs) (ep:=ep) hd) (I.ok.hd hc) da (by rw[<-hlen,hlk];exact hl) λh' tk acc hk hacc=>⟨ss.map λs=>(⟨s.toArray⟩:Str),?_,λout ss' h1 h2 h3=>?_⟩
 ·have vv:Vals (kvs.map λkv=>kV kv.1) acc.toList:=by
   refine W8 (by rw[ak,hlen,<-hacc.1];simp) λj u eu=>?_
   obtain⟨k,x,ev,is⟩:=hacc.2 j u (by rw[<-gu];exact eu);refine⟨kV k,?_,zL2 is⟩;have e1:(kvs.map (·.1))[j]?=some k:=by rw[hkeys,bn,ev];rfl
   rw[bn] at e1 ⊢;cases e2:kvs[j]? with
   |none=>rw[e2] at e1;cases e1
   |some kv=>rw[e2] at e1;cases e1;rfl
  rw[hk0] at vv;exact vS vv
 ·have hp:(ss'.map λs=>s.cps.toList).Perm ss:=by
   have:=h2.map λs:Str=>s.cps.toList
   simpa [gm,Function.comp_def] using this
  have he:=zD3 hp (pC ss' h3);have v1:=vR h1;rw[he] at v1;have at1:(h'.push (seqObj "list" acc 0)).get? h'.objs.size=some (seqObj "list" acc 0):=bo _ rfl;obtain⟨e2,hh⟩:=sortedHeap_at (vs:=acc.toList) (out:=out) at1;have old:∀b o,h'.get? b=some o->(sortedHeap (h'.push (seqObj "list" acc 0)) h'.objs.size acc.toList out).get? b=some o:=λb o e3=>by
   have lb:=au e3;rw[sortedHeap_old (bq lb) (by rw[size_push'];exact Nat.lt_succ_of_lt lb)];exact al _ e3
  have I1:Inv X pZ σ H { s with heap:=h',toks:=tk }:=I.kept hk;exact⟨.ref h'.objs.size,_,I1.laid (t':=tk) old (ae _) (show ObjOk X.prog X.w _ _ _ (.lst ((c9 ss).map λs=>V.str ⟨s.toArray⟩)) from⟨by rw[ak,uN];exact bv (ki hl) (by decide),out.toList,e2,v1,by rw[qf];exact hh⟩),rfl,q _ (I1.hok.fresh (ae _))⟩
def gR(fd:MD):ML:=λr=>(fd r).bind λq=>(rZ q.1).bind λss=>if ss.length<64 then some ((c9 ss).map .str) else none
theorem zHU(hc:X.calm=true)(hg:Gl X "sorted")(hm:X.mg "sorted" = none)(ha:DDc X a fd)(hs:ag [a] X.env=(false,eval a X.env)::ag [] X.env:=by rfl):DF X (.Call (.Name "sorted" p') [a] [] pos) (gR fd):=by
 refine PE.conseq (kC (WR hc) hg hm PyProof.Rows.boot_sorted (zY ha yV hs) (he:=hs)) λσ H Q hq=>?_
 obtain⟨O0,r,d,hR,e,q⟩:=hq;obtain⟨⟨ks,l⟩,e1,e⟩:=bnS e;obtain⟨ss,e2,e⟩:=bnS e;split at e
 ·rename_i hz;cases e;refine⟨O0,r,ks,l,hR,e1,λc kvs H1 s1 rd ek il=>⟨c,kvs,ss,rfl,rd,by rw[ek];exact e2,hz,λt ht=>q t _ _ (s1.trans (zX ht)) (s1.free ht) zJ (ZL _)⟩⟩
 ·cases e
end DD
namespace ZZ
open PySem
theorem zCE(h:s.heap.get? a=o)(q:Q o s):wpAny (model prog w) A (loadIfAlive a) Q E s:=by
 unfold loadIfAlive;unfold wpAny at *
 intros
 rw[Sem.wp_loadIfAlive,h];exact q
abbrev uI(h:Heap)(z a b T:Addr)(f:Bool):Prop:=h.get? z=some { cls:=Value.type "zip",data:=Data.fields #[rawInt T,.bool f,.bool false,.ref a,.ref b] }
theorem tX(hz:uI s.heap z a b T f)(hT:s.heap.get? T=some o)(q:∀g,uI g z a b T true->Heap.SameBut z s.heap g->Q false { s with heap:=g }):wpAny (model prog w) A (Builtin.SmallTypes.ownedTupleIsFree (.ref z)) Q E s:=by
 unfold Builtin.SmallTypes.ownedTupleIsFree;refine ac (cr hz rfl (x:=rawInt T) rfl ?_);show wpAny _ _ (loadIfAlive (T:Int).toNat >>= _) _ _ _;rw[qy];refine ac (zCE hT ?_);simp only[Option.isNone_some,bx,if_false];refine ac (cr hz rfl (x:=.bool f) rfl ?_);cases f
 ·show wpAny _ _ (setField (.ref z) 1 (Value.bool true) >>= _) _ _ _;refine ac (jb hz (by simp) λg z1 t1=>?_);exact ah (q g z1 t1)
 ·show wpAny _ _ (pure false) _ _ _;exact ah (q s.heap hz (qz _ _))
section
variable{R:Nat->Value->Prop}
theorem zJI{Q:Value->Shared->Prop}(D:Draws prog w A i f n P S)(C:Draws prog w A j g m R U)(ap:Ap z a b i j f g)(hz:uI s.heap z a b T fl)(hT:s.heap.get? T=some oT)(ha:IsPair s.heap a (.ref i) (.ref j))(hS:S k s.heap)(hU:U k s.heap)(hn:k<n)(hm:k<m)(h:∀x y g' tk,P k x->R k y->uI g' z a b T true->S (k+1) g'->U (k+1) g'->IsPair g' s.heap.objs.size x y->g'.objs.size=s.heap.objs.size+1 ->
   (∀c o,c≠z->c≠i->c≠j->s.heap.get? c=some o->g'.get? c=some o)->Q (.ref s.heap.objs.size) { s with heap:=g',toks:=tk }):wpAny (model prog w) A (Builtin.«zip.__next__» ⟨[.ref z],[]⟩) (λr s'=>∃y,r=.done (.ret y)/\Q y s') E s:=by
 show wpAny _ _ (field (.ref z) 2 >>= _) _ _ _;refine ac (cr hz rfl (x:=.bool false) rfl (?_));show wpAny _ _ (field (.ref z) 3 >>= _) _ _ _;refine ac (cr hz rfl (x:=.ref a) rfl (ac (jc ha rfl (?_))));show wpAny _ _ (Builtin.SmallTypes.ownedTupleIsFree (.ref z) >>= _) _ _ _;refine ac (tX hz hT λg1 z1 t1=>?_);simp only[bx,if_false];have keep1:∀{c:Addr} {o:Obj},c≠z->s.heap.get? c=some o->g1.get? c=some o:=λn e=>t1.extBut _ _ n e
 refine ac ?_;simp only[<-Array.forIn_toList,lw,qc];refine ac (ac (ee ?_));show wpAny _ _ (Builtin.SmallTypes.nextOf (.ref i) >>= _) _ _ _;refine ac (D.item k _ _ _ hn (D.frame _ _ _ hS λc hc o e=>keep1 (λw'=>ap.fz (w' ▸ hc)) e) λx g2 tk2 Px S2 t2=>ah (?_));refine ah ?_;refine ac (ac (ee ?_));show wpAny _ _ (Builtin.SmallTypes.nextOf (.ref j) >>= _) _ _ _;have U2:U k g2:=C.frame _ _ _ hU λc hc o e=>t2.extBut _ _ (λw'=>ap.gi (w' ▸ hc)) (keep1 (λw'=>ap.gz (w' ▸ hc)) e)
 refine ac (C.item k _ _ _ hm U2 λy g3 tk3 Ry U3 t3=>ah (?_));refine ah (ah ?_);have sz:g3.objs.size=s.heap.objs.size:=by rw[t3.1,t2.1,t1.1]
 refine ac (wpAny_newTuple ?_ (hsz:=by show 2<=af;decide));refine ah ⟨_,rfl,?_⟩;show Q (.ref g3.objs.size) _;rw[sz];have z3:uI g3 z a b T true:=t3.extBut _ _ ap.jz.symm (t2.extBut _ _ ap.iz.symm z1);have S3:S (k+1) g3:=D.frame _ _ _ S2 λc hc o e=>t3.extBut _ _ (λw'=>ap.fj (w' ▸ hc)) e
 have up:∀c o,g3.get? c=some o->(g3.push (Obj.mk (.type "tuple") none (.seq #[x,y] 0) #[])).get? c=some o:=λc o e=>al _ e
 refine h x y _ _ Px Ry (up _ _ z3) (D.frame _ _ _ S3 λc _ o e=>up c o e) (C.frame _ _ _ U3 λc _ o e=>up c o e) ?_ ?_ λc o c1 c2 c3 e=>up c o (t3.extBut _ _ c3 (t2.extBut _ _ c2 (keep1 c1 e)))
 ·rw[<-sz];exact bo _ rfl
 ·rw[qd,sz]
theorem zOC(D:Draws prog w A i f n P S)(C:Draws prog w A j g m R U)(ap:Ap z a b i j f g)(hz:uI s.heap z a b T fl)(hT:s.heap.get? T=some oT)(ha:IsPair s.heap a (.ref i) (.ref j))(hS:S k s.heap)(hU:U k s.heap)(hk:(k=n)\/(k<n/\k=m))(h:∀g' e,(∀c o,c≠z->c≠i->c≠j->s.heap.get? c=some o->g'.get? c=some o)->(∃o,g'.get? e=some o/\o.cls=.type "StopIteration")->∀tk,E (.ref e) { s with heap:=g',toks:=tk }):wpAny (model prog w) A (PySem.Builtin.«zip.__next__» ⟨[.ref z],[]⟩) Q E s:=by
 show wpAny _ _ (field (.ref z) 2 >>= _) _ _ _;refine ac (cr hz rfl (x:=.bool false) rfl (?_));show wpAny _ _ (field (.ref z) 3 >>= _) _ _ _;refine ac (cr hz rfl (x:=.ref a) rfl (ac (jc ha rfl (?_))));show wpAny _ _ (Builtin.SmallTypes.ownedTupleIsFree (.ref z) >>= _) _ _ _;refine ac (tX hz hT λg1 z1 t1=>?_);simp only[bx,if_false];have keep1:∀{c:Addr} {o:Obj},c≠z->s.heap.get? c=some o->g1.get? c=some o:=λn e=>t1.extBut _ _ n e
 refine ac ?_;simp only[<-Array.forIn_toList,lw,qc];refine ac (ac (ee ?_));show wpAny _ _ (Builtin.SmallTypes.nextOf (.ref i) >>= _) _ _ _;have S1:S k g1:=D.frame _ _ _ hS λc hc o e=>keep1 (λw'=>ap.fz (w' ▸ hc)) e
 rcases hk with hk|⟨hn,hk⟩
 ·subst hk;exact ac (D.done _ _ _ S1 λg2 e t2 he=>h g2 e (λc o c1 c2 c3 x=>t2 _ _ c2 (keep1 c1 x)) he _)
 ·subst hk;refine ac (D.item k _ _ _ hn S1 λx g2 tk2 Px S2 t2=>ah (?_));refine ah ?_;refine ac (ac (ee ?_));show wpAny _ _ (Builtin.SmallTypes.nextOf (.ref j) >>= _) _ _ _;have U2:U k g2:=C.frame _ _ _ hU λc hc o e=>t2.extBut _ _ (λw'=>ap.gi (w' ▸ hc)) (keep1 (λw'=>ap.gz (w' ▸ hc)) e)
  exact ac (C.done _ _ _ U2 λg3 e t3 he=>h g3 e (λc o c1 c2 c3 x=>t3 _ _ c3 (t2.extBut _ _ c2 (keep1 c1 x))) he _)
end
section
variable{R:Nat->Value->Prop}
theorem zC0(D:Draws prog w A.in1 i f n P S)(C:Draws prog w A.in1 j g m R U)(ap:Ap z a b i j f g)(hz:uI s.heap z a b T fl)(hT:s.heap.get? T=some oT)(ha:IsPair s.heap a (.ref i) (.ref j))(hS:S k s.heap)(hU:U k s.heap)(hn:k<n)(hm:k<m)(h:∀x y g' tk,P k x->R k y->uI g' z a b T true->S (k+1) g'->U (k+1) g'->IsPair g' s.heap.objs.size x y->g'.objs.size=s.heap.objs.size+1 ->
   (∀c o,c≠z->c≠i->c≠j->s.heap.get? c=some o->g'.get? c=some o)->Q (some (.ref s.heap.objs.size)) { s with heap:=g',toks:=tk }):wpAny (model prog w) A (pyNext (.ref z)) Q E s:=by
 have hty:s.TypeIs (.ref z) "zip" := ⟨_,hz,rfl⟩;unfold pyNext;refine ac (jx (fq (name:=Str.ofString "__next__") hty jg (ge jg hty nv (?_) (my _))));refine gv (zJI (Q:=λv s'=>Q (some v) s') D C ap hz hT ha hS hU hn hm h) (λfin s' hq=>?_) λ_ _ x=>x
 obtain⟨v,e,hq⟩:=hq;exact⟨v,e,ah hq⟩
theorem zC1(D:Draws prog w A.in1 i f n P S)(C:Draws prog w A.in1 j g m R U)(ap:Ap z a b i j f g)(hz:uI s.heap z a b T fl)(hT:s.heap.get? T=some oT)(ha:IsPair s.heap a (.ref i) (.ref j))(hS:S k s.heap)(hU:U k s.heap)(hk:(k=n)\/(k<n/\k=m))(h:∀g' tk,(∀c o,c≠z->c≠i->c≠j->s.heap.get? c=some o->g'.get? c=some o)->Q none { s with heap:=g',toks:=tk }):wpAny (model prog w) A (pyNext (.ref z)) Q E s:=by
 have hty:s.TypeIs (.ref z) "zip" := ⟨_,hz,rfl⟩;unfold pyNext;refine ac (jx (fq (name:=Str.ofString "__next__") hty jg (ge jg hty nv (zOC D C ap hz hT ha hS hU hk λg' e kp he tk=>?_) (my _))));obtain⟨o,ho,hc⟩:=he;refine ac (nj (T:="StopIteration") (b:=true) ⟨o,ho,hc⟩ ro (?_));exact ah (h _ _ kp)
structure ZS(z a b i j L:Addr)(S U:Nat->Heap->Prop)(k:Nat)(h:Heap):Prop where
 pr:IsPair h a (.ref i) (.ref j)
 s:S k h
 u:U k h
 bl:∃o,h.get? b=some o
 st:(IsZip h z a b .none/\∃p q,IsPair h b p q)\/∃T f o,uI h z a b T f/\h.get? T=some o/\T≠z/\T≠i/\T≠j/\T≠L
theorem ZS.mono(D:Draws prog w A i f n P S)(C:Draws prog w A j g m R U)(ap:Ap z a b i j f g)(x:ZS z a b i j L S U k h)(hf:L∉f)(hg:L∉g)(ha:a≠L)(hb:b≠L)(hz:z≠L)(kp:∀c o,c≠L->h.get? c=some o->h'.get? c=some o):ZS z a b i j L S U k h':=by
 refine⟨kp _ _ ha x.pr,D.frame _ _ _ x.s λc hc o e=>kp c o (λq=>hf (q ▸ hc)) e,C.frame _ _ _ x.u λc hc o e=>kp c o (λq=>hg (q ▸ hc)) e,by obtain⟨o,e⟩:=x.bl;exact⟨o,kp _ _ hb e⟩,?_⟩;rcases x.st with⟨h1,p,q,h2⟩|⟨T,fl,o,h1,h2,h3,h4,h5,h6⟩
 ·exact .inl ⟨kp _ _ hz h1,p,q,kp _ _ hb h2⟩
 ·exact .inr ⟨T,fl,o,kp _ _ hz h1,kp _ _ h6 h2,h3,h4,h5,h6⟩
theorem zCZ(D:Draws prog w A.in1 i f n P S)(C:Draws prog w A.in1 j g m R U)(ap:Ap z a b i j f g)(x:ZS z a b i j L S U k s.heap)(hL:L<s.heap.objs.size)(hn:k<n)(hm:k<m)(h:∀x y g' tk,P k x->R k y->ZS z a b i j L S U (k+1) g'->IsPair g' s.heap.objs.size x y->(∀c o,c≠z->c≠b->c≠i->c≠j->s.heap.get? c=some o->g'.get? c=some o)->Q (some (.ref s.heap.objs.size)) { s with heap:=g',toks:=tk }):wpAny (model prog w) A (pyNext (.ref z)) Q E s:=by
 have li:i<s.heap.objs.size:=by obtain⟨o,e⟩:=D.live _ _ x.s;exact au e
 have lj:j<s.heap.objs.size:=by obtain⟨o,e⟩:=C.live _ _ x.u;exact au e
 rcases x.st with⟨h1,p,q,h2⟩|⟨T,fl,o,h1,h2,h3,h4,h5,h6⟩
 ·have lz:z<s.heap.objs.size:=au h1;refine zJG D C ap h1 x.pr h2 x.s x.u hn hm λx' y' g' tk px ry z1 b1 s1 u1 p1 sz kp=>?_
  refine h x' y' g' tk px ry ⟨kp _ _ ap.az ap.ab ap.ai ap.aj x.pr,s1,u1,⟨_,b1⟩,.inr ⟨s.heap.objs.size,false,_,z1,p1,?_,?_,?_,?_⟩⟩ p1 kp
  ·exact gf lz
  ·exact gf li
  ·exact gf lj
  ·exact gf hL
 ·refine zC0 D C ap h1 h2 x.pr x.s x.u hn hm λx' y' g' tk px ry z1 s1 u1 p1 sz kp=>?_
  exact h x' y' g' tk px ry ⟨kp _ _ ap.az ap.ai ap.aj x.pr,s1,u1,by obtain⟨o,e⟩:=x.bl;exact⟨o,kp _ _ ap.bz ap.bi ap.bj e⟩,.inr ⟨T,true,o,z1,kp _ _ h3 h4 h5 h2,h3,h4,h5,h6⟩⟩ p1 λc o c1 c2 c3 c4 e=>kp c o c1 c3 c4 e
theorem zJF(D:Draws prog w A.in1 i f n P S)(C:Draws prog w A.in1 j g m R U)(ap:Ap z a b i j f g)(x:ZS z a b i j L S U k s.heap)(hk:(k=n)\/(k<n/\k=m))(h:∀g' tk,(∀c o,c≠z->c≠b->c≠i->c≠j->s.heap.get? c=some o->g'.get? c=some o)->Q none { s with heap:=g',toks:=tk }):wpAny (model prog w) A (pyNext (.ref z)) Q E s:=by
 rcases x.st with⟨h1,p,q,h2⟩|⟨T,fl,o,h1,h2,h3,h4,h5,h6⟩
 ·exact zJH D C ap h1 x.pr h2 x.s x.u hk h
 ·exact zC1 D C ap h1 h2 x.pr x.s x.u hk λg' tk kp=>h g' tk λc o c1 c2 c3 c4 e=>kp c o c1 c3 c4 e
noncomputable abbrev lO(acc:Array Value)(c:Nat):Obj:={ cls:=.type "list",data:=.seq acc c }
structure Got(h:Heap)(lo z b i j L:Addr)(P R:Nat->Value->Prop)(acc:Array Value)(k:Nat):Prop where
 sz:acc.size=k
 at_:∀t v,acc[t]?=some v->∃T x y,v=.ref T/\IsPair h T x y/\P t x/\R t y/\T≠z/\T≠b/\T≠i/\T≠j/\L<T
 inj:∀(t t':Nat) v,acc[t]?=some v->acc[t']?=some v->t=t'
theorem zM2{L:Addr}{res:Value}{Rr:Result->Shared->Prop}{s0:Shared}(D:Draws prog w A.in1.in1 i f n P S)(C:Draws prog w A.in1.in1 j g m R U)(ap:Ap z a b i j f g)(hf:L∉f)(hg:L∉g)(haL:a≠L)(hbL:b≠L)(hzL:z≠L)(hiL:i≠L)(hjL:j≠L)(hnm:n=m)(hsz:n<af)(fin:∀h' tk acc c,(∀d o,d≠z->d≠b->d≠i->d≠j->d≠L->s0.heap.get? d=some o->h'.get? d=some o)->h'.get? L=some (lO acc c)->Got h' 0 z b i j L P R acc n->Rr (.ok (.ret res)) { s0 with heap:=h',toks:=tk }):∀(r k:Nat) (h:Heap) (tk:Nat) (acc:Array Value) (c:Nat),k+r=n->ZS z a b i j L S U k h->h.get? L=some (lO acc c)->Got h 0 z b i j L P R acc k->(∀d o,d≠z->d≠b->d≠i->d≠j->d≠L->s0.heap.get? d=some o->h.get? d=some o) ->
   codeAny (model prog w) A (Code.builtin "list.extend.loop" { pos:=[.ref L,.ref z,res] }) Rr { s0 with heap:=h,toks:=tk }
 |0,k,h,tk,acc,c,hk,zs,hL,hg',kp=>by
  refine jm wr ?_;rw[ie mh _];show wpAny _ A.in1 (pyNext (.ref z) >>= _) _ _ _;refine ac (zJF D C ap zs (.inl (by omega)) λg' tk' kp'=>ah ?_);have kk:k=n:=by omega
  subst kk;refine fin g' tk' acc c (λd o d1 d2 d3 d4 d5 e=>kp' d o d1 d2 d3 d4 (kp d o d1 d2 d3 d4 d5 e)) (kp' _ _ hzL.symm hbL.symm hiL.symm hjL.symm hL) ⟨hg'.sz,λt v e=>?_,hg'.inj⟩;obtain⟨T,x,y,e1,e2,e3,e4,n1,n2,n3,n4,n5⟩:=hg'.at_ t v e;exact⟨T,x,y,e1,kp' _ _ n1 n2 n3 n4 e2,e3,e4,n1,n2,n3,n4,n5⟩
 |r+1,k,h,tk,acc,c,hk,zs,hL,hg',kp=>by
  refine jm wr ?_;rw[ie mh _];show wpAny _ A.in1 (pyNext (.ref z) >>= _) _ _ _;have lL:L<h.objs.size:=au hL;refine ac (zCZ (s:={ s0 with heap:=h,toks:=tk }) D C ap zs lL (by omega) (by omega) λx y g' tk' px ry zs' pp kp'=>?_);have hL':g'.get? L=some (lO acc c):=kp' _ _ hzL.symm hbL.symm hiL.symm hjL.symm hL;show wpAny _ A.in1 (updateSeq L (λxs=>xs.push (.ref h.objs.size)) >>= _) _ _ _;refine ac (lr hL' rfl (hz:=by rw[hg'.sz];omega) (_hz':=by rw[Array.size_push,hg'.sz];omega) ?_);have hL2:=jr (Obj.mapSeq (λxs=>xs.push (.ref h.objs.size))) hL' rfl;have kp2:∀d o,d≠L->g'.get? d=some o->(g'.update L (Obj.mapSeq (λxs=>xs.push (.ref h.objs.size)))).get? d=some o:=λd o hd e=>(kr _ _ (lm hd)).trans e
  refine ah ⟨lh mh _,?_⟩;have lz:z<h.objs.size:=by
   rcases zs.st with⟨q,_⟩|⟨_,_,_,q,_⟩
   ·exact au q
   ·exact au q
  have li:i<h.objs.size:=by obtain⟨o,e⟩:=D.live _ _ zs.s;exact au e
  have lj:j<h.objs.size:=by obtain⟨o,e⟩:=C.live _ _ zs.u;exact au e
  refine zM2 D C ap hf hg haL hbL hzL hiL hjL hnm hsz fin r (k+1) _ tk' (acc.push (.ref h.objs.size)) _ (by omega) (zs'.mono D C ap hf hg haL hbL hzL kp2) hL2 ⟨by rw[Array.size_push,hg'.sz],λt v e=>?_,λt t' v e e'=>?_⟩ (λd o d1 d2 d3 d4 d5 e=>kp2 d o d5 (kp' d o d1 d2 d3 d4 (kp d o d1 d2 d3 d4 d5 e)))
  rotate_left
  ·have old:∀t,acc[t]?=some (Value.ref h.objs.size)->False:=λt e=>by
    obtain⟨T,x,y,e1,e2,_⟩:=hg'.at_ t _ e;cases e1;exact iw _ (au e2)
   rw[wu] at e e';split at e
   ·cases e;split at e'
    ·rename_i q1 q2;rw[q1,q2]
    ·exact(old _ e').elim
   ·split at e'
    ·cases e';exact(old _ e).elim
    ·exact hg'.inj t t' v e e'
  rw[wu] at e;split at e
  ·rename_i ht;cases e;subst ht;rw[hg'.sz];have lb:b<h.objs.size:=by obtain⟨o,e⟩:=zs.bl;exact au e
   exact⟨h.objs.size,x,y,rfl,kp2 _ _ (gf lL) pp,px,ry,gf lz,gf lb,gf li,gf lj,lL⟩
  ·obtain⟨T,x,y,e1,e2,e3,e4,n1,n2,n3,n4,n5⟩:=hg'.at_ t v e;exact⟨T,x,y,e1,kp2 _ _ (gf n5) (kp' _ _ n1 n2 n3 n4 e2),e3,e4,n1,n2,n3,n4,n5⟩
theorem YH:typeLookup (.type "zip") "__len__" = pure none:=by rw[jl,gt];kernel_rfl
theorem oW:typeLookup (.type "zip") "__length_hint__" = pure none:=by rw[jl,gt];kernel_rfl
theorem zRR{L:Addr}{res:Value}{Rr:Result->Shared->Prop}(D:Draws prog w A.in1.in1 i f n P S)(C:Draws prog w A.in1.in1 j g m R U)(ap:Ap z a b i j f g)(hf:L∉f)(hg:L∉g)(haL:a≠L)(hbL:b≠L)(hzL:z≠L)(hiL:i≠L)(hjL:j≠L)(hnm:n=m)(hsz:n<af)(zs:ZS z a b i j L S U 0 s.heap)(hz0:IsZip s.heap z a b .none)(hL:s.heap.get? L=some (lO #[] 0))(fin:∀h' tk acc c,(∀d o,d≠z->d≠b->d≠i->d≠j->d≠L->s.heap.get? d=some o->h'.get? d=some o)->h'.get? L=some (lO acc c)->Got h' 0 z b i j L P R acc n->Rr (.ok (.ret res)) { s with heap:=h',toks:=tk }):wpAny (model prog w) A.in1 (Builtin.List.listExtendWith (.ref L) (.ref z) res) (λfin s'=>match fin with | .done f=>Rr (.ok f) s' | .again c'=>c'.quiet=true/\codeAny (model prog w) A c' Rr s') (λe s'=>Rr (.error e) s') s:=by
 have hty:s.TypeIs (.ref z) "zip" := ⟨_,hz0,rfl⟩;have k1:Builtin.List.listSameRef (.ref L) (.ref z)=false:=by simp[Builtin.List.listSameRef,hzL.symm]
 rw[Builtin.List.listExtendWith];refine ac (mi hty ?_);rw[if_neg (by rw[k1];decide)];refine ac (wpAny_pyIter_zip hz0 ?_);refine ac (ee (?_));rw[Builtin.List.listLengthHint];refine ac (ii hty YH ?_);show wpAny _ A.in1 ((specialOf (.ref z) (Str.ofString "__length_hint__")) >>= _) _ _ _;refine ac (ii hty oW ?_);refine ah ?_;rw[if_pos (by rfl)];refine ac (nw ?_);refine ac ?_;unfold Builtin.List.listTouch;refine ac (m:=updateSeq L (λx=>x.push Value.none)) (lr hL rfl ?_);have hL1:=jr (Obj.mapSeq (λx=>x.push Value.none)) hL rfl;refine lr (f:=λx=>x.pop) hL1 rfl ?_;have hL2:=jr (Obj.mapSeq (λx=>x.pop)) hL1 rfl;have els:∀b o,b≠L->s.heap.get? b=some o->((s.heap.update L (Obj.mapSeq (λx=>x.push Value.none))).update L (Obj.mapSeq (λx=>x.pop))).get? b=some o:=λb o hb e=>(kr _ _ (lm hb)).trans ((kr _ _ (lm hb)).trans e)
 refine ah ⟨lh mh _,?_⟩;exact zM2 D C ap hf hg haL hbL hzL hiL hjL hnm hsz fin n 0 _ s.toks #[] _ (qw _) (zs.mono D C ap hf hg haL hbL hzL els) hL2 ⟨rfl,(λt v e=>by simp at e),λt t' v e=>by simp at e⟩ λd o _ _ _ _ d5 e=>els d o d5 e
end
section
variable{R:Nat->Value->Prop}
structure ZNew(z a b i j:Addr)(f g:List Addr)(S U:Nat->Heap->Prop)(h:Heap):Prop where
 zp:IsZip h z a b .none
 pr:IsPair h a (.ref i) (.ref j)
 bp:∃p q,IsPair h b p q
 s:S 0 h
 u:U 0 h
 ff:∀c∈f,c<h.objs.size
 gg:∀c∈g,c<h.objs.size
 li:i<h.objs.size
 lj:j<h.objs.size
theorem zOD(D:Draws prog w A.in1.in1 i f n P S)(C:Draws prog w A.in1.in1 j g m R U)(ap:Ap z a b i j f g)(hnm:n=m)(hsz:n<af)(zn:ZNew z a b i j f g S U s.heap)(fin:∀h' tk acc L c,s.heap.objs.size<=L->(∀d o,d≠z->d≠b->d≠i->d≠j->s.heap.get? d=some o->h'.get? d=some o)->h'.get? L=some (lO acc c)->Got h' 0 z b i j L P R acc n->Rr (.ok (.ret (.ref L))) { s with heap:=h',toks:=tk }):codeAny (model prog w) A (Code.builtin "proto.collect" { pos:=[.ref z] }) Rr s:=by
 refine jm F.entry_proto_collect ?_;rw[ie F.plain_proto_collect _];show wpAny _ A.in1 (newList [] >>= _) _ _ _;refine ac (wpAny_newList ?_);refine ah ⟨lh F.plain_list_iadd _,jm F.entry_list_iadd ?_⟩;rw[ie F.plain_list_iadd _];show wpAny _ A.in1 (Builtin.List.listExtendWith (.ref s.heap.objs.size) (.ref z) (.ref s.heap.objs.size)) _ _ _;have up:∀c o,s.heap.get? c=some o->(s.heap.push (lO #[] 0)).get? c=some o:=λc o e=>al _ e
 have lz:z<s.heap.objs.size:=au zn.zp;have la:a<s.heap.objs.size:=au zn.pr;obtain⟨p,q,bp⟩:=zn.bp;have lb:b<s.heap.objs.size:=au bp;have zs:ZS z a b i j s.heap.objs.size S U 0 (s.heap.push (lO #[] 0)):=⟨up _ _ zn.pr,D.frame _ _ _ zn.s λc _ o e=>up c o e,C.frame _ _ _ zn.u λc _ o e=>up c o e,⟨_,up _ _ bp⟩,.inl ⟨up _ _ zn.zp,p,q,up _ _ bp⟩⟩;refine zRR (s:={ s with heap:=s.heap.push (lO #[] 0) }) D C ap (λh=>iw _ (zn.ff _ h)) (λh=>iw _ (zn.gg _ h)) (bq la) (bq lb) (bq lz) (bq zn.li) (bq zn.lj) hnm hsz zs (up _ _ zn.zp) (bo _ rfl) λh' tk acc c kp hL got=>?_
 exact fin h' tk acc _ c (ae _) (λd o d1 d2 d3 d4 e=>kp d o d1 d2 d3 d4 (bq (au e)) (up d o e)) hL got
theorem JP(D:Draws prog w A.in1.in1 i f n P S)(C:Draws prog w A.in1.in1 j g m R U)(ap:Ap z a b i j f g)(hnm:n=m)(hsz:n<af)(zn:ZNew z a b i j f g S U s.heap)(fin:∀h' tk acc L,s.heap.objs.size<=L->L<h'.objs.size->(∀d o,d≠z->d≠b->d≠i->d≠j->s.heap.get? d=some o->h'.get? d=some o)->Got h' 0 z b i j L P R acc n->Q acc.toList { s with heap:=h',toks:=tk }):wpAny (model prog w) A (collect (.ref z)) Q E s:=by
 unfold collect;refine ac (wpAny_runValue (zOD D C ap hnm hsz zn λh' tk acc L c lo kp hL got=>?_));refine ac (wpAny_load hL ?_);exact ah (fin h' tk acc L lo (au hL) kp got)
end
abbrev SL(i l:Addr)(ys:Array Value)(k:Nat)(h:Heap):Prop:=Heap.IsListIter h i l k/\∃o,h.get? l=some o/\o.cls=.type "list" /\ ∃n,o.data=.seq ys n
theorem JO(hsz:xs.size<af)(hnm:xs.size=ys.size)(hi:l1≠i)(hj:l2≠j)(ap:Ap z a b i j [i,l1] [j,l2]):Meets (Builtin.«tuple.__new__» ⟨[.type "tuple",.ref z],[]⟩) (λA R s=>A.handled=none/\ZNew z a b i j [i,l1] [j,l2] (SL i l1 xs) (SL j l2 ys) s.heap /\
  ∀h' tk acc L,s.heap.objs.size<=L->L<h'.objs.size->(∀d o,d≠z->d≠b->d≠i->d≠j->s.heap.get? d=some o->h'.get? d=some o)->Got h' 0 z b i j L (λk v=>xs[k]?=some v) (λk v=>ys[k]?=some v) acc xs.size->R (.ok (.ret (.ref h'.objs.size))) { s with heap:=h'.push { cls:=.type "tuple",data:=.seq acc },toks:=tk }):=
 .of_wp λprog w A R s h=>by
  obtain⟨hh,zn,fin⟩:=h;have hty:s.TypeIs (.ref z) "zip" := ⟨_,zn.zp,rfl⟩;have D:=(DD.dw_list []).dr (prog:=prog) (w:=w) (A:=A.in1.in1.in1) hh i l1 hi xs;have C:=(DD.dw_list []).dr (prog:=prog) (w:=w) (A:=A.in1.in1.in1) hh j l2 hj ys;have hsub:isSubtype (.type "tuple") (.type "tuple")=pure true:=by rw[kh];kernel_rfl
  unfold Builtin.«tuple.__new__»;dsimp only;refine ac (gr (a:=true) (by first|rfl|kernel_rfl) ?_);simp only[qp,bx,if_false];refine ac (gr hsub ?_);simp only[qp,bx,if_false];rw[if_neg (by decide +kernel)];refine ac (gr (a:=()) (by first|rfl|kernel_rfl) ?_);refine ac (gr F.called_tuple.init.lookup ?_);rw[if_pos (by rfl)];refine ac (gr (a:=()) (by first|rfl|kernel_rfl) ?_);refine ac (gr (a:=()) (by first|rfl|kernel_rfl) ?_);rw[if_pos (by rfl)];refine ac ?_;unfold Builtin.Tuple.tupleIsExact;refine ac (mi hty (ah ?_));rw[if_neg (by decide)];refine ac (JP D C ap hnm hsz zn λh' tk acc L lo lo2 kp got=>?_);refine ac (ah ?_);unfold Builtin.Tuple.tupleExact;rw[qf];refine ac (dj ?_ ?_)
  ·exact ah ⟨_,rfl,fin h' tk acc L lo lo2 kp got⟩
  ·show acc.size<=af;rw[got.sz];exact ki hsz
theorem YG(hh:A.handled=none)(hsz:xs.size<af)(hnm:xs.size=ys.size)(hi:l1≠i)(hj:l2≠j)(ap:Ap z a b i j [i,l1] [j,l2])(zn:ZNew z a b i j [i,l1] [j,l2] (SL i l1 xs) (SL j l2 ys) s.heap)(fin:∀h' tk acc L,s.heap.objs.size<=L->L<h'.objs.size->(∀d o,d≠z->d≠b->d≠i->d≠j->s.heap.get? d=some o->h'.get? d=some o)->Got h' 0 z b i j L (λk v=>xs[k]?=some v) (λk v=>ys[k]?=some v) acc xs.size->Q (.ref h'.objs.size) { s with heap:=h'.push { cls:=.type "tuple",data:=.seq acc },toks:=tk }):wpAny (model prog w) A (call (.type "tuple") [.ref z]) Q E s:=
 callType_new F.called_tuple (by decide) (F.typeCall_tuple_1 _) (F.newCall_tuple_1 _) (λobj=>wd obj _) F.entry_tuple_new (JO hsz hnm hi hj ap) ⟨hh,zn,λh' tk acc L lo lo2 kp got=>⟨⟨_,bo _ rfl,rfl⟩,fin h' tk acc L lo lo2 kp got⟩⟩
theorem nm2(h1:x≠u)(h2:x≠v):x∉[u,v]:=λq=>by
 rcases ca.mp q with q|q
 ·exact h1 q
 ·exact h2 (ba.mp q)
theorem lt2{x u v:Nat}{l:List Nat}(hl:l=[u,v])(h1:u<x)(h2:v<x):∀c∈l,c<x:=λc q=>by
 subst hl;rcases ca.mp q with q|q
 ·rw[q];exact h1
 ·rw[ba.mp q];exact h2
theorem zip_tuple{prog:Program}{w:World}{A:Around}{E:Value->Shared->Prop}{s:Shared}{Q:Value->Shared->Prop}(hh:A.handled=none)(h1:s.heap.IsList l1 xs)(h2:s.heap.IsList l2 ys)(hsz:xs.size<af)(hnm:xs.size=ys.size)(fin:∀(h':Heap) (tk:Nat) (acc:Array Value),s.heap.objs.size<=h'.objs.size->(∀d o,s.heap.get? d=some o->h'.get? d=some o)->acc.size=xs.size->(∀(t:Nat) v,acc[t]?=some v->∃T x y,v=.ref T/\s.heap.objs.size<=T/\IsPair h' T x y/\xs[t]?=some x/\ys[t]?=some y)->(∀(t t':Nat) v,acc[t]?=some v->acc[t']?=some v->t=t')->Q (.ref h'.objs.size) { s with heap:=h'.push { cls:=.type "tuple",data:=.seq acc },toks:=tk }):wpAny (model prog w) A (call (.type "zip") [.ref l1,.ref l2]) (λv s1=>wpAny (model prog w) A (call (.type "tuple") [v]) Q E s1) E s:=by
 have lt1:l1<s.heap.objs.size:=by obtain⟨o,ho,_⟩:=id h1;exact au ho
 have lt2:l2<s.heap.objs.size:=by obtain⟨o,ho,_⟩:=id h2;exact au ho
 refine call_zip_2 h1 h2 λh' z1 z2 z3 z4 z5 sz kp=>?_
 have e1:h'.IsList l1 xs:=h1.at λo e=>kp _ _ e
 have e2:h'.IsList l2 ys:=h2.at λo e=>kp _ _ e
 obtain⟨o1,p1,c1,n1,d1⟩:=id e1;obtain⟨o2,p2,c2,n2,d2⟩:=id e2;have L:∀(x y:Nat),x<y->(x:Addr)≠y:=λx y h=>bq h
 have G:∀(x y:Nat),y<x->(x:Addr)≠y:=λx y h=>gf h
 generalize hN:s.heap.objs.size=N at *;have N1:@LT.lt Nat _ l1 N:=lt1;have N2:@LT.lt Nat _ l2 N:=lt2;refine YG (s:={ s with heap:=h' }) (i:=N) (j:=N+1) (a:=N+2) (b:=N+3) hh hsz hnm (L _ _ N1) (L _ _ (Nat.lt_succ_of_lt N2)) ⟨L _ _ (by omega),L _ _ (by omega),L _ _ (by omega),L _ _ (by omega),L _ _ (by omega),G _ _ (by omega),G _ _ (by omega),G _ _ (by omega),G _ _ (by omega),L _ _ (by omega),nm2 (G _ _ (by omega)) (G _ _ (by omega)),nm2 (G _ _ (by omega)) (G _ _ (by omega)),nm2 (G _ _ (by omega)) (G _ _ (by omega)),nm2 (G _ _ (by omega)) (G _ _ (by omega)),nm2 (G _ _ (by omega)) (G _ _ (by omega)),nm2 (L _ _ (by omega)) (G _ _ (by omega))⟩
  ⟨z1,z2,⟨_,_,z3⟩,⟨z4,o1,p1,c1,n1,d1⟩,⟨z5,o2,p2,c2,n2,d2⟩,ZZ.lt2 rfl (by show N<h'.objs.size;rw[sz];omega) (by show @LT.lt Nat _ l1 h'.objs.size;rw[sz];exact bh N1 (re _ _)),ZZ.lt2 rfl (by show N+1<h'.objs.size;rw[sz];omega) (by show @LT.lt Nat _ l2 h'.objs.size;rw[sz];exact bh N2 (re _ _)),by show N<h'.objs.size;rw[sz];omega,by show N+1<h'.objs.size;rw[sz];omega⟩ λg' tk acc L' lo lo2 kp2 got=>?_
 have lo':@LE.le Nat _ (N+5) L':=sz ▸ lo;have lo3:@LT.lt Nat _ L' g'.objs.size:=lo2;refine fin g' tk acc (by show @LE.le Nat _ N g'.objs.size;omega) (λd o e=>?_) got.sz (λt v e=>?_) got.inj
 ·have ld:@LT.lt Nat _ d N:=hN ▸ au e;exact kp2 d o (L _ _ (by omega)) (L _ _ (by omega)) (L _ _ (by omega)) (L _ _ (by omega)) (kp d o e)
 ·obtain⟨T,x,y,q1,q2,q3,q4,_,_,_,_,q5⟩:=got.at_ t v e;have q5':@LT.lt Nat _ L' T:=q5;exact⟨T,x,y,q1,by show @LE.le Nat _ N T;omega,q2,q3,q4⟩
end ZZ
namespace DD
open PySem PySem.Spec PyProof.Rows L2 PySem.W
def QZ(ps:List (Addr×HO))(H:Hp):Hp:=λb=>match ps.find? λp=>decide (p.1=b) with
 |some p=>some p.2
 |none=>H b
theorem zGH(h:QZ ps H b=some o):(∃p∈ps,p.1=b/\p.2=o)\/((∀p∈ps,p.1≠b)/\H b=some o):=by
 unfold QZ at h;split at h
 ·rename_i p hp;cases h;exact .inl ⟨p,sk hp,by have:=List.find?_some hp;simpa using this,rfl⟩
 ·rename_i hp;exact .inr ⟨λp hm e=>by have:=List.find?_eq_none.mp hp p hm;simp[e] at this,h⟩
theorem ZF(h:∀p∈ps,p.1≠b):QZ ps H b=H b:=by
 unfold QZ;rw[List.find?_eq_none.mpr λp hp=>by simp[h p hp]]
theorem ZG:∀{ps:List (Addr×HO)} {p:Addr×HO},p∈ps->(ps.map (·.1)).Nodup->QZ ps H p.1=some p.2
 |q::ps,p,h,hn=>by
  rw[aq,dl] at hn;unfold QZ;rw[gn];rcases ca.mp h with rfl|h
  ·simp
  ·have ne:q.1≠p.1:=λz=>hn.1 (z ▸ fo.mpr ⟨p,h,rfl⟩)
   rw[decide_eq_false ne];exact ZG h hn.2
theorem zBL(I:Inv X pZ σ H s)(k:∀b u,s.heap.get? b=some u->h'.get? b=some u)(hn:∀p∈ps,s.heap.objs.size<=p.1)(new:∀p∈ps,ObjOk X.prog X.w (QZ ps H) h' p.1 p.2):Inv X pZ σ (QZ ps H) { s with heap:=h',toks:=t' }:=by
 have old:∀b,b<s.heap.objs.size->QZ ps H b=H b:=λb hb=>ZF λp hp e=>absurd (hn p hp) (by rw[e];exact Nat.not_le_of_lt hb)
 have keepH:∀b o,H b=some o->QZ ps H b=some o:=λb o e=>by rw[old b (I.hok.lt e)];exact e
 refine I.un ⟨λb u q _ _ _=>k b u q,λb u q _ _ _=>⟨u.slots,k b u q⟩,λb u q n _=>by rw[old b (au q)];exact n,λb u q _=>⟨u,k b u q⟩,λb xs q=>keepH _ _ q,λb u xs q=>keepH _ _ q,λb ps' q=>⟨#[],by rw[keepH _ _ q];simp⟩⟩ λa o e=>?_
 rcases zGH e with⟨p,hp,rfl,rfl⟩|⟨_,e⟩
 ·exact new p hp
 ·exact(I.hok a o e).stay (λc v _ q=>k c v q) (λc q=>by rw[keepH _ _ q]) (λc xs q=>keepH _ _ q) λc o u q=>keepH _ _ q
theorem XX(I:Inv X pZ σ H s)(hn:∀p∈ps,s.heap.objs.size<=p.1):Same H (QZ ps H):=λb o e=>by
 rw[ZF λp hp z=>absurd (hn p hp) (by rw[z];exact Nat.not_le_of_lt (I.hok.lt e))];exact e
theorem W6{K:Fg}:∀{l m:List D} {xs ys:List V} {Ts:List Addr},Ts.length=l.length->l.length=m.length->IsL K O H l xs->IsL K O H m ys->(∀(t:Nat) T x y,Ts[t]?=some T->xs[t]?=some x->ys[t]?=some y->SqT K H T [x,y])->IsL K O H (zJJ l m) (Ts.map V.ref)
 |[],[],xs,ys,[],_,_,_,_,_=>IsL.nil
 |d::l,e::m,xs,ys,T::Ts,h1,h2,il,im,h=>by
  unfold IsL at il im;obtain⟨x,xs,rfl,ix,il⟩:=il;obtain⟨y,ys,rfl,iy,im⟩:=im;refine IsL.cons ?_ (W6 (by simpa using h1) (by simpa using h2) il im λt T x y e1 e2 e3=>h (t+1) T x y (by simpa using e1) (by simpa using e2) (by simpa using e3));rw[Is.tup_iff];exact⟨T,[x,y],rfl,h 0 T x y rfl rfl rfl,.cons ix (.cons iy .nil)⟩
 |[],_::_,_,_,_,_,h,_,_,_=>by cases h
 |_::_,[],_,_,_,_,h,_,_,_=>by cases h
 |[],[],_,_,_::_,h,_,_,_,_=>by cases h
 |_::_,_::_,_,_,[],h,_,_,_,_=>by cases h
theorem QJ:∀(acc:List Value),(∀(t:Nat) v,acc[t]?=some v->∃T,v=.ref T)->∃Ts:List Addr,acc=Ts.map Value.ref
 |[],_=>⟨[],rfl⟩
 |v::acc,h=>by
  obtain⟨T,rfl⟩:=h 0 v rfl;obtain⟨Ts,rfl⟩:=QJ acc λt v e=>h (t+1) v (by simpa using e)
  exact⟨T::Ts,rfl⟩
theorem mJ:∀(Ts:List Addr),Vals (Ts.map V.ref) (Ts.map Value.ref)
 |[]=>.nil
 |T::Ts=>.cons rfl (mJ Ts)
def zI1(f g:ME):ME:=λr=>(f r).bind λx=>(g r).bind λy=>match x,y with
 |.lst l,.lst m=>if l.length=m.length/\l.length<1000 then some (.tup (zJJ l m)) else none
 |_,_=>none
theorem v6:∀{l:List α},(∀(t t':Nat) v,l[t]?=some v->l[t']?=some v->t=t')->l.Nodup
 |[],_=>jt
 |a::l,h=>by
  rw[dl];refine⟨λz=>?_,v6 λt t' v e e'=>by have:=h (t+1) (t'+1) v (by simpa using e) (by simpa using e');omega⟩;obtain⟨t,ht⟩:=pz z
  have:=h 0 (t+1) a rfl (by simpa using ht)
  omega
theorem WJ(hc:X.calm=true)(hg1:Gl X "tuple")(hm1:X.mg "tuple" = none)(hg2:Gl X "zip")(hm2:X.mg "zip" = none)(ha:DE X a f)(hb:DE X b g)(hs:ag [a,b] X.env=[(false,eval a X.env),(false,eval b X.env)]:=by rfl)(hs2:ag [b] X.env=[(false,eval b X.env)]:=by rfl)(hs3:ag [.Call (.Name "zip" p2) [a,b] [] pos2] X.env=[(false,eval (.Call (.Name "zip" p2) [a,b] [] pos2) X.env)]:=by rfl):DE X (.Call (.Name "tuple" p1) [.Call (.Name "zip" p2) [a,b] [] pos2] [] pos) (zI1 f g):=by
 intro pZ s σ H Q I hq;obtain⟨O0,r,d,hR,e,q⟩:=hq;obtain⟨x,e1,e⟩:=bnS e;obtain⟨y,e2,e⟩:=bnS e;obtain⟨l,m,rfl,rfl,hlm,rfl⟩:∃l m,x=.lst l/\y=.lst m/\(l.length=m.length/\l.length<1000)/\d=.tup (zJJ l m):=by
  clear e1 e2
  revert e
  split
  ·rename_i l m;intro e;by_cases h:l.length=m.length/\l.length<1000
   ·rw[if_pos h] at e;cases e;exact⟨l,m,rfl,rfl,h,rfl⟩
   ·rw[if_neg h] at e;cases e
  ·intro e;cases e
 have hA:PA X [a,b] (YU (lE X.K f) (YU (lE X.K g) zIQ)):=zY ha (zY hb yV (by rw[hs2];rfl)) (by rw[hs,hs2]);have inner:wpAny (model X.prog X.w) X.A (eval (.Call (.Name "zip" p2) [a,b] [] pos2) X.env) (λv s1=>wpAny (model X.prog X.w) X.A (call (.type "tuple") [v]) (EP X pZ σ Q) X.xe s1) X.xe s:=by
  refine Call_ (bB I hg2 hm2 PyProof.Rows.boot_zip (fi (thn (hA pos2 pZ s σ H (z2 λx y H1=>∃u v xs ys,x=.ref u/\y=.ref v/\Same H H1/\SqL X.K H1 u xs/\SqL X.K H1 v ys/\IsL X.K (Ow O0 r σ) H1 l xs/\IsL X.K (Ow O0 r σ) H1 m ys) I ⟨O0,r,.lst l,hR,e1,λv1 H1 s1 i1=>⟨O0,r,.lst m,hR.same s1,e2,λv2 H2 s2 i2=>?_⟩⟩) λus s1 ⟨vs,H1,I1,r1,q1⟩=>?_) (by rw[hs,hs2]) (by rw[hs2];rfl)))
  ·have i1':=i1.same s2 (hR.same s1).ol;rw[Is.lst_iff] at i1' i2;obtain⟨u,xs,rfl,hx,il⟩:=i1';obtain⟨v,ys,rfl,hy,im⟩:=i2;exact⟨u,v,xs,ys,rfl,rfl,s1.trans s2,hx.sq,hy.sq,il,im⟩
  ·obtain⟨_,_,rfl,u,v,xs,ys,rfl,rfl,s1',hx,hy,il,im⟩:=zJK q1;cases r1 with
   |cons a1 r1=>cases r1 with
    |cons a2 r1=>
     cases r1;cases a1;cases a2;obtain⟨its,rv,pl,hz⟩:=I1.list hx;obtain⟨its2,rv2,pl2,hz2⟩:=I1.list hy;have lx:=il.length;have ly:=im.length;have l1:=rv.length;have l2:=rv2.length;have big:1000<af:=by decide
     refine ZZ.zip_tuple (I.ok.hd hc) pl.isList pl2.isList (by rw[am];omega) (by rw[am,am];omega) λh' tk acc sF kp sz at_ inj=>?_
     obtain⟨Ts,hTs⟩:=QJ acc.toList λt w e=>by
      obtain⟨T,x,y,rfl,_⟩:=at_ t w (by rw[<-gu];exact e);exact⟨T,rfl⟩
     have tl:Ts.length=l.length:=by
      have:=congrArg List.length hTs
      rw[ak,iq,sz,am] at this;omega
     have tat:∀(t:Nat) T,Ts[t]?=some T->s1.heap.objs.size<=T/\∃x y,IsPair h' T x y/\its[t]?=some x/\its2[t]?=some y:=λt T e=>by
      obtain⟨T',x,y,e1,e2,e3,e4,e5⟩:=at_ t (.ref T) (by rw[<-gu,hTs,bn,e];rfl);cases e1;exact⟨e2,x,y,e3,by simpa using e4,by simpa using e5⟩
     have tn:Ts.Nodup:=v6 λt t' T e e'=>inj t t' (.ref T) (by rw[<-gu,hTs,bn,e];rfl) (by rw[<-gu,hTs,bn,e'];rfl)
     let ps0:List (Addr×HO):=List.zip Ts (List.zipWith (λx y=>HO.tup [x,y]) xs ys)
     let Fa:Addr:=h'.objs.size
     let ps:List (Addr×HO):=ps0++[(Fa,.tup (Ts.map V.ref))]
     have p0:∀p∈ps0,∃(t:Nat) (x y:V),Ts[t]?=some p.1/\xs[t]?=some x/\ys[t]?=some y/\p.2=.tup [x,y]:=λp hp=>by
      obtain⟨t,ht⟩:=pz hp
      have:=sn.mp ht
      have q2:=this.2;rw[vk] at q2;cases ex:xs[t]? with
      |none=>rw[ex] at q2;cases q2
      |some x=>
       cases ey:ys[t]? with
       |none=>rw[ex,ey] at q2;cases q2
       |some y=>
        rw[ex,ey] at q2;exact⟨t,x,y,this.1,ex,ey,(bw q2).symm⟩
     have m0:ps0.map (·.1)=Ts:=by
      show(List.zip Ts _).map Prod.fst=Ts;rw[List.map_fst_zip];rw[List.length_zipWith];omega
     have lF:∀T∈Ts,T<h'.objs.size:=λT hT=>by
      obtain⟨t,ht⟩:=pz hT;obtain⟨_,x,y,e3,_⟩:=tat t T ht;exact au e3
     have nd:(ps.map (·.1)).Nodup:=by
      show((ps0++[(Fa,HO.tup (Ts.map V.ref))]).map (·.1)).Nodup;rw[cy,m0];refine qx.mpr ⟨tn,dl.mpr ⟨(λz=>by cases z),jt⟩,λx hx y hy=>?_⟩;rw[ba.mp hy];exact bq (lF x hx)
     have hn:∀p∈ps,s1.heap.objs.size<=p.1:=λp hp=>by
      rcases bf.mp hp with z|z
      ·obtain⟨t,x,y,e1,_⟩:=p0 p z;exact(tat t _ e1).1
      ·rw[ba.mp z];exact sF
     let h2:Heap:=h'.push { cls:=.type "tuple",data:=.seq acc }
     have up:∀b o,h'.get? b=some o->h2.get? b=some o:=λb o e=>al _ e
     have I2:Inv X pZ σ (QZ ps H1) { s1 with heap:=h2,toks:=tk }:=zBL I1 (λb o e=>up b o (kp b o e)) hn λp hp=>by
      rcases bf.mp hp with z|z
      ·obtain⟨t,x,y,e1,e2,e3,e4⟩:=p0 p z;obtain⟨_,vx,vy,i3,i4,i5⟩:=tat t _ e1;rw[e4];obtain⟨wx,q1,q2⟩:=rv.get e2;obtain⟨wy,q3,q4⟩:=rv2.get e3;rw[i4] at q1;cases q1;rw[i5] at q3;cases q3;exact⟨by show 2<=af;decide,[vx,vy],.cons q2 (.cons q4 .nil),_,up _ _ i3,rfl,_,rfl⟩
      ·rw[ba.mp z];exact⟨by rw[ak];omega,Ts.map Value.ref,mJ Ts,_,bo _ rfl,rfl,_,by show Data.seq acc _=_;rw[<-hTs]⟩
     have sm:Same H1 (QZ ps H1):=XX I1 hn;refine⟨.ref Fa,QZ ps H1,I2,rfl,q _ _ (s1'.trans sm) ?_⟩;have ol:=(hR.same s1').ol;rw[Is.tup_iff];refine⟨Fa,Ts.map V.ref,rfl,SqT.of (ZG (p:=(Fa,HO.tup (Ts.map V.ref))) (by simp[ps]) nd),W6 tl hlm.1 (il.same sm ol) (im.same sm ol) λt T x y e1 e2 e3=>SqT.of ?_⟩;have hp:(T,HO.tup [x,y])∈ps:=by
      refine pq _ (lq (i:=t) ?_);show(List.zip Ts _)[t]?=_;exact sn.mpr ⟨e1,by rw[vk,e2,e3]⟩
     exact ZG hp nd
 refine Call_ (bB I hg1 hm1 tz (fi ?_ hs3 rfl));rw[hs3];show wpAny _ _ (spliced ((false,eval (.Call (.Name "zip" p2) [a,b] [] pos2) X.env)::dq pos [])) _ _ s;exact kg (thn inner λv s1 h1=>mz h1)
def zGA(neg:Bool)(fk:ME)(fd:MD):ME:=λr=>(zGB neg fk fd r).map D.bl
theorem zH4(hk:DE X k g)(ho:DDc X o fd)(hm:eg .In o=false:=by rfl):DE X (.Compare k [.In] [o] pos) (zGA false g fd):=by
 refine PE.conseq (zE4 (t:=λσ H Q=>lE X.K g σ H λy H1=>lDc X.K fd σ H1 λx H2=>∃c kvs j,x=.ref c/\Rd H2 c (.dK kvs)/\y=vO j/\Q (.bl (valO kvs j).isSome) H2) ?_ hm) λσ H Q hq=>?_
 ·intro pZ s σ H Q I h;refine thn (hk pZ s σ H _ I h) λiv s1 ⟨y,H1,I1,ry,q1⟩=>thn (ho pZ s1 σ H1 _ I1 q1) λu s2 ⟨x,H2,I2,rx,c,kvs,j,ex,rd,ey,q2⟩=>?_
  subst ex ey;obtain rfl:u=Value.ref c:=rx;exact zRE I2 rd ry λs3 I3=>⟨.bl (valO kvs j).isSome,H2,I3,rfl,q2⟩
 ·obtain⟨O0,r,t,hR,e,q⟩:=hq;obtain⟨b,e0,rfl⟩:=mpS e;clear e;obtain⟨kd,e1,e⟩:=bnS e0;obtain⟨⟨ks,l⟩,e2,e⟩:=bnS e;obtain⟨j,e3,rfl⟩:=mpS e;refine⟨O0,r,kd,hR,e1,λy H1 s1 iy=>⟨O0,r,ks,l,hR.same s1,e2,λc kvs H2 s2 rd ek il=>⟨c,kvs,j,rfl,rd,ZI e3 iy,?_⟩⟩⟩;subst ek;have q':=q (.bl (valO kvs j).isSome) H2 (s1.trans s2);rcases hE j il with⟨dd,v,p1,p2,p3⟩|⟨p1,p2⟩
  ·rw[p1] at q';rw[p2];rw[p2] at q';exact q' rfl
  ·rw[p1] at q';rw[p2];rw[p2] at q';exact q' rfl
theorem rD(hk:DE X k g)(ho:DDc X o fd)(hm:eg .NotIn o=false:=by rfl):DE X (.Compare k [.NotIn] [o] pos) (zGA true g fd):=by
 refine PE.conseq (zE4 (t:=λσ H Q=>lE X.K g σ H λy H1=>lDc X.K fd σ H1 λx H2=>∃c kvs j,x=.ref c/\Rd H2 c (.dK kvs)/\y=vO j/\Q (.bl (!(valO kvs j).isSome)) H2) ?_ hm) λσ H Q hq=>?_
 ·intro pZ s σ H Q I h;refine thn (hk pZ s σ H _ I h) λiv s1 ⟨y,H1,I1,ry,q1⟩=>thn (ho pZ s1 σ H1 _ I1 q1) λu s2 ⟨x,H2,I2,rx,c,kvs,j,ex,rd,ey,q2⟩=>?_
  subst ex ey;obtain rfl:u=Value.ref c:=rx;exact zFL I2 rd ry λs3 I3=>⟨.bl (!(valO kvs j).isSome),H2,I3,rfl,q2⟩
 ·obtain⟨O0,r,t,hR,e,q⟩:=hq;obtain⟨b,e0,rfl⟩:=mpS e;clear e;obtain⟨kd,e1,e⟩:=bnS e0;obtain⟨⟨ks,l⟩,e2,e⟩:=bnS e;obtain⟨j,e3,rfl⟩:=mpS e;refine⟨O0,r,kd,hR,e1,λy H1 s1 iy=>⟨O0,r,ks,l,hR.same s1,e2,λc kvs H2 s2 rd ek il=>⟨c,kvs,j,rfl,rd,ZI e3 iy,?_⟩⟩⟩;subst ek;have q':=q (.bl (!(valO kvs j).isSome)) H2 (s1.trans s2);rcases hE j il with⟨dd,v,p1,p2,p3⟩|⟨p1,p2⟩
  ·rw[p1] at q';rw[p2];rw[p2] at q';exact q' rfl
  ·rw[p1] at q';rw[p2];rw[p2] at q';exact q' rfl
namespace MX
end MX
def qR:List Key->List D->Key->List Key×List D
 |k'::ks,d::l,k=>if k'=k then qR ks l k else (k'::(qR ks l k).1,d::(qR ks l k).2)
 |_,_,_=>([],[])
theorem ZU{K:Fg}(k:Key):∀{kvs:List (Key×V)} {l:List D},IsL K O H l (kvs.map (·.2))->(ZV kvs k).map (·.1)=(qR (kvs.map (·.1)) l k).1/\IsL K O H (qR (kvs.map (·.1)) l k).2 ((ZV kvs k).map (·.2))
 |[],[],_=>⟨rfl,.nil⟩
 |[],d'::l,h=>by unfold IsL at h;obtain⟨_,_,e,_⟩:=h;cases e
 |p::kvs,[],h=>by unfold IsL at h;cases h
 |p::kvs,d'::l,h=>by
  unfold IsL at h;obtain⟨x,y,e,h1,h2⟩:=h;rw[aq] at e;cases e;obtain⟨i1,i2⟩:=ZU k h2;rw[aq];unfold qR ZV;by_cases q:p.1=k
  ·rw[if_pos q,uc (by simp[q])];exact⟨i1,i2⟩
  ·rw[if_neg q,ub (by simp[q]),aq,aq];exact⟨congrArg _ i1,.cons h1 i2⟩
def zF7(i:Nat)(fk:ME):En->Option (D×En):=λr=>(fk r).bind λkd=>(zNU kd).bind λk=>match r[i]? with
 |some (.d f ks l)=>(yW ks l k).map λv=>(v,r.set i (.d f (qR ks l k).1 (qR ks l k).2))
 |_=>none
theorem zG8(i:Nat)(h:PE X (.Name x pn) (vG i))(hk:DE X k g)(hbase:cb (.Name x pn) "pop" X.env (eval (.Name x pn) X.env)=eval (.Name x pn) X.env:=by rfl)(hfew:((dq cpos (ag [k] X.env)).all (λx=>!x.1) && (jd cpos (fu [] X.env)).all (λx=>x.1.isSome) && decide (([k]:List Expr).length+([]:List Keyword).length+(if ([]:List Keyword).isEmpty then 0 else 1)<30))=true:=by rfl)(hline:(apos.endLine == cpos.line)=true:=by rfl)(htr:dq cpos (ag [k] X.env)=[(false,eval k X.env)]:=by rfl):DX X (.Call (.Attribute (.Name x pn) "pop" apos) [k] [] cpos) (zF7 i g):=by
 refine PE.conseq (zAU h hk ⟨hbase,hfew,hline,htr⟩) λσ H Q hq=>?_
 obtain⟨O0,r,d,r',hR,e,q⟩:=hq;obtain⟨kd,e2,e⟩:=bnS e;obtain⟨key,e3,e⟩:=bnS e;cases er:r[i]? with
 |none=>rw[er] at e;cases e
 |some y=>
  rw[er] at e;cases y<;>first|(cases e;done)|skip
  rename_i fb ks l;obtain⟨v',e4,e5⟩:=mpS e;cases e5;obtain⟨b,kvs,q1,q2,q4,q3⟩:=hR.dct i fb ks l er;refine⟨.ref b,q1,b,rfl,.inl ⟨kvs,.inl q2⟩,O0,r,kd,hR,e2,λu H2 s2 i2=>?_⟩;have hu2:=nT e3 i2;subst hu2;have R2:=hR.same s2;have q3':=q3.same s2 hR.ol;have q2':=s2 _ _ q2;subst q4;obtain⟨p1,p2⟩:=ZU key q3';obtain⟨R3,k3⟩:=R2.updd er q1 q2' p1 p2;rcases uP key q3' with⟨dd,vv,w1,w2,w3⟩|⟨w1,_⟩
  ·rw[w1] at e4;cases e4;have k4:=(Kp.of_same r σ s2).trans k3;refine⟨kvs,key,vv,q2',rfl,w2,q _ _ R3 k4 ?_⟩;have own_b:Ow O0 r σ b:=.inr ⟨i,l,by rw[er];rfl,q1⟩;have ow2:∀c,Ow O0 (r.set i (.d fb (qR (kvs.map (·.1)) l key).1 (qR (kvs.map (·.1)) l key).2)) σ c->H2 c≠none->Ow O0 r σ c:=λc z n=>z.imp id λz=>(k3.new c z).elim id λz=>absurd z n
   exact Is.mono (λc o e1 n=>by rw[zI (λz=>n (by subst z;exact own_b))];exact e1) R2.ol ow2 _ _ w3
  ·rw[w1] at e4;cases e4
end DD
namespace K46
open PySem PySem.Spec PyProof.Rows L2 DD
noncomputable def top(i:Nat):Stmt:=PySem.Challenge.pw_fieldrows_k46_steps_and_tired.main.body.getD i (.Pass ⟨0,0,0,0⟩)
noncomputable abbrev pn0:List Str:=["value", "label"]
noncomputable abbrev pn1:List Str:=["self", "expression", "around"]
noncomputable abbrev pn2:List Str:=["self", "expression"]
noncomputable abbrev pn3:List Str:=["plain", "expression", "bound", "parts"]
noncomputable def RF:Nat:=40
noncomputable def WF:Nat:=100000
def dR:MS:=(wQ (xR (xI [] 1 (mIt (zB 0)) (yN 0) (k8 (mUn (j8 "tuple") (zB 0))) (zB 0))))
def vE:MF:=mkF 1 1 dR
def k9:MS:=(zZ (zAB 1 (yO zK))
 (zZ (zAB 2 (yO (zA (zB 0) zK)))
 (zZ (qB WF (oU (YD 2))
 (zZ (QH 3 (oV 2))
 (zZ (sX (zCN 1 (zB 3)))
 (sX (zLS 2 (mUn zIU (zM 1 vE (zA (zB 3) zK))))))))
 (bG 1))))
def kF:MF:=mkF 1 4 k9
def yX:MS:=(zZ (zAB 2 (yO zK))
 (zZ (xH 3 (zD xB (zB 1) (mC (.int 1))))
 (zZ (mW (yN 4) (mIt (zM 1 vE (zA (zB 0) zK)))
 (zZ (sX (zCN 2 (zB 3)))
 (Y0 3 (mUn qX (xR (vL 1 kF (zA (zB 4) zK)))))))
 (bG 2))))
def yZ:MF:=mkF 2 5 yX
def cO:MS:=(wQ (mIf (k8 (mUn (j8 "int") (zB 0))) (mC (.str [110,117,109])) (zD ixD (zB 0) (mC (.int 0)))))
def zT:MF:=mkF 1 1 cO
def kX:MS:=(zZ (tE 3 (dJ (zB 0)))
 (zZ (tG 3 (zB 1) (zB 2))
 (zEA 3)))
def xV:MF:=mkF 3 4 kX
def uR:MS:=(zZ (sIf (mBl (zD eqA (zB 0) (mC (.str [43]))))
 (wQ (zD xL (zD xB (zB 1) (zB 2)) (mC (.int 1000000))))
 y0)
 (zZ (sIf (mBl (zD eqA (zB 0) (mC (.str [45]))))
 (wQ (zD xL (zD J2 (zB 1) (zB 2)) (mC (.int 1000000))))
 y0)
 (zZ (sIf (mBl (zD eqA (zB 0) (mC (.str [42]))))
 (wQ (zD xL (zD zFO (zB 1) (zB 2)) (mC (.int 1000000))))
 y0)
 (wQ (mIf (mBl (zD ltA (zB 1) (zB 2))) (mC (.int 1)) (mC (.int 0)))))))
def vD:MF:=mkF 3 3 uR
def kW:MS:=(zZ (sIf (mBl (zD eqA (zM 1 zT (zA (zB 0) zK)) (mC (.str [114,101,99]))))
 (wQ (xR (xS [0] 2 (mIt (xR (gR (dJ (zD ixD (zB 0) (mC (.int 1))))))) (yN 1) (zIK (dJ (zD ixD (zB 0) (mC (.int 1)))) (zB 1)))))
 y0)
 (zZ (sIf (mBl (zD eqA (zM 1 zT (zA (zB 0) zK)) (mC (.str [111,110,101]))))
 (wQ (xR (yO (zA (zD ixD (zB 0) (mC (.int 2))) zK))))
 y0)
 (wQ (xR (yO zK)))))
def xE:MF:=mkF 1 1 kW
def qO:MS:=(zZ (sIf (mBl (zD eqA (zM 1 zT (zA (zB 0) zK)) (mC (.str [114,101,99]))))
 (wQ (xM (zA (mC (.str [114,101,99])) (zA (zI1 (xR (gR (dJ (zD ixD (zB 0) (mC (.int 1)))))) (zB 1)) zK))))
 y0)
 (zZ (sIf (mBl (zD eqA (zM 1 zT (zA (zB 0) zK)) (mC (.str [111,110,101]))))
 (wQ (xM (zA (mC (.str [111,110,101])) (zA (zD ixD (zB 0) (mC (.int 1))) (zA (zD ixD (zB 1) (mC (.int 0))) zK)))))
 y0)
 (zZ (sIf (mBl (zD eqA (zM 1 zT (zA (zB 0) zK)) (mC (.str [102,110]))))
 (wQ (xM (zA (mC (.str [102,110])) zK)))
 y0)
 (wQ (zB 0)))))
def wG:MF:=mkF 2 2 qO
def p9:MS:=(zZ (zAB 1 (yO zK))
 (zZ (zAB 2 (yO (zA (zB 0) zK)))
 (zZ (qB WF (oU (YD 2))
 (zZ (sX (gT 1 (oV 2)))
 (zZ (sIf (mBl (zD gtD (zF9 (YD 1)) (mC (.int 200))))
 (wQ (xM (zA (mC (.str [100,101,101,112])) zK)))
 y0)
 (sX (zLS 2 (mUn zIU (zM 1 xE (zA (zNT (YD 1) (mUn kP (mC (.int 1)))) zK))))))))
 (zZ (zAB 3 (yO zK))
 (zZ (sZ 1 (mW (yN 4) (XV (mZs 1))
 (sX (gT 3 (j0 2 wG (jU (zB 4) (vF (cM 3 2 (mIt (zM 1 xE (zA (zB 4) zK))) (yN 1) (oV 0)))))))))
 (wQ (zNT (YD 3) (mC (.int 0)))))))))
def W2:MF:=mkF 1 5 p9
def uS(m:MF):MS:=(zZ (zAB 3 (vL 2 yZ (zA (zB 0) (zA (zB 2) zK))))
 (zZ (zAB 4 (yO zK))
 (zZ (mW (yN 5) (mIt (zB 0))
 (sIf (k8 (mUn (j8 "tuple") (zB 5)))
 (sX (gT 4 (j0 3 m (jU (zB 5) (jU (zB 1) (vF (zCM 3)))))))
 (sX (zCN 4 (zB 5)))))
 (wQ (zBF (zPL (YD 4) (yO (zA (xM (zA (zB 1) (zA (zB 2) zK))) zK))))))))
def qI:Nat->MF
 |0=>λ_=>none
 |k+1=>mkF 3 6 (uS (qI k))
def vA:MS:=(wQ (pX (zD eqA (zM 1 zT (zA (zB 0) zK)) (mC (.str [114,101,99]))) (zGA false (zB 1) (dJ (zD ixD (zB 0) (mC (.int 1)))))))
def wV:MF:=mkF 2 2 vA
def qY:MS:=(wQ (pX (zD eqA (zM 1 zT (zA (zB 0) zK)) (mC (.str [114,101,99]))) (zGA true (zB 1) (dJ (zD ixD (zB 0) (mC (.int 1)))))))
def wR:MF:=mkF 2 2 qY
def wY:MS:=(zZ (tE 3 (dJ (zD ixD (zB 0) (mC (.int 1)))))
 (zZ (tG 3 (zB 1) (zB 2))
 (sFz 3 (wQ (xM (zA (mC (.str [114,101,99])) (zA (zB 3) zK)))))))
def xD:MF:=mkF 3 4 wY
def xJ:MS:=(zZ (tE 2 (dJ (zD ixD (zB 0) (mC (.int 1)))))
 (zZ (sX (zF7 2 (zB 1)))
 (sFz 2 (wQ (xM (zA (mC (.str [114,101,99])) (zA (zB 2) zK)))))))
def wE:MF:=mkF 2 3 xJ
def qQ:MS:=(zZ (sIf (mBl (zD ltA (zB 1) (mUn qX (zB 0))))
 (wQ (zD ixD (zB 0) (zB 1)))
 y0)
 (wQ (mC (.int 0))))
def xQ:MF:=mkF 2 2 qQ
def wZ:MS:=(zZ (xH 2 (zD xL (zD xB (zD xB (zD xL (zB 0) (mC (.int 2147483647))) (zD zFO (mC (.int 16807)) (zB 1))) (mC (.int 7))) (mC (.int 2147483629))))
 (zZ (xH 2 (zD xL (zD zFO (zB 2) (zB 2)) (mC (.int 2147483587))))
 (wQ (zD xY (zD xL (zD zFO (zB 2) (zD xB (zB 2) (mC (.int 48271)))) (mC (.int 2147483579))) (mC (.int 5))))))
def zO:MF:=mkF 2 3 wZ
def qP:MS:=(zZ (xH 1 (zI3 (mC (.str [])) (xS [0] 2 (gS (zD xL (zB 0) (mC (.int 7)))) (yN 1) (zD ixD (mC (.str [97,98,99,100,101,102,103,104,105,106,107,108,109,110,111,112,113,114,115,116,117,118,119,120,121,122])) (zD xL (zM 2 zO (zA (zB 0) (zA (zD xB (mC (.int 30)) (zB 1)) zK))) (mC (.int 26)))))))
 (zZ (xH 2 (zD xL (zD xY (zB 0) (mC (.int 7))) (zD xB (mUn qX (zB 1)) (mC (.int 1)))))
 (wQ (zD xB (zD xB (mSl (zB 1) x2 (xA (zB 2))) (mC (.str [113]))) (mSl (zB 1) (xA (zB 2)) x2)))))
def wH:MF:=mkF 1 3 qP
def yP:MS:=(zZ (xH 3 (zD xY (zB 1) (mC (.int 8))))
 (zZ (sIf (mBl (zD ltA (zD xL (zB 1) (mC (.int 8))) (mC (.int 4))))
 (wQ (xM (zA (xM (zA (mC (.str [110,97,109,101])) (zA (zD ixD (zB 2) (zD xL (zB 3) (mC (.int 6)))) zK))) (zA (mC (.int 0)) zK))))
 y0)
 (zZ (xH 4 (zD ixD (xR (yO (zA (zD xL (zB 3) (mC (.int 4))) (zA (zD xL (zD xB (zB 0) (zB 3)) (zD zIJ (mC (.int 10)) (mC (.int 6)))) zK)))) (zD xL (zB 1) (mC (.int 2)))))
 (zZ (sIf (mBl (zD eqA (zD xL (zB 1) (mC (.int 8))) (mC (.int 4))))
 (wQ (xM (zA (xM (zA (mC (.str [116,97,103])) (zA (zD ixD (zB 2) (zD xL (zD xY (zB 3) (mC (.int 4))) (mC (.int 6)))) (zA (xM (zA (mC (.str [110,117,109])) (zA (zB 4) zK))) zK)))) (zA (mC (.int 1)) zK))))
 y0)
 (zZ (sIf (mBl (zD eqA (zD xL (zB 1) (mC (.int 8))) (mC (.int 5))))
 (wQ (xM (zA (xM (zA (mC (.str [101,109,112,116,121])) zK)) (zA (mC (.int 0)) zK))))
 y0)
 (wQ (xM (zA (xM (zA (mC (.str [110,117,109])) (zA (zB 4) zK))) (zA (mC (.int 0)) zK)))))))))
def wI:MF:=mkF 3 5 yP
def xW:MS:=(zZ (xH 3 (zD ixD (xR (yO (zLR [[102,110],[103,101,116],[108,101,115,115],[119,105,100,101],[119,105,116,104],[112,117,116],[102,110],[119,105,116,104]]))) (zD xL (zB 0) (mC (.int 8)))))
 (zZ (xH 4 (zD ixD (zB 1) (zD xL (zD xY (zB 0) (mC (.int 8))) (mC (.int 6)))))
 (zZ (sIf (zF8 (mBl (zD eqA (zB 3) (mC (.str [119,105,116,104])))) (mBl (zD eqA (zB 3) (mC (.str [112,117,116])))))
 (wQ (xM (zA (xM (zA (zB 3) (zA (zB 4) (zA (xM (zA (mC (.str [110,117,109])) (zA (zD xL (zD xY (zB 0) (mC (.int 48))) (mC (.int 5))) zK))) (zA (zD ixD (zB 2) (mC (.int 0))) zK))))) (zA (zD xB (zD ixD (zB 2) (mC (.int 1))) (mC (.int 1))) zK))))
 y0)
 (zZ (sIf (xG (mBl (zD eqA (zB 3) (mC (.str [119,105,100,101])))) (mBl (zD eqA (zD xL (zD xY (zB 0) (mC (.int 48))) (mC (.int 4))) (mC (.int 0)))))
 (wQ (xM (zA (xM (zA (mC (.str [110,101,118,101,114])) (zA (zD ixD (zB 2) (mC (.int 0))) zK))) (zA (zD xB (zD ixD (zB 2) (mC (.int 1))) (mC (.int 1))) zK))))
 y0)
 (wQ (xM (zA (xM (zA (zB 3) (zA (zB 4) (zA (zD ixD (zB 2) (mC (.int 0))) zK)))) (zA (zD xB (zD ixD (zB 2) (mC (.int 1))) (mC (.int 1))) zK))))))))
def qV:MF:=mkF 3 5 xW
def jT:MS:=(zZ (xH 3 (zD ixD (xR (yO (zLR [[100,111],[43],[100,111],[45],[100,111],[60],[42]]))) (zD xL (zB 0) (mC (.int 7)))))
 (wQ (xM (zA (xM (zA (zB 3) (zA (zD ixD (zB 1) (mC (.int 0))) (zA (zD ixD (zB 2) (mC (.int 0))) zK)))) (zA (zD xB (mC (.int 1)) (zI2 (zA (zD ixD (zB 1) (mC (.int 1))) (zA (zD ixD (zB 2) (mC (.int 1))) zK)))) zK)))))
def qU:MF:=mkF 3 4 jT
def xO:MS:=(zZ (xH 3 (zD xB (mC (.int 1)) (dI (xS [] 1 (mIt (zB 2)) (yN 0) (zD ixD (zB 0) (mC (.int 1)))))))
 (zZ (sIf (mBl (zD eqA (zD xL (zB 0) (mC (.int 2))) (mC (.int 0))))
 (wQ (xM (zA (xM (zA (mC (.str [105,102])) (zA (zD ixD (zD ixD (zB 2) (mC (.int 0))) (mC (.int 0))) (zA (zD ixD (zD ixD (zB 2) (mC (.int 1))) (mC (.int 0))) (zA (zD ixD (zD ixD (zB 2) (mC (.int 2))) (mC (.int 0))) zK))))) (zA (zB 3) zK))))
 y0)
 (zZ (xH 4 (zD ixD (zB 1) (zD xL (zD xY (zB 0) (mC (.int 2))) (mC (.int 6)))))
 (zZ (xH 5 (zD ixD (zB 1) (zD xL (zD xY (zB 0) (mC (.int 12))) (mC (.int 6)))))
 (wQ (xM (zA (xM (zA (mC (.str [99,97,115,101])) (zA (zD ixD (zD ixD (zB 2) (mC (.int 0))) (mC (.int 0))) (zA (zB 4) (zA (zB 5) (zA (zD ixD (zD ixD (zB 2) (mC (.int 1))) (mC (.int 0))) (zA (zD ixD (zB 1) (zD xL (zD xY (zB 0) (mC (.int 72))) (mC (.int 6)))) (zA (zD ixD (zD ixD (zB 2) (mC (.int 2))) (mC (.int 0))) zK)))))))) (zA (zB 3) zK))))))))
def jJ:MF:=mkF 3 6 xO
def w6:MS:=(zZ (xH 4 (zM 2 zO (zA (zB 1) (zA (zD xB (mC (.int 50)) (zB 2)) zK))))
 (zZ (xH 5 (zD xL (zM 2 zO (zA (zB 1) (zA (zD xB (mC (.int 250)) (zB 2)) zK))) (mC (.int 9))))
 (zZ (sIf (xG (mBl (zD gtD (zB 5) (mC (.int 6)))) (xG (mBl (zD gtD (mUn qX (zB 0)) (mC (.int 2)))) (mBl (zD ltA (dI (xS [] 1 (mIt (mSl (zB 0) (xA (mUn kP (mC (.int 3)))) x2)) (yN 0) (zD ixD (zB 0) (mC (.int 1))))) (mC (.int 10))))))
 (wQ (zD xB (mSl (zB 0) x2 (xA (mUn kP (mC (.int 3))))) (xR (yO (zA (zM 3 jJ (zA (zB 4) (zA (zB 3) (zA (mSl (zB 0) (xA (mUn kP (mC (.int 3)))) x2) zK)))) zK)))))
 y0)
 (zZ (sIf (xG (mBl (zD gtD (zB 5) (mC (.int 4)))) (xG (mBl (zD gtD (mUn qX (zB 0)) (mC (.int 1)))) (mBl (zD ltA (dI (xS [] 1 (mIt (mSl (zB 0) (xA (mUn kP (mC (.int 2)))) x2)) (yN 0) (zD ixD (zB 0) (mC (.int 1))))) (mC (.int 10))))))
 (wQ (zD xB (mSl (zB 0) x2 (xA (mUn kP (mC (.int 2))))) (xR (yO (zA (zM 3 qU (zA (zB 4) (zA (zD ixD (zB 0) (mUn kP (mC (.int 2)))) (zA (zD ixD (zB 0) (mUn kP (mC (.int 1)))) zK)))) zK)))))
 y0)
 (zZ (sIf (xG (mBl (zD gtD (zB 5) (mC (.int 2)))) (xG (mBl (zD gtD (mUn qX (zB 0)) (mC (.int 0)))) (mBl (zD ltA (zD ixD (zD ixD (zB 0) (mUn kP (mC (.int 1)))) (mC (.int 1))) (mC (.int 10))))))
 (wQ (zD xB (mSl (zB 0) x2 (xA (mUn kP (mC (.int 1))))) (xR (yO (zA (zM 3 qV (zA (zB 4) (zA (zB 3) (zA (zD ixD (zB 0) (mUn kP (mC (.int 1)))) zK)))) zK)))))
 y0)
 (wQ (zD xB (zB 0) (xR (yO (zA (zM 3 wI (zA (zB 1) (zA (zB 4) (zA (zB 3) zK)))) zK))))))))))
def jK:MF:=mkF 4 6 w6
def wL:MS:=(zZ (xH 2 (mC (.int 0)))
 (zZ (qB WF (mBl (zD gtD (mUn qX (zB 0)) (mC (.int 1))))
 (zZ (xH 0 (zD xB (mSl (zB 0) (xA (mC (.int 2))) x2) (xR (yO (zA (zM 3 qU (zA (zM 2 zO (zA (zB 1) (zA (zD xB (mC (.int 500)) (zB 2)) zK))) (zA (zD ixD (zB 0) (mC (.int 0))) (zA (zD ixD (zB 0) (mC (.int 1))) zK)))) zK)))))
 (xH 2 (zD xB (zB 2) (mC (.int 1))))))
 (wQ (zD ixD (zB 0) (mC (.int 0))))))
def wO:MF:=mkF 2 3 wL
def yQ(m:MF):MS:=(zZ (sIf (mBl (zD eqA (zD ixD (zB 0) (mC (.int 0))) (mC (.str [110,97,109,101]))))
 (wQ (mSl (xR (yO (zA (zD ixD (zB 0) (mC (.int 1))) zK))) x2 (xA (mUn zI4 (zD (inD true) (zD ixD (zB 0) (mC (.int 1))) (zB 1))))))
 y0)
 (zZ (sIf (mBl (zD eqA (zD ixD (zB 0) (mC (.int 0))) (mC (.str [102,110]))))
 (wQ (zM 2 m (zA (zD ixD (zB 0) (mC (.int 2))) (zA (zD xB (zB 1) (xR (yO (zA (zD ixD (zB 0) (mC (.int 1))) zK)))) zK))))
 y0)
 (zZ (sIf (mBl (zD eqA (zD ixD (zB 0) (mC (.int 0))) (mC (.str [99,97,115,101]))))
 (zZ (xH 2 (zD xB (zM 2 m (zA (zD ixD (zB 0) (mC (.int 1))) (zA (zB 1) zK))) (zM 2 m (zA (zD ixD (zB 0) (mC (.int 4))) (zA (zD xB (zB 1) (xR (yO (zA (zD ixD (zB 0) (mC (.int 3))) zK)))) zK)))))
 (wQ (zD xB (zB 2) (zM 2 m (zA (zD ixD (zB 0) (mC (.int 6))) (zA (zD xB (zB 1) (xR (yO (zA (zD ixD (zB 0) (mC (.int 5))) zK)))) zK))))))
 y0)
 (zZ (xH 2 (xR (yO zK)))
 (zZ (mW (yN 3) (mIt (mSl (zB 0) (xA (mC (.int 1))) x2))
 (sIf (k8 (mUn (j8 "tuple") (zB 3)))
 (xH 2 (zD xB (zB 2) (zM 2 m (zA (zB 3) (zA (zB 1) zK)))))
 y0))
 (wQ (zB 2)))))))
def yR:Nat->MF
 |0=>λ_=>none
 |k+1=>mkF 2 4 (yQ (yR k))
def wM:MS:=(zZ (zQN (zB 0) (dX 2 (qL (yN 3) (qL (yN 4) oQ))))
 (zZ (xH 5 (zM 2 (yR RF) (zA (zB 3) (zA (zB 2) zK))))
 (zZ (qB WF (mBl (zD neA (zB 5) (xR (yO zK))))
 (zZ (xH 6 (zM 2 zO (zA (zB 1) (zA (zD xB (mC (.int 600)) (zB 4)) zK))))
 (zZ (xH 7 (zD ixD (zB 5) (zD xL (zB 6) (mUn qX (zB 5)))))
 (zZ (xH 3 (xM (zA (mC (.str [102,110])) (zA (zB 7) (zA (zB 3) zK)))))
 (zZ (xH 4 (zD xB (zB 4) (mC (.int 1))))
 (zZ (sIf (mBl (zD gtD (zD xL (zD xY (zB 6) (mC (.int 7))) (mC (.int 5))) (mC (.int 0))))
 (zZ (xH 8 (zD ixD (xR (yO (zA (xM (zA (mC (.str [110,117,109])) (zA (zD xL (zD xY (zB 6) (mC (.int 35))) (zD zIJ (mC (.int 10)) (mC (.int 6)))) zK))) (zA (xM (zA (mC (.str [101,109,112,116,121])) zK)) (zA (xM (zA (mC (.str [102,110])) (zA (mC (.str [113])) (zA (xM (zA (mC (.str [110,97,109,101])) (zA (mC (.str [113])) zK))) zK)))) zK))))) (zD xL (zD xL (zD xY (zB 6) (mC (.int 35))) (mC (.int 4))) (mC (.int 3)))))
 (zZ (xH 3 (xM (zA (mC (.str [100,111])) (zA (zB 3) (zA (zB 8) zK)))))
 (xH 4 (zD xB (zB 4) (mC (.int 1))))))
 y0)
 (xH 5 (xR (xI [7] 2 (mIt (zB 5)) (yN 1) (mBl (zD neA (zB 1) (zB 0))) (zB 1))))))))))
 (wQ (zB 3)))))
def wP:MF:=mkF 3 9 wM
def wU:MS:=(zZ (xH 3 (zD xB (zD xB (mC (.int 1)) (zD xY (zI2 (zA (zD J2 (mUn qX (zB 0)) (mC (.int 1))) (zA (zD xL (zB 1) (mC (.int 5))) zK))) (mC (.int 18)))) (zD xL (zD xY (zB 1) (mC (.int 5))) (mC (.int 3)))))
 (zZ (xH 4 (zD xB (mC (.str [113])) (mSl (zM 1 wH (zA (zB 2) zK)) x2 (xA (mC (.int 6))))))
 (zZ (xH 5 (zD xL (zD xY (zB 2) (mC (.int 3))) (mUn qX (zB 4))))
 (zZ (xH 6 (zD xB (xR (xS [4,5] 3 (gS (zD J2 (zB 3) (mC (.int 1)))) (yN 2) (zD xB (zD xB (mSl (zB 0) x2 (xA (zB 1))) (zD ixD (mC (.str [97,98,99,100,101,102,103,104,105,106,107,108])) (zB 2))) (mSl (zB 0) (xA (zB 1)) x2)))) (xR (yO (zA (mC (.str [109,97,105,110])) zK)))))
 (zZ (zAB 7 (yO zK))
 (zZ (mW (yN 8) (gS (zB 3))
 (zZ (xH 9 (mSl (zB 6) (xA (zI2 (zA (mC (.int 0)) (zA (zD J2 (zB 8) (mC (.int 2))) zK)))) (xA (zD xB (zB 8) (mC (.int 1))))))
 (zZ (xH 10 (zD xB (xR (xS [2,8] 3 (gS (zD J2 (mC (.int 6)) (mUn qX (zB 9)))) (yN 2) (zM 1 wH (zA (zM 2 zO (zA (zB 0) (zA (zD xB (zB 1) (zB 2)) zK))) zK)))) (zB 9)))
 (zZ (xH 11 (xR (yO (zA (zM 3 wI (zA (zB 2) (zA (zM 2 zO (zA (zB 2) (zA (zD xB (mC (.int 20)) (zB 8)) zK))) (zA (zB 10) zK)))) zK))))
 (zZ (mW (yN 12) (QW (zB 8) (mUn qX (zB 0)) (zB 3))
 (xH 11 (zM 4 jK (zA (zB 11) (zA (zD ixD (zB 0) (zB 12)) (zA (zB 12) (zA (zB 10) zK)))))))
 (sX (zCN 7 (xM (zA (zD ixD (zB 6) (zB 8)) (zA (zM 3 wP (zA (zM 2 wO (zA (zB 11) (zA (zB 2) zK))) (zA (zB 2) (zA (mSl (zB 6) x2 (xA (zD xB (zB 8) (mC (.int 1))))) zK)))) zK))))))))))
 (bG 7)))))))
def qW:MF:=mkF 3 13 wU
def kD:MS:=(wQ (pX (mUn (j8 "int") (zB 0)) (mUn zRF (mUn (j8 "bool") (zB 0)))))
def jI:MF:=mkF 1 1 kD
def xF:MS:=(zZ (sIf (zF8 (cL (k8 (mUn (j8 "tuple") (zB 0)))) (zF8 (mBl (zD neA (mUn qX (zB 0)) (mC (.int 3)))) (zF8 (cL (k8 (zM 1 jI (zA (zD ixD (zB 0) (mC (.int 1))) zK)))) (cL (mBl (gJ leA leA (mC (.int 0)) (zD ixD (zB 0) (mC (.int 1))) (zB 1)))))))
 (wQ (mC (.bl false)))
 y0)
 (zZ (sIf (mBl (zD eqA (zD ixD (zB 0) (mC (.int 0))) (mC (.str [116,105,114,101,100]))))
 (wQ (pX (zD eqA (zD ixD (zB 0) (mC (.int 1))) (zB 1)) (zD zQS (zD ixD (zB 0) (mC (.int 2))) (mC .non))))
 y0)
 (zZ (sIf (mBl (zD eqA (zD ixD (zB 0) (mC (.int 0))) (mC (.str [115,116,117,99,107]))))
 (zZ (xH 3 (zD ixD (zB 0) (mC (.int 2))))
 (wQ (pX (mUn (j8 "tuple") (zB 3)) (pX (zD eqA (mUn qX (zB 3)) (mC (.int 2))) (pX (zD (inD false) (zD ixD (zB 3) (mC (.int 0))) (zB 2)) (zM 1 jI (zA (zD ixD (zB 3) (mC (.int 1))) zK)))))))
 y0)
 (wQ (pX (zD eqA (zD ixD (zB 0) (mC (.int 0))) (mC (.str [118,97,108,117,101]))) (zD zIX (zD ixD (zB 0) (mC (.int 2))) (mC .non)))))))
def wJ:MF:=mkF 3 4 xF
def bI(i j:Nat):Stmt:=match top i with
 |.ClassDef _ _ _ body _ _ _ _ _ _ _=>body.getD j (.Pass ⟨0,0,0,0⟩)
 |s=>s
structure Dm(K:Fg)(n q:Str)(st:Stmt)(ps:List Str) where
 a:Addr
 d:FuncData
 F:Fun K n q st a d
 b:Binds K d ps []
noncomputable def AH:List (List Nat×List Int):=[([100,111],[1,2]),([103,101,116],[2]),([119,105,116,104],[2,3]),([112,117,116],[2,3]),([108,101,115,115],[2]),([116,97,103],[2]),([119,105,100,101],[2]),([99,97,115,101],[1]),([110,101,118,101,114],[1]),([105,102],[1]),([43],[1,2]),([45],[1,2]),([42],[1,2]),([60],[1,2])]
def yB(st:Mst):List D->Option (D×Mst)
 |[e,b]=>if st.wait.length<af then some (.non,zEJ st (.tup [e,b,.bl false])) else none
 |_=>none
def yH(st:Mst):List D->Option (D×Mst)
 |[v]=>if st.come.length<af then some (.non,zKH st v) else none
 |_=>none
noncomputable def rS:D:=.tup [.str [116,105,114,101,100],.non]
def jH(st:Mst):List D->Option (D×Mst)
 |[]=>if st.most<=st.steps then some (.bl false,{ st with ended:=rS }) else some (.bl true,{ st with steps:=st.steps+1 })
 |_=>none
def tK(e b:D):List Int->Mst->Option Mst
 |[],st=>some st
 |i::t,st=>(ixD e (.int i)).bind λp=>(yB st [p,b]).bind λq=>tK e b t q.2
def bS:D->Option (List Int)
 |.tup (.str s::_)=>some ((j5 AH s).getD [])
 |_=>none
def yA(st:Mst):List D->Option (D×Mst)
 |[e,b]=>if st.wait.length<af then (bS e).bind λl=>(tK e b l.reverse (zEJ st (.tup [e,b,.bl true]))).map λs=>(.non,s) else none
 |_=>none
def yF(st:Mst):List D->Option (D×Mst)
 |[e]=>(bS e).bind λl=>if l.length<=st.come.length/\l.length<af then some (.lst (st.come.drop (st.come.length-l.length)),{ st with come:=st.come.take (st.come.length-l.length) }) else none
 |_=>none
def jQ(st:Mst):List D->Option (D×Mst)
 |[.tup [_,v,_],_,_]=>yH st [v]
 |_=>none
def wA(st:Mst):List D->Option (D×Mst)
 |[.tup [_,.str s,_],.dct ks l,_]=>match yW ks l (.inr ⟨s.toArray⟩) with
  |some v=>yH st [v]
  |none=>(jH st []).bind λp=>match p.1,p.2.defs with
   |.bl true,.dct ks l=>(yW ks l (.inr ⟨s.toArray⟩)).bind λd=>yB p.2 [d,.dct [] []]
   |.bl false,_=>some (.non,p.2)
   |_,_=>none
 |_=>none
noncomputable def STK:List Nat:=[115,116,117,99,107]
def zU(st:Mst):List D->Option (D×Mst)
 |[.tup l]=>(l.getLast?).map λm=>(.non,{ st with ended:=.tup [.str STK,m] })
 |_=>none
noncomputable def mR:D->Option (List Nat)
 |.int _=>some [110,117,109]
 |.tup (.str w::_)=>some w
 |_=>none
def gV(st:Mst)(e v:D)(k:List Nat):Option (D×Mst):=(mR v).bind λw=>if w=k then none else zU st [e]
def Q4:D->Option (List Key×List D)
 |.tup [.str w,.dct ks l]=>if w=[114,101,99] then some (ks,l) else none
 |_=>none
noncomputable def zGO:D->Option (List Nat×D)
 |.tup [.str w,.str s,v]=>if w=[111,110,101] then some (s,v) else none
 |_=>none
def isFn:D->Option (List Nat×D×List Key×List D)
 |.tup [.str w,.str x,e,.dct ks l]=>if w=[102,110] then some (x,e,ks,l) else none
 |_=>none
def jM(st:Mst):List D->Option (D×Mst)
 |[.tup [a,q,x,y,m],b,.lst [v]]=>match v with
  |.int i=>if i=0 then yB st [y,b] else yB st [x,b]
  |v=>gV st (.tup [a,q,x,y,m]) v [110,117,109]
 |_=>none
def kI(st:Mst):List D->Option (D×Mst)
 |[.tup [_,x,e,_],b,_]=>yH st [.tup [.str [102,110],x,e,b]]
 |_=>none
def kJ(st:Mst):List D->Option (D×Mst)
 |[e,_,.lst [f,v]]=>match isFn f with
  |some (x,body,ks,l)=>if ks.length<af then (jH st []).bind λp=>match p.1 with
   |.bl true=>yB p.2 [body,.dct (jL ks l (.inr ⟨x.toArray⟩) v).1 (jL ks l (.inr ⟨x.toArray⟩) v).2]
   |.bl false=>some (.non,p.2)
   |_=>none
   else none
  |none=>gV st e f [102,110]
 |_=>none
def xX(st:Mst):List D->Option (D×Mst)
 |[_,_,_]=>yH st [.tup [.str [114,101,99],.dct [] []]]
 |_=>none
def qZ(st:Mst):List D->Option (D×Mst)
 |[.tup [_,s,_,_],_,.lst [v]]=>yH st [.tup [.str [111,110,101],s,v]]
 |_=>none
def x5(st:Mst):List D->Option (D×Mst)
 |[.tup [a,.str s,c,m],_,.lst [v]]=>match zGO v with
  |some (s2,_)=>if s2≠s then yH st [v] else zU st [.tup [a,.str s,c,m]]
  |none=>gV st (.tup [a,.str s,c,m]) v [111,110,101]
 |_=>none
def xT(st:Mst):List D->Option (D×Mst)
 |[.tup [a,.str s,c,d,m],_,.lst [v,r]]=>match Q4 r with
  |some (ks,l)=>if yW ks l (.inr ⟨s.toArray⟩)=none then if ks.length<af then yH st [.tup [.str [114,101,99],.dct (jL ks l (.inr ⟨s.toArray⟩) v).1 (jL ks l (.inr ⟨s.toArray⟩) v).2]] else none else zU st [.tup [a,.str s,c,d,m]]
  |none=>gV st (.tup [a,.str s,c,d,m]) r [114,101,99]
 |_=>none
def wT(st:Mst):List D->Option (D×Mst)
 |[.tup [a,.str s,c,d,m],_,.lst [v,r]]=>match Q4 r with
  |some (ks,l)=>if yW ks l (.inr ⟨s.toArray⟩)=none then zU st [.tup [a,.str s,c,d,m]] else if ks.length<af then yH st [.tup [.str [114,101,99],.dct (jL ks l (.inr ⟨s.toArray⟩) v).1 (jL ks l (.inr ⟨s.toArray⟩) v).2]] else none
  |none=>gV st (.tup [a,.str s,c,d,m]) r [114,101,99]
 |_=>none
def qE(st:Mst):List D->Option (D×Mst)
 |[.tup [a,.str s,c,m],_,.lst [v]]=>match Q4 v with
  |some (ks,l)=>match yW ks l (.inr ⟨s.toArray⟩) with
   |some u=>yH st [u]
   |none=>zU st [.tup [a,.str s,c,m]]
  |none=>gV st (.tup [a,.str s,c,m]) v [114,101,99]
 |_=>none
def wB(st:Mst):List D->Option (D×Mst)
 |[.tup [a,.str s,c,m],_,.lst [v]]=>match Q4 v with
  |some (ks,l)=>match yW ks l (.inr ⟨s.toArray⟩) with
   |some _=>yH st [.tup [.str [114,101,99],.dct (qR ks l (.inr ⟨s.toArray⟩)).1 (qR ks l (.inr ⟨s.toArray⟩)).2]]
   |none=>zU st [.tup [a,.str s,c,m]]
  |none=>gV st (.tup [a,.str s,c,m]) v [114,101,99]
 |_=>none
def xU(st:Mst):List D->Option (D×Mst)
 |[.tup [a,q,.str s,.str x,e1,.str y,e2,m],.dct ks l,.lst [v]]=>match zGO v with
  |some (s2,u)=>if ks.length<af then if s2=s then yB st [e1,.dct (jL ks l (.inr ⟨x.toArray⟩) u).1 (jL ks l (.inr ⟨x.toArray⟩) u).2] else yB st [e2,.dct (jL ks l (.inr ⟨y.toArray⟩) v).1 (jL ks l (.inr ⟨y.toArray⟩) v).2] else none
  |none=>gV st (.tup [a,q,.str s,.str x,e1,.str y,e2,m]) v [111,110,101]
 |_=>none
def wN(st:Mst):List D->Option (D×Mst)
 |[e,_,_]=>zU st [e]
 |_=>none
noncomputable def wk(w:List Nat)(i j:Int):Int:=if w=[43] then (i+j) % 1000000 else if w=[45] then (i-j) % 1000000 else if w=[42] then i*j % 1000000 else if i<j then 1 else 0
def small(i:Int):Prop:=0<=i/\i<1000000
instance (i:Int):Decidable (small i):=inferInstanceAs (Decidable (_/\_))
def yC(st:Mst):List D->Option (D×Mst)
 |[.tup [.str w,x,y,m],_,.lst [u,v]]=>match u,v with
  |.int i,.int j=>if small i/\small j then yH st [.int (wk w i j)] else none
  |.int _,v=>gV st (.tup [.str w,x,y,m]) v [110,117,109]
  |u,v=>(mR v).bind λ_=>gV st (.tup [.str w,x,y,m]) u [110,117,109]
 |_=>none
def ways(w:List Nat):Option (Mst->List D->Option (D×Mst)):=if w=[110,117,109] then some jQ else if w=[110,97,109,101] then some wA else if w=[102,110] then some kI else if w=[100,111] then some kJ else if w=[101,109,112,116,121] then some xX else if w=[103,101,116] then some qE else if w=[119,105,116,104] then some xT else if w=[112,117,116] then some wT else if w=[108,101,115,115] then some wB else if w=[116,97,103] then some qZ else if w=[119,105,100,101] then some x5 else if w=[99,97,115,101] then some xU else if w=[110,101,118,101,114] then some wN else if w=[105,102] then some jM else if w=[43]\/w=[45]\/w=[42]\/w=[60] then some yC else none
def qF(st:Mst):List D->Option (D×Mst)
 |[.tup (.str w::r),b,ps]=>(ways w).bind λmm=>(mm st [.tup (.str w::r),b,ps]).map λq=>(.non,q.2)
 |_=>none
def mN(st:Mst):Option Mst:=match st.wait.getLast? with
 |some (.tup [e,b,.bl true])=>(yF { st with wait:=st.wait.dropLast } [e]).bind λp=>(qF p.2 [e,b,p.1]).map (·.2)
 |some (.tup [e,b,.bl false])=>(yA { st with wait:=st.wait.dropLast } [e,b]).map (·.2)
 |_=>none
def gY:Nat->Mst->Option Mst
 |0,_=>none
 |n+1,st=>if st.wait.isEmpty=false/\nonB st.ended=true then (mN st).bind (gY n) else some st
def jP(st:Mst):List D->Option (D×Mst)
 |[]=>(gY WF st).map λs=>(.non,s)
 |_=>none
def ddE:ME:=(pW (zBG (xS [] 2 (mIt (zB 1)) (dX 2 (qL (yN 0) (qL (yN 1) oQ))) (xM (zA (zB 0) (zA (zM 3 (qI RF) (zA (zB 1) (zA (zB 0) (zA (mC (.int 0)) zK)))) zK))))))
def dd(pd:D):Option D:=ddE [.un,.v pd,.v (.int 0)]
def zNY(st:Mst):Option D:=match st.ended with
 |.non=>(st.come.getLast?).bind λv=>(W2 [.v v]).bind λq=>match q.1 with
  |.v d=>some (.tup [.str [118,97,108,117,101],.int st.steps,d])
  |_=>none
 |.tup [a,b]=>some (.tup [a,.int st.steps,b])
 |_=>none
def zQO(m:Int)(d:D):Option D:=match d with
 |.dct ks l=>(yW ks l (.inr ⟨([109,97,105,110]:List Nat).toArray⟩)).bind λe=>(gY WF ⟨m,0,[.tup [e,.dct [] [],.bl false]],[],.non,d⟩).bind zNY
 |_=>none
def bU:MF:=λas=>match as with
 |[.v pd,.v (.int m)]=>(dd pd).bind λd=>(zQO m d).map λx=>(.v x,[.v pd,.v (.int m)])
 |_=>none
def zCP:MS:=(zZ (xH 1 (zM 2 zO (zA (zM 2 xQ (zA (zB 0) (zA (mC (.int 0)) zK))) (zA (mC (.int 900)) zK))))
 (zZ (xH 2 (xR (vL 3 qW (zA (mSl (zB 0) (xA (mC (.int 3))) (xA (mC (.int 103)))) (zA (zB 1) (zA (zM 2 zO (zA (zM 2 xQ (zA (zB 0) (zA (mC (.int 1)) zK))) (zA (mC (.int 901)) zK))) zK))))))
 (zZ (xH 3 (xR (mIt (zB 2))))
 (zZ (xH 4 (xR (xS [] 2 (mIt (zB 2)) (dX 2 (qL (yN 0) (qL (yN 1) oQ))) (zB 0))))
 (zZ (xH 5 (pV (zN7 (zB 3))))
 (zZ (xH 6 (zD xL (zM 2 zO (zA (zM 2 xQ (zA (zB 0) (zA (mC (.int 2)) zK))) (zA (mC (.int 902)) zK))) (mC (.int 41))))
 (zZ (xH 7 (zM 2 bU (zA (zB 3) (zA (zB 6) zK))))
 (zZ (sIf (cL (k8 (zM 3 wJ (zA (zB 7) (zA (zB 6) (zA (zB 4) zK))))))
 (wQ (mC (.bl false)))
 y0)
 (zZ (mW (yN 8) (gS (mC (.int 6)))
 (zZ (xH 9 (zD xL (zM 2 zO (zA (zM 2 xQ (zA (zB 0) (zA (zD xB (mC (.int 3)) (zD zFO (mC (.int 10)) (zB 8))) zK))) (zA (zD xB (mC (.int 910)) (zB 8)) zK))) (zD xB (zB 6) (mC (.int 1)))))
 (zZ (xH 10 (zM 2 bU (zA (zB 3) (zA (zB 9) zK))))
 (sIf (xG (mBl (zD neA (zD ixD (zB 7) (mC (.int 0))) (mC (.str [116,105,114,101,100])))) (mBl (zD geD (zB 9) (zD ixD (zB 7) (mC (.int 1))))))
 (sIf (mBl (zD (neN 400) (zB 10) (zB 7)))
 (wQ (mC (.bl false)))
 y0)
 (sIf (mBl (zD (neN 400) (zB 10) (xM (zA (mC (.str [116,105,114,101,100])) (zA (zB 9) (zA (mC .non) zK))))))
 (wQ (mC (.bl false)))
 y0)))))
 (zZ (sIf (xG (mBl (zD neA (zD ixD (zB 7) (mC (.int 0))) (mC (.str [116,105,114,101,100])))) (mBl (zD (neN 400) (zM 2 bU (zA (zB 3) (zA (mC (.int 1000)) zK))) (zB 7))))
 (wQ (mC (.bl false)))
 y0)
 (wQ (zD eqA (pV (zN7 (zB 3))) (zB 5)))))))))))))
def Z9:MF:=mkF 1 11 zCP
structure De(K:Fg)(mg:Str->Option Value)(n:Str)(i:Nat)(ps:List Str) where
 a:Addr
 d:FuncData
 F:Fun K n n (top i) a d
 m:mg n=some (.ref a)
 b:Binds K d ps []
abbrev Ok(P:Program)(w:World){K:Fg}{mg:Str->Option Value}(base:Heap){n:Str}{i:Nat}{ps:List Str}(D:De K mg n i ps)(k m:Nat)(F:MF):Prop:=FnOk P w K mg base CX0 k D.a D.d ps (spD K m F)
set_option genInjectivity false in
set_option genSizeOf false in
structure Txt(K:Fg)(mg:Str->Option Value)(Ps:Params) where
 j5i:De K mg "inner" 2 ["expression"]
 j4p:De K mg "places" 1 ["E"]
 j1h:De K mg "inner_numbers" 4 ["expression", "number"]
 j3w:De K mg "sort_of" 9 ["value"]
 j3x:De K mg "binding" 10 ["bound", "name", "value"]
 j4q:De K mg "worked" 11 ["word", "first", "second"]
 j3y:De K mg "held_in" 38 ["value"]
 j2r:De K mg "told_part" 39 ["value", "held"]
 j2b:De K mg "told" 37 ["value"]
 j1c:De K mg "marked" 15 ["expression", "name", "number"]
 j2s:De K mg "has_field" 17 pn0
 j1k:De K mg "has_no_field" 18 pn0
 j2c:De K mg "with_field" 19 ["record", "label", "value"]
 j1i:De K mg "without_field" 20 ["record", "label"]
 j2t:De K mg "_law_cell" 41 ["_law_script", "_law_k"]
 j2d:De K mg "_law_mixed" 42 ["_law_cell_here", "_law_k"]
 j2u:De K mg "_law_name" 43 ["_law_number"]
 j2v:De K mg "_law_leaf" 44 ["_law_cell_here", "_law_number", "_law_names"]
 j3g:De K mg "_law_one" 45 ["_law_number", "_law_names", "_law_item"]
 j3h:De K mg "_law_two" 46 ["_law_number", "_law_one_here", "_law_other"]
 j2e:De K mg "_law_three" 47 ["_law_number", "_law_names", "_law_top"]
 j2f:De K mg "_law_grown" 48 ["_law_pile", "_law_cell_here", "_law_k", "_law_names"]
 j1s:De K mg "_law_folded" 49 ["_law_pile", "_law_cell_here"]
 j2w:De K mg "_law_free" 50 ["_law_told", "_law_known"]
 j1t:De K mg "_law_closed" 51 ["_law_item", "_law_cell_here", "_law_known"]
 j2x:De K mg "_law_defs" 52 ["_law_cells", "_law_first", "_law_second"]
 j2g:De K mg "_law_whole" 53 ["_law_found"]
 j2y:De K mg "_law_good" 54 ["_law_found", "_law_most", "_law_names"]
 j6p:De K mg "law" 55 ["_law_script"]
 C:Addr
 B:Addr
 mC:mg "Plain" = some (.ref C)
 mB:mg "Reckoner" = some (.ref B)
 cl:Cls K C
 j3i:NoAttr K C "most"
 j0v:NoAttr K C "steps"
 j0q:NoAttr K C "waiting"
 j1l:NoAttr K C "come"
 j0r:NoAttr K C "ended"
 j2h:NoAttr K C "defs"
 j0w:Dm K "__init__" "Reckoner.__init__" (bI 8 0) ["self", "most"]
 j0x:Dm K "__init__" "Plain.__init__" (bI 16 0) ["self", "program", "most"]
 j0y:Dm K "begin" "Reckoner.begin" (bI 8 1) pn1
 j1m:Dm K "tell" "Reckoner.tell" (bI 8 2) ["self", "value"]
 j1n:Dm K "step" "Reckoner.step" (bI 8 3) ["self"]
 j0o:Dm K "run_on" "Reckoner.run_on" (bI 8 4) ["self"]
 j0b:Dm K "begin_parts" "Reckoner.begin_parts" (bI 8 5) pn1
 j0e:Dm K "parts_come" "Reckoner.parts_come" (bI 8 6) pn2
 j1a:Dm K "go_on" "Plain.go_on" (bI 16 1) ["self", "expression", "bound", "parts"]
 j1b:Dm K "stick" "Plain.stick" (bI 16 2) pn2
 h_begin:Meth K C "begin" j0y.a
 h_tell:Meth K C "tell" j1m.a
 h_step:Meth K C "step" j1n.a
 h_run_on:Meth K C "run_on" j0o.a
 h_begin_parts:Meth K C "begin_parts" j0b.a
 h_parts_come:Meth K C "parts_come" j0e.a
 h_go_on:Meth K C "go_on" j1a.a
 h_stick:Meth K C "stick" j1b.a
 mkC:Mk K C j0x.a
 cm:CMeth K B "__init__" j0w.a
 j4l:De K mg "run" 14 ["program", "most"]
 j0k:De K mg "of_num" 21 pn3
 j0f:De K mg "of_name" 22 pn3
 j0s:De K mg "of_fn" 23 pn3
 j0t:De K mg "of_do" 24 pn3
 j0c:De K mg "of_empty" 25 pn3
 j0l:De K mg "of_get" 26 pn3
 j0g:De K mg "of_with" 27 pn3
 j0m:De K mg "of_put" 28 pn3
 j0h:De K mg "of_less" 29 pn3
 j0n:De K mg "of_tag" 30 pn3
 j0i:De K mg "of_wide" 31 pn3
 j0j:De K mg "of_case" 32 pn3
 j0d:De K mg "of_never" 33 pn3
 j0u:De K mg "of_if" 34 pn3
 j0a:De K mg "of_working" 35 pn3
 wt:List (List Nat×Addr)
 ways:W0 mg K Ps "WAYS" wt
 ahead:zIG mg K Ps "AHEAD" AH
 j8p:qJ wt [110,117,109]=some j0k.a
 j7w:qJ wt [110,97,109,101]=some j0f.a
 w_fn:qJ wt [102,110]=some j0s.a
 w_do:qJ wt [100,111]=some j0t.a
 j6r:qJ wt [101,109,112,116,121]=some j0c.a
 j8q:qJ wt [103,101,116]=some j0l.a
 j7x:qJ wt [119,105,116,104]=some j0g.a
 j8r:qJ wt [112,117,116]=some j0m.a
 j7y:qJ wt [108,101,115,115]=some j0h.a
 j8s:qJ wt [116,97,103]=some j0n.a
 j7z:qJ wt [119,105,100,101]=some j0i.a
 j8a:qJ wt [99,97,115,101]=some j0j.a
 j6s:qJ wt [110,101,118,101,114]=some j0d.a
 w_if:qJ wt [105,102]=some j0u.a
 j8t:qJ wt [43]=some j0a.a
 j8u:qJ wt [45]=some j0a.a
 j8v:qJ wt [42]=some j0a.a
 j8w:qJ wt [60]=some j0a.a
 j4r:mg "bool" = none
 j3j:mg "dict" = none
 j4m:mg "int" = none
 j1d:mg "isinstance" = none
 j4n:mg "len" = none
 j4s:mg "list" = none
 j4o:mg "max" = none
 j2q:mg "range" = none
 j4t:mg "repr" = none
 j0z:mg "reversed" = none
 j3d:mg "sorted" = none
 j1o:mg "tuple" = none
 j5m:mg "zip" = none
 j0p:∃t,mg "END_OF_NUMBERS" = some (.int 1000000 t)
 j1e:∃t,mg "MOST_PARTS" = some (.int 200 t)
section
variable{P:Program}{w:World}{K:Fg}{mg:Str->Option Value}{base:Heap}
set_option hygiene false
local macro_rules | `(tactic| walk_at "f")=>`(tactic| (show FnOk P w K mg base CX0 _ _ _ _ (spD K _ _);with_reducible first|exact zA5 T|exact XG T|exact pJ T|exact pP T|exact gC T|exact vK T|exact G|exact cH T|exact cG T|exact nH T|exact nI T|exact gF T|exact v4 RF T|exact gE T|exact cI T|exact u5 T|exact u6 T|exact cF T|exact pQ T|exact XE T|exact vZ T|exact cD T|exact gD T|exact vJ T|exact gI T|exact gH T|exact zK8 T|exact gG T))
local macro_rules | `(tactic| walk_at "m")=>`(tactic| (show FnOk P w K mg base CX0 _ _ _ _ (spM K T.C _ _);with_reducible first|exact tW T|exact zFD T|exact zFE T|exact zAZ T|exact cE T|exact zA6 T|exact u4 T))
local macro_rules | `(tactic| walk_at "h")=>`(tactic| first|exact T.h_begin|exact T.h_tell|exact T.h_step|exact T.h_stick|exact T.h_parts_come|exact T.h_go_on|exact T.h_begin_parts)
local macro_rules | `(tactic| walk_at "o")=>`(tactic| with_reducible first|exact zFH|exact zLI|exact zLF|exact zLA|exact zLE|exact zLG|exact zPE|exact zFK|exact zLB|exact zNP true|exact zLD|exact zLH|exact zNP false|exact zFI|exact zPF|exact zLC)
local macro_rules | `(tactic| walk_at "d")=>`(tactic| first|(guard_target=DE _ _ _;first|exact vN _ (pv _)|(guard_target=DE _ _ (mC (.int _));exact rF)|refine zN2 ?_ ?_|(guard_target=DE _ _ (zD _ _ _);refine zMX ?_ (by walk_at "o") ?_ ?_)|(guard_target=DE _ _ (zM _ _ _);refine JG (by walk_at "f") ?_ ?_ ?_ ?_ ?_ ?_)|(guard_target=DE _ _ (mC (.str _));exact WK (by rfl))|refine zB8 ?_|with_reducible refine zSI ?_|refine zP1 ?_ ?_ ?_|refine zMU (by rfl) T.j4n ?_|refine zMS ?_|(guard_target=DE _ _ (zD _ _ _);refine zMW ?_ (by walk_at "o") ?_ ?_ ?_)|(guard_target=DE _ _ (mC (.bl _));exact zP3)|refine WL (by rfl) T.j1d ?_ ?_|refine zMZ ?_ ?_|with_reducible refine zI8 ?_|(guard_target=DE _ _ (mC .non);exact zMR)|exact JF T.j0p (by rfl)|refine zMY (un1 hr) ?_ ?_|refine zMT (by rfl) (by rfl) T.j4o ?_|refine zH0 (by rfl) (by rfl) T.j4o ?_|refine zMP ?_|refine zP2 ?_ ?_ ?_|refine zMV ?_ ?_|exact zHY|refine zH5 T.ahead (by rfl) ?_ ?_|refine zHZ hr rfl T.j4t ?_|refine WJ rfl (by rfl) T.j1o (by rfl) T.j5m ?_ ?_|refine zH1 (by rfl) T.j4n ?_|exact JF T.j1e (by rfl)|refine rC (by rfl) T.j1o ?_|refine zH4 ?_ ?_|refine rD ?_ ?_|refine zH2 ?_ ?_|refine zH3 (by rfl) T.j4m ?_|refine zMQ ?_|refine de_one ?_)|(guard_target=DA _ _ _;first|exact oE|refine wD ?_ ?_ (hs:=zJW)|refine wD ?_ ?_ (hs:=zOU)|refine wD ?_ ?_ (hs:=QE)|refine wD ?_ ?_ (hs:=zOV)|refine wD ?_ ?_ (hs:=zD1)|refine wD ?_ ?_ (hs:=zJX)|refine wD ?_ ?_|exact ZY (ss:=[[102,110],[103,101,116],[108,101,115,115],[119,105,100,101],[119,105,116,104],[112,117,116],[102,110],[119,105,116,104]]) (by rfl)|exact ZY (ss:=[[100,111],[43],[100,111],[45],[100,111],[60],[42]]) (by rfl))|(guard_target=DSs _ _ _;first|(guard_target=DSs _ _ (zZ _ _);refine zHK ?_ ?_)|refine zMI ?_|exact zMJ)|(guard_target=DS _ _ _;first|(guard_target=DS _ _ (xH _ (xR (xI _ _ _ _ _ _)));refine WD _ (N':=["_law_name_here", "_law_other"]) (cap:=[7]) rfl vP ?_ (λ_ _ _ _=>(qG _ (show(["_law_name_here", "_law_other"]:List Str).Nodup by decide +kernel))) (λ_ _ _ _=>?_) (λ_ _ _ _=>?_) _ nd)|(guard_target=DS _ _ (xH _ (xR (xS _ _ _ _ _)));refine zHL _ (N':=["_law_name_here", "_law_told"]) (cap:=[]) rfl vP ?_ (λ_ _ _ _=>(zB6 rfl (uU (qG _ (show(["_law_name_here", "_law_told"]:List Str).Nodup by decide +kernel)) (uU (qG _ (show(["_law_name_here", "_law_told"]:List Str).Nodup by decide +kernel)) ZX)))) (λ_ _ _ _=>?_) _ nd)|(guard_target=DS _ _ (wQ _);refine zMG ?_)|(guard_target=DS _ _ (xH _ _);refine zME _ ?_ nd ?_ ?_ ?_ ?_)|(guard_target=DS _ _ (sIf _ _ _);refine zPY ?_ ?_ ?_)|(guard_target=DS _ _ (sX _);refine zSG ?_)|(guard_target=DS _ _ (zAB _ _);refine zMH _ ?_ nd)|(guard_target=DS _ _ (mW _ _ _);refine zMK ox rfl ?_ ?_ ?_)|(guard_target=DS _ _ (qB _ _ _);refine zB1 WF ox ?_ ?_)|(guard_target=DS _ _ (bG _);exact WC _ (pv _))|(guard_target=DS _ _ (tE _ _);refine zHI _ ?_ nd)|(guard_target=DS _ _ (tG _ _ _);refine zHJ _ (un1 hr) (pv _) ?_ ?_)|(guard_target=DS _ _ (sFz _ _);refine zPZ _ ?_)|(guard_target=DS _ _ (QH _ _);refine zHG _ ?_ nd)|(guard_target=DS _ _ (Y0 _ _);refine zHM _ ?_ nd)|(guard_target=DS _ _ (zEA _);exact zHH _ (pv _))|(guard_target=DS _ _ (sZ _ _);refine zSF _ ?_)|(guard_target=DS _ _ (zQN _ _);refine zML ?_ ?_))|(guard_target=DMe _ _ _ _ _;first|(guard_target=DMe _ _ _ _ (zV _);refine ZC ?_)|(guard_target=DMe _ _ _ _ (yD _ _ _);refine QU (pv _) T.cl (by walk_at "h") (λ_ _ _ _ _ _=>rfl) (by walk_at "m") ?_ ?_ ?_)|refine zF4 (pv _) T.cl T.j0q ?_|refine ZD (pv _) T.cl (by walk_at "h") (λ_ _ _ _ _ _=>rfl) (by walk_at "m") ?_ ?_|refine zF5 (pv _) T.cl T.j1l ?_|exact cK (pv _) T.cl T.j0v hV|exact cK (pv _) T.cl T.j3i zGV|refine zF1 (N':=["self", "at"]) rfl vP ?_ rfl (λ_ _ _ _=>(tT (show(["self", "at"]:List Str).Nodup by decide +kernel) rfl (Or.inl rfl))) (λ_ _ _ _=>pv 0) T.cl T.j1l (λ_ _ _ _=>rfl) (λ_ _ _ _=>rfl)|refine QV (un1 hr) (pv _) T.cl T.j2h ?_|exact cK (pv _) T.cl T.j0r cR|exact zF2 (pv _) T.cl T.j0q)|(guard_target=DT _ _ _;first|(guard_target=DT _ _ (mBl _);refine zMD ?_ (by walk_at "o") ?_ ?_ ?_)|(guard_target=DT _ _ (k8 _);refine zMB ?_)|refine zMC ?_|(guard_target=DT _ _ (oU _);refine zHD ?_)|refine zB0 zE9 zFJ zE9 zFJ ?_ ?_ ?_|refine zHF ?_ ?_|refine zSE ?_)|(guard_target=DMa _ _ _ _ _;first|refine jZ ?_ ?_|exact pU)|(guard_target=zCF _ _ _ _ _;first|(guard_target=zCF _ _ _ _ (rP _ _);refine nK ?_ ?_)|refine XU ?_|exact zFV)|(guard_target=DMs _ _ _ _ _;first|refine zFX ?_|refine zNR ?_ ?_ ?_|refine zBC ?_|refine zLP (pv _) T.cl T.j0r ?_|exact zFW (pv _) T.cl T.j0v|refine zLO _ ox rfl ?_ nd ?_|refine zLN _ ?_ nd|refine zBB WF ox ?_ ?_)|(guard_target=DF _ _ _;first|(guard_target=DF _ _ (yO _);refine zMN ?_)|(guard_target=DF _ _ (vL _ _ _);refine zHV (by walk_at "f") ?_ ?_ ?_ ?_ ?_ ?_)|(guard_target=DF _ _ (xS _ _ _ _ _);refine bP (N':=["_law_item"]) (cap:=[]) rfl vP ?_ (λ_ _ _ _=>(qG _ (show(["_law_item"]:List Str).Nodup by decide +kernel))) (λ_ _ _ _=>?_) _)|(guard_target=DF _ _ (gR _);refine zHU rfl (by rfl) T.j3d ?_)|(guard_target=DF _ _ (xI _ _ _ _ _ _);refine WI (N':=["part"]) (cap:=[]) rfl vP ?_ (λ_ _ _ _=>(qG _ (show(["part"]:List Str).Nodup by decide +kernel))) (λ_ _ _ _=>?_) (λ_ _ _ _=>?_) _)|(guard_target=DF _ _ (xS _ _ _ _ _);refine bP (N':=pn0) (cap:=[0]) rfl vP ?_ (λ_ _ _ _=>(qG _ (show(pn0:List Str).Nodup by decide +kernel))) (λ_ _ _ _=>?_) _)|(guard_target=DF _ _ (zPL _ _);refine zMO ?_ ?_)|(guard_target=DF _ _ (xS _ _ _ _ _);refine bP (N':=["_law_number", "_law_k"]) (cap:=[0]) rfl vP ?_ (λ_ _ _ _=>(qG _ (show(["_law_number", "_law_k"]:List Str).Nodup by decide +kernel))) (λ_ _ _ _=>?_) _)|(guard_target=DF _ _ (xS _ _ _ _ _);refine bP (N':=["_law_base", "_law_at", "_law_k"]) (cap:=[4,5]) rfl vP ?_ (λ_ _ _ _=>(qG _ (show(["_law_base", "_law_at", "_law_k"]:List Str).Nodup by decide +kernel))) (λ_ _ _ _=>?_) _)|(guard_target=DF _ _ (xS _ _ _ _ _);refine bP (N':=["_law_second", "_law_k", "_law_j"]) (cap:=[2,8]) rfl vP ?_ (λ_ _ _ _=>(qG _ (show(["_law_second", "_law_k", "_law_j"]:List Str).Nodup by decide +kernel))) (λ_ _ _ _=>?_) _)|(guard_target=DF _ _ (mIt _);refine WH (by rfl) T.j4s ?_))|(guard_target=DO _ _ _;first|refine zHO ?_|exact zHP)|(guard_target=PW _ _ _;first|(guard_target=PW _ _ (lT _ _);refine zHA ?_)|(guard_target=PW _ _ (lT _ _);refine zL9 ?_)|refine zMA ?_ ?_|refine zPW ?_ ?_)|(guard_target=DMt _ _ _ _ _;first|(guard_target=DMt _ _ _ _ (xZ _);refine zFQ ?_)|(guard_target=DMt _ _ _ _ (vBl _);refine zPJ ?_)|refine zPI ?_ ?_ rfl|exact zFP (pv _) T.cl T.j0q|(guard_target=DMt _ _ _ _ (zIN _);refine zFS ?_)|refine zLM ?_ ?_)|(guard_target=DI _ _ _ _;first|(guard_target=DI _ _ _ (mIt _);refine zHR ?_)|refine zHT (by rfl) T.j2q ?_|refine zB5 (by rfl) T.j0z ?_|refine zHS (by rfl) T.j2q ?_ ?_ ?_)|(guard_target=DX _ _ _;first|refine WB _ (pv _) ?_|exact zL8 _ (pv _)|refine rB _ (pv _) ?_|refine WA _ (pv _) ?_|(guard_target=DX _ _ (j0 _ _ _);refine zBZ (by walk_at "f") ?_ ?_ ?_ ?_ ?_ ?_)|refine zBY (N':=["done", "held"]) rfl vP ?_ (λ_ _ _ _=>(qG _ (show(["done", "held"]:List Str).Nodup by decide +kernel))) (λ_ _ _ _=>?_) zEN _|exact zG9 _ (pv _)|refine zG8 _ (pv _) ?_)|(guard_target=DB _ _ _;first|exact zM0 _ (pv _)|with_reducible refine zSK ?_|refine zRN ?_)|(guard_target=DDc _ _ _;first|with_reducible refine zSJ ?_)|(guard_target=DG _ _ _;first|exact qG _ nd|refine zB6 rfl ?_)|(guard_target=DFd _ _ _;first|refine zGY (by rfl) T.j3j ?_|(guard_target=DFd _ _ (vM _ _ _);refine zGZ (by walk_at "f") ?_ ?_ ?_ ?_ ?_ ?_)|exact zGX)|(guard_target=PE _ _ _;first|exact tU (by rfl) T.j1o boot_tuple rfl|exact tU (by rfl) T.j4m boot_int rfl|exact tU (by rfl) T.j4r boot_bool rfl)|(guard_target=DXA _ _ _;first|(guard_target=DXA _ _ (vF _);refine zBW ?_)|refine zBX ?_ ?_)|(guard_target=DGs _ _ _;first|refine uU ?_ ?_|exact ZX)|(guard_target=DIo _ _ _ _;first|refine zMM (by rfl) T.j0z ?_)|(guard_target=DK _ _ _;first|exact zSH _ (pv _))|(guard_target=OpR _ _ _;first|exact zE7|exact zK5 hr.units0|exact zKZ|exact zKT|exact zKY|exact zK1|exact zPA|exact zFA|exact zKU|exact gB|exact zKX hr.units0|exact zK3|exact XD|exact zE8|exact zNN|exact zKV (n:=400) (zOJ hr (by decide)))|(guard_target=Room _ _;exact hr.mono (by first|decide|omega))|(guard_target=eg _ _=_;first|exact zLJ _|rfl)|rfl|exact De.m _|exact(De.F _).kp|exact De.b _|exact Dm.b _|exact Or.inl rfl|exact Or.inr rfl)
theorem scM{N P:List Str}{sc:Scope}(a:sc.kind=.function:=by rfl)(b:sc.isCoroutine=false:=by rfl)(c:sc.isGenerator=false:=by rfl)(d:N.Nodup:=by decide +kernel)(e:N.take P.length=P:=by rfl)(f:∀x∈P,sc.names.lookup x=some .local\/sc.names.lookup x=some .cell:=by decide +kernel)(g:∀y∈sc.names,y.2≠.free:=by decide +kernel):FnScope N P sc:=⟨a,b,c,d,e,f,g⟩
theorem j4u:FnScope ["expression"] ["expression"] (zG (top 2)):=scM
theorem zA5(T:Txt K mg w.params):Ok P w base T.j5i 1 1 vE:=by
 refine bO T.j5i.F j4u 1 1 rfl rfl (g:=dR) (λcdv A outer s H E hr=>?_);unfold dR;have nd:=j4u.nd
 repeat' walk_at "d"
theorem j3z:FnScope ["E", "found", "waiting", "place"] ["E"] (zG (top 1)):=scM
theorem XG(T:Txt K mg w.params):Ok P w base T.j4p 2 1 kF:=by
 refine bO T.j4p.F j3z 1 4 rfl rfl (g:=k9) (λcdv A outer s H E hr=>?_);unfold k9;have nd:=j3z.nd
 repeat' walk_at "d"
theorem j1f:FnScope ["expression", "number", "found", "behind", "part"] ["expression", "number"] (zG (top 4)):=scM
theorem vK(T:Txt K mg w.params):Ok P w base T.j1h 3 2 yZ:=by
 refine bO T.j1h.F j1f 2 5 rfl rfl (g:=yX) (λcdv A outer s H E hr=>?_);unfold yX;have nd:=j1f.nd
 repeat' walk_at "d"
theorem j3k:FnScope ["value"] ["value"] (zG (top 9)):=scM
theorem pJ(T:Txt K mg w.params):Ok P w base T.j3w 1 1 zT:=by
 refine bO T.j3w.F j3k 1 1 rfl rfl (g:=cO) (λcdv A outer s H E hr=>?_);unfold cO;have nd:=j3k.nd
 repeat' walk_at "d"
theorem j3l:FnScope ["bound", "name", "value", "more"] ["bound", "name", "value"] (zG (top 10)):=scM
theorem pQ(T:Txt K mg w.params):Ok P w base T.j3x 1 3 xV:=by
 refine bO T.j3x.F j3l 3 4 rfl rfl (g:=kX) (λcdv A outer s H E hr=>?_);unfold kX;have nd:=j3l.nd
 repeat' walk_at "d"
theorem j4a:FnScope ["word", "first", "second"] ["word", "first", "second"] (zG (top 11)):=scM
theorem XE(T:Txt K mg w.params):Ok P w base T.j4q 1 3 vD:=by
 refine bO T.j4q.F j4a 3 3 rfl rfl (g:=uR) (λcdv A outer s H E hr=>?_);unfold uR;have nd:=j4a.nd
 repeat' walk_at "d"
theorem j3m:FnScope ["value"] ["value"] (zG (top 38)):=scM
theorem pP(T:Txt K mg w.params):Ok P w base T.j3y 2 1 xE:=by
 refine bO T.j3y.F j3m 1 1 rfl rfl (g:=kW) (λcdv A outer s H E hr=>?_);unfold kW;have nd:=j3m.nd
 repeat' walk_at "d"
theorem j2i:FnScope ["value", "held"] ["value", "held"] (zG (top 39)):=scM
theorem gC(T:Txt K mg w.params):Ok P w base T.j2r 2 2 wG:=by
 refine bO T.j2r.F j2i 2 2 rfl rfl (g:=qO) (λcdv A outer s H E hr=>?_);unfold qO;have nd:=j2i.nd
 repeat' walk_at "d"
theorem j5j:FnScope ["value", "found", "waiting", "done", "part"] ["value"] (zG (top 37)):=scM
theorem zFC(T:Txt K mg w.params):Ok P w base T.j2b 3 1 W2:=by
 refine bO T.j2b.F j5j 1 5 rfl rfl (g:=p9) (λcdv A outer s H E hr=>?_);unfold p9;have nd:=j5j.nd
 repeat' walk_at "d"
theorem j4b:FnScope ["expression", "name", "number", "below", "parts", "part"] ["expression", "name", "number"] (zG (top 15)):=scM
theorem nG:∀(k:Nat) (T:Txt K mg w.params),Ok P w base T.j1c (k+3) 3 (qI k)
 |0,T=>zRK 3
 |k+1,T=>by
  have G:=nG k T;rw[show k+1+3=(k+3)+1 by omega];refine bO T.j1c.F j4b 3 6 rfl rfl (g:=uS (qI k)) (λcdv A outer s H E hr=>?_);unfold uS;have nd:=j4b.nd
  repeat' walk_at "d"
theorem j2j:FnScope pn0 pn0 (zG (top 17)):=scM
theorem gD(T:Txt K mg w.params):Ok P w base T.j2s 2 2 wV:=by
 refine bO T.j2s.F j2j 2 2 rfl rfl (g:=vA) (λcdv A outer s H E hr=>?_);unfold vA;have nd:=j2j.nd
 repeat' walk_at "d"
theorem j1j:FnScope pn0 pn0 (zG (top 18)):=scM
theorem vZ(T:Txt K mg w.params):Ok P w base T.j1k 2 2 wR:=by
 refine bO T.j1k.F j1j 2 2 rfl rfl (g:=qY) (λcdv A outer s H E hr=>?_);unfold qY;have nd:=j1j.nd
 repeat' walk_at "d"
theorem j1u:FnScope ["record", "label", "value", "fields"] ["record", "label", "value"] (zG (top 19)):=scM
theorem cD(T:Txt K mg w.params):Ok P w base T.j2c 1 3 xD:=by
 refine bO T.j2c.F j1u 3 4 rfl rfl (g:=wY) (λcdv A outer s H E hr=>?_);unfold wY;have nd:=j1u.nd
 repeat' walk_at "d"
theorem j1g:FnScope ["record", "label", "fields"] ["record", "label"] (zG (top 20)):=scM
theorem vJ(T:Txt K mg w.params):Ok P w base T.j1i 1 2 wE:=by
 refine bO T.j1i.F j1g 2 3 rfl rfl (g:=xJ) (λcdv A outer s H E hr=>?_);unfold xJ;have nd:=j1g.nd
 repeat' walk_at "d"
theorem j2k:FnScope ["_law_script", "_law_k"] ["_law_script", "_law_k"] (zG (top 41)):=scM
theorem gI(T:Txt K mg w.params):Ok P w base T.j2t 1 2 xQ:=by
 refine bO T.j2t.F j2k 2 2 rfl rfl (g:=qQ) (λcdv A outer s H E hr=>?_);unfold qQ;have nd:=j2k.nd
 repeat' walk_at "d"
theorem j1v:FnScope ["_law_cell_here", "_law_k", "_law_number"] ["_law_cell_here", "_law_k"] (zG (top 42)):=scM
theorem cH(T:Txt K mg w.params):Ok P w base T.j2d 1 2 zO:=by
 refine bO T.j2d.F j1v 2 3 rfl rfl (g:=wZ) (λcdv A outer s H E hr=>?_);unfold wZ;have nd:=j1v.nd
 repeat' walk_at "d"
theorem j2l:FnScope ["_law_number", "_law_word", "_law_at"] ["_law_number"] (zG (top 43)):=scM
theorem gE(T:Txt K mg w.params):Ok P w base T.j2u 2 1 wH:=by
 refine bO T.j2u.F j2l 1 3 rfl rfl (g:=qP) (λcdv A outer s H E hr=>?_);unfold qP;have nd:=j2l.nd
 repeat' walk_at "d"
theorem j2m:FnScope ["_law_cell_here", "_law_number", "_law_names", "_law_more", "_law_drawn"] ["_law_cell_here", "_law_number", "_law_names"] (zG (top 44)):=scM
theorem gF(T:Txt K mg w.params):Ok P w base T.j2v 1 3 wI:=by
 refine bO T.j2v.F j2m 3 5 rfl rfl (g:=yP) (λcdv A outer s H E hr=>?_);unfold yP;have nd:=j2m.nd
 repeat' walk_at "d"
theorem j2z:FnScope ["_law_number", "_law_names", "_law_item", "_law_word", "_law_name_here"] ["_law_number", "_law_names", "_law_item"] (zG (top 45)):=scM
theorem nI(T:Txt K mg w.params):Ok P w base T.j3g 1 3 qV:=by
 refine bO T.j3g.F j2z 3 5 rfl rfl (g:=xW) (λcdv A outer s H E hr=>?_);unfold xW;have nd:=j2z.nd
 repeat' walk_at "d"
theorem j3a:FnScope ["_law_number", "_law_one_here", "_law_other", "_law_word"] ["_law_number", "_law_one_here", "_law_other"] (zG (top 46)):=scM
theorem nH(T:Txt K mg w.params):Ok P w base T.j3h 1 3 qU:=by
 refine bO T.j3h.F j3a 3 4 rfl rfl (g:=jT) (λcdv A outer s H E hr=>?_);unfold jT;have nd:=j3a.nd
 repeat' walk_at "d"
theorem j1w:FnScope ["_law_number", "_law_names", "_law_top", "_law_deep", "_law_label", "_law_x"] ["_law_number", "_law_names", "_law_top"] (zG (top 47)):=scM
theorem cG(T:Txt K mg w.params):Ok P w base T.j2e 1 3 jJ:=by
 refine bO T.j2e.F j1w 3 6 rfl rfl (g:=xO) (λcdv A outer s H E hr=>?_);unfold xO;have nd:=j1w.nd
 repeat' walk_at "d"
theorem j1x:FnScope ["_law_pile", "_law_cell_here", "_law_k", "_law_names", "_law_number", "_law_kind"] ["_law_pile", "_law_cell_here", "_law_k", "_law_names"] (zG (top 48)):=scM
theorem cI(T:Txt K mg w.params):Ok P w base T.j2f 2 4 jK:=by
 refine bO T.j2f.F j1x 4 6 rfl rfl (g:=w6) (λcdv A outer s H E hr=>?_);unfold w6;have nd:=j1x.nd
 repeat' walk_at "d"
theorem j1p:FnScope ["_law_pile", "_law_cell_here", "_law_k"] ["_law_pile", "_law_cell_here"] (zG (top 49)):=scM
theorem u5(T:Txt K mg w.params):Ok P w base T.j1s 2 2 wO:=by
 refine bO T.j1s.F j1p 2 3 rfl rfl (g:=wL) (λcdv A outer s H E hr=>?_);unfold wL;have nd:=j1p.nd
 repeat' walk_at "d"
theorem j2n:FnScope ["_law_told", "_law_known", "_law_free_here", "_law_inner"] ["_law_told", "_law_known"] (zG (top 50)):=scM
theorem v4:∀(k:Nat) (T:Txt K mg w.params),Ok P w base T.j2w (k+0) 2 (yR k)
 |0,T=>zRK 2
 |k+1,T=>by
  have G:=v4 k T;rw[show k+1+0=(k+0)+1 by omega];refine bO T.j2w.F j2n 2 4 rfl rfl (g:=yQ (yR k)) (λcdv A outer s H E hr=>?_);unfold yQ;have nd:=j2n.nd
  repeat' walk_at "d"
theorem j1q:FnScope ["_law_item", "_law_cell_here", "_law_known", "_law_told", "_law_deep", "_law_free_here", "_law_number", "_law_name_here", "_law_handed"] ["_law_item", "_law_cell_here", "_law_known"] (zG (top 51)):=scM
theorem u6(T:Txt K mg w.params):Ok P w base T.j1t 41 3 wP:=by
 refine bO T.j1t.F j1q 3 9 rfl rfl (g:=wM) (λcdv A outer s H E hr=>?_);unfold wM;have nd:=j1q.nd
 repeat' walk_at "d"
theorem j2o:FnScope ["_law_cells", "_law_first", "_law_second", "_law_many", "_law_base", "_law_at", "_law_callings", "_law_defs_here", "_law_k", "_law_above", "_law_names", "_law_pile", "_law_j"] ["_law_cells", "_law_first", "_law_second"] (zG (top 52)):=scM
theorem gH(T:Txt K mg w.params):Ok P w base T.j2x 42 3 qW:=by
 refine bO T.j2x.F j2o 3 13 rfl rfl (g:=wU) (λcdv A outer s H E hr=>?_);unfold wU;have nd:=j2o.nd
 repeat' walk_at "d"
theorem j1y:FnScope ["_law_found"] ["_law_found"] (zG (top 53)):=scM
theorem cF(T:Txt K mg w.params):Ok P w base T.j2g 1 1 jI:=by
 refine bO T.j2g.F j1y 1 1 rfl rfl (g:=kD) (λcdv A outer s H E hr=>?_);unfold kD;have nd:=j1y.nd
 repeat' walk_at "d"
theorem j2p:FnScope ["_law_found", "_law_most", "_law_names", "_law_what"] ["_law_found", "_law_most", "_law_names"] (zG (top 54)):=scM
theorem gG(T:Txt K mg w.params):Ok P w base T.j2y 22 3 wJ:=by
 refine bO T.j2y.F j2p 3 4 rfl rfl (g:=xF) (λcdv A outer s H E hr=>?_);unfold xF;have nd:=j2p.nd
 repeat' walk_at "d"
theorem j4v:FnScope pn1 pn1 (zG (bI 8 1)):=scM
def c5:MEs:=(uDo (zCH (xM (zA (zB 1) (zA (zB 2) (zA (mC (.bl false)) zK))))))
theorem sz2:(2:Nat)<=af:=by decide
theorem sz3:(3:Nat)<=af:=by decide
theorem zDE(st:Mst)(ds:List D)(p:D×Mst)(hl:ds.length=2)(h:yB st ds=some p):mkU 2 3 c5 st ds=some p:=by
 match ds,hl with
 |[e,b],_=>
  have h:(if st.wait.length<af then some (D.non,zEJ st (.tup [e,b,.bl false])) else none)=some p:=h;by_cases hs:st.wait.length<af
  ·rw[if_pos hs] at h;cases h;show(c5 st [.un,.v e,.v b]).bind _=_;unfold c5 uDo;simp[zCH,xM,zA,zK,zB,mC,hs,sz3]
  ·rw[if_neg hs] at h;cases h
theorem tW(T:Txt K mg w.params):FnOk P w K mg base CX0 1 T.j0y.a T.j0y.d pn1 (spM K T.C 2 yB):=by
 refine yG (hX (k:=0) T.j0y.F j4v 2 3 rfl rfl (g:=c5) (λcdv A outer s H E hr=>?_)) zDE;unfold c5;have nd:=j4v.nd
 repeat' walk_at "d"
theorem j5k:FnScope ["self", "value"] ["self", "value"] (zG (bI 8 2)):=scM
def oZ:MEs:=(uDo (zM7 (zB 1)))
theorem zJM(st:Mst)(ds:List D)(p:D×Mst)(hl:ds.length=1)(h:yH st ds=some p):mkU 1 2 oZ st ds=some p:=by
 match ds,hl with
 |[e],_=>
  have h:(if st.come.length<af then some (D.non,zKH st e) else none)=some p:=h;by_cases hs:st.come.length<af
  ·rw[if_pos hs] at h;cases h;show(oZ st [.un,.v e]).bind _=_;unfold oZ uDo;simp[zM7,zB,hs]
  ·rw[if_neg hs] at h;cases h
theorem zFD(T:Txt K mg w.params):FnOk P w K mg base CX0 1 T.j1m.a T.j1m.d ["self", "value"] (spM K T.C 1 yH):=by
 refine yG (hX (k:=0) T.j1m.F j5k 1 2 rfl rfl (g:=oZ) (λcdv A outer s H E hr=>?_)) zJM;unfold oZ;have nd:=j5k.nd
 repeat' walk_at "d"
theorem j5l:FnScope ["self"] ["self"] (zG (bI 8 3)):=scM
def o7:MEs:=(rP (uIf vGe (rP (zM6 (xM (zA (mC (.str [116,105,114,101,100])) (zA (mC .non) zK)))) (zCX (zV (mC (.bl false))))) rO) (rP zM5 (zCX (zV (mC (.bl true))))))
theorem zJN(st:Mst)(ds:List D)(p:D×Mst)(hl:ds.length=0)(h:jH st ds=some p):mkU 0 1 o7 st ds=some p:=by
 match ds,hl with
 |[],_=>
  have h:(if st.most<=st.steps then some (D.bl false,{ st with ended:=rS }) else some (.bl true,{ st with steps:=st.steps+1 }))=some p:=h;show(o7 st [.un]).bind _=_;unfold o7 rP uIf;by_cases hs:st.most<=st.steps
  ·rw[if_pos hs] at h;cases h;simp[hs,vGe,zM6,zCX,zV,xM,zA,zK,mC,rP,rS,sz2]
  ·rw[if_neg hs] at h;cases h;simp[hs,vGe,zM6,zCX,zV,xM,zA,zK,mC,rP,rS,rO,zM5]
theorem zFE(T:Txt K mg w.params):FnOk P w K mg base CX0 1 T.j1n.a T.j1n.d ["self"] (spM K T.C 0 jH):=by
 refine yG (hX (k:=0) T.j1n.F j5l 0 1 rfl rfl (g:=o7) (λcdv A outer s H E hr=>?_)) zJN;unfold o7;have nd:=j5l.nd
 repeat' walk_at "d"
theorem j1r:FnScope ["self", "expression", "around", "at"] pn1 (zG (bI 8 5)):=scM
def wK:MEs:=(rP (uDo (zCH (xM (zA (zB 1) (zA (zB 2) (zA (mC (.bl true)) zK)))))) (zQE 0 3 (zPK (mUn (zOA AH) (zD ixD (zB 1) (mC (.int 0))))) (uDo (yD 2 yB (zL (zV (zD ixD (zB 1) (zB 3))) (zL (zV (zB 2)) z0))))))
theorem qT{st:Mst}{e b:D}{q:D×Mst}(h:yB st [e,b]=some q):q=(.non,zEJ st (.tup [e,b,.bl false])):=by
 have h:(if st.wait.length<af then some (D.non,zEJ st (.tup [e,b,.bl false])) else none)=some q:=h;by_cases hs:st.wait.length<af
 ·rw[if_pos hs] at h;cases h;rfl
 ·rw[if_neg hs] at h;cases h
theorem zQU{α:Type}{x:α}{l:List α}:atI (x::l) 0=some x:=by
 unfold atI ixN;simp
theorem zIF{e:D}{l:List Int}(h:bS e=some l){r:En}{i:Nat}(hr:r[i]?=some (.v e)):mUn (zOA AH) (zD ixD (zB i) (mC (.int 0))) r=some (.tup (l.map .int)):=by
 unfold bS at h;split at h
 ·rename_i s' r';cases h;have e3:zD ixD (zB i) (mC (.int 0)) r=some (.str s'):=by
   unfold zD zB;rw[hr];exact zQU
  unfold mUn;rw[e3];rfl
 ·cases h
theorem bW(st:Mst)(ds:List D)(p:D×Mst)(hl:ds.length=2)(h:yA st ds=some p):mkU 2 4 wK st ds=some p:=by
 match ds,hl with
 |[e,b],_=>
  have h:(if st.wait.length<af then (bS e).bind λl=>(tK e b l.reverse (zEJ st (.tup [e,b,.bl true]))).map λs=>(D.non,s) else none)=some p:=h;by_cases hs:st.wait.length<af
  ·rw[if_pos hs] at h;obtain⟨l,e1,h⟩:=bnS h;obtain⟨s,e2,rfl⟩:=mpS h;show(wK st [.un,.v e,.v b,.un]).bind _=_;have loop:∀(l:List Int) (st s:Mst) (x:Sl),(x=.un\/∃i,x=.v (.int i))->tK e b l st=some s->∃x',rQ 0 3 (uDo (yD 2 yB (zL (zV (zD ixD (zB 1) (zB 3))) (zL (zV (zB 2)) z0)))) (l.map D.int) st [.un,.v e,.v b,x]=some (.nx s [.un,.v e,.v b,x']):=by
    intro l
    induction l with
    |nil=>intro st s x _ h;cases h;exact⟨x,rfl⟩
    |cons i l ih=>
     intro st s x hx h;obtain⟨q,h1,h2⟩:=bnS (show(ixD e (.int i)).bind (λp=>(yB st [p,b]).bind λq=>tK e b l q.2)=some s from h);obtain⟨q2,h3,h4⟩:=bnS h2;obtain⟨x',hx'⟩:=ih q2.2 s (.v (.int i)) (.inr ⟨i,rfl⟩) h4;refine⟨x',?_⟩;have hset:yN 3 (.int i) [.un,.v e,.v b,x]=some [.un,.v e,.v b,.v (.int i)]:=by
      rcases hx with rfl|⟨j,rfl⟩<;>rfl
     have hm:yD 2 yB (zL (zV (zD ixD (zB 1) (zB 3))) (zL (zV (zB 2)) z0)) st [.un,.v e,.v b,.v (.int i)]=some q2:=by
      have e1:zD ixD (zB 1) (zB 3) [.un,.v e,.v b,.v (.int i)]=some q:=h1;have e2:zB 2 [.un,.v e,.v b,.v (.int i)]=some b:=rfl;unfold yD;simp only[zL,zV,z0,e1,e2,be,aa,ao,bu,if_true];exact h3
     rw[aq];unfold rQ;rw[if_neg (by decide),hset,aa];unfold uDo;rw[hm];exact hx'
   obtain⟨x',hx'⟩:=loop l.reverse _ s .un (.inl rfl) e2;have ea:zPK (mUn (zOA AH) (zD ixD (zB 1) (mC (.int 0)))) [.un,.v e,.v b,.un]=some (l.reverse.map D.int):=by
    unfold zPK mTp;rw[zIF e1 rfl];show some ((l.map D.int).reverse)=_;rw[List.map_reverse]
   unfold wK rP;have e4:uDo (zCH (xM (zA (zB 1) (zA (zB 2) (zA (mC (.bl true)) zK))))) st [.un,.v e,.v b,.un]=some (.nx (zEJ st (.tup [e,b,.bl true])) [.un,.v e,.v b,.un]):=by
    unfold uDo;simp[zCH,xM,zA,zK,zB,mC,hs,sz3]
   rw[e4,aa];unfold zQE;dsimp only;rw[ea,aa];show(rQ _ _ _ _ _ _).bind _=_;rw[hx'];rfl
  ·rw[if_neg hs] at h;cases h
theorem u4(T:Txt K mg w.params):FnOk P w K mg base CX0 2 T.j0b.a T.j0b.d pn1 (spM K T.C 2 yA):=by
 refine yG (hX (k:=1) T.j0b.F j1r 2 4 rfl rfl (g:=wK) (λcdv A outer s H E hr=>?_)) bW;unfold wK;have nd:=j1r.nd
 repeat' walk_at "d"
theorem j1z:FnScope pn2 pn2 (zG (bI 8 6)):=scM
def wW:MEs:=(zCX (zIP (mUn (zOA AH) (zD ixD (zB 1) (mC (.int 0))))))
theorem dZ(st:Mst)(ds:List D)(p:D×Mst)(hl:ds.length=1)(h:yF st ds=some p):mkU 1 2 wW st ds=some p:=by
 match ds,hl with
 |[e],_=>
  obtain⟨l,e1,h⟩:=bnS (show(bS e).bind _=some p from h);show(wW st [.un,.v e]).bind _=_;unfold wW zCX zIP;rw[zIF e1 rfl,aa];dsimp only;rw[ak,h];rfl
theorem cE(T:Txt K mg w.params):FnOk P w K mg base CX0 1 T.j0e.a T.j0e.d pn2 (spM K T.C 1 yF):=by
 refine yG (hX (k:=0) T.j0e.F j1z 1 2 rfl rfl (g:=wW) (λcdv A outer s H E hr=>?_)) dZ;unfold wW;have nd:=j1z.nd
 repeat' walk_at "d"
theorem j4w:FnScope pn2 pn2 (zG (bI 16 2)):=scM
def cX:MEs:=(zM6 (xM (zA (mC (.str [115,116,117,99,107])) (zA (zD ixD (zB 1) (mUn kP (mC (.int 1)))) zK))))
theorem zC9(st:Mst)(ds:List D)(p:D×Mst)(hl:ds.length=1)(h:zU st ds=some p):mkU 1 2 cX st ds=some p:=by
 match ds,hl with
 |[e],_=>
  cases e<;>first|(cases h;done)|skip
  rename_i l _;obtain⟨m,e1,rfl⟩:=mpS (show(l.getLast?).map _=some p from h);obtain⟨l',rfl⟩:∃l',l=l'++[m]:=List.getLast?_eq_some_iff.mp e1;show(cX st [.un,.v (.tup (l'++[m]))]).bind _=_;have e2:zD ixD (zB 1) (mUn kP (mC (.int 1))) [.un,.v (.tup (l'++[m]))]=some m:=by
   show atI (l'++[m]) (-1)=_;exact Z6 ..
  have e3:xM (zA (mC (.str [115,116,117,99,107])) (zA (zD ixD (zB 1) (mUn kP (mC (.int 1)))) zK)) [.un,.v (.tup (l'++[m]))]=some (.tup [.str STK,m]):=qA (zC zF (zC e2 zN)) (by show 2<=100;decide);unfold cX zM6;rw[e3];rfl
theorem zAZ(T:Txt K mg w.params):FnOk P w K mg base CX0 1 T.j1b.a T.j1b.d pn2 (spM K T.C 1 zU):=by
 refine yG (hX (k:=0) T.j1b.F j4w 1 2 rfl rfl (g:=cX) (λcdv A outer s H E hr=>?_)) zC9;unfold cX;have nd:=j4w.nd
 repeat' walk_at "d"
theorem zD4{v:D}{w:List Nat}(h:mR v=some w):∃as,zT [.v v]=some (.v (.str w),as):=by
 unfold mR at h;split at h
 ·cases h;exact⟨_,rfl⟩
 ·cases h;rename_i r;refine xP (r':=[.v (.tup (.str w::r))]) (yI ?_);show(some false).bind _=_;rw[aa,if_neg (by decide)];exact zQU
 ·cases h
theorem vT{v:D}{w:List Nat}{f:ME}{r:En}(hf:f r=some v)(h:mR v=some w):zM 1 zT (zA f zK) r=some (.str w):=zR (p:=.v (.str w)) (zC hf zN) rfl (zD4 h)
theorem tD{v:D}{w k:List Nat}{f:ME}{r:En}(hf:f r=some v)(h:mR v=some w):mBl (zD neA (zM 1 zT (zA f zK)) (mC (.str k))) r=some (!decide (w=k)):=kK (zP (vT hf h) zF rfl)
theorem mQ{v:D}{w k:List Nat}{f:ME}{r:En}(hf:f r=some v)(h:mR v=some w):mBl (zD eqA (zM 1 zT (zA f zK)) (mC (.str k))) r=some (decide (w=k)):=kK (zP (vT hf h) zF rfl)
theorem wC{st:Mst}{e v:D}{k:List Nat}{p:D×Mst}(h:gV st e v k=some p):∃w,mR v=some w/\w≠k/\zU st [e]=some p:=by
 obtain⟨w,e1,h⟩:=bnS h;by_cases z:w=k
 ·rw[if_pos z] at h;cases h
 ·rw[if_neg z] at h;exact⟨w,e1,z,h⟩
theorem uM{st:Mst}{e:D}{p:D×Mst}(h:zU st [e]=some p):p=(.non,p.2):=by
 cases e<;>first|(cases h;done)|skip
 rename_i l;obtain⟨m,_,rfl⟩:=mpS (show(l.getLast?).map _=some p from h);rfl
theorem kT{v:D}{ks:List Key}{l:List D}(h:Q4 v=some (ks,l)):v=.tup [.str [114,101,99],.dct ks l]:=by
 unfold Q4 at h;split at h
 ·split at h
  ·rename_i hw;cases h;rw[hw]
  ·cases h
 ·cases h
theorem dN{v u:D}{s:List Nat}(h:zGO v=some (s,u)):v=.tup [.str [111,110,101],.str s,u]:=by
 unfold zGO at h;split at h
 ·split at h
  ·rename_i hw;cases h;rw[hw]
  ·cases h
 ·cases h
theorem X2{v e:D}{x:List Nat}{ks:List Key}{l:List D}(h:isFn v=some (x,e,ks,l)):v=.tup [.str [102,110],.str x,e,.dct ks l]:=by
 unfold isFn at h;split at h
 ·split at h
  ·rename_i hw;cases h;rw[hw]
  ·cases h
 ·cases h
theorem gX{st:Mst}{e b ps:D}{p:D×Mst}(h:zU st [e]=some p):uDo (yD 1 zU (zL (zV (zB 1)) z0)) st [.un,.v e,.v b,.v ps]=some (.nx p.2 [.un,.v e,.v b,.v ps]):=by
 have e1:zB 1 [.un,.v e,.v b,.v ps]=some e:=rfl;unfold uDo yD;simp only[zL,z0,zV,e1,be,aa,ao,bu,if_true];rw[h];rfl
theorem kU{st:Mst}{e b ps:D}{p:D×Mst}{c:MB}{a:MEs}(hc:c [.un,.v e,.v b,.v ps]=some false)(h:zU st [e]=some p):mkU 3 4 (uIf (xZ c) a (uDo (yD 1 zU (zL (zV (zB 1)) z0)))) st [e,b,ps]=some p:=by
 show(uIf _ _ _ st [.un,.v e,.v b,.v ps]).bind _=_;unfold uIf;simp only[xZ,hc,be,aa,bx,if_false];rw[gX h,uM h];rfl
theorem zBN{st:Mst}{e b ps:D}{p:D×Mst}{c:MB}{a:MEs}(hc:c [.un,.v e,.v b,.v ps]=some true)(h:zU st [e]=some p):mkU 3 4 (uIf (xZ c) (uDo (yD 1 zU (zL (zV (zB 1)) z0))) a) st [e,b,ps]=some p:=by
 show(uIf _ _ _ st [.un,.v e,.v b,.v ps]).bind _=_;unfold uIf;simp only[xZ,hc,be,aa,if_true];rw[gX h,uM h];rfl
theorem zI7(ks:List Key)(l:List D)(x:List Nat):∃as,wV [.v (.tup [.str [114,101,99],.dct ks l]),.v (.str x)]=some (.v (.bl (yW ks l (.inr ⟨x.toArray⟩)).isSome),as):=by
 have e2:zD eqA (zM 1 zT (zA (zB 0) zK)) (mC (.str [114,101,99])) [.v (.tup [.str [114,101,99],.dct ks l]),.v (.str x)]=some (.bl true):=rfl;refine xP (r':=[.v (.tup [.str [114,101,99],.dct ks l]),.v (.str x)]) (yI ?_);show pX _ _ [.v (.tup [.str [114,101,99],.dct ks l]),.v (.str x)]=_;unfold pX;rw[e2,aa];rfl
theorem zGR(ks:List Key)(l:List D)(x:List Nat):∃as,wR [.v (.tup [.str [114,101,99],.dct ks l]),.v (.str x)]=some (.v (.bl (!(yW ks l (.inr ⟨x.toArray⟩)).isSome)),as):=by
 have e2:zD eqA (zM 1 zT (zA (zB 0) zK)) (mC (.str [114,101,99])) [.v (.tup [.str [114,101,99],.dct ks l]),.v (.str x)]=some (.bl true):=rfl;refine xP (r':=[.v (.tup [.str [114,101,99],.dct ks l]),.v (.str x)]) (yI ?_);show pX _ _ [.v (.tup [.str [114,101,99],.dct ks l]),.v (.str x)]=_;unfold pX;rw[e2,aa];rfl
theorem zI6{v:D}{w:List Nat}(hs:mR v=some w)(hw:w≠[114,101,99])(x:D):∃as,wV [.v v,.v x]=some (.v (.bl false),as):=by
 have e2:zD eqA (zM 1 zT (zA (zB 0) zK)) (mC (.str [114,101,99])) [.v v,.v x]=some (.bl false):=zP (vT rfl hs) zF (by show some (D.bl (decide (w=_)))=_;rw[decide_eq_false hw]);refine xP (r':=[.v v,.v x]) (yI ?_);show pX _ _ [.v v,.v x]=_;unfold pX;rw[e2];rfl
theorem zGQ{v:D}{w:List Nat}(hs:mR v=some w)(hw:w≠[114,101,99])(x:D):∃as,wR [.v v,.v x]=some (.v (.bl false),as):=by
 have e2:zD eqA (zM 1 zT (zA (zB 0) zK)) (mC (.str [114,101,99])) [.v v,.v x]=some (.bl false):=zP (vT rfl hs) zF (by show some (D.bl (decide (w=_)))=_;rw[decide_eq_false hw]);refine xP (r':=[.v v,.v x]) (yI ?_);show pX _ _ [.v v,.v x]=_;unfold pX;rw[e2];rfl
theorem jN{n:Nat}{m:MF}{fs:ML}{r:En}{ds:List D}{b:Bool}(h1:fs r=some ds)(h2:ds.length=n)(h:∃as,m (ds.map .v)=some (.v (.bl b),as)):k8 (zM n m fs) r=some b:=by
 unfold k8;rw[zR (p:=.v (.bl b)) h1 h2 h];rfl
theorem j4c:FnScope pn3 pn3 (zG (top 21)):=scM
def uL:MEs:=(uDo (yD 1 yH (zL (zV (zD ixD (zB 1) (mC (.int 1)))) z0)))
theorem JU(st:Mst)(ds:List D)(p:D×Mst)(hl:ds.length=3)(h:jQ st ds=some p):mkU 3 4 uL st ds=some p:=by
 unfold jQ at h;split at h
 ·rename_i a v c b ps;show(uL st [.un,.v (.tup [a,v,c]),.v b,.v ps]).bind _=_;have e1:zD ixD (zB 1) (mC (.int 1)) [.un,.v (.tup [a,v,c]),.v b,.v ps]=some v:=rfl;unfold uL uDo yD;simp only[zL,zV,z0,e1,be,aa,ao,bu,if_true];rw[h];have h:(if st.come.length<af then some (D.non,zKH st v) else none)=some p:=h;by_cases hs:st.come.length<af
  ·rw[if_pos hs] at h;cases h;rfl
  ·rw[if_neg hs] at h;cases h
 ·cases h
theorem XJ(T:Txt K mg w.params):FnOk P w K mg base CX0 3 T.j0k.a T.j0k.d pn3 (spM K T.C 3 jQ):=by
 refine yG (hX (k:=2) T.j0k.F j4c 3 4 rfl rfl (g:=uL) (λcdv A outer s H E hr=>?_)) JU;unfold uL;have nd:=j4c.nd
 repeat' walk_at "d"
theorem j3n:FnScope pn3 pn3 (zG (top 22)):=scM
def jW:MEs:=(uIf (xZ (zGB false (zD ixD (zB 1) (mC (.int 1))) (dJ (zB 2)))) (uDo (yD 1 yH (zL (zV (zIK (dJ (zB 2)) (zD ixD (zB 1) (mC (.int 1))))) z0))) (uIf (vBl (d6 jH)) (uDo (yD 2 yB (zL (YQ (zD ixD (zB 1) (mC (.int 1)))) (zL (zV (pW mD0)) z0)))) rO))
theorem QD(st:Mst):jH st []=if st.most<=st.steps then some (D.bl false,{ st with ended:=rS }) else some (.bl true,{ st with steps:=st.steps+1 }):=rfl
theorem x0{st:Mst}{v:D}{q:D×Mst}(h:yH st [v]=some q):q=(.non,zKH st v):=by
 have h:(if st.come.length<af then some (D.non,zKH st v) else none)=some q:=h;by_cases hs:st.come.length<af
 ·rw[if_pos hs] at h;cases h;rfl
 ·rw[if_neg hs] at h;cases h
theorem YM(st:Mst)(ds:List D)(p:D×Mst)(hl:ds.length=3)(h:wA st ds=some p):mkU 3 4 jW st ds=some p:=by
 unfold wA at h;split at h
 ·rename_i a s c ks0 l0 ps;show(jW st [.un,.v (.tup [a,.str s,c]),.v (.dct ks0 l0),.v ps]).bind _=_;have e2:zD ixD (zB 1) (mC (.int 1)) [.un,.v (.tup [a,.str s,c]),.v (.dct ks0 l0),.v ps]=some (.str s):=rfl;have e3:zGB false (zD ixD (zB 1) (mC (.int 1))) (dJ (zB 2)) [.un,.v (.tup [a,.str s,c]),.v (.dct ks0 l0),.v ps]=some (yW ks0 l0 (.inr ⟨s.toArray⟩)).isSome:=rfl;have e6:zIK (dJ (zB 2)) (zD ixD (zB 1) (mC (.int 1))) [.un,.v (.tup [a,.str s,c]),.v (.dct ks0 l0),.v ps]=yW ks0 l0 (.inr ⟨s.toArray⟩):=rfl;split at h
  ·rename_i v hv;have hb:=x0 h;rw[hv] at e3 e6;unfold jW uIf;simp only[xZ,e3,e6,mq,be,aa,if_true,uDo,yD,zL,z0,zV,ao,bu];rw[h];subst hb;rfl
  rename_i hv;obtain⟨q,e1,h⟩:=bnS h;rw[hv] at e3;unfold jW uIf;simp only[xZ,e3,Option.isSome_none,be,aa,bx,if_false,vBl,d6,e1];rw[QD] at e1;by_cases hs:st.most<=st.steps
  ·rw[if_pos hs] at e1;cases e1;cases h;rfl
  ·rw[if_neg hs] at e1;cases e1;dsimp only at h;split at h
   ·rename_i ks l _ hd;obtain⟨d,e4,h⟩:=bnS h;have hb:=qT h;subst hb;have e5:YQ (zD ixD (zB 1) (mC (.int 1))) { st with steps:=st.steps+1 } [.un,.v (.tup [a,.str s,c]),.v (.dct ks0 l0),.v ps]=some (d,{ st with steps:=st.steps+1 }):=by
     unfold YQ;rw[e2,aa];show(match st.defs with | .dct ks l=>(yW ks l (.inr ⟨s.toArray⟩)).map λd=>(d,{ st with steps:=st.steps+1 })|_=>none)=_;rw[hd];dsimp only;rw[e4];rfl
    dsimp only[aa];simp only[if_true,uDo,yD,zL,z0,e5,aa,be,zV,pW,mD0,ao,bu];rw[h];rfl
   ·rename_i z;cases z
   ·cases h
 ·cases h
theorem pM(T:Txt K mg w.params):FnOk P w K mg base CX0 3 T.j0f.a T.j0f.d pn3 (spM K T.C 3 wA):=by
 refine yG (hX (k:=2) T.j0f.F j3n 3 4 rfl rfl (g:=jW) (λcdv A outer s H E hr=>?_)) YM;unfold jW;have nd:=j3n.nd
 repeat' walk_at "d"
theorem j3b:FnScope pn3 pn3 (zG (top 33)):=scM
def jR:MEs:=(uDo (yD 1 zU (zL (zV (zB 1)) z0)))
theorem oX(st:Mst)(ds:List D)(p:D×Mst)(hl:ds.length=3)(h:wN st ds=some p):mkU 3 4 jR st ds=some p:=by
 match ds,hl with
 |[e,b,ps],_=>
  have h:zU st [e]=some p:=h;show(jR st [.un,.v e,.v b,.v ps]).bind _=_;unfold jR;rw[gX h,uM h];rfl
theorem nE(T:Txt K mg w.params):FnOk P w K mg base CX0 3 T.j0d.a T.j0d.d pn3 (spM K T.C 3 wN):=by
 refine yG (hX (k:=2) T.j0d.F j3b 3 4 rfl rfl (g:=jR) (λcdv A outer s H E hr=>?_)) oX;unfold jR;have nd:=j3b.nd
 repeat' walk_at "d"
theorem j4x:FnScope pn3 pn3 (zG (top 34)):=scM
def bD:MEs:=(uIf (xZ (mBl (zD neA (zM 1 zT (zA (zD ixD (zB 3) (mC (.int 0))) zK)) (mC (.str [110,117,109]))))) (uDo (yD 1 zU (zL (zV (zB 1)) z0))) (uIf (xZ (mBl (zD neA (zD ixD (zB 3) (mC (.int 0))) (mC (.int 0))))) (uDo (yD 2 yB (zL (zV (zD ixD (zB 1) (mC (.int 2)))) (zL (zV (zB 2)) z0)))) (uDo (yD 2 yB (zL (zV (zD ixD (zB 1) (mC (.int 3)))) (zL (zV (zB 2)) z0))))))
theorem zDA(st:Mst)(ds:List D)(p:D×Mst)(hl:ds.length=3)(h:jM st ds=some p):mkU 3 4 bD st ds=some p:=by
 unfold jM at h;split at h
 ·rename_i a q x y m b v;split at h
  ·rename_i i;show(bD st [.un,.v (.tup [a,q,x,y,m]),.v b,.v (.lst [.int i])]).bind _=_;have e1:mBl (zD neA (zM 1 zT (zA (zD ixD (zB 3) (mC (.int 0))) zK)) (mC (.str [110,117,109]))) [.un,.v (.tup [a,q,x,y,m]),.v b,.v (.lst [.int i])]=some false:=rfl;have e2:mBl (zD neA (zD ixD (zB 3) (mC (.int 0))) (mC (.int 0))) [.un,.v (.tup [a,q,x,y,m]),.v b,.v (.lst [.int i])]=some (!decide (i=0)):=rfl;have e3:zD ixD (zB 1) (mC (.int 2)) [.un,.v (.tup [a,q,x,y,m]),.v b,.v (.lst [.int i])]=some x:=rfl;have e4:zD ixD (zB 1) (mC (.int 3)) [.un,.v (.tup [a,q,x,y,m]),.v b,.v (.lst [.int i])]=some y:=rfl;have e5:zB 2 [.un,.v (.tup [a,q,x,y,m]),.v b,.v (.lst [.int i])]=some b:=rfl;unfold bD uIf;by_cases z:i=0
   ·rw[if_pos z] at h;rw[decide_eq_true z] at e2;have hb:=qT h;simp only[xZ,e1,e2,e4,e5,be,aa,bx,qp,if_false,uDo,yD,zL,z0,zV,ao,bu,if_true];rw[h];subst hb;rfl
   ·rw[if_neg z] at h;rw[decide_eq_false z] at e2;have hb:=qT h;simp only[xZ,e1,e2,e3,e5,be,aa,bx,Bool.not_false,if_false,uDo,yD,zL,z0,zV,ao,bu,if_true];rw[h];subst hb;rfl
  ·obtain⟨w,h1,h2,h3⟩:=wC h;unfold bD;exact zBN (by rw[tD (v:=v) rfl h1,decide_eq_false h2];rfl) h3
 ·cases h
theorem zA2(T:Txt K mg w.params):FnOk P w K mg base CX0 3 T.j0u.a T.j0u.d pn3 (spM K T.C 3 jM):=by
 refine yG (hX (k:=2) T.j0u.F j4x 3 4 rfl rfl (g:=bD) (λcdv A outer s H E hr=>?_)) zDA;unfold bD;have nd:=j4x.nd
 repeat' walk_at "d"
theorem uW(ks:List Key)(l:List D)(x:List Nat)(v:D)(h:ks.length<af):∃as,xV [.v (.dct ks l),.v (.str x),.v v]=some (.g (jL ks l (.inr ⟨x.toArray⟩) v).1 (jL ks l (.inr ⟨x.toArray⟩) v).2,as):=by
 refine⟨[.v (.dct ks l),.v (.str x),.v v],?_⟩;have e1:tG 3 (zB 1) (zB 2) [.v (.dct ks l),.v (.str x),.v v,.d false ks l]=some (.nx [.v (.dct ks l),.v (.str x),.v v,.d false (jL ks l (.inr ⟨x.toArray⟩) v).1 (jL ks l (.inr ⟨x.toArray⟩) v).2]):=if_pos h;have e0:tE 3 (dJ (zB 0)) [.v (.dct ks l),.v (.str x),.v v,.un]=some (.nx [.v (.dct ks l),.v (.str x),.v v,.d false ks l]):=rfl;show(kX [.v (.dct ks l),.v (.str x),.v v,.un]).bind _=_;unfold kX zZ;rw[e0,aa];show(((tG 3 (zB 1) (zB 2) [.v (.dct ks l),.v (.str x),.v v,.d false ks l]).bind _)).bind _=_;rw[e1];rfl
theorem j4y:FnScope pn3 pn3 (zG (top 23)):=scM
def cY:MEs:=(uDo (yD 1 yH (zL (zV (xM (zA (mC (.str [102,110])) (zA (zD ixD (zB 1) (mC (.int 1))) (zA (zD ixD (zB 1) (mC (.int 2))) (zA (zB 2) zK)))))) z0)))
theorem zDB(st:Mst)(ds:List D)(p:D×Mst)(hl:ds.length=3)(h:kI st ds=some p):mkU 3 4 cY st ds=some p:=by
 unfold kI at h;split at h
 ·rename_i a x e c b ps;show(cY st [.un,.v (.tup [a,x,e,c]),.v b,.v ps]).bind _=_;have e1:xM (zA (mC (.str [102,110])) (zA (zD ixD (zB 1) (mC (.int 1))) (zA (zD ixD (zB 1) (mC (.int 2))) (zA (zB 2) zK)))) [.un,.v (.tup [a,x,e,c]),.v b,.v ps]=some (.tup [.str [102,110],x,e,b]):=rfl;have hb:=x0 h;unfold cY uDo yD;simp only[zL,zV,z0,e1,be,aa,ao,bu,if_true];rw[h];subst hb;rfl
 ·cases h
theorem zA3(T:Txt K mg w.params):FnOk P w K mg base CX0 3 T.j0s.a T.j0s.d pn3 (spM K T.C 3 kI):=by
 refine yG (hX (k:=2) T.j0s.F j4y 3 4 rfl rfl (g:=cY) (λcdv A outer s H E hr=>?_)) zDB;unfold cY;have nd:=j4y.nd
 repeat' walk_at "d"
theorem j4z:FnScope pn3 pn3 (zG (top 24)):=scM
def bE:MEs:=(uIf (xZ (mBl (zD neA (zM 1 zT (zA (zD ixD (zB 3) (mC (.int 0))) zK)) (mC (.str [102,110]))))) (uDo (yD 1 zU (zL (zV (zB 1)) z0))) (uIf (vBl (d6 jH)) (uDo (yD 2 yB (zL (zV (zD ixD (zD ixD (zB 3) (mC (.int 0))) (mC (.int 2)))) (zL (zV (pW (vM 3 xV (zA (zD ixD (zD ixD (zB 3) (mC (.int 0))) (mC (.int 3))) (zA (zD ixD (zD ixD (zB 3) (mC (.int 0))) (mC (.int 1))) (zA (zD ixD (zB 3) (mC (.int 1))) zK)))))) z0)))) rO))
theorem zDC(st:Mst)(ds:List D)(p:D×Mst)(hl:ds.length=3)(h:kJ st ds=some p):mkU 3 4 bE st ds=some p:=by
 unfold kJ at h;split at h
 ·rename_i ex b fv v;split at h
  case h_2=>
   obtain⟨w,h1,h2,h3⟩:=wC h;unfold bE;exact zBN (by rw[tD (v:=fv) rfl h1,decide_eq_false h2];rfl) h3
  rename_i x e ks l hf;have hf:=X2 hf;subst hf;split at h
  case isFalse=>cases h
  rename_i hk;obtain⟨q,e1,h⟩:=bnS h;show(bE st [.un,.v ex,.v b,.v (.lst [.tup [.str [102,110],.str x,e,.dct ks l],v])]).bind _=_;have e2:mBl (zD neA (zM 1 zT (zA (zD ixD (zB 3) (mC (.int 0))) zK)) (mC (.str [102,110]))) [.un,.v ex,.v b,.v (.lst [.tup [.str [102,110],.str x,e,.dct ks l],v])]=some false:=rfl;have e3:zD ixD (zD ixD (zB 3) (mC (.int 0))) (mC (.int 2)) [.un,.v ex,.v b,.v (.lst [.tup [.str [102,110],.str x,e,.dct ks l],v])]=some e:=rfl;have e4:pW (vM 3 xV (zA (zD ixD (zD ixD (zB 3) (mC (.int 0))) (mC (.int 3))) (zA (zD ixD (zD ixD (zB 3) (mC (.int 0))) (mC (.int 1))) (zA (zD ixD (zB 3) (mC (.int 1))) zK)))) [.un,.v ex,.v b,.v (.lst [.tup [.str [102,110],.str x,e,.dct ks l],v])]=some (.dct (jL ks l (.inr ⟨x.toArray⟩) v).1 (jL ks l (.inr ⟨x.toArray⟩) v).2):=by
   obtain⟨as,hb⟩:=uW ks l x v hk;have ea:zA (zD ixD (zD ixD (zB 3) (mC (.int 0))) (mC (.int 3))) (zA (zD ixD (zD ixD (zB 3) (mC (.int 0))) (mC (.int 1))) (zA (zD ixD (zB 3) (mC (.int 1))) zK)) [.un,.v ex,.v b,.v (.lst [.tup [.str [102,110],.str x,e,.dct ks l],v])]=some [.dct ks l,.str x,v]:=rfl;unfold pW vM;rw[ea];show((xV [.v (.dct ks l),.v (.str x),.v v]).bind _).map _=_;rw[hb];rfl
  unfold bE uIf;simp only[xZ,e2,be,aa,bx,if_false,vBl,d6,e1];rw[QD] at e1;by_cases hs:st.most<=st.steps
  ·rw[if_pos hs] at e1;cases e1;cases h;rfl
  ·rw[if_neg hs] at e1;cases e1;dsimp only at h;have hb:=qT h;subst hb;dsimp only[aa];simp only[if_true,uDo,yD,zL,z0,e3,e4,aa,be,zV,ao,bu];rw[h];rfl
 ·cases h
theorem zA4(T:Txt K mg w.params):FnOk P w K mg base CX0 3 T.j0t.a T.j0t.d pn3 (spM K T.C 3 kJ):=by
 refine yG (hX (k:=2) T.j0t.F j4z 3 4 rfl rfl (g:=bE) (λcdv A outer s H E hr=>?_)) zDC;unfold bE;have nd:=j4z.nd
 repeat' walk_at "d"
theorem j2a:FnScope pn3 pn3 (zG (top 35)):=scM
def xN:MEs:=(uIf (xZ (xG (mBl (zD eqA (zM 1 zT (zA (zD ixD (zB 3) (mC (.int 0))) zK)) (mC (.str [110,117,109])))) (mBl (zD eqA (zM 1 zT (zA (zD ixD (zB 3) (mC (.int 1))) zK)) (mC (.str [110,117,109])))))) (uDo (yD 1 yH (zL (zV (zM 3 vD (zA (zD ixD (zB 1) (mC (.int 0))) (zA (zD ixD (zB 3) (mC (.int 0))) (zA (zD ixD (zB 3) (mC (.int 1))) zK))))) z0))) (uDo (yD 1 zU (zL (zV (zB 1)) z0))))
theorem XQ{i j:Int}(hi:small i):(-(2 ^ 64)<i/\i<2 ^ 64)\/(-(2 ^ 64)<j/\j<2 ^ 64):=by
 unfold small at hi;left;omega
theorem YI(w:List Nat)(i j:Int)(hi:small i)(hj:small j):∃as,vD [.v (.str w),.v (.int i),.v (.int j)]=some (.v (.int (wk w i j)),as):=by
 unfold vD mkF;have e:∀k:List Nat,mBl (zD eqA (zB 0) (mC (.str k))) [.v (.str w),.v (.int i),.v (.int j)]=some (decide (w=k)):=λk=>rfl
 have m6:∀a:Int,xL (.int a) (.int 1000000)=some (.int (a % 1000000)):=λa=>rfl
 show ∃as,(uR [.v (.str w),.v (.int i),.v (.int j)]).bind _=_;unfold uR wk;by_cases h1:w=[43]
 ·refine⟨[.v (.str w),.v (.int i),.v (.int j)],?_⟩;subst h1;simp only[zZ,sIf,e,decide_true,aa,if_true];rfl
 ·by_cases h2:w=[45]
  ·refine⟨[.v (.str w),.v (.int i),.v (.int j)],?_⟩;subst h2;simp only[zZ,sIf,e,decide_true,aa,if_true];rfl
  ·by_cases h3:w=[42]
   ·refine⟨[.v (.str w),.v (.int i),.v (.int j)],?_⟩;have hm:zD xL (zD zFO (zB 1) (zB 2)) (mC (.int 1000000)) [.v (.str w),.v (.int i),.v (.int j)]=some (.int (i*j % 1000000)):=by
     show((if (-(2 ^ 64)<i/\i<2 ^ 64)\/(-(2 ^ 64)<j/\j<2 ^ 64) then some (D.int (i*j)) else none).bind _)=_;rw[if_pos (XQ hi)];rfl
    have d1:decide (w=[43])=false:=decide_eq_false h1;have d2:decide (w=[45])=false:=decide_eq_false h2;have d3:decide (w=[42])=true:=decide_eq_true h3;rw[if_neg h1,if_neg h2,if_pos h3];simp only[zZ,sIf,e,d1,d2,d3,aa,if_true,if_false,bx,y0,wQ,hm];rfl
   ·refine⟨[.v (.str w),.v (.int i),.v (.int j)],?_⟩;have hm:mIf (mBl (zD ltA (zB 1) (zB 2))) (mC (.int 1)) (mC (.int 0)) [.v (.str w),.v (.int i),.v (.int j)]=some (.int (if i<j then 1 else 0)):=by
     show(some (decide (i<j))).bind _=_;by_cases hq:i<j<;>simp[hq,mC]
    have d1:decide (w=[43])=false:=decide_eq_false h1;have d2:decide (w=[45])=false:=decide_eq_false h2;have d3:decide (w=[42])=false:=decide_eq_false h3;rw[if_neg h1,if_neg h2,if_neg h3];simp only[zZ,sIf,e,d1,d2,d3,aa,if_false,bx,y0,wQ,hm];rfl
theorem d0(st:Mst)(ds:List D)(p:D×Mst)(hl:ds.length=3)(h:yC st ds=some p):mkU 3 4 xN st ds=some p:=by
 unfold yC at h;split at h
 ·rename_i w x y m b u v;split at h
  ·rename_i i j;split at h
   case isFalse=>cases h
   rename_i hs;obtain⟨as,hw⟩:=YI w i j hs.1 hs.2;show(xN st [.un,.v (.tup [.str w,x,y,m]),.v b,.v (.lst [.int i,.int j])]).bind _=_;have e1:xG (mBl (zD eqA (zM 1 zT (zA (zD ixD (zB 3) (mC (.int 0))) zK)) (mC (.str [110,117,109])))) (mBl (zD eqA (zM 1 zT (zA (zD ixD (zB 3) (mC (.int 1))) zK)) (mC (.str [110,117,109])))) [.un,.v (.tup [.str w,x,y,m]),.v b,.v (.lst [.int i,.int j])]=some true:=rfl;have e2:zM 3 vD (zA (zD ixD (zB 1) (mC (.int 0))) (zA (zD ixD (zB 3) (mC (.int 0))) (zA (zD ixD (zB 3) (mC (.int 1))) zK))) [.un,.v (.tup [.str w,x,y,m]),.v b,.v (.lst [.int i,.int j])]=some (.int (wk w i j)):=by
    show(vD [.v (.str w),.v (.int i),.v (.int j)]).map _=_;rw[hw];rfl
   have hb:=x0 h;unfold xN uIf;simp only[xZ,e1,e2,be,aa,uDo,yD,zL,z0,zV,ao,bu,if_true];rw[h];subst hb;rfl
  ·rename_i i _;obtain⟨k,h1,h2,h3⟩:=wC h;unfold xN;refine kU ?_ h3;unfold xG;rw[mQ (v:=.int i) (w:=[110,117,109]) rfl rfl,decide_eq_true rfl,aa,if_pos rfl,mQ (v:=v) rfl h1,decide_eq_false h2]
  ·obtain⟨k2,hk2,h⟩:=bnS h;obtain⟨k,h1,h2,h3⟩:=wC h;unfold xN;refine kU ?_ h3;unfold xG;rw[mQ (v:=u) rfl h1,decide_eq_false h2];rfl
 ·cases h
theorem qC(T:Txt K mg w.params):FnOk P w K mg base CX0 3 T.j0a.a T.j0a.d pn3 (spM K T.C 3 yC):=by
 refine yG (hX (k:=2) T.j0a.F j2a 3 4 rfl rfl (g:=xN) (λcdv A outer s H E hr=>?_)) d0;unfold xN;have nd:=j2a.nd
 repeat' walk_at "d"
theorem j3c:FnScope pn3 pn3 (zG (top 25)):=scM
def jS:MEs:=(uDo (yD 1 yH (zL (zV (xM (zA (mC (.str [114,101,99])) (zA (pW mD0) zK)))) z0)))
theorem oY(st:Mst)(ds:List D)(p:D×Mst)(hl:ds.length=3)(h:xX st ds=some p):mkU 3 4 jS st ds=some p:=by
 unfold xX at h;split at h
 ·rename_i x b ps;show(jS st [.un,.v x,.v b,.v ps]).bind _=_;have e1:xM (zA (mC (.str [114,101,99])) (zA (pW mD0) zK)) [.un,.v x,.v b,.v ps]=some (.tup [.str [114,101,99],.dct [] []]):=rfl;have hb:=x0 h;unfold jS uDo yD;simp only[zL,zV,z0,e1,be,aa,ao,bu,if_true];rw[h];subst hb;rfl
 ·cases h
theorem nF(T:Txt K mg w.params):FnOk P w K mg base CX0 3 T.j0c.a T.j0c.d pn3 (spM K T.C 3 xX):=by
 refine yG (hX (k:=2) T.j0c.F j3c 3 4 rfl rfl (g:=jS) (λcdv A outer s H E hr=>?_)) oY;unfold jS;have nd:=j3c.nd
 repeat' walk_at "d"
theorem j4d:FnScope pn3 pn3 (zG (top 30)):=scM
def uK:MEs:=(uDo (yD 1 yH (zL (zV (xM (zA (mC (.str [111,110,101])) (zA (zD ixD (zB 1) (mC (.int 1))) (zA (zD ixD (zB 3) (mC (.int 0))) zK))))) z0)))
theorem JS(st:Mst)(ds:List D)(p:D×Mst)(hl:ds.length=3)(h:qZ st ds=some p):mkU 3 4 uK st ds=some p:=by
 unfold qZ at h;split at h
 ·rename_i a s c d b v;show(uK st [.un,.v (.tup [a,s,c,d]),.v b,.v (.lst [v])]).bind _=_;have e1:xM (zA (mC (.str [111,110,101])) (zA (zD ixD (zB 1) (mC (.int 1))) (zA (zD ixD (zB 3) (mC (.int 0))) zK))) [.un,.v (.tup [a,s,c,d]),.v b,.v (.lst [v])]=some (.tup [.str [111,110,101],s,v]):=rfl;have hb:=x0 h;unfold uK uDo yD;simp only[zL,zV,z0,e1,be,aa,ao,bu,if_true];rw[h];subst hb;rfl
 ·cases h
theorem XH(T:Txt K mg w.params):FnOk P w K mg base CX0 3 T.j0n.a T.j0n.d pn3 (spM K T.C 3 qZ):=by
 refine yG (hX (k:=2) T.j0n.F j4d 3 4 rfl rfl (g:=uK) (λcdv A outer s H E hr=>?_)) JS;unfold uK;have nd:=j4d.nd
 repeat' walk_at "d"
theorem j3o:FnScope pn3 pn3 (zG (top 31)):=scM
def jB:MEs:=(uIf (xZ (xG (mBl (zD eqA (zM 1 zT (zA (zD ixD (zB 3) (mC (.int 0))) zK)) (mC (.str [111,110,101])))) (mBl (zD neA (zD ixD (zD ixD (zB 3) (mC (.int 0))) (mC (.int 1))) (zD ixD (zB 1) (mC (.int 1))))))) (uDo (yD 1 yH (zL (zV (zD ixD (zB 3) (mC (.int 0)))) z0))) (uDo (yD 1 zU (zL (zV (zB 1)) z0))))
theorem YL(st:Mst)(ds:List D)(p:D×Mst)(hl:ds.length=3)(h:x5 st ds=some p):mkU 3 4 jB st ds=some p:=by
 unfold x5 at h;split at h
 ·rename_i a s c d b v;split at h
  ·rename_i s2 u ho;have ho:=dN ho;subst ho;have e1:xG (mBl (zD eqA (zM 1 zT (zA (zD ixD (zB 3) (mC (.int 0))) zK)) (mC (.str [111,110,101])))) (mBl (zD neA (zD ixD (zD ixD (zB 3) (mC (.int 0))) (mC (.int 1))) (zD ixD (zB 1) (mC (.int 1))))) [.un,.v (.tup [a,.str s,c,d]),.v b,.v (.lst [.tup [.str [111,110,101],.str s2,u]])]=some (!decide (s2=s)):=rfl;split at h
   ·rename_i hne;rw[decide_eq_false hne] at e1;show(jB st [.un,.v (.tup [a,.str s,c,d]),.v b,.v (.lst [.tup [.str [111,110,101],.str s2,u]])]).bind _=_;have e2:zD ixD (zB 3) (mC (.int 0)) [.un,.v (.tup [a,.str s,c,d]),.v b,.v (.lst [.tup [.str [111,110,101],.str s2,u]])]=some (.tup [.str [111,110,101],.str s2,u]):=rfl;have hb:=x0 h;unfold jB uIf;simp only[xZ,e1,e2,be,aa,uDo,yD,zL,z0,zV,ao,bu,Bool.not_false,if_true];rw[h];subst hb;rfl
   ·rename_i hne;rw[decide_eq_true (Classical.not_not.mp hne)] at e1;unfold jB;exact kU e1 h
  ·obtain⟨w,h1,h2,h3⟩:=wC h;unfold jB;refine kU ?_ h3;unfold xG;rw[mQ (v:=v) rfl h1,decide_eq_false h2];rfl
 ·cases h
theorem pL(T:Txt K mg w.params):FnOk P w K mg base CX0 3 T.j0i.a T.j0i.d pn3 (spM K T.C 3 x5):=by
 refine yG (hX (k:=2) T.j0i.F j3o 3 4 rfl rfl (g:=jB) (λcdv A outer s H E hr=>?_)) YL;unfold jB;have nd:=j3o.nd
 repeat' walk_at "d"
theorem j3p:FnScope pn3 pn3 (zG (top 27)):=scM
def jA:MEs:=(uIf (xZ (k8 (zM 2 wR (zA (zD ixD (zB 3) (mC (.int 1))) (zA (zD ixD (zB 1) (mC (.int 1))) zK))))) (uDo (yD 1 yH (zL (zV (zM 3 xD (zA (zD ixD (zB 3) (mC (.int 1))) (zA (zD ixD (zB 1) (mC (.int 1))) (zA (zD ixD (zB 3) (mC (.int 0))) zK))))) z0))) (uDo (yD 1 zU (zL (zV (zB 1)) z0))))
theorem W7(w:D)(ks:List Key)(l:List D)(x:List Nat)(v:D)(h:ks.length<af):∃as,xD [.v (.tup [w,.dct ks l]),.v (.str x),.v v]=some (.v (.tup [.str [114,101,99],.dct (jL ks l (.inr ⟨x.toArray⟩) v).1 (jL ks l (.inr ⟨x.toArray⟩) v).2]),as):=by
 refine⟨[.v (.tup [w,.dct ks l]),.v (.str x),.v v],?_⟩;have e1:tG 3 (zB 1) (zB 2) [.v (.tup [w,.dct ks l]),.v (.str x),.v v,.d false ks l]=some (.nx [.v (.tup [w,.dct ks l]),.v (.str x),.v v,.d false (jL ks l (.inr ⟨x.toArray⟩) v).1 (jL ks l (.inr ⟨x.toArray⟩) v).2]):=if_pos h;have e0:tE 3 (dJ (zD ixD (zB 0) (mC (.int 1)))) [.v (.tup [w,.dct ks l]),.v (.str x),.v v,.un]=some (.nx [.v (.tup [w,.dct ks l]),.v (.str x),.v v,.d false ks l]):=rfl;show(wY [.v (.tup [w,.dct ks l]),.v (.str x),.v v,.un]).bind _=_;unfold wY zZ;rw[e0,aa];show(((tG 3 (zB 1) (zB 2) [.v (.tup [w,.dct ks l]),.v (.str x),.v v,.d false ks l]).bind _)).bind _=_;rw[e1];rfl
theorem YK(st:Mst)(ds:List D)(p:D×Mst)(hl:ds.length=3)(h:xT st ds=some p):mkU 3 4 jA st ds=some p:=by
 unfold xT at h;split at h
 ·rename_i a s c d m b v r;split at h
  ·rename_i ks l hr;have hr:=kT hr;subst hr;have e1:=jN (n:=2) (fs:=zA (zD ixD (zB 3) (mC (.int 1))) (zA (zD ixD (zB 1) (mC (.int 1))) zK)) (r:=[.un,.v (.tup [a,.str s,c,d,m]),.v b,.v (.lst [v,.tup [.str [114,101,99],.dct ks l]])]) (zC rfl (zC rfl zN)) rfl (zGR ks l s);split at h
   ·rename_i hn;rw[hn] at e1;have e1:=e1.trans (show some (!(none:Option D).isSome)=some true from rfl);split at h
    case isFalse=>cases h
    rename_i hk;show(jA st [.un,.v (.tup [a,.str s,c,d,m]),.v b,.v (.lst [v,.tup [.str [114,101,99],.dct ks l]])]).bind _=_;have e2:zM 3 xD (zA (zD ixD (zB 3) (mC (.int 1))) (zA (zD ixD (zB 1) (mC (.int 1))) (zA (zD ixD (zB 3) (mC (.int 0))) zK))) [.un,.v (.tup [a,.str s,c,d,m]),.v b,.v (.lst [v,.tup [.str [114,101,99],.dct ks l]])]=some (.tup [.str [114,101,99],.dct (jL ks l (.inr ⟨s.toArray⟩) v).1 (jL ks l (.inr ⟨s.toArray⟩) v).2]):=by
     obtain⟨as,hq⟩:=W7 (.str [114,101,99]) ks l s v hk;show(xD [.v (.tup [.str [114,101,99],.dct ks l]),.v (.str s),.v v]).map _=_;rw[hq];rfl
    have hb:=x0 h;unfold jA uIf;simp only[xZ,e1,e2,be,aa,uDo,yD,zL,z0,zV,ao,bu,if_true];rw[h];subst hb;rfl
   ·rename_i hn;rw[show(yW ks l (.inr ⟨s.toArray⟩)).isSome=true by cases q:yW ks l (.inr ⟨s.toArray⟩) with|none=>exact absurd q hn|some _=>rfl] at e1;unfold jA;exact kU e1 h
  ·obtain⟨w,h1,h2,h3⟩:=wC h;unfold jA;exact kU (jN (n:=2) (zC rfl (zC rfl zN)) rfl (zGQ h1 h2 (.str s))) h3
 ·cases h
theorem pK(T:Txt K mg w.params):FnOk P w K mg base CX0 3 T.j0g.a T.j0g.d pn3 (spM K T.C 3 xT):=by
 refine yG (hX (k:=2) T.j0g.F j3p 3 4 rfl rfl (g:=jA) (λcdv A outer s H E hr=>?_)) YK;unfold jA;have nd:=j3p.nd
 repeat' walk_at "d"
theorem j4e:FnScope pn3 pn3 (zG (top 26)):=scM
def kB:MEs:=(uIf (xZ (k8 (zM 2 wV (zA (zD ixD (zB 3) (mC (.int 0))) (zA (zD ixD (zB 1) (mC (.int 1))) zK))))) (uDo (yD 1 yH (zL (zV (zIK (dJ (zD ixD (zD ixD (zB 3) (mC (.int 0))) (mC (.int 1)))) (zD ixD (zB 1) (mC (.int 1))))) z0))) (uDo (yD 1 zU (zL (zV (zB 1)) z0))))
theorem JV(st:Mst)(ds:List D)(p:D×Mst)(hl:ds.length=3)(h:qE st ds=some p):mkU 3 4 kB st ds=some p:=by
 unfold qE at h;split at h
 ·rename_i a s c d b v;split at h
  ·rename_i ks l hr;have hr:=kT hr;subst hr;have e1:=jN (n:=2) (fs:=zA (zD ixD (zB 3) (mC (.int 0))) (zA (zD ixD (zB 1) (mC (.int 1))) zK)) (r:=[.un,.v (.tup [a,.str s,c,d]),.v b,.v (.lst [.tup [.str [114,101,99],.dct ks l]])]) (zC rfl (zC rfl zN)) rfl (zI7 ks l s);split at h
   ·rename_i u hu;rw[hu] at e1;show(kB st [.un,.v (.tup [a,.str s,c,d]),.v b,.v (.lst [.tup [.str [114,101,99],.dct ks l]])]).bind _=_;have e2:zIK (dJ (zD ixD (zD ixD (zB 3) (mC (.int 0))) (mC (.int 1)))) (zD ixD (zB 1) (mC (.int 1))) [.un,.v (.tup [a,.str s,c,d]),.v b,.v (.lst [.tup [.str [114,101,99],.dct ks l]])]=some u:=by
     show yW ks l (.inr ⟨s.toArray⟩)=_;exact hu
    have hb:=x0 h;unfold kB uIf;simp only[xZ,e1,e2,mq,be,aa,uDo,yD,zL,z0,zV,ao,bu,if_true];rw[h];subst hb;rfl
   ·rename_i hu;rw[hu] at e1;unfold kB;exact kU e1 h
  ·obtain⟨w,h1,h2,h3⟩:=wC h;unfold kB;exact kU (jN (n:=2) (zC rfl (zC rfl zN)) rfl (zI6 h1 h2 (.str s))) h3
 ·cases h
theorem XL(T:Txt K mg w.params):FnOk P w K mg base CX0 3 T.j0l.a T.j0l.d pn3 (spM K T.C 3 qE):=by
 refine yG (hX (k:=2) T.j0l.F j4e 3 4 rfl rfl (g:=kB) (λcdv A outer s H E hr=>?_)) JV;unfold kB;have nd:=j4e.nd
 repeat' walk_at "d"
theorem j4f:FnScope pn3 pn3 (zG (top 28)):=scM
def kA:MEs:=(uIf (xZ (k8 (zM 2 wV (zA (zD ixD (zB 3) (mC (.int 1))) (zA (zD ixD (zB 1) (mC (.int 1))) zK))))) (uDo (yD 1 yH (zL (zV (zM 3 xD (zA (zD ixD (zB 3) (mC (.int 1))) (zA (zD ixD (zB 1) (mC (.int 1))) (zA (zD ixD (zB 3) (mC (.int 0))) zK))))) z0))) (uDo (yD 1 zU (zL (zV (zB 1)) z0))))
theorem JT(st:Mst)(ds:List D)(p:D×Mst)(hl:ds.length=3)(h:wT st ds=some p):mkU 3 4 kA st ds=some p:=by
 unfold wT at h;split at h
 ·rename_i a s c d m b v r;split at h
  ·rename_i ks l hr;have hr:=kT hr;subst hr;have e1:=jN (n:=2) (fs:=zA (zD ixD (zB 3) (mC (.int 1))) (zA (zD ixD (zB 1) (mC (.int 1))) zK)) (r:=[.un,.v (.tup [a,.str s,c,d,m]),.v b,.v (.lst [v,.tup [.str [114,101,99],.dct ks l]])]) (zC rfl (zC rfl zN)) rfl (zI7 ks l s);split at h
   ·rename_i hn;rw[hn] at e1;unfold kA;exact kU e1 h
   ·rename_i hn;rw[show(yW ks l (.inr ⟨s.toArray⟩)).isSome=true by cases q:yW ks l (.inr ⟨s.toArray⟩) with|none=>exact absurd q hn|some _=>rfl] at e1;split at h
    case isFalse=>cases h
    rename_i hk;show(kA st [.un,.v (.tup [a,.str s,c,d,m]),.v b,.v (.lst [v,.tup [.str [114,101,99],.dct ks l]])]).bind _=_;have e2:zM 3 xD (zA (zD ixD (zB 3) (mC (.int 1))) (zA (zD ixD (zB 1) (mC (.int 1))) (zA (zD ixD (zB 3) (mC (.int 0))) zK))) [.un,.v (.tup [a,.str s,c,d,m]),.v b,.v (.lst [v,.tup [.str [114,101,99],.dct ks l]])]=some (.tup [.str [114,101,99],.dct (jL ks l (.inr ⟨s.toArray⟩) v).1 (jL ks l (.inr ⟨s.toArray⟩) v).2]):=by
     obtain⟨as,hq⟩:=W7 (.str [114,101,99]) ks l s v hk;show(xD [.v (.tup [.str [114,101,99],.dct ks l]),.v (.str s),.v v]).map _=_;rw[hq];rfl
    have hb:=x0 h;unfold kA uIf;simp only[xZ,e1,e2,be,aa,uDo,yD,zL,z0,zV,ao,bu,if_true];rw[h];subst hb;rfl
  ·obtain⟨w,h1,h2,h3⟩:=wC h;unfold kA;exact kU (jN (n:=2) (zC rfl (zC rfl zN)) rfl (zI6 h1 h2 (.str s))) h3
 ·cases h
theorem XI(T:Txt K mg w.params):FnOk P w K mg base CX0 3 T.j0m.a T.j0m.d pn3 (spM K T.C 3 wT):=by
 refine yG (hX (k:=2) T.j0m.F j4f 3 4 rfl rfl (g:=kA) (λcdv A outer s H E hr=>?_)) JT;unfold kA;have nd:=j4f.nd
 repeat' walk_at "d"
theorem j3q:FnScope pn3 pn3 (zG (top 29)):=scM
def jC:MEs:=(uIf (xZ (k8 (zM 2 wV (zA (zD ixD (zB 3) (mC (.int 0))) (zA (zD ixD (zB 1) (mC (.int 1))) zK))))) (uDo (yD 1 yH (zL (zV (zM 2 wE (zA (zD ixD (zB 3) (mC (.int 0))) (zA (zD ixD (zB 1) (mC (.int 1))) zK)))) z0))) (uDo (yD 1 zU (zL (zV (zB 1)) z0))))
theorem zGE(w:D)(ks:List Key)(l:List D)(x:List Nat)(v:D)(h:yW ks l (.inr ⟨x.toArray⟩)=some v):∃as,wE [.v (.tup [w,.dct ks l]),.v (.str x)]=some (.v (.tup [.str [114,101,99],.dct (qR ks l (.inr ⟨x.toArray⟩)).1 (qR ks l (.inr ⟨x.toArray⟩)).2]),as):=by
 refine⟨[.v (.tup [w,.dct ks l]),.v (.str x)],?_⟩;have e1:sX (zF7 2 (zB 1)) [.v (.tup [w,.dct ks l]),.v (.str x),.d false ks l]=some (.nx [.v (.tup [w,.dct ks l]),.v (.str x),.d false (qR ks l (.inr ⟨x.toArray⟩)).1 (qR ks l (.inr ⟨x.toArray⟩)).2]):=by
  refine mV (d:=v) ?_;show((yW ks l (.inr ⟨x.toArray⟩)).map λv=>(v,_))=_;rw[h];rfl
 have e0:tE 2 (dJ (zD ixD (zB 0) (mC (.int 1)))) [.v (.tup [w,.dct ks l]),.v (.str x),.un]=some (.nx [.v (.tup [w,.dct ks l]),.v (.str x),.d false ks l]):=rfl;show(xJ [.v (.tup [w,.dct ks l]),.v (.str x),.un]).bind _=_;unfold xJ zZ;rw[e0,aa];show(((sX (zF7 2 (zB 1)) [.v (.tup [w,.dct ks l]),.v (.str x),.d false ks l]).bind _)).bind _=_;rw[e1];rfl
theorem YN(st:Mst)(ds:List D)(p:D×Mst)(hl:ds.length=3)(h:wB st ds=some p):mkU 3 4 jC st ds=some p:=by
 unfold wB at h;split at h
 ·rename_i a s c d b v;split at h
  ·rename_i ks l hr;have hr:=kT hr;subst hr;have e1:=jN (n:=2) (fs:=zA (zD ixD (zB 3) (mC (.int 0))) (zA (zD ixD (zB 1) (mC (.int 1))) zK)) (r:=[.un,.v (.tup [a,.str s,c,d]),.v b,.v (.lst [.tup [.str [114,101,99],.dct ks l]])]) (zC rfl (zC rfl zN)) rfl (zI7 ks l s);split at h
   ·rename_i u hv;rw[hv] at e1;show(jC st [.un,.v (.tup [a,.str s,c,d]),.v b,.v (.lst [.tup [.str [114,101,99],.dct ks l]])]).bind _=_;have e2:zM 2 wE (zA (zD ixD (zB 3) (mC (.int 0))) (zA (zD ixD (zB 1) (mC (.int 1))) zK)) [.un,.v (.tup [a,.str s,c,d]),.v b,.v (.lst [.tup [.str [114,101,99],.dct ks l]])]=some (.tup [.str [114,101,99],.dct (qR ks l (.inr ⟨s.toArray⟩)).1 (qR ks l (.inr ⟨s.toArray⟩)).2]):=zR (p:=.v (.tup [.str [114,101,99],.dct (qR ks l (.inr ⟨s.toArray⟩)).1 (qR ks l (.inr ⟨s.toArray⟩)).2])) (zC (x:=.tup [.str [114,101,99],.dct ks l]) rfl (zC (x:=.str s) rfl zN)) rfl (zGE (.str [114,101,99]) ks l s u hv);have hb:=x0 h;unfold jC uIf;simp only[xZ,e1,e2,mq,be,aa,uDo,yD,zL,z0,zV,ao,bu,if_true];rw[h];subst hb;rfl
   ·rename_i hu;rw[hu] at e1;unfold jC;exact kU e1 h
  ·obtain⟨w,h1,h2,h3⟩:=wC h;unfold jC;exact kU (jN (n:=2) (zC rfl (zC rfl zN)) rfl (zI6 h1 h2 (.str s))) h3
 ·cases h
theorem pN(T:Txt K mg w.params):FnOk P w K mg base CX0 3 T.j0h.a T.j0h.d pn3 (spM K T.C 3 wB):=by
 refine yG (hX (k:=2) T.j0h.F j3q 3 4 rfl rfl (g:=jC) (λcdv A outer s H E hr=>?_)) YN;unfold jC;have nd:=j3q.nd
 repeat' walk_at "d"
theorem j3r:FnScope pn3 pn3 (zG (top 32)):=scM
def jX:MEs:=(uIf (xZ (mBl (zD neA (zM 1 zT (zA (zD ixD (zB 3) (mC (.int 0))) zK)) (mC (.str [111,110,101]))))) (uDo (yD 1 zU (zL (zV (zB 1)) z0))) (uIf (xZ (mBl (zD eqA (zD ixD (zD ixD (zB 3) (mC (.int 0))) (mC (.int 1))) (zD ixD (zB 1) (mC (.int 2)))))) (uDo (yD 2 yB (zL (zV (zD ixD (zB 1) (mC (.int 4)))) (zL (zV (pW (vM 3 xV (zA (zB 2) (zA (zD ixD (zB 1) (mC (.int 3))) (zA (zD ixD (zD ixD (zB 3) (mC (.int 0))) (mC (.int 2))) zK)))))) z0)))) (uDo (yD 2 yB (zL (zV (zD ixD (zB 1) (mC (.int 6)))) (zL (zV (pW (vM 3 xV (zA (zB 2) (zA (zD ixD (zB 1) (mC (.int 5))) (zA (zD ixD (zB 3) (mC (.int 0))) zK)))))) z0))))))
theorem YO(st:Mst)(ds:List D)(p:D×Mst)(hl:ds.length=3)(h:xU st ds=some p):mkU 3 4 jX st ds=some p:=by
 unfold xU at h;split at h
 ·rename_i a c s x e1 y e2 d ks l ov;split at h
  case h_2=>
   obtain⟨w,h1,h2,h3⟩:=wC h;unfold jX;exact zBN (by rw[tD (v:=ov) rfl h1,decide_eq_false h2];rfl) h3
  rename_i s2 v ho;have ho:=dN ho;subst ho;split at h
  case isFalse=>cases h
  rename_i hk;show(jX st [.un,.v (.tup [a,c,.str s,.str x,e1,.str y,e2,d]),.v (.dct ks l),.v (.lst [.tup [.str [111,110,101],.str s2,v]])]).bind _=_;generalize hr:([.un,.v (.tup [a,c,.str s,.str x,e1,.str y,e2,d]),.v (.dct ks l),.v (.lst [.tup [.str [111,110,101],.str s2,v]])]:En)=r;have f1:mBl (zD neA (zM 1 zT (zA (zD ixD (zB 3) (mC (.int 0))) zK)) (mC (.str [111,110,101]))) r=some false:=by subst hr;rfl
  have f2:mBl (zD eqA (zD ixD (zD ixD (zB 3) (mC (.int 0))) (mC (.int 1))) (zD ixD (zB 1) (mC (.int 2)))) r=some (decide (s2=s)):=by subst hr;rfl
  have f3:zD ixD (zB 1) (mC (.int 4)) r=some e1:=by subst hr;rfl
  have f4:zD ixD (zB 1) (mC (.int 6)) r=some e2:=by subst hr;rfl
  have f5:pW (vM 3 xV (zA (zB 2) (zA (zD ixD (zB 1) (mC (.int 3))) (zA (zD ixD (zD ixD (zB 3) (mC (.int 0))) (mC (.int 2))) zK)))) r=some (.dct (jL ks l (.inr ⟨x.toArray⟩) v).1 (jL ks l (.inr ⟨x.toArray⟩) v).2):=by
   obtain⟨as,hb⟩:=uW ks l x v hk;have ea:zA (zB 2) (zA (zD ixD (zB 1) (mC (.int 3))) (zA (zD ixD (zD ixD (zB 3) (mC (.int 0))) (mC (.int 2))) zK)) r=some [.dct ks l,.str x,v]:=by subst hr;rfl
   unfold pW vM;rw[ea];show((xV [.v (.dct ks l),.v (.str x),.v v]).bind _).map _=_;rw[hb];rfl
  have f6:pW (vM 3 xV (zA (zB 2) (zA (zD ixD (zB 1) (mC (.int 5))) (zA (zD ixD (zB 3) (mC (.int 0))) zK)))) r=some (.dct (jL ks l (.inr ⟨y.toArray⟩) (.tup [.str [111,110,101],.str s2,v])).1 (jL ks l (.inr ⟨y.toArray⟩) (.tup [.str [111,110,101],.str s2,v])).2):=by
   obtain⟨as,hb⟩:=uW ks l y (.tup [.str [111,110,101],.str s2,v]) hk;have ea:zA (zB 2) (zA (zD ixD (zB 1) (mC (.int 5))) (zA (zD ixD (zB 3) (mC (.int 0))) zK)) r=some [.dct ks l,.str y,.tup [.str [111,110,101],.str s2,v]]:=by subst hr;rfl
   unfold pW vM;rw[ea];show((xV [.v (.dct ks l),.v (.str y),.v (.tup [.str [111,110,101],.str s2,v])]).bind _).map _=_;rw[hb];rfl
  unfold jX uIf;by_cases hi:s2=s
  ·rw[if_pos hi] at h;rw[decide_eq_true hi] at f2;have hb:=qT h;simp only[xZ,f1,f2,f3,f5,be,aa,bx,if_false,uDo,yD,zL,z0,zV,ao,bu,if_true];rw[h];subst hb;rfl
  ·rw[if_neg hi] at h;rw[decide_eq_false hi] at f2;have hb:=qT h;simp only[xZ,f1,f2,f4,f6,be,aa,bx,if_false,uDo,yD,zL,z0,zV,ao,bu,if_true];rw[h];subst hb;rfl
 ·cases h
theorem pO(T:Txt K mg w.params):FnOk P w K mg base CX0 3 T.j0j.a T.j0j.d pn3 (spM K T.C 3 xU):=by
 refine yG (hX (k:=2) T.j0j.F j3r 3 4 rfl rfl (g:=jX) (λcdv A outer s H E hr=>?_)) YO;unfold jX;have nd:=j3r.nd
 repeat' walk_at "d"
theorem W4{c:Prop}[Decidable c]{a b v:Option α}(h:(if c then a else b)=v):c/\a=v\/¬c/\b=v:=by
 by_cases hc:c
 ·exact .inl ⟨hc,by rwa [if_pos hc] at h⟩
 ·exact .inr ⟨hc,by rwa [if_neg hc] at h⟩
theorem zAA:FnScope ["self", "expression", "bound", "parts"] ["self", "expression", "bound", "parts"] (zG (bI 16 1)):=scM
def cZ:MEs:=(uDo (zIO 3 ways (zD ixD (zB 1) (mC (.int 0))) (zDI (zA (zB 1) (zA (zB 2) (zA (zB 3) zK))))))
theorem zDD(st:Mst)(ds:List D)(p:D×Mst)(hl:ds.length=3)(h:qF st ds=some p):mkU 3 4 cZ st ds=some p:=by
 unfold qF at h;split at h
 ·rename_i w r b ps;obtain⟨mm,e1,h⟩:=bnS h;have e2:zD ixD (zB 1) (mC (.int 0)) [.un,.v (.tup (.str w::r)),.v b,.v ps]=some (.str w):=by
   show atI (.str w::r) 0=_;exact zQU
  have e3:zA (zB 1) (zA (zB 2) (zA (zB 3) zK)) [.un,.v (.tup (.str w::r)),.v b,.v ps]=some [.tup (.str w::r),b,ps]:=rfl;show(cZ st [.un,.v (.tup (.str w::r)),.v b,.v ps]).bind _=_;unfold cZ uDo zIO;rw[e2,aa];dsimp only;rw[e1,aa];simp only[zDI,e3,be,aa,ao,bu,if_true];obtain⟨q,h1,rfl⟩:=mpS h;rw[h1];rfl
 ·cases h
theorem zA6(T:Txt K mg w.params):FnOk P w K mg base CX0 4 T.j1a.a T.j1a.d ["self", "expression", "bound", "parts"] (spM K T.C 3 qF):=by
 refine yG (hX (k:=3) T.j1a.F zAA 3 4 rfl rfl (g:=cZ) (λcdv A outer s H E hr=>?_)) zDD;unfold cZ;exact(by refine XU ?_;exact(zFX (zFZ (k:=3) (n:=3) (ways:=ways) T.ways (by rfl) (zN2 (vN 1 (pv 1)) rF) (pv 0) (zF6 (wD (vN 1 (pv 1)) (wD (vN 2 (pv 2)) (wD (vN 3 (pv 3)) oE)))) (λkey mm e=>by
  unfold ways at e;rcases W4 e with⟨hk,e⟩|⟨_,e⟩
  ·subst hk;cases e;exact⟨_,_,_,T.j8p,XJ T,T.j0k.b,T.j0k.F.kp⟩
  rcases W4 e with⟨hk,e⟩|⟨_,e⟩
  ·subst hk;cases e;exact⟨_,_,_,T.j7w,pM T,T.j0f.b,T.j0f.F.kp⟩
  rcases W4 e with⟨hk,e⟩|⟨_,e⟩
  ·subst hk;cases e;exact⟨_,_,_,T.w_fn,zA3 T,T.j0s.b,T.j0s.F.kp⟩
  rcases W4 e with⟨hk,e⟩|⟨_,e⟩
  ·subst hk;cases e;exact⟨_,_,_,T.w_do,zA4 T,T.j0t.b,T.j0t.F.kp⟩
  rcases W4 e with⟨hk,e⟩|⟨_,e⟩
  ·subst hk;cases e;exact⟨_,_,_,T.j6r,nF T,T.j0c.b,T.j0c.F.kp⟩
  rcases W4 e with⟨hk,e⟩|⟨_,e⟩
  ·subst hk;cases e;exact⟨_,_,_,T.j8q,XL T,T.j0l.b,T.j0l.F.kp⟩
  rcases W4 e with⟨hk,e⟩|⟨_,e⟩
  ·subst hk;cases e;exact⟨_,_,_,T.j7x,pK T,T.j0g.b,T.j0g.F.kp⟩
  rcases W4 e with⟨hk,e⟩|⟨_,e⟩
  ·subst hk;cases e;exact⟨_,_,_,T.j8r,XI T,T.j0m.b,T.j0m.F.kp⟩
  rcases W4 e with⟨hk,e⟩|⟨_,e⟩
  ·subst hk;cases e;exact⟨_,_,_,T.j7y,pN T,T.j0h.b,T.j0h.F.kp⟩
  rcases W4 e with⟨hk,e⟩|⟨_,e⟩
  ·subst hk;cases e;exact⟨_,_,_,T.j8s,XH T,T.j0n.b,T.j0n.F.kp⟩
  rcases W4 e with⟨hk,e⟩|⟨_,e⟩
  ·subst hk;cases e;exact⟨_,_,_,T.j7z,pL T,T.j0i.b,T.j0i.F.kp⟩
  rcases W4 e with⟨hk,e⟩|⟨_,e⟩
  ·subst hk;cases e;exact⟨_,_,_,T.j8a,pO T,T.j0j.b,T.j0j.F.kp⟩
  rcases W4 e with⟨hk,e⟩|⟨_,e⟩
  ·subst hk;cases e;exact⟨_,_,_,T.j6s,nE T,T.j0d.b,T.j0d.F.kp⟩
  rcases W4 e with⟨hk,e⟩|⟨_,e⟩
  ·subst hk;cases e;exact⟨_,_,_,T.w_if,zA2 T,T.j0u.b,T.j0u.F.kp⟩
  rcases W4 e with⟨hk,e⟩|⟨_,e⟩
  ·cases e;rcases hk with rfl|rfl|rfl|rfl
   ·exact⟨_,_,_,T.j8t,qC T,T.j0a.b,T.j0a.F.kp⟩
   ·exact⟨_,_,_,T.j8u,qC T,T.j0a.b,T.j0a.F.kp⟩
   ·exact⟨_,_,_,T.j8v,qC T,T.j0a.b,T.j0a.F.kp⟩
   ·exact⟨_,_,_,T.j8w,qC T,T.j0a.b,T.j0a.F.kp⟩
  cases e) hr)))
theorem j4g:FnScope ["self", "task"] ["self"] (zG (bI 8 4)):=scM
def uJ:MEs:=(bZ WF (zOI zDF (zIN (JY λst=>st.ended))) (rP (zN6 0 1 zDJ) (uIf (xZ (k8 (zD ixD (zB 1) (mC (.int 2))))) (uDo (yD 3 qF (zL (zV (zD ixD (zB 1) (mC (.int 0)))) (zL (zV (zD ixD (zB 1) (mC (.int 1)))) (zL (yD 1 yF (zL (zV (zD ixD (zB 1) (mC (.int 0)))) z0)) z0))))) (uDo (yD 2 yA (zL (zV (zD ixD (zB 1) (mC (.int 0)))) (zL (zV (zD ixD (zB 1) (mC (.int 1)))) z0)))))))
def zCR:MEs:=(rP (zN6 0 1 zDJ) (uIf (xZ (k8 (zD ixD (zB 1) (mC (.int 2))))) (uDo (yD 3 qF (zL (zV (zD ixD (zB 1) (mC (.int 0)))) (zL (zV (zD ixD (zB 1) (mC (.int 1)))) (zL (yD 1 yF (zL (zV (zD ixD (zB 1) (mC (.int 0)))) z0)) z0))))) (uDo (yD 2 yA (zL (zV (zD ixD (zB 1) (mC (.int 0)))) (zL (zV (zD ixD (zB 1) (mC (.int 1)))) z0))))))
theorem zCD{st s:Mst}{x:Sl}(hx:x=.un\/∃d,x=.v d)(h:mN st=some s):∃d,zCR st [.un,x]=some (.nx s [.un,.v d]):=by
 unfold mN at h;have hset:∀d,yN 1 d [.un,x]=some [.un,.v d]:=λd=>by rcases hx with rfl|⟨d',rfl⟩<;>rfl
 have pop:∀d,st.wait.getLast?=some d->zN6 0 1 zDJ st [.un,x]=some (.nx { st with wait:=st.wait.dropLast } [.un,.v d]):=λd e=>by
  unfold zN6 zDJ;rw[e];show(if 1=0 then none else (yN 1 d [.un,x]).map λr'=>MFl.nx { st with wait:=st.wait.dropLast } r')=_;rw[if_neg (by decide),hset];rfl
 split at h
 ·rename_i e b hl;refine⟨.tup [e,b,.bl true],?_⟩;obtain⟨p,h1,h⟩:=bnS h;obtain⟨q,h2,rfl⟩:=mpS h;have e0:zD ixD (zB 1) (mC (.int 0)) [.un,.v (.tup [e,b,.bl true])]=some e:=rfl;have e1:zD ixD (zB 1) (mC (.int 1)) [.un,.v (.tup [e,b,.bl true])]=some b:=rfl;have e2:k8 (zD ixD (zB 1) (mC (.int 2))) [.un,.v (.tup [e,b,.bl true])]=some true:=rfl;unfold zCR rP;rw[pop _ hl,aa];dsimp only;unfold uIf;simp only[xZ,e2,be,aa,if_true];unfold uDo yD;simp only[zL,z0,zV,e0,e1,be,aa,ao,bu,if_true];rw[h1];simp only[be,aa,ao,bu,if_true];rw[h2];rfl
 ·rename_i e b hl;refine⟨.tup [e,b,.bl false],?_⟩;obtain⟨q,h2,rfl⟩:=mpS h;have e0:zD ixD (zB 1) (mC (.int 0)) [.un,.v (.tup [e,b,.bl false])]=some e:=rfl;have e1:zD ixD (zB 1) (mC (.int 1)) [.un,.v (.tup [e,b,.bl false])]=some b:=rfl;have e2:k8 (zD ixD (zB 1) (mC (.int 2))) [.un,.v (.tup [e,b,.bl false])]=some false:=rfl;unfold zCR rP;rw[pop _ hl,aa];dsimp only;unfold uIf;simp only[xZ,e2,be,aa,if_false,bx];unfold uDo yD;simp only[zL,z0,zV,e0,e1,be,aa,ao,bu,if_true];rw[h2];rfl
 ·cases h
theorem YJ:∀(n:Nat) (st s:Mst) (x:Sl),(x=.un\/∃d,x=.v d)->gY n st=some s->∃x',bZ n (zOI zDF (zIN (JY λst=>st.ended))) zCR st [.un,x]=some (.nx s [.un,x']):=by
 intro n
 induction n with
 |zero=>intro st s x _ h;cases h
 |succ n ih=>
  intro st s x hx h;have h:(if st.wait.isEmpty=false/\nonB st.ended=true then (mN st).bind (gY n) else some st)=some s:=h;have ht:zOI zDF (zIN (JY λst=>st.ended)) st [.un,x]=some (!st.wait.isEmpty && nonB st.ended,st):=by
   show(if (!st.wait.isEmpty)=true then some (nonB st.ended,st) else some (false,st))=_;cases st.wait.isEmpty<;>simp
  unfold bZ;rw[ht,aa];by_cases hc:st.wait.isEmpty=false/\nonB st.ended=true
  ·rw[if_pos hc] at h;obtain⟨st1,h1,h2⟩:=bnS h;obtain⟨d,hb⟩:=zCD hx h1;obtain⟨x',hx'⟩:=ih st1 s (.v d) (.inr ⟨d,rfl⟩) h2;refine⟨x',?_⟩;rw[if_pos (by simp[hc.1,hc.2]),hb,aa];exact hx'
  ·rw[if_neg hc] at h;cases h;refine⟨x,?_⟩;rw[if_neg (by simpa using hc)]
theorem JR(st:Mst)(ds:List D)(p:D×Mst)(hl:ds.length=0)(h:jP st ds=some p):mkU 0 2 uJ st ds=some p:=by
 match ds,hl with
 |[],_=>
  obtain⟨s,h1,rfl⟩:=mpS (show(gY WF st).map (λs=>(D.non,s))=some p from h);obtain⟨x',hx'⟩:=YJ WF st s .un (.inl rfl) h1;show(uJ st [.un,.un]).bind _=_;have e:uJ=bZ WF (zOI zDF (zIN (JY λst=>st.ended))) zCR:=rfl;rw[e,hx'];rfl
theorem XF(T:Txt K mg w.params):FnOk P w K mg base CX0 5 T.j0o.a T.j0o.d ["self"] (spM K T.C 0 jP):=by
 refine yG (hX (k:=4) T.j0o.F j4g 0 2 rfl rfl (g:=uJ) (λcdv A outer s H E hr=>?_)) JR;unfold uJ;have nd:=j4g.nd
 repeat' walk_at "d"
theorem J8:FnScope ["self", "most"] ["self", "most"] (zG (bI 8 0)):=scM
theorem zA0(T:Txt K mg w.params):FnOk P w K mg base CX0 1 T.j0w.a T.j0w.d ["self", "most"] (zQI K T.C):=by
 refine Fun.ok (k:=0) T.j0w.F J8 (λvs H Q E h=>?_) (λcdv A outer s H vs Q E hr h=>⟨_,jO (gA (pv 0) (pv 1) rfl) (jO (gA (pv 0) pH rfl) (jO (gA (pv 0) (zAS yV) rfl) (jO (gA (pv 0) (zAS yV) rfl) (mZ (gA (pv 0) zEZ rfl))))),zAD rfl T.cl T.j3i T.j0v T.j0q T.j1l T.j0r h⟩);obtain⟨x,dx,m,rfl,_⟩:=h;rfl
theorem J9:FnScope ["self", "program", "most"] ["self", "program", "most"] (zG (bI 16 0)):=scM
theorem zA1(T:Txt K mg w.params):FnOk P w K mg base CX0 44 T.j0x.a T.j0x.d ["self", "program", "most"] (zQJ K T.C dd):=by
 refine Fun.ok (k:=43) T.j0x.F J9 (λvs H Q E h=>?_) (λcdv A outer s H vs Q E hr h=>⟨_,jO (tP (zAW (dvs:=[]) (E:=E0) T.cm (zA0 T) (hr.mono (by omega)) (by rfl) T.mB T.j0w.b .nil nA (zY (pv 0) (zY (pv 2) yV)))) (mZ (gA (tv:=lE K ddE) (pv 0) (show DE _ _ ddE by unfold ddE;exact(zI8 (zBV rfl (by rfl) T.j3j (by refine zRN ?_;exact(bP (N':=["name", "E"]) (cap:=[]) rfl vP (zHR (vN 1 (pv 1))) (λ_ _ _ _=>(zB6 rfl (uU (qG 0 (show(["name", "E"]:List Str).Nodup by decide +kernel)) (uU (qG 1 (show(["name", "E"]:List Str).Nodup by decide +kernel)) ZX)))) (λ_ _ _ _=>by exact(by refine zB8 ?_;exact(by refine wD ?_ ?_;exact(vN 0 (pv 0));refine wD ?_ ?_;exact(JG (nG RF T) (hr.mono (by decide)) (by rfl) T.j1c.m T.j1c.F.kp T.j1c.b (by refine wD ?_ ?_;exact(vN 1 (pv 1));refine wD ?_ ?_;exact(vN 0 (pv 0));refine wD ?_ ?_;exact rF;exact oE));exact oE))) 2))))) rfl)),zAN rfl T.cl T.j2h (λpd d e m=>e) h⟩);obtain⟨O,x,dx,pd,pv,m,d,rfl,_⟩:=h;rfl
theorem j5r:FnScope ["program", "most", "plain"] ["program", "most"] (zG (top 14)):=scM
def zCG:MEs:=(rP (uDo (yD 2 yB (zL (YQ (mC (.str [109,97,105,110]))) (zL (zV (pW mD0)) z0)))) (rP (uDo (d6 jP)) (rP (uIf (zIN (JY λst=>st.ended)) (zCX (zOK (zL (zV (mC (.str [118,97,108,117,101]))) (zL (JY λst=>.int st.steps) (zL (zDK 1 W2 (zL zM4 z0)) z0))))) rO) (zCX (zOK (zL (uIx (JY λst=>st.ended) (mC (.int 0))) (zL (JY λst=>.int st.steps) (zL (uIx (JY λst=>st.ended) (mC (.int 1))) z0))))))))
def zCO:MS:=zO0 2 (zB 0) (zB 1) dd zCG
theorem zA8{l:List D}:nonB (.tup l)=false:=rfl
theorem zOG(as:List Sl)(p:Rs×List Sl)(hl:as.length=2)(h:bU as=some p):mkF 2 3 zCO as=some p:=by
 unfold bU at h;split at h
 ·rename_i pd m;obtain⟨d,e1,h⟩:=bnS h;obtain⟨x,e2,rfl⟩:=mpS h;unfold zQO at e2;split at e2
  case h_2=>cases e2
  rename_i ks l;obtain⟨e,e3,h⟩:=bnS e2;obtain⟨s,e4,e5⟩:=bnS h;show(zCO [.v pd,.v (.int m),.un]).bind _=_;obtain⟨s',key⟩:∃s',zCG ⟨m,0,[],[],.non,.dct ks l⟩ [.v pd,.v (.int m),.un]=some (.rt x s' [.v pd,.v (.int m),.un]):=by
   have b1:uDo (yD 2 yB (zL (YQ (mC (.str [109,97,105,110]))) (zL (zV (pW mD0)) z0))) ⟨m,0,[],[],.non,.dct ks l⟩ [.v pd,.v (.int m),.un]=some (.nx ⟨m,0,[.tup [e,.dct [] [],.bl false]],[],.non,.dct ks l⟩ [.v pd,.v (.int m),.un]):=by
    have d1:YQ (mC (.str [109,97,105,110])) ⟨m,0,[],[],.non,.dct ks l⟩ [.v pd,.v (.int m),.un]=some (e,⟨m,0,[],[],.non,.dct ks l⟩):=by
     show(yW ks l (.inr ⟨([109,97,105,110]:List Nat).toArray⟩)).map _=_;rw[e3];rfl
    unfold uDo yD;simp only[zL,z0,d1,zV,pW,mD0,be,aa,ao,bu,if_true];rfl
   have b2:uDo (d6 jP) ⟨m,0,[.tup [e,.dct [] [],.bl false]],[],.non,.dct ks l⟩ [.v pd,.v (.int m),.un]=some (.nx s [.v pd,.v (.int m),.un]):=by
    unfold uDo d6;show((gY WF _).map _).map _=_;rw[e4];rfl
   unfold zCG rP;rw[b1,aa];dsimp only;rw[b2,aa];dsimp only;unfold zNY at e5;split at e5
   ·rename_i he;obtain⟨v,f1,e5⟩:=bnS e5;obtain⟨⟨q,as'⟩,f2,e5⟩:=bnS e5;cases q<;>first|(cases e5;done)|skip
    cases e5;unfold uIf;simp only[zIN,JY,he,nonB,be,aa,if_true];unfold zCX;simp only[zOK,zL,z0,zV,mC,JY,zDK,zM4,f1,be,aa,ao,bu,aq,jw,f2,if_true];rw[if_pos sz3];exact⟨_,rfl⟩
   ·rename_i a b he;cases e5;unfold uIf;simp only[zIN,JY,he,zA8,be,aa,bx,if_false,rO];unfold zCX;have i0:ixD (.tup [a,b]) (.int 0)=some a:=rfl;have i1:ixD (.tup [a,b]) (.int 1)=some b:=rfl;simp only[zOK,zL,z0,uIx,mC,JY,he,i0,i1,be,aa,ao,bu];rw[if_pos sz3];exact⟨_,rfl⟩
   ·cases e5
  unfold zCO zO0;rw[if_pos ⟨rfl,rfl⟩];have v0:zB 0 [.v pd,.v (.int m),.un]=some pd:=rfl;have v1:zB 1 [.v pd,.v (.int m),.un]=some (.int m):=rfl;simp only[v0,v1,aa,e1,key];rfl
 ·cases h
theorem zK8(T:Txt K mg w.params):Ok P w base T.j4l 46 2 bU:=by
 refine J3 (bO (k:=45) T.j4l.F j5r 2 3 rfl rfl (g:=zCO) (λcdv A outer s H E hr=>?_)) zOG;unfold zCO;exact(zMF 2 T.mkC (zA1 T) (hr.mono (by omega)) (by rfl) T.mC T.j0x.b (vN 0 (pv 0)) (vN 1 (pv 1)) (show zCF _ _ 2 _ zCG by unfold zCG;exact(by refine nK ?_ ?_;exact(zFX (QU (pv 2) T.cl T.h_begin (λ_ _ _ _ _ _=>rfl) (tW T) (hr.mono (by omega)) T.j0y.b (jZ (QV (un1 hr) (pv 2) T.cl T.j2h WK) (jZ (ZC (zI8 zGX)) pU))));exact(by refine nK ?_ ?_;exact(zFX (ZD (pv 2) T.cl T.h_run_on (λ_ _ _ _ _ _=>rfl) (XF T) (hr.mono (by omega)) T.j0o.b));exact(by refine nK ?_ ?_;exact(zNR (zFS (cK (pv 2) T.cl T.j0r cR)) (by refine XU ?_;exact(zBC (zF0 (jZ (ZC WK) (jZ (cK (pv 2) T.cl T.j0v hV) (jZ (zBD (zFC T) (hr.mono (by omega)) (by rfl) T.j2b.m T.j2b.F.kp T.j2b.b (jZ (zF3 (pv 2) T.cl T.j1l) pU)) pU)))))) zFV);exact(by refine XU ?_;exact(zBC (zF0 (jZ (zNS (cK (pv 2) T.cl T.j0r cR) rF) (jZ (cK (pv 2) T.cl T.j0v hV) (jZ (zNS (cK (pv 2) T.cl T.j0r cR) rF) pU)))))))))) j5r.nd)
theorem j5s:FnScope ["_law_script", "_law_first", "_law_defs_here", "_law_program", "_law_names", "_law_kept", "_law_most", "_law_found", "_law_k", "_law_fewer", "_law_again"] ["_law_script"] (zG (top 55)):=scM
theorem zK9(T:Txt K mg w.params):Ok P w base T.j6p 47 1 Z9:=by
 refine bO T.j6p.F j5s 1 11 rfl rfl (g:=zCP) (λcdv A outer s H E hr=>?_);unfold zCP;have nd:=j5s.nd
 repeat' walk_at "d"
end
theorem wS(c k:Int):∃n:Int,0<=n/\∃as,zO [.v (.int c),.v (.int k)]=some (.v (.int n),as):=by
 let n1:Int:=(c % 2147483647+16807*k+7) % 2147483629
 let n2:Int:=n1*n1 % 2147483587
 have h1:0<=n1/\n1<2147483629:=⟨cq _ (by decide),ck _ (by decide)⟩;have h2:0<=n2/\n2<2147483587:=⟨cq _ (by decide),ck _ (by decide)⟩;refine⟨n2*(n2+48271) % 2147483579 / 5,?_,?_⟩
 ·exact oy (cq _ (by decide)) (by decide)
 ·refine xP (r':=[.v (.int c),.v (.int k),.v (.int n2)]) ?_;show wZ [.v (.int c),.v (.int k),.un]=_;unfold wZ;rw[yT (kZ (d:=.int n1) (r2:=[.v (.int c),.v (.int k),.v (.int n1)]) (yM (xK (xK (yM rfl zF (by decide)) (XR zF rfl (by decide))) zF) zF (by decide)) (by rfl))];rw[yT (kZ (d:=.int n2) (r2:=[.v (.int c),.v (.int k),.v (.int n2)]) (yM (XR rfl rfl (by lia)) zF (by decide)) (by rfl))];exact yI (x4 (yM (XR rfl (xK rfl zF) (by lia)) zF (by decide)) zF (by decide))
theorem oH(ns:List Int)(k:Nat):∃c:Int,∃as,xQ [.v (.lst (ns.map .int)),.v (.int (k:Int))]=some (.v (.int c),as):=by
 let R:En:=[.v (.lst (ns.map .int)),.v (.int (k:Int))]
 have t:mBl (zD ltA (zB 1) (mUn qX (zB 0))) R=some (decide ((k:Int)<(ns.length:Int))):=kK (zP (x:=.int (k:Int)) (y:=.int (ns.length:Int)) rfl (jV (x:=.lst (ns.map .int)) rfl (by show some (D.int ((ns.map D.int).length:Int))=_;rw[ak])) rfl);by_cases h:k<ns.length
 ·rw[decide_eq_true (by lia)] at t;refine⟨ns[k],xP (r':=R) ?_⟩;show qQ R=_;unfold qQ;refine qK t (yI (zP (x:=.lst (ns.map .int)) (y:=.int (k:Int)) rfl rfl (yY ?_)));rw[bn,bt h];rfl
 ·rw[decide_eq_false (by lia)] at t;exact⟨0,xP (r':=R) (yS t (yI zF))⟩
theorem JJ{x:ME}{j:Nat}{mk:Sl->En}{p:Nat->Prop}(hj:∀s d,fre s->yN j d (mk s)=some (mk (.v d))):∀(L:List D) (s:Sl),fre s->(∀a∈L,∃c,p c/\x (mk (.v a))=some (.str [c]))->∃cs:List Nat,cs.length=L.length/\(∀c∈cs,p c)/\qH (yN j) uX x L (mk s)=some (cs.map λc=>D.str [c])
 |[],s,hs,h=>⟨[],rfl,(λ_ h=>by cases h),rfl⟩
 |a::L,s,hs,h=>by
  obtain⟨c,hc,e⟩:=h a (by simp);obtain⟨cs,h1,h2,h3⟩:=JJ hj L (.v a) trivial λb hb=>h b (by simp[hb])
  refine⟨c::cs,by simp[h1],λd hd=>?_,?_⟩
  ·rcases ca.mp hd with rfl|hd
   ·exact hc
   ·exact h2 d hd
  ·unfold qH;rw[hj s a hs,aa,show uX (mk (.v a))=some true from rfl,aa,if_pos rfl,e,aa,h3];rfl
theorem mG{α:Type}{x:ME}{j:Nat}{mk:Sl->En}{g y:α->D}(hj:∀s d,fre s->yN j d (mk s)=some (mk (.v d))):∀(L:List α) (s:Sl),fre s->(∀a∈L,x (mk (.v (g a)))=some (y a))->qH (yN j) uX x (L.map g) (mk s)=some (L.map y)
 |[],s,hs,h=>rfl
 |a::L,s,hs,h=>by
  have ih:=mG (y:=y) hj L (.v (g a)) trivial λb hb=>h b (by simp[hb])
  rw[aq];unfold qH;rw[hj s _ hs,aa,show uX (mk (.v (g a)))=some true from rfl,aa,if_pos rfl,h a (by simp),aa,ih];rfl
theorem rT:∀cs:List Nat,YV (cs.map λc=>D.str [c])=some (cs.map λc=>[c])
 |[]=>rfl
 |c::cs=>by simp[YV,rT cs]
theorem ZJ:∀cs:List Nat,Q3 [] (cs.map λc=>[c])=cs
 |[]=>rfl
 |[c]=>rfl
 |c::d::cs=>by
  have ih:=ZJ (d::cs);rw[aq,aq] at *;unfold Q3;rw[ih];rfl
theorem zP6(hl:l.length<=100)(h0:0<=i)(h:i<l.length):∃c,c∈l/\ixD (.str l) (.int i)=some (.str [c]):=by
 obtain⟨j,rfl⟩:=ue h0;have hj:j<l.length:=by lia
 refine⟨l[j],List.getElem_mem hj,?_⟩;show(if l.length<=af then (atI l (j:Int)).map λc=>D.str [c] else none)=_;rw[if_pos (bv hl (by decide)),yY (bt hj)];rfl
theorem mF(s:List α)(k:Nat):bR s (some (k:Int)) none=s.drop k:=by
 unfold bR;rw[HT.sIx_nat,HT.sIx_none];by_cases h:k<=s.length
 ·rw[ri h,kj (by rw[ja];lia)]
 ·have e1:s.drop (min k s.length)=[]:=ko (by lia);have e2:s.drop k=[]:=ko (by lia);rw[e1,e2];simp
theorem d8{lo:Option Int}(h:s.length<=100):slD (.str s) lo hi=some (.str (bR s lo hi)):=if_pos (bv h (by decide))
theorem zCA(a b:List α)(hk:k=-(b.length:Int))(h0:0<b.length):bR (a++b) (some k) none=b/\bR (a++b) none (some k)=a:=by
 subst hk;have e:∀d,HT.sIx (a++b).length d (some (-(b.length:Int)))=a.length:=λd=>by
  show(if -(b.length:Int)<0 then (-(b.length:Int)+((a++b).length:Int)).toNat else _)=_;rw[if_pos (by lia),bb];lia
 constructor
 ·unfold bR;rw[e,HT.sIx_none,List.drop_left,bb,Nat.add_sub_cancel_left,List.take_length]
 ·unfold bR;rw[e,HT.sIx_none,si,Nat.sub_zero,List.take_left]
inductive Ex where
 |num (n:Int)
 |nm (s:List Nat)
 |emp
 |tag (l:List Nat) (n:Int)
 |lab (w l:List Nat) (e:Ex)
 |nev (e:Ex)
 |fld (w l:List Nat) (n:Int) (e:Ex)
 |bin (w:List Nat) (a b:Ex)
 |ite (a b c:Ex)
 |cas (a:Ex) (l x:List Nat) (b:Ex) (y:List Nat) (c:Ex)
noncomputable def nu(n:Int):D:=.tup [.str [110,117,109],.int n]
def toD:Ex->D
 |.num n=>nu n
 |.nm s=>.tup [.str [110,97,109,101],.str s]
 |.emp=>.tup [.str [101,109,112,116,121]]
 |.tag l n=>.tup [.str [116,97,103],.str l,nu n]
 |.lab w l e=>.tup [.str w,.str l,toD e]
 |.nev e=>.tup [.str [110,101,118,101,114],toD e]
 |.fld w l n e=>.tup [.str w,.str l,nu n,toD e]
 |.bin w a b=>.tup [.str w,toD a,toD b]
 |.ite a b c=>.tup [.str [105,102],toD a,toD b,toD c]
 |.cas a l x b y c=>.tup [.str [99,97,115,101],toD a,.str l,.str x,toD b,.str y,toD c]
noncomputable def dp:Ex->Nat
 |.num _=>0
 |.nm _=>0
 |.emp=>0
 |.tag _ _=>1
 |.lab _ _ e=>dp e+1
 |.nev e=>dp e+1
 |.fld _ _ _ e=>dp e+1
 |.bin _ a b=>1+max (dp a) (dp b)
 |.ite a b c=>1+max (max (dp a) (dp b)) (dp c)
 |.cas a _ _ b _ c=>1+max (max (dp a) (dp b)) (dp c)
noncomputable def nd:Ex->Nat
 |.num _=>1
 |.nm _=>1
 |.emp=>1
 |.tag _ _=>2
 |.lab _ _ e=>1+nd e
 |.nev e=>1+nd e
 |.fld _ _ _ e=>2+nd e
 |.bin _ a b=>1+nd a+nd b
 |.ite a b c=>1+nd a+nd b+nd c
 |.cas a _ _ b _ c=>1+nd a+nd b+nd c
inductive Pt where
 |pl (d:D)
 |ex (e:Ex)
def ptD:Pt->D
 |.pl d=>d
 |.ex e=>toD e
noncomputable def ptE:Pt->Option Ex
 |.pl _=>none
 |.ex e=>some e
noncomputable def pts:Ex->List Pt
 |.num n=>[.pl (.str [110,117,109]),.pl (.int n)]
 |.nm s=>[.pl (.str [110,97,109,101]),.pl (.str s)]
 |.emp=>[.pl (.str [101,109,112,116,121])]
 |.tag l n=>[.pl (.str [116,97,103]),.pl (.str l),.ex (.num n)]
 |.lab w l e=>[.pl (.str w),.pl (.str l),.ex e]
 |.nev e=>[.pl (.str [110,101,118,101,114]),.ex e]
 |.fld w l n e=>[.pl (.str w),.pl (.str l),.ex (.num n),.ex e]
 |.bin w a b=>[.pl (.str w),.ex a,.ex b]
 |.ite a b c=>[.pl (.str [105,102]),.ex a,.ex b,.ex c]
 |.cas a l x b y c=>[.pl (.str [99,97,115,101]),.ex a,.pl (.str l),.pl (.str x),.ex b,.pl (.str y),.ex c]
def plain(d:D):Prop:=j8 "tuple" d=some (.bl false)
def PtOk(l:List Pt):Prop:=∀d,Pt.pl d∈l->plain d
theorem mM(e:Ex):toD e=.tup ((pts e).map ptD):=by cases e<;>rfl
theorem zAH(e:Ex):PtOk (pts e):=by
 intro d h;cases e<;>simp[pts] at h
 all_goals first|(subst h;rfl)|(rcases h with rfl|rfl<;>rfl)|(rcases h with rfl|rfl|rfl|rfl<;>rfl)
theorem ZN(e:Ex):j8 "tuple" (toD e)=some (.bl true):=by rw[mM];rfl
def ch(e:Ex):List Ex:=(pts e).filterMap ptE
theorem PtOk.tail(h:PtOk (p::l)):PtOk l:=λd hd=>h d (bm _ hd)
theorem uQ:∀(l:List Pt) (s:Sl),fre s->PtOk l->qH (yN 0) (k8 (mUn (j8 "tuple") (zB 0))) (zB 0) (l.map ptD) [s]=some ((l.filterMap ptE).map toD)
 |[],s,hs,h=>rfl
 |.pl d::l,s,hs,h=>by
  have ih:=uQ l (.v d) trivial h.tail;have e1:yN 0 d [s]=some [.v d]:=zW (r:=[s]) rfl hs;have e2:k8 (mUn (j8 "tuple") (zB 0)) [.v d]=some false:=by
   unfold k8;rw[jV (f:=zB 0) (r:=[.v d]) (x:=d) rfl (h d (by simp))];rfl
  show qH _ _ _ (d::l.map ptD) [s]=_;unfold qH;rw[e1,aa,e2,aa,if_neg (by decide),ih];rfl
 |.ex e::l,s,hs,h=>by
  have ih:=uQ l (.v (toD e)) trivial h.tail;have e1:yN 0 (toD e) [s]=some [.v (toD e)]:=zW (r:=[s]) rfl hs;have e2:k8 (mUn (j8 "tuple") (zB 0)) [.v (toD e)]=some true:=by
   unfold k8;rw[jV (f:=zB 0) (r:=[.v (toD e)]) (x:=toD e) rfl (ZN e)];rfl
  have e3:zB 0 [.v (toD e)]=some (toD e):=rfl;show qH _ _ _ (toD e::l.map ptD) [s]=_;unfold qH;rw[e1,aa,e2,aa,if_pos rfl,e3,aa,ih];rfl
theorem tM(e:Ex):(pts e).length<=7:=by cases e<;>simp[pts]
theorem ZO(e:Ex):∃as,vE [.v (toD e)]=some (.v (.lst ((ch e).map toD)),as):=by
 refine xP (r':=[.v (toD e)]) ?_;show dR [.v (toD e)]=_;unfold dR;refine yI ?_;unfold xR xI;have it:mIt (zB 0) [.v (toD e)]=some ((pts e).map ptD):=by
  unfold mIt;rw[show zB 0 [.v (toD e)]=some (toD e) from rfl,mM];rfl
 have:=tM e
 rw[it,aa,if_pos (by rw[ak];exact bh (show _<100 by lia) (by decide)),show YE [] 1 [.v (toD e)]=[.un] from rfl,uQ _ .un trivial (zAH e)];rfl
def tn(es:List Ex):Nat:=(es.map nd).sum
theorem kL(a b:List Ex):tn (a++b)=tn a+tn b:=by simp[tn]
theorem ZA(e:Ex):nd e=1+tn (ch e):=by cases e<;>simp[nd,tn,ch,pts,ptE,List.filterMap]<;>lia
theorem zDR(l:List Ex):l.length<=tn l:=by
 induction l with
 |nil=>exact ae 0
 |cons a l ih=>have:=ZA a;show l.length+1<=nd a+(l.map nd).sum;unfold tn at ih;lia
def zJA:MS:=(zZ (QH 3 (oV 2)) (zZ (sX (zCN 1 (zB 3))) (sX (zLS 2 (mUn zIU (zM 1 vE (zA (zB 3) zK)))))))
theorem bH(x:Sl):∀(n:Nat) (es:List Ex) (F:List D) (s:Sl),fre s->tn es<=n->F.length+n<=10000->∃F' s',F'.length<=F.length+n/\∀m,qB (n+1+m) (oU (YD 2)) zJA [x,.o F,.o (es.map toD),s]=some (.nx [x,.o F',.o [],s'])
 |n,[],F,s,hs,h1,h2=>⟨F,s,re ..,λm=>by rw[show n+1+m=(n+m)+1 by lia];exact vQ rfl⟩
 |0,e::es,F,s,hs,h1,h2=>by
  have:=ZA e
  have:tn (e::es)=nd e+tn es:=by simp[tn]
  lia
 |n+1,e0::es0,F,s,hs,h1,h2=>by
  obtain⟨es,e,he⟩:∃es e,e0::es0=es++[e]:=⟨(e0::es0).dropLast,(e0::es0).getLast (by simp),(rm (by simp)).symm⟩;rw[he] at h1 ⊢;rw[kL] at h1;have hn:=ZA e;have h1':tn es+nd e<=n+1:=by simpa [tn] using h1
  have hc:tn ((ch e).reverse)=tn (ch e):=by simp[tn,List.sum_reverse]
  have cl:=zDR (ch e);have le:=zDR es;obtain⟨F',s',q1,q2⟩:=bH x n (es++(ch e).reverse) (F++[toD e]) (.v (toD e)) trivial (by rw[kL,hc];lia) (by simp;lia);refine⟨F',s',by simp at q1;lia,λm=>?_⟩;rw[show n+1+1+m=(n+1+m)+1 by lia];have em:(es++[e]).map toD=es.map toD++[toD e]:=by simp
  have cd:oU (YD 2) [x,.o F,.o ((es++[e]).map toD),s]=some true:=by rw[em];show some (!(es.map toD++[toD e]).isEmpty)=_;simp
  rw[bV (r':=[x,.o (F++[toD e]),.o ((es++(ch e).reverse).map toD),.v (toD e)]) cd ?_,q2 m];unfold zJA;rw[em];have p1:QH 3 (oV 2) [x,.o F,.o (es.map toD++[toD e]),s]=some (.nx [x,.o F,.o (es.map toD),.v (toD e)]):=by
   unfold QH;rw[zEO (S:=es.map toD) (d:=toD e) rfl,aa];show(yN 3 (toD e) [x,.o F,.o (es.map toD),s]).map Fl.nx=_;rw[zW (r:=[x,.o F,.o (es.map toD),s]) (x:=s) rfl hs];rfl
  rw[yT p1];have p2:sX (zCN 1 (zB 3)) [x,.o F,.o (es.map toD),.v (toD e)]=some (.nx [x,.o (F++[toD e]),.o (es.map toD),.v (toD e)]):=mV (WY (S:=F) rfl rfl (bh (show F.length<20000 by lia) (by decide)));rw[yT p2];refine mV (d:=.non) ?_;unfold zLS;have ci:zM 1 vE (zA (zB 3) zK) [x,.o (F++[toD e]),.o (es.map toD),.v (toD e)]=some (.lst ((ch e).map toD)):=zR (p:=.v (.lst ((ch e).map toD))) (zC (x:=toD e) rfl zN) rfl (ZO e);rw[jV (d:=.lst ((ch e).map toD).reverse) ci rfl,aa];show(some ((ch e).map toD).reverse).bind _=_;rw[aa];show(some (es.map toD)).bind _=_;rw[aa,if_pos (by simp;exact bv (show _<=20000 by lia) (by decide))];show some (D.non,[x,Sl.o (F++[toD e]),.o (es.map toD++((ch e).map toD).reverse),.v (toD e)])=_;simp
theorem Y7(h:nd e<=5000):∃F:List D,F.length<=5000/\∃as,kF [.v (toD e)]=some (.f F,as):=by
 have t1:tn [e]=nd e:=by simp[tn]
 obtain⟨F',s',q1,q2⟩:=bH (.v (toD e)) (nd e) [e] [] .un trivial (by lia) (by simp;lia);refine⟨F',by simp at q1;lia,?_⟩;have w:=q2 (WF-(nd e+1));rw[show nd e+1+(WF-(nd e+1))=WF by unfold WF;lia] at w;unfold zJA at w;refine⟨([.v (toD e),.o F',.o [],s']:En).take 1,?_⟩;unfold kF mkF;have b:k9 [.v (toD e),.un,.un,.un]=some (.rf F' [.v (toD e),.o F',.o [],s']):=by
  unfold k9;rw[yT (r':=[.v (toD e),.o [],.un,.un]) (by rfl),yT (r':=[.v (toD e),.o [],.o ([e].map toD),.un]) (by rfl),yT w];rfl
 show(k9 [.v (toD e),.un,.un,.un]).bind _=_;rw[b];rfl
def zJB:MS:=(zZ (sX (zCN 2 (zB 3))) (Y0 3 (mUn qX (xR (vL 1 kF (zA (zB 4) zK))))))
theorem v5(x y:Sl):∀(es:List Ex) (F:List Int) (i:Int) (s:Sl),fre s->(∀e∈es,nd e<=5000)->F.length+es.length<=1000->∃(F':List Int) (i':Int) (s':Sl),F'.length=F.length+es.length/\nY (yN 4) zJB (es.map toD) [x,y,.o (F.map D.int),.v (.int i),s]=some (.nx [x,y,.o (F'.map D.int),.v (.int i'),s'])
 |[],F,i,s,hs,h,hl=>⟨F,i,s,rfl,rfl⟩
 |e::es,F,i,s,hs,h,hl=>by
  obtain⟨P,p1,as,p2⟩:=Y7 (h e (by simp));obtain⟨F',i',s',q1,q2⟩:=v5 x y es (F++[i]) (i+(P.length:Int)) (.v (toD e)) trivial (λa ha=>h a (by simp[ha])) (by simp at hl ⊢;lia);refine⟨F',i',s',by simp at q1 ⊢;lia,?_⟩;rw[aq,bC (r1:=[x,y,.o (F.map D.int),.v (.int i),.v (toD e)]) (zW (i:=4) (x:=s) rfl hs) (r':=[x,y,.o ((F++[i]).map D.int),.v (.int (i+(P.length:Int))),.v (toD e)]) ?_,q2];unfold zJB;rw[yT (mV (WY (i:=2) (S:=F.map D.int) (d:=.int i) rfl rfl (by rw[ak];exact bh (show F.length<2000 by simp at hl;lia) (by decide))))];have l1:mUn qX (xR (vL 1 kF (zA (zB 4) zK))) [x,y,.o (F.map D.int++[D.int i]),.v (.int i),.v (toD e)]=some (.int (P.length:Int)):=by
   refine jV (x:=.lst P) ?_ rfl;have p2':kF (([toD e]:List D).map Sl.v)=some (.f P,as):=p2;unfold xR vL;rw[zC (x:=toD e) (l:=[]) rfl zN,aa,if_pos (show([toD e]:List D).length=1 from rfl),p2'];rfl
  show Y0 3 _ [x,y,.o (F.map D.int++[D.int i]),.v (.int i),.v (toD e)]=_;unfold Y0;show(mUn qX _ _).bind _=_;rw[l1,cy];rfl
theorem pR(e:Ex)(i:Int)(h:nd e<=5000):∃F:List Int,F.length=(ch e).length/\∃as,yZ [.v (toD e),.v (.int i)]=some (.f (F.map D.int),as):=by
 have hn:=ZA e;have cm:∀(l:List Ex),∀a∈l,nd a<=tn l:=λl=>by
  induction l with
  |nil=>intro a ha;cases ha
  |cons b l ih=>
   intro a ha;have e0:tn (b::l)=nd b+tn l:=by simp[tn]
   rcases ca.mp ha with rfl|ha
   ·lia
   ·have:=ih a ha;lia
 have cl:(ch e).length<=7:=bv (List.length_filterMap_le ..) (tM e);obtain⟨F',i',s',q1,q2⟩:=v5 (.v (toD e)) (.v (.int i)) (ch e) [] (i+1) .un trivial (λa ha=>by have:=cm _ a ha;lia) (by simp;lia);refine⟨F',by simpa using q1,([.v (toD e),.v (.int i),.o (F'.map D.int),.v (.int i'),s']:En).take 2,?_⟩;unfold yZ mkF;have b:yX [.v (toD e),.v (.int i),.un,.un,.un]=some (.rf (F'.map D.int) [.v (toD e),.v (.int i),.o (F'.map D.int),.v (.int i'),s']):=by
  unfold yX;rw[yT (r':=[.v (toD e),.v (.int i),.o [],.un,.un]) (by rfl)];refine zQ (.int (i+1)) (r2:=[.v (toD e),.v (.int i),.o [],.v (.int (i+1)),.un]) (xK rfl zF) (by rfl) ?_;rw[yT (r':=[.v (toD e),.v (.int i),.o (F'.map D.int),.v (.int i'),s']) ?_]
  ·rfl
  ·unfold mW;have it:mIt (zM 1 vE (zA (zB 0) zK)) [.v (toD e),.v (.int i),.o [],.v (.int (i+1)),.un]=some ((ch e).map toD):=by
    have ci:zM 1 vE (zA (zB 0) zK) [.v (toD e),.v (.int i),.o [],.v (.int (i+1)),.un]=some (.lst ((ch e).map toD)):=zR (p:=.v (.lst ((ch e).map toD))) (zC (x:=toD e) rfl zN) rfl (ZO e);unfold mIt;rw[ci];rfl
   rw[it];unfold zJB at q2;exact q2
 show(yX [.v (toD e),.v (.int i),.un,.un,.un]).bind _=_;rw[b];rfl
mutual
inductive Mk (Q:D->Prop):Ex->D->Prop
 |mk (e:Ex) {ys:List D} {m:D} (h:PR Q (pts e) ys) (hm:Q m):Mk Q e (.tup (ys++[m]))
inductive PR (Q:D->Prop):List Pt->List D->Prop
 |nil:PR Q [] []
 |pl (d:D) {l:List Pt} {t:List D} (h:PR Q l t):PR Q (.pl d::l) (d::t)
 |ex {e:Ex} {y:D} {l:List Pt} {t:List D} (hy:Mk Q e y) (h:PR Q l t):PR Q (.ex e::l) (y::t)
end
theorem zAK:∀{l:List Pt} {ys:List D},PR Q l ys->ys.length=l.length
 |_,_,.nil=>rfl
 |_,_,.pl d h=>by simp[zAK h]
 |_,_,.ex _ h=>by simp[zAK h]
def zCS(m:MF):MS:=(sIf (k8 (mUn (j8 "tuple") (zB 5))) (sX (gT 4 (j0 3 m (jU (zB 5) (jU (zB 1) (vF (zCM 3))))))) (sX (zCN 4 (zB 5))))
theorem zI0:∀(l:List Pt) (B:List Int) (P:List D) (s:Sl),fre s->PtOk l->(l.filterMap ptE).length<=B.length->P.length+l.length<=1000->(∀e,Pt.ex e∈l->∀i:Int,∃y,Mk Q e y/\∃as,m [.v (toD e),.v N,.v (.int i)]=some (.v y,as)) ->
  ∃(ys:List D) (B':List Int) (s':Sl),PR Q l ys/\nY (yN 5) (zCS m) (l.map ptD) [E,.v N,I,.o (B.map D.int),.o P,s]=some (.nx [E,.v N,I,.o (B'.map D.int),.o (P++ys),s'])
 |[],B,P,s,hs,h1,h2,h3,h4=>⟨[],B,s,.nil,by rw[dm];rfl⟩
 |.pl d::l,B,P,s,hs,h1,h2,h3,h4=>by
  obtain⟨ys,B',s',q1,q2⟩:=zI0 (E:=E) (I:=I) l B (P++[d]) (.v d) trivial h1.tail h2 (by simp at h3 ⊢;lia) (λe he=>h4 e (by simp[he]));refine⟨d::ys,B',s',.pl d q1,?_⟩;show nY _ _ (d::l.map ptD) _=_;rw[bC (r1:=[E,.v N,I,.o (B.map D.int),.o P,.v d]) (zW (i:=5) (x:=s) rfl hs) (r':=[E,.v N,I,.o (B.map D.int),.o (P++[d]),.v d]) ?_,q2,gq];rfl;have e2:k8 (mUn (j8 "tuple") (zB 5)) [E,.v N,I,.o (B.map D.int),.o P,.v d]=some false:=by
   unfold k8;rw[jV (f:=zB 5) (r:=[E,.v N,I,.o (B.map D.int),.o P,.v d]) (x:=d) rfl (h1 d (by simp))];rfl
  unfold zCS;rw[oS e2];exact mV (WY (i:=4) (S:=P) rfl rfl (bh (show P.length<2000 by simp at h3;lia) (by decide)))
 |.ex e::l,B,P,s,hs,h1,h2,h3,h4=>by
  match B,h2 with
  |[],h2=>simp[ptE] at h2
  |b::B,h2=>
   obtain⟨y,hy,as,ey⟩:=h4 e (by simp) b;obtain⟨ys,B',s',q1,q2⟩:=zI0 (E:=E) (I:=I) l B (P++[y]) (.v (toD e)) trivial h1.tail (by simpa [ptE] using h2) (by simp at h3 ⊢;lia) (λe he=>h4 e (by simp[he]));refine⟨y::ys,B',s',.ex hy q1,?_⟩;show nY _ _ (toD e::l.map ptD) _=_
   let R:En:=[E,.v N,I,.o ((b::B).map D.int),.o P,.v (toD e)]
   rw[bC (r1:=R) (zW (i:=5) (x:=s) rfl hs) (r':=[E,.v N,I,.o (B.map D.int),.o (P++[y]),.v (toD e)]) ?_,q2,gq];rfl;have e2:k8 (mUn (j8 "tuple") (zB 5)) R=some true:=by
    unfold k8;rw[jV (f:=zB 5) (r:=R) (x:=toD e) rfl (ZN e)];rfl
   unfold zCS;rw[zCI e2];have cx:j0 3 m (jU (zB 5) (jU (zB 1) (vF (zCM 3)))) R=some (y,[E,.v N,I,.o (B.map D.int),.o P,.v (toD e)]):=by
    have xa:jU (zB 5) (jU (zB 1) (vF (zCM 3))) R=some ([toD e,N,.int b],[E,.v N,I,.o (B.map D.int),.o P,.v (toD e)]):=rfl;have ey':m (([toD e,N,.int b]:List D).map Sl.v)=some (.v y,as):=ey;unfold j0;rw[xa,aa,if_pos (show([toD e,N,.int b]:List D).length=3 from rfl),ey'];rfl
   refine mV (d:=.non) ?_;unfold gT;rw[cx,aa];show(some P).bind _=_;rw[aa];show(some P).bind _=_;rw[aa,if_pos (bh (show P.length<2000 by simp at h3;lia) (by decide))];rfl
theorem zN3(h:Pt.ex a∈pts e):dp a<dp e/\nd a<nd e:=by
 cases e<;>simp[pts] at h
 all_goals first|(subst h;simp[dp,nd];done)|(rcases h with rfl|rfl<;>simp[dp,nd]<;>lia)|(rcases h with rfl|rfl|rfl<;>simp[dp,nd]<;>lia)
theorem nO(N:D)(hQ:∀i:Int,Q (.tup [N,.int i])):∀(k:Nat) (e:Ex) (i:Int),dp e<k->nd e<=5000->∃d,Mk Q e d/\∃as,qI k [.v (toD e),.v N,.v (.int i)]=some (.v d,as)
 |0,e,i,h,_=>by lia
 |k+1,e,i,h,hn=>by
  obtain⟨F,f1,fs,f2⟩:=pR e i hn;have pl:=tM e;obtain⟨ys,B',s',q1,q2⟩:=zI0 (Q:=Q) (m:=qI k) (E:=.v (toD e)) (I:=.v (.int i)) (N:=N) (pts e) F [] .un trivial (zAH e) (jj f1.symm) (by simp;lia) (λa ha j=>by
   have:=zN3 ha
   exact nO N hQ k a j (by lia) (by lia))
  have yl:=zAK q1
  let M:D:=.tup [N,.int i]
  refine⟨.tup (ys++[M]),.mk e q1 (hQ i),xP (r':=[.v (toD e),.v N,.v (.int i),.o (B'.map D.int),.o ys,s']) ?_⟩;show uS (qI k) [.v (toD e),.v N,.v (.int i),.un,.un,.un]=_;unfold uS;have f2':yZ (([toD e,.int i]:List D).map Sl.v)=some (.f (F.map D.int),fs):=f2;have s1:zAB 3 (vL 2 yZ (zA (zB 0) (zA (zB 2) zK))) [.v (toD e),.v N,.v (.int i),.un,.un,.un]=some (.nx [.v (toD e),.v N,.v (.int i),.o (F.map D.int),.un,.un]):=by
   unfold zAB vL;rw[zC (x:=toD e) (l:=[.int i]) rfl (zC rfl zN),aa,if_pos (show([toD e,.int i]:List D).length=2 from rfl),f2'];rfl
  rw[yT s1,yT (r':=[.v (toD e),.v N,.v (.int i),.o (F.map D.int),.o [],.un]) (by rfl)];have s2:mW (yN 5) (mIt (zB 0)) (zCS (qI k)) [.v (toD e),.v N,.v (.int i),.o (F.map D.int),.o [],.un]=some (.nx [.v (toD e),.v N,.v (.int i),.o (B'.map D.int),.o ys,s']):=by
   unfold mW;have it:mIt (zB 0) [.v (toD e),.v N,.v (.int i),.o (F.map D.int),.o [],.un]=some ((pts e).map ptD):=by
    unfold mIt;rw[show zB 0 [.v (toD e),.v N,.v (.int i),.o (F.map D.int),.o [],.un]=some (toD e) from rfl,mM];rfl
   rw[it];exact q2
  unfold zCS at s2;rw[yT s2];refine yI ?_;unfold zBF zPL;have o4:YD 4 [.v (toD e),.v N,.v (.int i),.o (B'.map D.int),.o ys,s']=some ys:=rfl;have l1:yO (zA (xM (zA (zB 1) (zA (zB 2) zK))) zK) [.v (toD e),.v N,.v (.int i),.o (B'.map D.int),.o ys,s']=some [M]:=rfl;rw[o4,aa,l1,aa,if_pos (bv (show ys.length+([M]:List D).length<=100 by show ys.length+1<=100;lia) (by decide))];rfl
noncomputable abbrev tsk(d e:D)(b:Bool):D:=.tup [d,e,.bl b]
def ky(s:List Nat):Key:=.inr ⟨s.toArray⟩
theorem nS(h:ky s=ky t):s=t:=by
 have h1:(⟨s.toArray⟩:Str)=⟨t.toArray⟩:=Sum.inr.inj h;have h2:=congrArg (λx:Str=>x.cps.toList) h1;simpa using h2
theorem tH{st:Mst}(h:mN ⟨mo,s,w++[t],c,.non,df⟩=some st):gY (n+1) ⟨mo,s,w++[t],c,.non,df⟩=gY n st:=by
 show(if (w++[t]).isEmpty=false/\nonB .non=true then (mN _).bind (gY n) else _)=_;rw[if_pos ⟨by simp,rfl⟩,h];rfl
theorem zJS:mN ⟨mo,s,w++[tsk e env false],c,.non,df⟩=(yA ⟨mo,s,w,c,.non,df⟩ [e,env]).map (·.2):=by
 unfold mN;rw[show(w++[tsk e env false]).getLast?=some (tsk e env false) by simp];show(yA ⟨mo,s,(w++[tsk e env false]).dropLast,c,.non,df⟩ _).map _=_;rw[vw]
theorem zJR:mN ⟨mo,s,w++[tsk e env true],c,.non,df⟩=(yF ⟨mo,s,w,c,.non,df⟩ [e]).bind λp=>(qF p.2 [e,env,p.1]).map (·.2):=by
 unfold mN;rw[show(w++[tsk e env true]).getLast?=some (tsk e env true) by simp];show(yF ⟨mo,s,(w++[tsk e env true]).dropLast,c,.non,df⟩ _).bind _=_;rw[vw]
theorem x3(h:n<=100000):n<af:=Nat.lt_of_le_of_lt h (by decide)
theorem beg(h:w.length<=100000):yB ⟨mo,s,w,c,.non,df⟩ [e,env]=some (.non,⟨mo,s,w++[tsk e env false],c,.non,df⟩):=if_pos (x3 h)
theorem zR9{s:Int}{w c:List D}{W:List Nat}{r:List D}{n:Nat}{l:List Int}{ps:List D}(hl:(j5 AH W).getD []=l)(hp:l.reverse.map (λi=>ixD (.tup (.str W::r)) (.int i))=ps.map some)(hw:w.length+l.length<=90000):gY (n+1) ⟨mo,s,w++[tsk (.tup (.str W::r)) env false],c,.non,df⟩=gY n ⟨mo,s,w++tsk (.tup (.str W::r)) env true::ps.map (tsk · env false),c,.non,df⟩:=by
 refine tH ?_;rw[zJS];unfold yA;show Option.map _ (if w.length<af then _ else none)=_;rw[if_pos (show w.length<af from x3 (by lia))];show((some ((j5 AH W).getD [])).bind _).map _=_;rw[hl,aa];have hll:l.reverse.length=l.length:=eh;have push:∀(is:List Int) (ps w:List D),is.map (λi=>ixD (.tup (.str W::r)) (.int i))=ps.map some->w.length+is.length<=95000->tK (.tup (.str W::r)) env is ⟨mo,s,w,c,.non,df⟩=some ⟨mo,s,w++ps.map (tsk · env false),c,.non,df⟩:=by
  intro is
  induction is with
  |nil=>intro ps w h _;cases ps with
   |nil=>simp[tK]
   |cons=>cases h
  |cons i is ih=>
   intro ps w h hw;cases ps with
   |nil=>cases h
   |cons p ps=>
    rw[aq,aq] at h;obtain⟨h1,h2⟩:=List.cons.inj h;rw[ao] at hw;unfold tK;rw[h1,aa,beg (by lia),aa,ih ps _ h2 (by simp;lia)];simp
 rw[show zEJ ⟨mo,s,w,c,.non,df⟩ (.tup [.tup (.str W::r),env,.bl true])=⟨mo,s,w++[tsk (.tup (.str W::r)) env true],c,.non,df⟩ from rfl,push _ ps _ hp (by simp;lia)];simp
theorem zR8{st:Mst}(hl:(j5 AH W).getD []=l)(hq:q.length=l.length)(h4:l.length<=4)(hm:ways W=some mm)(h:mm ⟨mo,s,w,c,.non,df⟩ [.tup (.str W::r),env,.lst q]=some (x,st)):gY (n+1) ⟨mo,s,w++[tsk (.tup (.str W::r)) env true],c++q,.non,df⟩=gY n st:=by
 refine tH ?_;rw[zJR];unfold yF;show((some ((j5 AH W).getD [])).bind _).bind _=_;rw[hl,aa,if_pos ⟨by show l.length<=(c++q).length;rw[bb];lia,x3 (by lia)⟩,aa];have e1:(c++q).length-l.length=c.length:=by rw[bb];lia
 show(qF ⟨mo,s,w,(c++q).take ((c++q).length-l.length),.non,df⟩ [_,_,.lst ((c++q).drop ((c++q).length-l.length))]).map _=_;rw[e1,List.take_left,List.drop_left];unfold qF;show(((ways W).bind λmm=>(mm _ _).map _)).map _=_;rw[hm,aa,h];rfl
theorem tel(h:c.length<=100000):yH ⟨mo,s,w,c,.non,df⟩ [v]=some (.non,⟨mo,s,w,c++[v],.non,df⟩):=if_pos (x3 h)
theorem rY:∀ss:List (List Nat),rZ (ss.map ky)=some ss
 |[]=>rfl
 |s::ss=>by
  show(rZ (ss.map ky)).map _=_;rw[rY ss];simp
theorem YW(l:List (List Nat)):(c9 l).Perm l:=by
 unfold c9;split
 ·rename_i h;exact h.choose_spec.1
 ·exact List.Perm.refl _
noncomputable abbrev Fs(α:Type):=List (List Nat×α)
def ksF(fs:Fs α):List Key:=fs.map λp=>ky p.1
def vsF(g:α->D)(fs:Fs α):List D:=fs.map λp=>g p.2
def nsF(fs:Fs α):List (List Nat):=fs.map (·.1)
def lkF:Fs α->List Nat->Option α
 |[],_=>none
 |p::fs,s=>if p.1=s then some p.2 else lkF fs s
def pnF:Fs α->List Nat->α->Fs α
 |[],s,v=>[(s,v)]
 |p::fs,s,v=>if p.1=s then (s,v)::fs else p::pnF fs s v
def drF:Fs α->List Nat->Fs α
 |[],_=>[]
 |p::fs,s=>if p.1=s then drF fs s else p::drF fs s
theorem zGJ(fs:Fs α):ksF fs=(nsF fs).map ky:=by unfold ksF nsF;rw[gm];rfl
theorem bA(g:α->D)(s:List Nat):∀fs:Fs α,yW (ksF fs) (vsF g fs) (ky s)=(lkF fs s).map g
 |[]=>rfl
 |p::fs=>by
  have ih:=bA g s fs;show(if ky p.1=ky s then some (g p.2) else yW (ksF fs) (vsF g fs) (ky s))=_;unfold lkF;by_cases h:p.1=s
  ·rw[if_pos h,if_pos (by rw[h])];rfl
  ·rw[if_neg h,if_neg (λz=>h (nS z)),ih]
theorem lk_none:∀{fs:Fs α},lkF fs s=none↔s∉nsF fs
 |[]=>by simp[lkF,nsF]
 |p::fs=>by
  have ih:=lk_none (s:=s) (fs:=fs);unfold lkF;by_cases h:p.1=s
  ·rw[if_pos h];simp[nsF,h]
  ·rw[if_neg h,ih];have h':¬s=p.1:=λz=>h z.symm
   simp[nsF,h']
theorem bK(h:s∈nsF fs):∃v,lkF fs s=some v:=by
 cases e:lkF fs s with
 |none=>exact absurd h (lk_none.mp e)
 |some v=>exact⟨v,rfl⟩
theorem zP8(s:List Nat)(fs:Fs α):((ksF fs).any λj=>decide (j=ky s))=decide (s∈nsF fs):=by
 rw[ma,List.any_eq_true,decide_eq_true_iff];constructor
 ·rintro ⟨k,hk,e⟩;obtain⟨p,hp,rfl⟩:=fo.mp hk;exact fo.mpr ⟨p,hp,nS (of_decide_eq_true e)⟩
 ·intro h;obtain⟨p,hp,e⟩:=fo.mp h;exact⟨ky p.1,fo.mpr ⟨p,hp,rfl⟩,decide_eq_true (by rw[e])⟩
theorem zET:∀{fs:Fs α},s∉nsF fs->pnF fs s v=fs++[(s,v)]
 |[],_=>rfl
 |p::fs,h=>by
  have h1:¬p.1=s:=λz=>h (by simp[nsF,z])
  have h2:s∉nsF fs:=λz=>h (by show s∈p.1::nsF fs;exact bm _ z)
  unfold pnF;rw[if_neg h1,zET h2];rfl
theorem W5(g:α->D)(s:List Nat)(d:D):∀{fs:Fs α},s∉nsF fs->List.zipWith (λj e=>if j=ky s then d else e) (ksF fs) (vsF g fs)=vsF g fs
 |[],_=>rfl
 |p::fs,h=>by
  have h1:¬ky p.1=ky s:=λz=>h (by simp[nsF,nS z])
  have h2:s∉nsF fs:=λz=>h (by show s∈p.1::nsF fs;exact bm _ z)
  show(if ky p.1=ky s then d else g p.2)::List.zipWith _ (ksF fs) (vsF g fs)=_;rw[if_neg h1,W5 g s d h2];rfl
theorem zER(g:α->D):∀{fs:Fs α},(nsF fs).Nodup->s∈nsF fs->ksF (pnF fs s v)=ksF fs/\vsF g (pnF fs s v)=List.zipWith (λj e=>if j=ky s then g v else e) (ksF fs) (vsF g fs)
 |[],_,h=>by simp[nsF] at h
 |p::fs,hn,h=>by
  have hn':p.1∉nsF fs/\(nsF fs).Nodup:=dl.mp hn;have hz:List.zipWith (λj e=>if j=ky s then g v else e) (ksF (p::fs)) (vsF g (p::fs))=(if ky p.1=ky s then g v else g p.2)::List.zipWith (λj e=>if j=ky s then g v else e) (ksF fs) (vsF g fs):=rfl;rw[hz];unfold pnF;by_cases e:p.1=s
  ·rw[if_pos e,if_pos (by rw[e]),W5 g s (g v) (by rw[<-e];exact hn'.1)];exact⟨by show ky s::ksF fs=ky p.1::ksF fs;rw[e],rfl⟩
  ·have hs:s∈nsF fs:=by
    rcases ca.mp h with z|z
    ·exact absurd z.symm e
    ·exact z
   obtain⟨i1,i2⟩:=zER g (v:=v) hn'.2 hs;rw[if_neg e,if_neg (λz=>e (nS z)),<-i2];exact⟨by show ky p.1::ksF (pnF fs s v)=_;rw[i1];rfl,rfl⟩
theorem zCK(g:α->D)(hn:(nsF fs).Nodup):jL (ksF fs) (vsF g fs) (ky s) (g v)=(ksF (pnF fs s v),vsF g (pnF fs s v)):=by
 unfold jL;rw[zP8];by_cases h:s∈nsF fs
 ·obtain⟨e1,e2⟩:=zER g (v:=v) hn h;rw[if_pos (decide_eq_true h),e1,e2]
 ·rw[if_neg (by rw[decide_eq_false h];decide),zET h];unfold ksF vsF;rw[cy,cy];rfl
theorem zHN(g:α->D)(s:List Nat):∀fs:Fs α,qR (ksF fs) (vsF g fs) (ky s)=(ksF (drF fs s),vsF g (drF fs s))
 |[]=>rfl
 |p::fs=>by
  have ih:=zHN g s fs;show(if ky p.1=ky s then qR (ksF fs) (vsF g fs) (ky s) else (ky p.1::(qR (ksF fs) (vsF g fs) (ky s)).1,g p.2::(qR (ksF fs) (vsF g fs) (ky s)).2))=_;unfold drF;by_cases h:p.1=s
  ·rw[if_pos h,if_pos (by rw[h]),ih]
  ·rw[if_neg h,if_neg (λz=>h (nS z)),ih];rfl
theorem WE(s:List Nat):∀fs:Fs α,(nsF (drF fs s)).Sublist (nsF fs)
 |[]=>List.Sublist.refl _
 |p::fs=>by
  unfold drF;by_cases h:p.1=s
  ·rw[if_pos h];exact(WE s fs).cons _
  ·rw[if_neg h];exact(WE s fs).cons_cons _
theorem zES:∀(fs:Fs α),nsF (pnF fs s v)=if s∈nsF fs then nsF fs else nsF fs++[s]
 |[]=>by simp[pnF,nsF]
 |p::fs=>by
  have ih:=zES (s:=s) (v:=v) fs;unfold pnF;by_cases h:p.1=s
  ·rw[if_pos h,if_pos (by simp[nsF,h])];simp[nsF,h]
  ·rw[if_neg h];show p.1::nsF (pnF fs s v)=_;have h':¬s=p.1:=λz=>h z.symm
   have hm:s∈nsF (p::fs)↔s∈nsF fs:=by simp[nsF,h']
   rw[ih];by_cases q:s∈nsF fs
   ·rw[if_pos q,if_pos (hm.mpr q)];rfl
   ·rw[if_neg q,if_neg (λz=>q (hm.mp z))];rfl
theorem zAL(h:(nsF fs).Nodup):(nsF (pnF fs s v)).Nodup:=by
 rw[zES];by_cases q:s∈nsF fs
 ·rw[if_pos q];exact h
 ·rw[if_neg q];exact qx.mpr ⟨h,by simp,λx hx y hy z=>q (by rw[ba.mp hy] at z;exact z ▸ hx)⟩
theorem zAM:∀{fs:Fs α},(t,w)∈pnF fs s v->(t,w)=(s,v)\/(t,w)∈fs
 |[],h=>by left;simpa [pnF] using h
 |p::fs,h=>by
  unfold pnF at h;by_cases e:p.1=s
  ·rw[if_pos e] at h;rcases ca.mp h with h|h
   ·exact .inl h
   ·exact .inr (bm _ h)
  ·rw[if_neg e] at h;rcases ca.mp h with h|h
   ·exact .inr (by rw[h];exact dw)
   ·exact(zAM h).imp id (bm _)
theorem zB3:∀{fs:Fs α},x∈drF fs s->x∈fs
 |[],h=>by simp[drF] at h
 |p::fs,h=>by
  unfold drF at h;by_cases e:p.1=s
  ·rw[if_pos e] at h;exact bm _ (zB3 h)
  ·rw[if_neg e] at h;rcases ca.mp h with h|h
   ·rw[h];exact dw
   ·exact bm _ (zB3 h)
theorem pY:∀{fs:Fs α},lkF fs s=some v->(s,v)∈fs
 |[],h=>by cases h
 |p::fs,h=>by
  unfold lkF at h;by_cases e:p.1=s
  ·rw[if_pos e] at h;cases h;rw[<-e];exact dw
  ·rw[if_neg e] at h;exact bm _ (pY h)
def sv(fs:Fs α):List α:=(c9 (nsF fs)).filterMap (lkF fs)
theorem J1(fs:Fs α):∀(ss:List (List Nat)),(∀s∈ss,s∈nsF fs)->(ss.filterMap (lkF fs)).map some=ss.map (lkF fs)
 |[],_=>rfl
 |s::ss,h=>by
  obtain⟨v,e⟩:=bK (h s (by simp));have ih:=J1 fs ss λt ht=>h t (by simp[ht])
  rw[cn,e,aq,aq,ih,e]
theorem mP:∀s∈c9 (nsF fs),s∈nsF fs:=λs h=>(YW _).mem_iff.mp h
theorem zDX(fs:Fs α):(sv fs).length=fs.length:=by
 have h:=congrArg List.length (J1 fs (c9 (nsF fs)) mP);rw[ak,ak,uN] at h;unfold sv;rw[h];unfold nsF;rw[ak]
def Rch(T:Nat)(a b:Mst):Prop:=∃k,k<=T/\∀n,gY (k+n) a=gY n b
theorem Rch.trans(h1:Rch T a b)(h2:Rch U b c):Rch (T+U) a c:=by
 obtain⟨k,hk,e⟩:=h1;obtain⟨j,hj,f⟩:=h2;exact⟨k+j,by lia,λn=>by rw[Nat.add_assoc,e,f]⟩
theorem Rch.le(h:Rch T a b)(hT:T<=U):Rch U a b:=by
 obtain⟨k,hk,e⟩:=h;exact⟨k,by lia,e⟩
theorem Rch.one(h:∀n,gY (n+1) a=gY n b):Rch 1 a b:=⟨1,ae _,λn=>by rw[ut];exact h n⟩
inductive Rt where
 |val (v:D)
 |stk (m:D)
 |non
def Fi(df:D)(mo s0:Int)(w cm:List D)(c:Nat)(E:Rt)(st:Mst):Prop:=
 if mo<s0+c then ∃w' c',st=⟨mo,mo,w',c',rS,df⟩ else match E with
 |.val v=>st=⟨mo,s0+c,w,cm++[v],.non,df⟩
 |.stk m=>∃w' c',st=⟨mo,s0+c,w',c',.tup [.str STK,m],df⟩
 |.non=>True
def Tr(df:D)(p q:List D)(c:Nat)(E:Rt)(T:Nat):Prop:=1<=T/\∀(mo s0:Int) (w cm:List D),s0<=mo->w.length+p.length+2*T<=85000->cm.length+q.length+2*T<=85000->∃st,Rch T ⟨mo,s0,w++p,cm++q,.non,df⟩ st/\Fi df mo s0 w cm c E st
def One(df:D)(p q:List D)(f:Int->Int->List D->List D->Mst):Prop:=∀(mo s0:Int) (w cm:List D) (n:Nat),s0<=mo->w.length+p.length<=85000->cm.length+q.length<=85000->gY (n+1) ⟨mo,s0,w++p,cm++q,.non,df⟩=gY n (f mo s0 w cm)
def EOk(V Q:D->Prop)(B c:Nat):Rt->Prop
 |.val v=>V v/\c<=B
 |.stk m=>Q m/\c<=B
 |.non=>c=B+1
def Tot(V Q:D->Prop)(df:D)(K:Nat)(p q:List D)(B n:Nat):Prop:=∃c E T,Tr df p q c E T/\EOk V Q B c E/\T<=n+c*K
section
variable{V Q:D->Prop}{df:D}{K:Nat}{p q p' q':List D}{B:Nat}
theorem Tot.free(h:One df p q λmo s0 w cm=>⟨mo,s0,w++p',cm++q',.non,df⟩)(hp:p'.length<=p.length+2)(hq:q'.length<=q.length+2)(hp2:p.length<=10)(t:Tot V Q df K p' q' B n):Tot V Q df K p q B (n+1):=by
 obtain⟨c,E,T,⟨t1,t2⟩,e,hT⟩:=t;refine⟨c,E,T+1,⟨by lia,λmo s0 w cm h1 h2 h3=>?_⟩,e,by lia⟩;obtain⟨st,r,f⟩:=t2 mo s0 w cm h1 (by lia) (by lia);exact⟨st,by rw[ut];exact(Rch.one λn=>h mo s0 w cm n h1 (by lia) (by lia)).trans r,f⟩
theorem Tot.tell(h:One df p q λmo s0 w cm=>⟨mo,s0,w,cm++[v],.non,df⟩)(hv:V v):Tot V Q df K p q B 1:=by
 refine⟨0,.val v,1,⟨ae _,λmo s0 w cm h1 h2 h3=>⟨_,Rch.one λn=>h mo s0 w cm n h1 (by lia) (by lia),?_⟩⟩,⟨hv,cg _⟩,by lia⟩;unfold Fi;rw[if_neg (by lia)];simp
theorem Tot.stick(h:One df p q λmo s0 w cm=>⟨mo,s0,w,cm,.tup [.str STK,m],df⟩)(hm:Q m):Tot V Q df K p q B 1:=by
 refine⟨0,.stk m,1,⟨ae _,λmo s0 w cm h1 h2 h3=>⟨_,Rch.one λn=>h mo s0 w cm n h1 (by lia) (by lia),?_⟩⟩,⟨hm,cg _⟩,by lia⟩;unfold Fi;rw[if_neg (by lia)];exact⟨w,cm,by simp⟩
theorem Tot.pay(h:One df p q λmo s0 w cm=>if mo<=s0 then ⟨mo,s0,w,cm,rS,df⟩ else ⟨mo,s0+1,w++p',cm++q',.non,df⟩)(hp:p'.length<=p.length+2)(hq:q'.length<=q.length+2)(hp2:p.length<=10)(t:∀b,b<B->Tot V Q df K p' q' b K):Tot V Q df K p q B 1:=by
 cases B with
 |zero=>
  refine⟨1,.non,1,⟨ae _,λmo s0 w cm h1 h2 h3=>⟨_,Rch.one λn=>h mo s0 w cm n h1 (by lia) (by lia),?_⟩⟩,rfl,by lia⟩;unfold Fi;by_cases z:mo<=s0
  ·dsimp only;rw[if_pos z,if_pos (by lia)];obtain rfl:mo=s0:=by lia
   exact⟨w,cm,rfl⟩
  ·rw[if_neg (by lia)];trivial
 |succ b=>
  obtain⟨c,E,T,⟨t1,t2⟩,e,hT⟩:=t b (by lia);refine⟨c+1,E,T+1,⟨by lia,λmo s0 w cm h1 h2 h3=>?_⟩,?_,?_⟩
  ·by_cases z:mo<=s0
   ·refine⟨_,(Rch.one λn=>h mo s0 w cm n h1 (by lia) (by lia)).le (by lia),?_⟩;unfold Fi;dsimp only;rw[if_pos z,if_pos (by lia)];obtain rfl:mo=s0:=by lia
    exact⟨w,cm,rfl⟩
   ·obtain⟨st,r,f⟩:=t2 mo (s0+1) w cm (by lia) (by lia) (by lia);refine⟨st,?_,?_⟩
    ·rw[ut];refine(Rch.one λn=>?_).trans r;rw[h mo s0 w cm n h1 (by lia) (by lia)];dsimp only;rw[if_neg z]
    ·unfold Fi at f ⊢;rw[show s0+1+(c:Int)=s0+((c+1:Nat):Int) by lia] at f;exact f
  ·cases E with
   |val v=>exact⟨e.1,jv e.2⟩
   |stk m=>exact⟨e.1,jv e.2⟩
   |non=>exact congrArg (·+1) (show c=b+1 from e)
  ·rw[Nat.add_mul];lia
theorem Tot.sub{x:D}{V1:D->Prop}(hp:p.length<=10)(h:Tot V1 Q df K [x] [] B n1)(k:∀v,V1 v->∀b,b<=B->Tot V Q df K p (q++[v]) b n2):Tot V Q df K (p++[x]) q B (n1+n2):=by
 obtain⟨c1,E1,T1,⟨a1,a2⟩,e1,l1⟩:=h;have go:∀(mo s0:Int) (w cm:List D) (U:Nat),T1<=U->s0<=mo->w.length+(p++[x]).length+2*U<=85000->cm.length+q.length+2*U<=85000->∃st,Rch T1 ⟨mo,s0,w++(p++[x]),cm++q,.non,df⟩ st/\Fi df mo s0 (w++p) (cm++q) c1 E1 st:=λmo s0 w cm U hU h1 h2 h3=>by
  rw[bb] at h2;obtain⟨st,r,f⟩:=a2 mo s0 (w++p) (cm++q) h1 (by rw[bb];lia) (by rw[bb];show _+0+_<=_;lia);rw[dm,gq] at r;exact⟨st,r,f⟩
 cases E1 with
 |stk m=>
  refine⟨c1,.stk m,T1,⟨a1,λmo s0 w cm h1 h2 h3=>?_⟩,e1,by lia⟩;obtain⟨st,r,f⟩:=go mo s0 w cm T1 (ae _) h1 h2 h3;exact⟨st,r,f⟩
 |non=>
  refine⟨c1,.non,T1,⟨a1,λmo s0 w cm h1 h2 h3=>?_⟩,e1,by lia⟩;obtain⟨st,r,f⟩:=go mo s0 w cm T1 (ae _) h1 h2 h3;exact⟨st,r,f⟩
 |val v=>
  obtain⟨hv,hc⟩:=e1;obtain⟨c2,E2,T2,⟨b1,b2⟩,e2,l2⟩:=k v hv (B-c1) (by lia);refine⟨c1+c2,E2,T1+T2,⟨by lia,λmo s0 w cm h1 h2 h3=>?_⟩,?_,?_⟩
  ·obtain⟨st,r,f⟩:=go mo s0 w cm (T1+T2) (by lia) h1 h2 h3;unfold Fi at f;by_cases z:mo<s0+c1
   ·rw[if_pos z] at f;obtain⟨w',c',rfl⟩:=f;refine⟨_,r.le (by lia),?_⟩;unfold Fi;rw[if_pos (by lia)];exact⟨w',c',rfl⟩
   ·rw[if_neg z] at f;cases (show st=_ from f);rw[bb] at h2;obtain⟨st2,r2,f2⟩:=b2 mo (s0+c1) w cm (by lia) (by lia) (by rw[bb];show _+(_+1)+_<=_;lia);rw[<-gq] at r2;refine⟨st2,r.trans r2,?_⟩;unfold Fi at f2 ⊢;rw[show s0+(c1:Int)+(c2:Int)=s0+((c1+c2:Nat):Int) by lia] at f2;exact f2
  ·cases E2 with
   |val v=>exact⟨e2.1,by have:=e2.2;lia⟩
   |stk m=>exact⟨e2.1,by have:=e2.2;lia⟩
   |non=>have:c2=B-c1+1:=e2;show c1+c2=B+1;lia
  ·rw[Nat.add_mul];lia
theorem zJD{W:List Nat}{r:List D}{l:List Int}{ps:List D}{env:D}(hl:(j5 AH W).getD []=l)(hp:l.reverse.map (λi=>ixD (.tup (.str W::r)) (.int i))=ps.map some)(h2:ps.length<=2)(t:Tot V Q df K (tsk (.tup (.str W::r)) env true::ps.map (tsk · env false)) [] B n):Tot V Q df K [tsk (.tup (.str W::r)) env false] [] B (n+1):=by
 have hl2:l.length=ps.length:=by have:=congrArg List.length hp;simpa using this
 refine Tot.free (λmo s0 w cm n h1 h5 h3=>?_) (by simp;lia) (by simp) (by simp) t;have h6:w.length+l.length<=90000:=by simp at h5;lia
 dsimp only;rw[dm];exact zR9 hl hp h6
theorem ended{W:List Nat}{r:List D}{l:List Int}{env x:D}{f:Int->Int->List D->List D->Mst}(hl:(j5 AH W).getD []=l)(hq:q.length=l.length)(h4:l.length<=4)(hm:ways W=some mm)(h:∀(mo s0:Int) (w cm:List D),w.length<=90000->cm.length<=90000->mm ⟨mo,s0,w,cm,.non,df⟩ [.tup (.str W::r),env,.lst q]=some (x,f mo s0 w cm)):One df [tsk (.tup (.str W::r)) env true] q f:=λmo s0 w cm n h1 h2 h3=>zR8 hl hq h4 hm (h mo s0 w cm (by lia) (by lia))
theorem zFM{W:List Nat}{r:List D}{env:D}(hl:(j5 AH W).getD []=[])(t:Tot V Q df K [tsk (.tup (.str W::r)) env true] [] B n):Tot V Q df K [tsk (.tup (.str W::r)) env false] [] B (n+1):=zJD (ps:=[]) hl rfl (by simp) t
theorem zCL{W:List Nat}{r:List D}{env x:D}{i:Int}{V1:D->Prop}(hl:(j5 AH W).getD []=[i])(hx:ixD (.tup (.str W::r)) (.int i)=some x)(h:Tot V1 Q df K [tsk x env false] [] B n1)(k:∀v,V1 v->∀b,b<=B->Tot V Q df K [tsk (.tup (.str W::r)) env true] [v] b n2):Tot V Q df K [tsk (.tup (.str W::r)) env false] [] B (n1+n2+1):=
 zJD (ps:=[x]) hl (by show[ixD (.tup (.str W::r)) (.int i)]=[some x];rw[hx]) (by simp) (Tot.sub (p:=[_]) (by simp) h k)
theorem zIY{W:List Nat}{r:List D}{env x y:D}{i j:Int}{V1 V2:D->Prop}(hl:(j5 AH W).getD []=[i,j])(hx:ixD (.tup (.str W::r)) (.int i)=some x)(hy:ixD (.tup (.str W::r)) (.int j)=some y)(h1:Tot V1 Q df K [tsk x env false] [] B n1)(h2:∀b,b<=B->Tot V2 Q df K [tsk y env false] [] b n2)(k:∀u v,V1 u->V2 v->∀b,b<=B->Tot V Q df K [tsk (.tup (.str W::r)) env true] [u,v] b n3):Tot V Q df K [tsk (.tup (.str W::r)) env false] [] B (n1+(n2+n3)+1):=
 zJD (ps:=[y,x]) hl (by show[ixD (.tup (.str W::r)) (.int j),ixD (.tup (.str W::r)) (.int i)]=[some y,some x];rw[hx,hy]) (by simp) (Tot.sub (p:=[_,_]) (by simp) h1 λu hu b hb=>Tot.sub (p:=[_]) (q:=[u]) (by simp) (h2 b hb) λv hv b' hb'=>k u v hu hv b' (by lia))
theorem Tot.le(h:Tot V Q df K p q B n)(hn:n<=n'):Tot V Q df K p q B n':=by
 obtain⟨c,E,T,t,e,hT⟩:=h;exact⟨c,E,T,t,e,by lia⟩
section
variable{W:List Nat}{r:List D}{l:List Int}{env:D}{mm:Mst->List D->Option (D×Mst)}
theorem gP(hl:(j5 AH W).getD []=l)(hq:q.length=l.length)(h4:l.length<=4)(hm:ways W=some mm)(h:∀st:Mst,mm st [.tup (.str W::r),env,.lst q]=yH st [v])(hv:V v):Tot V Q df K [tsk (.tup (.str W::r)) env true] q B 1:=Tot.tell (ended (x:=.non) hl hq h4 hm λmo s0 w cm h1 h2=>(h _).trans (tel (by lia))) hv
theorem u0{r0:List D}(hl:(j5 AH W).getD []=l)(hq:q.length=l.length)(h4:l.length<=4)(hm:ways W=some mm)(h:∀st:Mst,mm st [.tup (.str W::r),env,.lst q]=zU st [.tup (.str W::r)])(hr : .str W::r=r0++[m])(hQ:Q m):Tot V Q df K [tsk (.tup (.str W::r)) env true] q B 1:=Tot.stick (ended (x:=.non) hl hq h4 hm λmo s0 w cm h1 h2=>(h _).trans (by rw[hr];unfold zU;simp)) hQ
theorem WX{e' env':D}(hl:(j5 AH W).getD []=l)(hq:q.length=l.length)(h4:l.length<=4)(hm:ways W=some mm)(h:∀st:Mst,mm st [.tup (.str W::r),env,.lst q]=yB st [e',env'])(t:Tot V Q df K [tsk e' env' false] [] B n):Tot V Q df K [tsk (.tup (.str W::r)) env true] q B (n+1):=Tot.free (ended (x:=.non) hl hq h4 hm λmo s0 w cm h1 h2=>(h _).trans (by rw[dm];exact beg (by lia))) (by simp) (by simp) (by simp) t
theorem zRC{e' env':D}(hl:(j5 AH W).getD []=l)(hq:q.length=l.length)(h4:l.length<=4)(hm:ways W=some mm)(h:∀(mo s0:Int) (w cm:List D),w.length<=90000->mm ⟨mo,s0,w,cm,.non,df⟩ [.tup (.str W::r),env,.lst q]=if mo<=s0 then some (.non,⟨mo,s0,w,cm,rS,df⟩) else yB ⟨mo,s0+1,w,cm,.non,df⟩ [e',env'])(t:∀b,b<B->Tot V Q df K [tsk e' env' false] [] b K):Tot V Q df K [tsk (.tup (.str W::r)) env true] q B 1:=Tot.pay (ended (x:=.non) hl hq h4 hm λmo s0 w cm h1 h2=>(h _ _ _ _ h1).trans (by
 by_cases z:mo<=s0
 ·rw[if_pos z,if_pos z]
 ·rw[if_neg z,if_neg z,dm];exact beg (by lia))) (by simp) (by simp) (by simp) t
end
end
noncomputable def FN:List Nat:=[102,110]
def WOk(M:List (List Nat)):Ex->Prop
 |.num n=>small n
 |.nm s=>s∈M
 |.emp=>True
 |.tag l n=>l∈M/\small n
 |.lab w l e=>(w=FN\/w=[103,101,116]\/w=[108,101,115,115]\/w=[119,105,100,101])/\l∈M/\WOk M e
 |.nev e=>WOk M e
 |.fld w l n e=>(w=[119,105,116,104]\/w=[112,117,116])/\l∈M/\small n/\WOk M e
 |.bin w a b=>(w=[100,111]\/w=[43]\/w=[45]\/w=[42]\/w=[60])/\WOk M a/\WOk M b
 |.ite a b c=>WOk M a/\WOk M b/\WOk M c
 |.cas a l x b y c=>l∈M/\x∈M/\y∈M/\WOk M a/\WOk M b/\WOk M c
def Cl:Ex->(List Nat->Prop)->Prop
 |.num _,_=>True
 |.nm s,P=>P s
 |.emp,_=>True
 |.tag _ _,_=>True
 |.lab w l e,P=>Cl e λs=>(w=FN/\s=l)\/P s
 |.nev e,P=>Cl e P
 |.fld _ _ _ e,P=>Cl e P
 |.bin _ a b,P=>Cl a P/\Cl b P
 |.ite a b c,P=>Cl a P/\Cl b P/\Cl c P
 |.cas a _ x b y c,P=>Cl a P/\Cl b (λs=>s=x\/P s)/\Cl c (λs=>s=y\/P s)
theorem Cl.mono:∀{e:Ex} {P P':List Nat->Prop},(∀s,P s->P' s)->Cl e P->Cl e P'
 |.num _,_,_,_,_=>trivial
 |.nm s,_,_,h,c=>h s c
 |.emp,_,_,_,_=>trivial
 |.tag _ _,_,_,_,_=>trivial
 |.lab _ _ e,_,_,h,c=>Cl.mono (e:=e) (λs q=>q.imp id (h s)) c
 |.nev e,_,_,h,c=>Cl.mono (e:=e) h c
 |.fld _ _ _ e,_,_,h,c=>Cl.mono (e:=e) h c
 |.bin _ a b,_,_,h,c=>⟨Cl.mono h c.1,Cl.mono h c.2⟩
 |.ite _ _ _,_,_,h,c=>⟨Cl.mono h c.1,Cl.mono h c.2.1,Cl.mono h c.2.2⟩
 |.cas _ _ _ _ _ _,_,_,h,c=>⟨Cl.mono h c.1,Cl.mono (λs q=>q.imp id (h s)) c.2.1,Cl.mono (λs q=>q.imp id (h s)) c.2.2⟩
theorem zGF:∀{l m:List (List Nat)},l.Nodup->(∀x∈l,x∈m)->l.length<=m.length
 |[],_,_,_=>cg _
 |x::l,m,hn,h=>by
  obtain⟨h1,h2⟩:=dl.mp hn;have hx:=h x (by simp)
  have:=zGF (m:=m.erase x) h2 λy hy=>(vq (λe:y=x=>h1 (by rw[<-e];exact hy))).mpr (h y (by simp[hy]))
  rw[tq hx] at this
  have:=uv hx
  rw[ao];lia
structure NmC(s:List Nat):Prop where
 len:s.length<=9
 ch:∀x∈s,x<1114112
def ev(G:Fs D):D:=.dct (ksF G) (vsF id G)
def rc(fs:Fs Int):D:=.tup [.str [114,101,99],.dct (ksF fs) (vsF .int fs)]
structure Cx where
 M:List (List Nat)
 A:List (List Nat)
 N:Nat
 Q:D->Prop
structure GOk(X:Cx)(G:Fs α):Prop where
 nd:(nsF G).Nodup
 mm:∀s∈nsF G,s∈X.M
inductive VOk (X:Cx):D->Prop
 |int {n:Int} (h:small n):VOk X (.int n)
 |one {l:List Nat} {n:Int} (hl:l∈X.M) (h:small n):VOk X (.tup [.str [111,110,101],.str l,.int n])
 |rc {fs:Fs Int} (h:GOk X fs) (hi:∀p∈fs,small p.2):VOk X (rc fs)
 |fn {x:List Nat} {e:Ex} {d:D} {G:Fs D} (hx:x∈X.M) (hm:Mk X.Q e d) (ho:WOk X.M e) (hc:Cl e λs=>s=x\/s∈nsF G\/s∈X.A) (hn:nd e<=X.N) (h:GOk X G) (hv:∀p∈G,VOk X p.2):VOk X (.tup [.str [102,110],.str x,d,ev G])
theorem GOk.len{G:Fs α}(h:GOk X G):(ksF G).length<=X.M.length:=by
 rw[zGJ,ak];exact zGF h.nd h.mm
theorem GOk.put{G:Fs α}(h:GOk X G)(hs:s∈X.M):GOk X (pnF G s v):=⟨zAL h.nd,λt ht=>by
 rw[zES] at ht;split at ht
 ·exact h.mm t ht
 ·rcases bf.mp ht with q|q
  ·exact h.mm t q
  ·rw[ba.mp q];exact hs⟩
theorem pn_in{G:Fs α}:t∈nsF (pnF G s v)↔t=s\/t∈nsF G:=by
 rw[zES];split
 ·rename_i h;exact⟨.inr,λq=>q.elim (λe=>e ▸ h) id⟩
 ·rw[bf,ba];exact⟨λq=>q.elim .inr .inl,λq=>q.elim .inr .inl⟩
theorem GOk.drop{G:Fs α}(h:GOk X G):GOk X (drF G s):=⟨h.nd.sublist (WE s G),λt ht=>h.mm t ((WE s G).subset ht)⟩
theorem kR(h:Mk Q e d):∃ys m,d=.tup (ys++[m])/\PR Q (pts e) ys/\Q m:=by
 cases h with
 |mk _ h hm=>exact⟨_,_,rfl,h,hm⟩
theorem j7(h:PR Q (.pl d::l) ys):∃t,ys=d::t/\PR Q l t:=by
 cases h with
 |pl _ h=>exact⟨_,rfl,h⟩
theorem vY(h:PR Q (.ex e::l) ys):∃y t,ys=y::t/\Mk Q e y/\PR Q l t:=by
 cases h with
 |ex hy h=>exact⟨_,_,rfl,hy,h⟩
theorem kN(h:PR Q [] ys):ys=[]:=by cases h;rfl
structure Df(X:Cx)(F:Fs D):Prop where
 nm:nsF F=X.A
 ok:∀p∈F,∃e,Mk X.Q e p.2/\WOk X.M e/\Cl e (·∈X.A)/\nd e<=X.N
 len:X.M.length<=63
 nmc:∀s∈X.M,NmC s
abbrev TT(X:Cx)(F:Fs D)(p q:List D)(B n:Nat):Prop:=Tot (VOk X) X.Q (ev F) (2*X.N) p q B n
theorem rR{V:D->Prop}{K:Nat}(h:Mk Q (.num n) d)(hv:V (.int n)):Tot V Q df K [tsk d env false] [] B 2:=by
 obtain⟨ys,m,rfl,h0,hq⟩:=kR h;obtain⟨_,rfl,h1⟩:=j7 h0;obtain⟨_,rfl,h2⟩:=j7 h1;cases kN h2;exact zFM rfl (gP (l:=[]) rfl rfl (by decide) rfl (λ_=>rfl) hv)
def Sg(X:Cx)(F:Fs D)(b:Nat)(e:Ex):Prop:=∀(d:D) (G:Fs D),Mk X.Q e d->WOk X.M e->nd e<=X.N->Cl e (λs=>s∈nsF G\/s∈X.A)->GOk X G->(∀p∈G,VOk X p.2)->TT X F [tsk d (ev G) false] [] b (2*nd e)
theorem GOk.lt{G:Fs α}(h:GOk X G)(hl:X.M.length<=63):(ksF G).length<af:=x3 (by have:=h.len;lia)
theorem JQ(w:List Nat)(i j:Int):small (wk w i j):=by
 unfold wk small;have q:∀z:Int,0<=z % 1000000/\z % 1000000<1000000:=λz=>⟨cq _ (by decide),ck _ (by decide)⟩
 split
 ·exact q _
 ·split
  ·exact q _
  ·split
   ·exact q _
   ·split<;>decide
theorem JW{G:Fs D}(hv:∀p∈G,VOk X p.2)(h:VOk X v):∀p∈pnF G s v,VOk X p.2:=λp hp=>by
 obtain⟨a,b⟩:=p;rcases zAM hp with e|e
 ·cases e;exact h
 ·exact hv _ e
section
variable{X:Cx}{F:Fs D}{B:Nat}{G:Fs D}
theorem zOX(hD:Df X F)(ih:∀b,b<B->∀e,Sg X F b e):Sg X F B (.nm s):=λd G hm ho hn hc hG hv=>by
 obtain⟨ys,m,rfl,h0,hq⟩:=kR hm;obtain⟨_,rfl,h1⟩:=j7 h0;obtain⟨_,rfl,h2⟩:=j7 h1;cases kN h2;refine zFM (n:=1) rfl ?_;have lk:=bA id s G;cases e:lkF G s with
 |some v=>
  rw[e] at lk;refine gP (l:=[]) (v:=v) (mm:=wA) rfl rfl (by decide) rfl (λst=>?_) (hv _ (pY e));show(match yW (ksF G) (vsF id G) (ky s) with|some v=>yH st [v]|none=>_)=_;rw[lk];rfl
 |none=>
  rw[e] at lk;have ha:s∈nsF F:=by rw[hD.nm];exact hc.resolve_left (lk_none.mp e)
  obtain⟨x,ex⟩:=bK ha;obtain⟨e',m1,m2,m3,m4⟩:=hD.ok _ (pY ex);have lf:=bA id s F;rw[ex] at lf;refine zRC (l:=[]) (e':=x) (env':=ev []) (mm:=wA) rfl rfl (by decide) rfl (λmo s0 w cm hw=>?_) λb hb=>(ih b hb e' x [] m1 m2 m4 (m3.mono λs h=>.inr h) ⟨jt,λ_ h=>by cases h⟩ (λ_ h=>by cases h)).le (by lia)
  show(match yW (ksF G) (vsF id G) (ky s) with|some v=>yH _ [v]|none=>(jH _ []).bind λp=>match p.1,p.2.defs with
   |.bl true,.dct ks l=>(yW ks l (ky s)).bind λd=>yB p.2 [d,.dct [] []]
   |.bl false,_=>some (.non,p.2)
   |_,_=>none)=_
  rw[lk];show(jH _ []).bind _=_;unfold jH;show Option.bind (if mo<=s0 then _ else _) _=_;by_cases z:mo<=s0
  ·rw[if_pos z,if_pos z];rfl
  ·rw[if_neg z,if_neg z,aa];show(yW (ksF F) (vsF id F) (ky s)).bind _=_;rw[lf];rfl
theorem zOZ(hD:Df X F)(ih:∀b,b<B->∀e,Sg X F b e)(ha:∀b,b<=B->Sg X F b a)(hb:∀b,b<=B->Sg X F b c):Sg X F B (.bin [100,111] a c):=λd G hm ho hn hc hG hv=>by
 obtain⟨ys,m,rfl,h0,hq⟩:=kR hm;obtain⟨_,rfl,h1⟩:=j7 h0;obtain⟨x,_,rfl,hx,h2⟩:=vY h1;obtain⟨y,_,rfl,hy,h3⟩:=vY h2;cases kN h3;have hn':1+nd a+nd c<=X.N:=hn;refine Tot.le (zIY (i:=1) (j:=2) (n3:=1) rfl rfl rfl (ha B (ae _) x G hx ho.2.1 (by lia) hc.1 hG hv) (λb hb'=>hb b hb' y G hy ho.2.2 (by lia) hc.2 hG hv) λu v hu hw b hb'=>?_) (by show _<=2*(1+nd a+nd c);lia);cases hu with
 |int _=>exact u0 (l:=[1,2]) (r0:=[_,x,y]) rfl rfl (by decide) rfl (λ_=>rfl) rfl hq
 |one _ _=>exact u0 (l:=[1,2]) (r0:=[_,x,y]) rfl rfl (by decide) rfl (λ_=>rfl) rfl hq
 |rc _ _=>exact u0 (l:=[1,2]) (r0:=[_,x,y]) rfl rfl (by decide) rfl (λ_=>rfl) rfl hq
 |@fn z e' d' G' k1 k2 k3 k4 k5 k6 k7=>
  refine zRC (l:=[1,2]) (e':=d') (env':=ev (pnF G' z v)) (mm:=kJ) rfl rfl (by decide) rfl (λmo s0 w cm hw=>?_) λb' hb2=>(ih b' (by lia) e' d' (pnF G' z v) k2 k3 k5 (k4.mono λs h=>?_) (k6.put k1) (JW k7 hw)).le (by lia)
  ·show(if (ksF G').length<af then (jH _ []).bind _ else none)=_;rw[if_pos (k6.lt hD.len)];unfold jH;show Option.bind (if mo<=s0 then _ else _) _=_;by_cases z:mo<=s0
   ·rw[if_pos z,if_pos z];rfl
   ·rw[if_neg z,if_neg z,aa];show yB _ [d',.dct (jL (ksF G') (vsF id G') (ky _) (id v)).1 (jL (ksF G') (vsF id G') (ky _) (id v)).2]=_;rw[zCK id k6.nd];rfl
  ·rcases h with h|h|h
   ·exact .inl (pn_in.mpr (.inl h))
   ·exact .inl (pn_in.mpr (.inr h))
   ·exact .inr h
end
section
variable{X:Cx}{F:Fs D}{B:Nat}{G:Fs D}
theorem mU(hw:ways w=some yC)(hl:(j5 AH w).getD []=[1,2])(ha:∀b,b<=B->Sg X F b a)(hb:∀b,b<=B->Sg X F b c):Sg X F B (.bin w a c):=λd G hm ho hn hc hG hv=>by
 obtain⟨ys,m,rfl,h0,hq⟩:=kR hm;obtain⟨_,rfl,h1⟩:=j7 h0;obtain⟨x,_,rfl,hx,h2⟩:=vY h1;obtain⟨y,_,rfl,hy,h3⟩:=vY h2;cases kN h3;have hn':1+nd a+nd c<=X.N:=hn;refine Tot.le (zIY (i:=1) (j:=2) (n3:=1) hl rfl rfl (ha B (ae _) x G hx ho.2.1 (by lia) hc.1 hG hv) (λb hb'=>hb b hb' y G hy ho.2.2 (by lia) hc.2 hG hv) λu v hu hv2 b hb'=>?_) (by show _<=2*(1+nd a+nd c);lia);have st:(∀st:Mst,yC st [.tup [.str w,x,y,m],ev G,.lst [u,v]]=zU st [.tup [.str w,x,y,m]])->TT X F [tsk (.tup [.str w,x,y,m]) (ev G) true] [u,v] b 1:=λh=>u0 (l:=[1,2]) (r0:=[_,x,y]) hl rfl (by decide) hw h rfl hq
 cases hu with
 |int hi=>
  cases hv2 with
  |int hj=>exact gP (l:=[1,2]) hl rfl (by decide) hw (λs=>if_pos ⟨hi,hj⟩) (.int (JQ ..))
  |one _ _=>exact st λ_=>rfl
  |rc _ _=>exact st λ_=>rfl
  |fn _ _ _ _ _ _ _=>exact st λ_=>rfl
 |one _ _=>cases hv2<;>exact st λ_=>rfl
 |rc _ _=>cases hv2<;>exact st λ_=>rfl
 |fn _ _ _ _ _ _ _=>cases hv2<;>exact st λ_=>rfl
theorem zOY(w:List Nat)(hw:w=FN):Sg X F B (.lab w l e):=λd G hm ho hn hc hG hv=>by
 subst hw;obtain⟨ys,m,rfl,h0,hq⟩:=kR hm;obtain⟨_,rfl,h1⟩:=j7 h0;obtain⟨_,rfl,h2⟩:=j7 h1;obtain⟨x,_,rfl,hx,h3⟩:=vY h2;cases kN h3;have hn':1+nd e<=X.N:=hn;refine Tot.le (n:=2) (zFM (n:=1) rfl (gP (l:=[]) (mm:=kI) rfl rfl (by decide) rfl (λ_=>rfl) ?_)) (by show 2<=2*(1+nd e);lia);exact .fn ho.2.1 hx ho.2.2 (Cl.mono (e:=e) (λs h=>h.imp (·.2) id) hc) (by lia) hG hv
theorem J7{mm:Mst->List D->Option (D×Mst)}(hf:w≠FN)(hw:ways w=some mm)(hl:(j5 AH w).getD []=[2])(ha:∀b,b<=B->Sg X F b e)(k:∀(x m v:D) (env:D) (b:Nat),VOk X v->l∈X.M->((∀s:Mst,mm s [.tup [.str w,.str l,x,m],env,.lst [v]]=zU s [.tup [.str w,.str l,x,m]])->TT X F [tsk (.tup [.str w,.str l,x,m]) env true] [v] b 1)->TT X F [tsk (.tup [.str w,.str l,x,m]) env true] [v] b 1):Sg X F B (.lab w l e):=λd G hm ho hn hc hG hv=>by
 obtain⟨ys,m,rfl,h0,hq⟩:=kR hm;obtain⟨_,rfl,h1⟩:=j7 h0;obtain⟨_,rfl,h2⟩:=j7 h1;obtain⟨x,_,rfl,hx,h3⟩:=vY h2;cases kN h3;have hn':1+nd e<=X.N:=hn;exact Tot.le (zCL (i:=2) (n2:=1) hl rfl (ha B (ae _) x G hx ho.2.2 (by lia) (Cl.mono (e:=e) (λs h=>h.elim (λz=>absurd z.1 hf) id) hc) hG hv) λv hv2 b hb=>k x m v (ev G) b hv2 ho.2.1 λh=>u0 (l:=[2]) (r0:=[_,_,x]) hl rfl (by decide) hw h rfl hq) (by show _<=2*(1+nd e);lia)
theorem zJ4(ha:∀b,b<=B->Sg X F b e):Sg X F B (.lab [103,101,116] l e):=J7 (mm:=qE) (by decide) rfl rfl ha λx m v env b hv hl st=>by
 cases hv with
 |int _=>exact st λ_=>rfl
 |one _ _=>exact st λ_=>rfl
 |fn _ _ _ _ _ _ _=>exact st λ_=>rfl
 |@rc fs h hi=>
  have lk:=bA D.int l fs;cases e:lkF fs l with
  |none=>
   rw[e] at lk;refine st λs=>?_
   show(match yW (ksF fs) (vsF .int fs) (ky l) with|some u=>yH s [u]|none=>_)=_;rw[lk];rfl
  |some i=>
   rw[e] at lk;refine gP (l:=[2]) (v:=.int i) (mm:=qE) rfl rfl (by decide) rfl (λs=>?_) (.int (hi _ (pY e)));show(match yW (ksF fs) (vsF .int fs) (ky l) with|some u=>yH s [u]|none=>_)=_;rw[lk];rfl
theorem zD7(ha:∀b,b<=B->Sg X F b e):Sg X F B (.lab [108,101,115,115] l e):=J7 (mm:=wB) (by decide) rfl rfl ha λx m v env b hv hl st=>by
 cases hv with
 |int _=>exact st λ_=>rfl
 |one _ _=>exact st λ_=>rfl
 |fn _ _ _ _ _ _ _=>exact st λ_=>rfl
 |@rc fs h hi=>
  have lk:=bA D.int l fs;cases e:lkF fs l with
  |none=>
   rw[e] at lk;refine st λs=>?_
   show(match yW (ksF fs) (vsF .int fs) (ky l) with|some u=>yH s [_]|none=>_)=_;rw[lk];rfl
  |some i=>
   rw[e] at lk;refine gP (l:=[2]) (v:=rc (drF fs l)) (mm:=wB) rfl rfl (by decide) rfl (λs=>?_) (.rc h.drop λp hp=>hi p (zB3 hp));show(match yW (ksF fs) (vsF .int fs) (ky l) with|some u=>yH s [.tup [.str [114,101,99],.dct (qR (ksF fs) (vsF .int fs) (ky l)).1 (qR (ksF fs) (vsF .int fs) (ky l)).2]]|none=>_)=_;rw[lk,zHN];rfl
theorem zD6(ha:∀b,b<=B->Sg X F b e):Sg X F B (.lab [119,105,100,101] l e):=J7 (mm:=x5) (by decide) rfl rfl ha λx m v env b hv hl st=>by
 cases hv with
 |int _=>exact st λ_=>rfl
 |rc _ _=>exact st λ_=>rfl
 |fn _ _ _ _ _ _ _=>exact st λ_=>rfl
 |@one l2 _ hl2 hn=>
  by_cases e:l2≠l
  ·exact gP (l:=[2]) (mm:=x5) rfl rfl (by decide) rfl (λs=>if_pos e) (.one hl2 hn)
  ·exact st λs=>if_neg e
theorem zJ0:Sg X F B (.tag l n):=λd G hm ho hn hc hG hv=>by
 obtain⟨ys,m,rfl,h0,hq⟩:=kR hm;obtain⟨_,rfl,h1⟩:=j7 h0;obtain⟨_,rfl,h2⟩:=j7 h1;obtain⟨x,_,rfl,hx,h3⟩:=vY h2;cases kN h3;exact Tot.le (zCL (i:=2) (n2:=1) (V1:=(· = .int n)) rfl rfl (rR hx rfl) λv hv2 b hb=>by
  subst hv2;exact gP (l:=[2]) (mm:=qZ) rfl rfl (by decide) rfl (λs=>rfl) (.one ho.1 ho.2)) (by show _<=2*2;lia)
theorem zJ2(ha:∀b,b<=B->Sg X F b e):Sg X F B (.nev e):=λd G hm ho hn hc hG hv=>by
 obtain⟨ys,m,rfl,h0,hq⟩:=kR hm;obtain⟨_,rfl,h1⟩:=j7 h0;obtain⟨x,_,rfl,hx,h3⟩:=vY h1;cases kN h3;have hn':1+nd e<=X.N:=hn;exact Tot.le (zCL (i:=1) (n2:=1) rfl rfl (ha B (ae _) x G hx ho (by lia) hc hG hv) λv hv2 b hb=>u0 (l:=[1]) (mm:=wN) (r0:=[_,x]) rfl rfl (by decide) rfl (λs=>rfl) rfl hq) (by show _<=2*(1+nd e);lia)
theorem zJ3(ha:∀b,b<=B->Sg X F b a)(hb:∀b,b<=B->Sg X F b c)(hb2:∀b,b<=B->Sg X F b c2):Sg X F B (.ite a c c2):=λd G hm ho hn hc hG hv=>by
 obtain⟨ys,m,rfl,h0,hq⟩:=kR hm;obtain⟨_,rfl,h1⟩:=j7 h0;obtain⟨x,_,rfl,hx,h2⟩:=vY h1;obtain⟨y,_,rfl,hy,h3⟩:=vY h2;obtain⟨z,_,rfl,hz,h4⟩:=vY h3;cases kN h4;have hn':1+nd a+nd c+nd c2<=X.N:=hn;refine Tot.le (zCL (i:=1) (n2:=2*(nd c+nd c2)+1) rfl rfl (ha B (ae _) x G hx ho.1 (by lia) hc.1 hG hv) λv hv2 b hb'=>?_) (by show _<=2*(1+nd a+nd c+nd c2);lia);have st:(∀st:Mst,jM st [.tup [.str [105,102],x,y,z,m],ev G,.lst [v]]=zU st [.tup [.str [105,102],x,y,z,m]])->TT X F [tsk (.tup [.str [105,102],x,y,z,m]) (ev G) true] [v] b (2*(nd c+nd c2)+1):=λh=>Tot.le (u0 (l:=[1]) (r0:=[_,x,y,z]) rfl rfl (by decide) rfl h rfl hq) (by lia)
 cases hv2 with
 |one _ _=>exact st λ_=>rfl
 |rc _ _=>exact st λ_=>rfl
 |fn _ _ _ _ _ _ _=>exact st λ_=>rfl
 |@int i hi=>
  by_cases e:i=0
  ·exact Tot.le (WX (l:=[1]) (mm:=jM) rfl rfl (by decide) rfl (λs=>if_pos e) (hb2 b hb' z G hz ho.2.2 (by lia) hc.2.2 hG hv)) (by lia)
  ·exact Tot.le (WX (l:=[1]) (mm:=jM) rfl rfl (by decide) rfl (λs=>if_neg e) (hb b hb' y G hy ho.2.1 (by lia) hc.2.1 hG hv)) (by lia)
theorem zH8{e:Ex}(h:Cl e λs=>s=x\/s∈nsF G\/s∈X.A):Cl e λs=>s∈nsF (pnF G x v)\/s∈X.A:=h.mono λs q=>by
 rcases q with q|q|q
 ·exact .inl (pn_in.mpr (.inl q))
 ·exact .inl (pn_in.mpr (.inr q))
 ·exact .inr q
theorem zJ5(hD:Df X F)(ha:∀b,b<=B->Sg X F b a)(hb:∀b,b<=B->Sg X F b c)(hb2:∀b,b<=B->Sg X F b c2):Sg X F B (.cas a l p c r c2):=λd G hm ho hn hc hG hv=>by
 obtain⟨ys,m,rfl,h0,hq⟩:=kR hm;obtain⟨_,rfl,h1⟩:=j7 h0;obtain⟨x,_,rfl,hx,h2⟩:=vY h1;obtain⟨_,rfl,h3⟩:=j7 h2;obtain⟨_,rfl,h4⟩:=j7 h3;obtain⟨y,_,rfl,hy,h5⟩:=vY h4;obtain⟨_,rfl,h6⟩:=j7 h5;obtain⟨z,_,rfl,hz,h7⟩:=vY h6;cases kN h7;have hn':1+nd a+nd c+nd c2<=X.N:=hn;obtain⟨_,o1,o2,o3,o4,o5⟩:=ho;refine Tot.le (zCL (i:=1) (n2:=2*(nd c+nd c2)+1) rfl rfl (ha B (ae _) x G hx o3 (by lia) hc.1 hG hv) λv hv2 b hb'=>?_) (by show _<=2*(1+nd a+nd c+nd c2);lia);have st:(∀st:Mst,xU st [.tup [.str [99,97,115,101],x,.str l,.str p,y,.str r,z,m],ev G,.lst [v]]=zU st [.tup [.str [99,97,115,101],x,.str l,.str p,y,.str r,z,m]])->TT X F [tsk (.tup [.str [99,97,115,101],x,.str l,.str p,y,.str r,z,m]) (ev G) true] [v] b (2*(nd c+nd c2)+1):=λh=>Tot.le (u0 (l:=[1]) (r0:=[_,x,_,_,y,_,z]) rfl rfl (by decide) rfl h rfl hq) (by lia)
 cases hv2 with
 |int _=>exact st λ_=>rfl
 |rc _ _=>exact st λ_=>rfl
 |fn _ _ _ _ _ _ _=>exact st λ_=>rfl
 |@one l2 i hl2 hi=>
  by_cases e:l2=l
  ·refine Tot.le (WX (l:=[1]) (e':=y) (env':=ev (pnF G p (.int i))) (mm:=xU) rfl rfl (by decide) rfl (λs=>?_) (hb b hb' y _ hy o4 (by lia) (zH8 hc.2.1) (hG.put o1) (JW hv (.int hi)))) (by lia);show(if (ksF G).length<af then if l2=l then yB s [y,.dct (jL (ksF G) (vsF id G) (ky p) (id (.int i))).1 (jL (ksF G) (vsF id G) (ky p) (id (.int i))).2] else _ else none)=_;rw[if_pos (hG.lt hD.len),if_pos e,zCK id hG.nd];rfl
  ·refine Tot.le (WX (l:=[1]) (e':=z) (env':=ev (pnF G r (.tup [.str [111,110,101],.str l2,.int i]))) (mm:=xU) rfl rfl (by decide) rfl (λs=>?_) (hb2 b hb' z _ hz o5 (by lia) (zH8 hc.2.2) (hG.put o2) (JW hv (.one hl2 hi)))) (by lia);show(if (ksF G).length<af then if l2=l then _ else yB s [z,.dct (jL (ksF G) (vsF id G) (ky r) (id (.tup [.str [111,110,101],.str l2,.int i]))).1 (jL (ksF G) (vsF id G) (ky r) (id (.tup [.str [111,110,101],.str l2,.int i]))).2] else none)=_;rw[if_pos (hG.lt hD.len),if_neg e,zCK id hG.nd];rfl
theorem zD8{mm:Mst->List D->Option (D×Mst)}(hw:ways w=some mm)(hl:(j5 AH w).getD []=[2,3])(ha:∀b,b<=B->Sg X F b e)(k:∀(x y m v:D) (env:D) (b:Nat),VOk X v->l∈X.M->small n->((∀s:Mst,mm s [.tup [.str w,.str l,x,y,m],env,.lst [.int n,v]]=zU s [.tup [.str w,.str l,x,y,m]])->TT X F [tsk (.tup [.str w,.str l,x,y,m]) env true] [.int n,v] b 1)->TT X F [tsk (.tup [.str w,.str l,x,y,m]) env true] [.int n,v] b 1):Sg X F B (.fld w l n e):=λd G hm ho hn hc hG hv=>by
 obtain⟨ys,m,rfl,h0,hq⟩:=kR hm;obtain⟨_,rfl,h1⟩:=j7 h0;obtain⟨_,rfl,h2⟩:=j7 h1;obtain⟨x,_,rfl,hx,h3⟩:=vY h2;obtain⟨y,_,rfl,hy,h4⟩:=vY h3;cases kN h4;have hn':2+nd e<=X.N:=hn;exact Tot.le (zIY (i:=2) (j:=3) (n3:=1) (V1:=(· = .int n)) hl rfl rfl (rR hx rfl) (λb hb=>ha b hb y G hy ho.2.2.2 (by lia) hc hG hv) λu v hu hv2 b hb=>by
  subst hu;exact k x y m v (ev G) b hv2 ho.2.1 ho.2.2.1 λh=>u0 (l:=[2,3]) (r0:=[_,_,x,y]) hl rfl (by decide) hw h rfl hq) (by show _<=2*(2+nd e);lia)
theorem zEG{fs:Fs Int}(h:GOk X fs)(hi:∀p∈fs,small p.2)(hl:l∈X.M)(hn:small n):VOk X (rc (pnF fs l n)):=.rc (h.put hl) λp hp=>by
 obtain⟨a,b⟩:=p;rcases zAM hp with e|e
 ·cases e;exact hn
 ·exact hi _ e
theorem zD5(hD:Df X F)(ha:∀b,b<=B->Sg X F b e):Sg X F B (.fld [119,105,116,104] l n e):=zD8 (mm:=xT) rfl rfl ha λx y m v env b hv hl hn st=>by
 cases hv with
 |int _=>exact st λ_=>rfl
 |one _ _=>exact st λ_=>rfl
 |fn _ _ _ _ _ _ _=>exact st λ_=>rfl
 |@rc fs h hi=>
  have lk:=bA D.int l fs;have sh:∀s:Mst,xT s [.tup [.str [119,105,116,104],.str l,x,y,m],env,.lst [.int n,rc fs]]=if yW (ksF fs) (vsF .int fs) (ky l)=none then if (ksF fs).length<af then yH s [.tup [.str [114,101,99],.dct (jL (ksF fs) (vsF .int fs) (ky l) (.int n)).1 (jL (ksF fs) (vsF .int fs) (ky l) (.int n)).2]] else none else zU s [.tup [.str [119,105,116,104],.str l,x,y,m]]:=λs=>rfl
  by_cases e:lkF fs l=none
  ·rw[e] at lk;exact gP (l:=[2,3]) (v:=rc (pnF fs l n)) (mm:=xT) rfl rfl (by decide) rfl (λs=>by rw[sh,if_pos (show yW (ksF fs) (vsF D.int fs) (ky l)=none from lk),if_pos (h.lt hD.len),zCK D.int h.nd];rfl) (zEG h hi hl hn)
  ·exact st λs=>by rw[sh,if_neg (by rw[lk];simpa using e)]
theorem zJ1(hD:Df X F)(ha:∀b,b<=B->Sg X F b e):Sg X F B (.fld [112,117,116] l n e):=zD8 (mm:=wT) rfl rfl ha λx y m v env b hv hl hn st=>by
 cases hv with
 |int _=>exact st λ_=>rfl
 |one _ _=>exact st λ_=>rfl
 |fn _ _ _ _ _ _ _=>exact st λ_=>rfl
 |@rc fs h hi=>
  have lk:=bA D.int l fs;have sh:∀s:Mst,wT s [.tup [.str [112,117,116],.str l,x,y,m],env,.lst [.int n,rc fs]]=if yW (ksF fs) (vsF .int fs) (ky l)=none then zU s [.tup [.str [112,117,116],.str l,x,y,m]] else if (ksF fs).length<af then yH s [.tup [.str [114,101,99],.dct (jL (ksF fs) (vsF .int fs) (ky l) (.int n)).1 (jL (ksF fs) (vsF .int fs) (ky l) (.int n)).2]] else none:=λs=>rfl
  by_cases e:lkF fs l=none
  ·rw[e] at lk;exact st λs=>by rw[sh,if_pos (show yW (ksF fs) (vsF D.int fs) (ky l)=none from lk)]
  ·exact gP (l:=[2,3]) (v:=rc (pnF fs l n)) (mm:=wT) rfl rfl (by decide) rfl (λs=>by rw[sh,if_neg (by rw[lk];simpa using e),if_pos (h.lt hD.len),zCK D.int h.nd];rfl) (zEG h hi hl hn)
theorem zOL(hD:Df X F)(B:Nat):∀e,Sg X F B e:=by
 induction B using Nat.strongRecOn with
 |_ B ih=>
  have up:∀{e},Sg X F B e->∀b,b<=B->Sg X F b e:=λh b hb=>by
   rcases Nat.lt_or_eq_of_le hb with q|rfl
   ·exact ih b q _
   ·exact h
  intro e
  induction e with
  |num n=>exact λd G hm ho hn hc hG hv=>rR hm (.int ho)
  |nm s=>exact zOX hD ih
  |emp=>
    intro d G hm ho hn hc hG hv;obtain⟨ys,m,rfl,h0,hq⟩:=kR hm;obtain⟨_,rfl,h1⟩:=j7 h0;cases kN h1;exact zFM (n:=1) rfl (gP (l:=[]) (v:=rc []) (mm:=xX) rfl rfl (by decide) rfl (λ_=>rfl) (.rc ⟨jt,λ_ h=>by cases h⟩ λ_ h=>by cases h))
  |tag l n=>exact zJ0
  |lab w l e h=>
    intro d G hm ho;rcases ho.1 with rfl|rfl|rfl|rfl
    ·exact zOY FN rfl d G hm ho
    ·exact zJ4 (up h) d G hm ho
    ·exact zD7 (up h) d G hm ho
    ·exact zD6 (up h) d G hm ho
  |nev e h=>exact zJ2 (up h)
  |fld w l n e h=>
    intro d G hm ho;rcases ho.1 with rfl|rfl
    ·exact zD5 hD (up h) d G hm ho
    ·exact zJ1 hD (up h) d G hm ho
  |bin w a b h1 h2=>
    intro d G hm ho;rcases ho.1 with rfl|rfl|rfl|rfl|rfl
    ·exact zOZ hD ih (up h1) (up h2) d G hm ho
    ·exact mU rfl rfl (up h1) (up h2) d G hm ho
    ·exact mU rfl rfl (up h1) (up h2) d G hm ho
    ·exact mU rfl rfl (up h1) (up h2) d G hm ho
    ·exact mU rfl rfl (up h1) (up h2) d G hm ho
  |ite a b c h1 h2 h3=>exact zJ3 (up h1) (up h2) (up h3)
  |cas a l x b y c h1 h2 h3=>exact zJ5 hD (up h1) (up h2) (up h3)
end
inductive Wo where
 |int (n:Int)
 |one (l:List Nat) (n:Int)
 |rc (fs:Fs Int)
 |fn (x:List Nat) (d:D) (G:Fs D)
def mv:Wo->D
 |.int n=>.int n
 |.one l n=>.tup [.str [111,110,101],.str l,.int n]
 |.rc fs=>rc fs
 |.fn x d G=>.tup [.str [102,110],.str x,d,ev G]
def du:Wo->D
 |.int n=>.int n
 |.one l n=>.tup [.str [111,110,101],.str l,.int n]
 |.rc fs=>.tup [.str [114,101,99],.tup ((c9 (nsF fs)).filterMap λs=>(lkF fs s).map λv=>.tup [.str s,.int v])]
 |.fn _ _ _=>.tup [.str [102,110]]
def inn:Wo->List Wo
 |.int _=>[]
 |.one _ n=>[.int n]
 |.rc fs=>(sv fs).map .int
 |.fn _ _ _=>[]
def gw:Wo->Prop
 |.rc fs=>(nsF fs).Nodup/\fs.length<=63
 |_=>True
theorem QF(h:f r=some (ss.map ky,l))(hl:ss.length<64):gR f r=some ((c9 ss).map .str):=by
 unfold gR;rw[h,aa];show((rZ (ss.map ky)).bind _)=_;rw[rY,aa,if_pos hl]
theorem zBP(g:α->D)(hl:fs.length<=63):∃as,xE [.v (.tup [.str [114,101,99],.dct (ksF fs) (vsF g fs)])]=some (.v (.lst ((sv fs).map g)),as):=by
 let W:D:=.tup [.str [114,101,99],.dct (ksF fs) (vsF g fs)]
 refine xP (r':=[.v W]) ?_;show kW [.v W]=_;unfold kW;refine qK (by rfl) (yI ?_);have nl:(nsF fs).length=fs.length:=by unfold nsF;rw[ak]
 have sd:gR (dJ (zD ixD (zB 0) (mC (.int 1)))) [.v W]=some ((c9 (nsF fs)).map .str):=QF (l:=vsF g fs) (by rw[<-zGJ];rfl) (by lia);have it:mIt (xR (gR (dJ (zD ixD (zB 0) (mC (.int 1)))))) [.v W]=some ((c9 (nsF fs)).map .str):=by
  unfold mIt xR;rw[sd];rfl
 have e:xR (xS [0] 2 (mIt (xR (gR (dJ (zD ixD (zB 0) (mC (.int 1))))))) (yN 1) (zIK (dJ (zD ixD (zB 0) (mC (.int 1)))) (zB 1))) [.v W]=Option.map D.lst (xS [0] 2 (mIt (xR (gR (dJ (zD ixD (zB 0) (mC (.int 1))))))) (yN 1) (zIK (dJ (zD ixD (zB 0) (mC (.int 1)))) (zB 1)) [.v W]):=rfl;rw[e];unfold xS xI;rw[it,aa,if_pos (by rw[ak,uN];exact x3 (by lia)),show YE [0] 2 [.v W]=[.v W,.un] from rfl]
 let y:List Nat->D:=λs=>((lkF fs s).map g).getD .non
 have:=mG (x:=zIK (dJ (zD ixD (zB 0) (mC (.int 1)))) (zB 1)) (j:=1) (mk:=λs=>[.v W,s]) (g:=D.str) (y:=y) (λs d hs=>zW (i:=1) (x:=s) rfl hs) (c9 (nsF fs)) .un trivial (λs hs=>by
  show yW (ksF fs) (vsF g fs) (ky s)=_;obtain⟨v,e⟩:=bK (mP s hs);rw[bA,e];show _=some (((lkF fs s).map g).getD .non);rw[e];rfl)
 rw[this];have q:(c9 (nsF fs)).map y=(sv fs).map g:=by
  have h:=J1 fs (c9 (nsF fs)) mP;have h2:(c9 (nsF fs)).map y=((c9 (nsF fs)).map (lkF fs)).map λo=>(o.map g).getD .non:=by rw[gm];rfl
  rw[h2,<-h,gm];rfl
 rw[q];rfl
theorem Q7:∀w:Wo,gw w->∃as,xE [.v (mv w)]=some (.v (.lst ((inn w).map mv)),as)
 |.int n,_=>⟨_,rfl⟩
 |.one l n,_=>⟨_,rfl⟩
 |.fn x d G,_=>⟨_,rfl⟩
 |.rc fs,h=>by
  obtain⟨as,e⟩:=zBP (fs:=fs) D.int h.2;refine⟨as,e.trans ?_⟩;unfold inn;rw[gm];rfl
theorem zAX(g:α->D)(hl:fs.length<=63)(hh:hs.length=fs.length):∃as,wG [.v (.tup [.str [114,101,99],.dct (ksF fs) (vsF g fs)]),.v (.lst hs)]=some (.v (.tup [.str [114,101,99],.tup (zJJ ((c9 (nsF fs)).map .str) hs)]),as):=by
 let W:D:=.tup [.str [114,101,99],.dct (ksF fs) (vsF g fs)]
 refine xP (r':=[.v W,.v (.lst hs)]) ?_;show qO [.v W,.v (.lst hs)]=_;unfold qO;refine qK (by rfl) (yI (qA (zC zF (zC ?_ zN)) (by show 2<=100;decide)));have nl:(nsF fs).length=fs.length:=by unfold nsF;rw[ak]
 have sd:xR (gR (dJ (zD ixD (zB 0) (mC (.int 1))))) [.v W,.v (.lst hs)]=some (.lst ((c9 (nsF fs)).map .str)):=by
  unfold xR;rw[QF (ss:=nsF fs) (l:=vsF g fs) (by rw[<-zGJ];rfl) (by lia)];rfl
 unfold zI1;rw[sd,aa];show(if ((c9 (nsF fs)).map D.str).length=hs.length/\((c9 (nsF fs)).map D.str).length<1000 then some (D.tup (zJJ ((c9 (nsF fs)).map .str) hs)) else none)=_;rw[if_pos ⟨by rw[ak,uN,nl,hh],by rw[ak,uN];lia⟩]
theorem zC2(fs:Fs α)(g:α->D):∀ss:List (List Nat),(∀s∈ss,s∈nsF fs)->zJJ (ss.map .str) ((ss.filterMap (lkF fs)).map g)=ss.filterMap λs=>(lkF fs s).map λv=>.tup [.str s,g v]
 |[],_=>rfl
 |s::ss,h=>by
  obtain⟨v,e⟩:=bK (h s (by simp));have ih:=zC2 fs g ss λt ht=>h t (by simp[ht])
  rw[cn,e,cn,e];show D.tup [.str s,g v]::zJJ (ss.map .str) ((ss.filterMap (lkF fs)).map g)=_;rw[ih];rfl
theorem zE5:∀w:Wo,gw w->∃as,wG [.v (mv w),.v (.lst ((inn w).map du))]=some (.v (du w),as)
 |.int n,_=>⟨_,rfl⟩
 |.one l n,_=>⟨_,rfl⟩
 |.fn x d G,_=>⟨_,rfl⟩
 |.rc fs,h=>by
  obtain⟨as,e⟩:=zAX (fs:=fs) D.int (hs:=(inn (.rc fs)).map du) h.2 (by unfold inn;rw[ak,ak,zDX]);refine⟨as,e.trans ?_⟩;have q:(inn (.rc fs)).map du=(sv fs).map D.int:=by unfold inn;rw[gm];rfl
  rw[q];unfold sv;rw[zC2 fs D.int _ mP];rfl
def pre(w:Wo):List Wo:=w::inn w
def sz(w:Wo):Nat:=(pre w).length
def szs(l:List Wo):Nat:=(l.map sz).sum
def YC(l:List Wo):List Wo:=l.flatMap pre
theorem QC(a b:List Wo):szs (a++b)=szs a+szs b:=by simp[szs]
theorem b6(a:Wo)(b:List Wo):szs (a::b)=sz a+szs b:=by simp[szs]
theorem zAJ(a b:List Wo):YC (a++b)=YC a++YC b:=by simp[YC]
theorem vX(a:Wo)(b:List Wo):YC (a::b)=pre a++YC b:=by simp[YC]
theorem ZP(w:Wo):∀u∈inn w,∃n,u=.int n:=by
 intro u hu;cases w<;>simp[inn] at hu
 ·exact⟨_,hu⟩
 ·obtain⟨a,_,e⟩:=hu;exact⟨a,e.symm⟩
theorem tR:∀l:List Wo,(∀u∈l,∃n,u=Wo.int n)->YC l=l
 |[],_=>rfl
 |u::l,h=>by
  obtain⟨n,rfl⟩:=h u (by simp);rw[vX,tR l λv hv=>h v (by simp[hv])];rfl
theorem tS(w:Wo):pre w=w::YC (inn w):=by rw[tR _ (ZP w)];rfl
theorem tQ:∀l:List Wo,(YC l).length=szs l
 |[]=>rfl
 |a::l=>by rw[vX,b6,bb,tQ l];rfl
theorem zDW(w:Wo):sz w=1+szs (inn w):=by
 unfold sz;rw[tS,ao,tQ];lia
theorem zDV(w:Wo):0<sz w:=by have:=zDW w;lia
theorem nW:∀(w:Wo),gw w->(inn w).length<=63
 |.int _,_=>by simp[inn]
 |.one _ _,_=>by simp[inn]
 |.fn _ _ _,_=>by simp[inn]
 |.rc fs,h=>by unfold inn;rw[ak,zDX];exact h.2
theorem zL6(w:Wo)(h:gw w):∀v∈inn w,gw v:=by
 intro v hv;obtain⟨n,rfl⟩:=ZP w v hv;trivial
theorem zOS(w:Wo)(h:gw w):sz w<=64:=by
 have:=nW w h
 show(inn w).length+1<=64;lia
theorem QB:∀l:List Wo,l.length<=szs l
 |[]=>ae _
 |a::l=>by have:=QB l;have:=zDV a;rw[b6,ao];lia
def zIA:MS:=(zZ (sX (gT 1 (oV 2))) (zZ (sIf (mBl (zD gtD (zF9 (YD 1)) (mC (.int 200)))) (wQ (xM (zA (mC (.str [100,101,101,112])) zK))) y0) (sX (zLS 2 (mUn zIU (zM 1 xE (zA (zNT (YD 1) (mUn kP (mC (.int 1)))) zK)))))))
def stk(ts:List Wo):List D:=(ts.map mv).reverse
theorem r6(w:Wo)(ts:List Wo):stk (w::ts)=stk ts++[mv w]:=by simp[stk]
theorem zD0(a b:List Wo):stk (a++b)=stk b++stk a:=by simp[stk]
theorem pA(w:Wo)(ts:List Wo)(F:List D)(hF:F.length<=200):sX (gT 1 (oV 2)) [v0,.o F,.o (stk (w::ts)),.un,.un]=some (.nx [v0,.o (F++[mv w]),.o (stk ts),.un,.un]):=by
 refine mV (d:=.non) ?_;unfold gT;rw[r6,zEO (i:=2) (S:=stk ts) (d:=mv w) rfl,aa];show(if F.length<af then some (D.non,[v0,Sl.o (F++[mv w]),.o (stk ts),.un,.un]) else none)=_;rw[if_pos (x3 (by lia))]
theorem YT(w:Wo)(hg:gw w)(ts:List Wo)(hts:ts.length<=1000)(F:List D)(hF:F.length<200):zIA [v0,.o F,.o (stk (w::ts)),.un,.un]=some (.nx [v0,.o (F++[mv w]),.o (stk (inn w++ts)),.un,.un]):=by
 unfold zIA;rw[yT (pA w ts F (by lia))];have c1:mBl (zD gtD (zF9 (YD 1)) (mC (.int 200))) [v0,.o (F++[mv w]),.o (stk ts),.un,.un]=some (decide ((200:Int)<((F++[mv w]).length:Int))):=nX rfl zF;rw[decide_eq_false (by rw[bb];show ¬(200:Int)<((F.length+1:Nat):Int);lia)] at c1;refine yS c1 (mV (d:=.non) ?_);have ix:zNT (YD 1) (mUn kP (mC (.int 1))) [v0,.o (F++[mv w]),.o (stk ts),.un,.un]=some (mv w):=by
  show atI (F++[mv w]) (-1)=_;exact Z6 ..
 have ci:zM 1 xE (zA (zNT (YD 1) (mUn kP (mC (.int 1)))) zK) [v0,.o (F++[mv w]),.o (stk ts),.un,.un]=some (.lst ((inn w).map mv)):=zR (p:=.v (.lst ((inn w).map mv))) (zC ix zN) rfl (Q7 w hg);unfold zLS;rw[jV (d:=.lst ((inn w).map mv).reverse) ci rfl,aa];show(some ((inn w).map mv).reverse).bind _=_;rw[aa];show(some (stk ts)).bind _=_;have hil:=nW w hg;have sl:(stk ts).length=ts.length:=by simp[stk]
 rw[aa,if_pos (by rw[eh,ak,sl];exact bv (show _<=20000 by lia) (by decide)),zD0];rfl
theorem zDO:oU (YD 2) [v0,a,.o (stk (w::ts)),b,c]=some true:=by
 rw[r6];show some (!(stk ts++[mv w]).isEmpty)=_;simp
theorem c6:∀(n:Nat) (ts:List Wo) (F:List D),(∀w∈ts,gw w)->szs ts<=n->F.length+szs ts<=200->∀m,qB (n+1+m) (oU (YD 2)) zIA [v0,.o F,.o (stk ts),.un,.un]=some (.nx [v0,.o (F++(YC ts).map mv),.o [],.un,.un])
 |n,[],F,hg,hn,h,m=>by
  rw[show n+1+m=(n+m)+1 by lia];have e:F++(YC []).map mv=F:=by simp[YC]
  rw[e];exact vQ rfl
 |0,w::ts,F,hg,hn,h,m=>by rw[b6] at hn;have:=zDV w;lia
 |n+1,w::ts,F,hg,hn,h,m=>by
  rw[b6] at hn h;have hs:=zDW w;have hl:=QB ts;have ih:=c6 (v0:=v0) n (inn w++ts) (F++[mv w]) (λv hv=>by
   rcases bf.mp hv with q|q
   ·exact zL6 w (hg w (by simp)) v q
   ·exact hg v (by simp[q])) (by rw[QC];lia) (by rw[QC,bb];show F.length+1+_<=200;lia) m
  rw[show n+1+1+m=(n+1+m)+1 by lia,bV zDO (YT w (hg w (by simp)) ts (by lia) F (by lia)),ih,zAJ,vX,tS w];simp
def Z4:MS:=(sX (gT 3 (j0 2 wG (jU (zB 4) (vF (cM 3 2 (mIt (zM 1 xE (zA (zB 4) zK))) (yN 1) (oV 0)))))))
theorem zO6:oV 0 [.p (S++[d]),x]=some (d,[.p S,x]):=by
 show(((S++[d])[(S++[d]).length-1]?).bind λe=>some (e,[Sl.p (S++[d]).dropLast,x]))=_;simp
theorem Z1:∀(K L:List D) (S:List D) (x:Sl),fre x->L.length=K.length->∃x',cS (yN 1) (oV 0) L [.p (S++K.reverse),x]=some (K,[.p S,x'])
 |[],[],S,x,_,_=>⟨x,by simp[cS]⟩
 |[],_::_,S,x,_,h=>by cases h
 |_::_,[],S,x,_,h=>by cases h
 |k::K,d::L,S,x,hx,h=>by
  obtain⟨x',e⟩:=Z1 K L S (.v d) trivial (by simpa using h);refine⟨x',?_⟩;rw[jh,<-gq];unfold cS;rw[zW (i:=1) (r:=[.p (S++K.reverse++[k]),x]) (x:=x) rfl hx,aa];show(oV 0 [.p (S++K.reverse++[k]),.v d]).bind _=_;rw[zO6,aa];show(cS (yN 1) (oV 0) L [.p (S++K.reverse),.v d]).map _=_;rw[e];rfl
theorem XC{z1 z2:Sl}(w:Wo)(hg:gw w)(S:List D)(hS:S.length<=1000):Z4 [v0,z1,z2,.o (S++((inn w).map du).reverse),.v (mv w)]=some (.nx [v0,z1,z2,.o (S++[du w]),.v (mv w)]):=by
 unfold Z4;refine mV (d:=.non) ?_
 let R:En:=[v0,z1,z2,.o (S++((inn w).map du).reverse),.v (mv w)]
 have ci:zM 1 xE (zA (zB 4) zK) R=some (.lst ((inn w).map mv)):=zR (p:=.v (.lst ((inn w).map mv))) (zC (x:=mv w) rfl zN) rfl (Q7 w hg);have it:mIt (zM 1 xE (zA (zB 4) zK)) R=some ((inn w).map mv):=by
  unfold mIt;rw[ci];rfl
 have hil:=nW w hg;obtain⟨x,cp⟩:=Z1 ((inn w).map du) ((inn w).map mv) S .un trivial (by rw[ak,ak]);have cx:cM 3 2 (mIt (zM 1 xE (zA (zB 4) zK))) (yN 1) (oV 0) R=some (.lst ((inn w).map du),[v0,z1,z2,.o S,.v (mv w)]):=by
  unfold cM;rw[it,aa];show(some (S++((inn w).map du).reverse)).bind _=_;rw[aa,if_pos (by rw[ak];exact x3 (by lia))];show(cS (yN 1) (oV 0) ((inn w).map mv) [.p (S++((inn w).map du).reverse),.un]).bind _=_;rw[cp];rfl
 have xa:jU (zB 4) (vF (cM 3 2 (mIt (zM 1 xE (zA (zB 4) zK))) (yN 1) (oV 0))) R=some ([mv w,.lst ((inn w).map du)],[v0,z1,z2,.o S,.v (mv w)]):=by
  unfold jU vF;rw[cx];rfl
 obtain⟨as,hp⟩:=zE5 w hg;have hp':wG (([mv w,.lst ((inn w).map du)]:List D).map Sl.v)=some (.v (du w),as):=hp;have cc:j0 2 wG (jU (zB 4) (vF (cM 3 2 (mIt (zM 1 xE (zA (zB 4) zK))) (yN 1) (oV 0)))) R=some (du w,[v0,z1,z2,.o S,.v (mv w)]):=by
  unfold j0;rw[xa,aa,if_pos (show([mv w,.lst ((inn w).map du)]:List D).length=2 from rfl),hp'];rfl
 unfold gT;rw[cc,aa];show(some (S++((inn w).map du).reverse)).bind _=_;rw[aa];show(some S).bind _=_;rw[aa,if_pos (x3 (by lia))];rfl
def Tl(b:Nat)(w:Wo):Prop:=∀(v0 z1 z2:Sl) (rest:List D) (S:List D) (s:Sl),S.length<=b->fre s->nY (yN 4) Z4 ((pre w).reverse.map mv++rest) [v0,z1,z2,.o S,s]=nY (yN 4) Z4 rest [v0,z1,z2,.o (S++[du w]),.v (mv w)]
theorem QA{z1 z2:Sl}:∀(ts:List Wo),(∀w∈ts,Tl b w)->∀(rest:List D) (S:List D) (s:Sl),S.length+ts.length<=b->fre s->∃s',fre s'/\nY (yN 4) Z4 ((YC ts).reverse.map mv++rest) [v0,z1,z2,.o S,s]=nY (yN 4) Z4 rest [v0,z1,z2,.o (S++(ts.map du).reverse),s']
 |[],h,rest,S,s,hb,hs=>⟨s,hs,by simp[YC]⟩
 |w::ts,h,rest,S,s,hb,hs=>by
  rw[ao] at hb;rw[vX,List.reverse_append,cy,gq];obtain⟨s',hs',e⟩:=QA ts (λv hv=>h v (by simp[hv])) ((pre w).reverse.map mv++rest) S s (by lia) hs;refine⟨.v (mv w),trivial,?_⟩;rw[e,h w (by simp) v0 z1 z2 rest _ s' (by rw[bb,eh,ak];lia) hs',aq,jh,gq]
theorem zM8(hb:b<=900)(w:Wo)(hg:gw w)(h:∀v∈inn w,Tl (b+70) v):Tl b w:=by
 intro v0 z1 z2 rest S s hS hs;have hl:=nW w hg;rw[tS,jh,cy,gq];obtain⟨s',hs',e⟩:=QA (v0:=v0) (z1:=z1) (z2:=z2) (inn w) h ([w].map mv++rest) S s (by lia) hs;rw[e];exact bC (zW (i:=4) (x:=s') rfl hs') (XC w hg S (by lia))
theorem zJQ(hb:b<=900)(n:Int):Tl b (.int n):=zM8 hb _ trivial λv hv=>by simp[inn] at hv
theorem zRT(hb:b<=700)(w:Wo)(h:gw w):Tl b w:=zM8 (by lia) _ h λu hu=>by
 obtain⟨n,rfl⟩:=ZP w u hu;exact zJQ (by lia) n
theorem zDQ(w:Wo)(hg:gw w):∃as,W2 [.v (mv w)]=some (.v (du w),as):=by
 have h:=zOS w hg
 let F:List D:=(pre w).map mv
 have s1:=c6 (v0:=.v (mv w)) (sz w) [w] [] (λv hv=>by rw[ba.mp hv];exact hg) (by simp[szs]) (by simp[szs];lia) (WF-(sz w+1));rw[show sz w+1+(WF-(sz w+1))=WF by unfold WF;lia,List.nil_append,show YC [w]=pre w by simp[YC]] at s1;refine xP (r':=[.v (mv w),.o F,.o [],.o [du w],.v (mv w)]) ?_;show p9 [.v (mv w),.un,.un,.un,.un]=_;unfold p9;rw[yT (r':=[.v (mv w),.o [],.un,.un,.un]) (by rfl),yT (r':=[.v (mv w),.o [],.o [mv w],.un,.un]) (by rfl)];unfold zIA at s1;have s1':qB WF _ _ [.v (mv w),.o [],.o [mv w],.un,.un]=some (.nx [.v (mv w),.o F,.o [],.un,.un]):=s1;rw[yT s1',yT (r':=[.v (mv w),.o F,.o [],.o [],.un]) (by rfl)];have s2:sZ 1 (mW (yN 4) (XV (mZs 1)) Z4) [.v (mv w),.o F,.o [],.o [],.un]=some (.nx [.v (mv w),.o F,.o [],.o [du w],.v (mv w)]):=by
  unfold sZ;show((mW _ _ _ [.v (mv w),.z F,.o [],.o [],.un])).bind _=_;unfold mW;rw[show XV (mZs 1) [.v (mv w),.z F,.o [],.o [],.un]=some F.reverse from rfl,aa]
  have:=zRT (b:=0) (by lia) w hg (.v (mv w)) (.z F) (.o []) [] [] .un (by show 0<=0;lia) trivial
  rw[dm,List.map_reverse] at this;rw[this];rfl
 unfold Z4 at s2;rw[yT s2];exact yI rfl
noncomputable abbrev Pr:=List (List Nat×Ex)
def prog(ps:Pr):List D:=ps.map λp=>.tup [.str p.1,toD p.2]
theorem JH{Q:D->Prop}:∀(ps:Pr) (x y:Sl),fre x->fre y->(∀p∈ps,dp p.2<40/\nd p.2<=500/\∀i:Int,Q (.tup [.str p.1,.int i]))->∃F:Fs D,nsF F=ps.map (·.1)/\(∀q∈F,∃e,(q.1,e)∈ps/\Mk Q e q.2)/\qH (dX 2 (qL (yN 0) (qL (yN 1) oQ))) uX (xM (zA (zB 0) (zA (zM 3 (qI RF) (zA (zB 1) (zA (zB 0) (zA (mC (.int 0)) zK)))) zK))) (prog ps) [x,y]=some (F.map λq=>.tup [.str q.1,q.2])
 |[],x,y,hx,hy,h=>⟨[],rfl,(λ_ h=>by cases h),rfl⟩
 |p::ps,x,y,hx,hy,h=>by
  obtain⟨k1,k2,k3⟩:=h p (by simp);obtain⟨d,hd,e⟩:=nO (.str p.1) k3 RF p.2 0 k1 (by lia);obtain⟨F,h1,h3,h2⟩:=JH ps (.v (.str p.1)) (.v (toD p.2)) trivial trivial λq hq=>h q (by simp[hq])
  refine⟨(p.1,d)::F,by show p.1::nsF F=_;rw[h1];rfl,λq hq=>?_,?_⟩
  ·rcases ca.mp hq with rfl|hq
   ·exact⟨p.2,by simp,hd⟩
   ·obtain⟨e,e1,e2⟩:=h3 q hq;exact⟨e,by simp[e1],e2⟩
  have e1:dX 2 (qL (yN 0) (qL (yN 1) oQ)) (.tup [.str p.1,toD p.2]) [x,y]=some [.v (.str p.1),.v (toD p.2)]:=bdP (r1:=[.v (.str p.1),y]) (zW (i:=0) (x:=x) rfl hx) (zW (i:=1) (x:=y) rfl hy);have e2:xM (zA (zB 0) (zA (zM 3 (qI RF) (zA (zB 1) (zA (zB 0) (zA (mC (.int 0)) zK)))) zK)) [.v (.str p.1),.v (toD p.2)]=some (.tup [.str p.1,d]):=qA (zC rfl (zC (zR (p:=.v d) (zC rfl (zC rfl (zC zF zN))) rfl e) zN)) (by show 2<=100;decide);show qH _ _ _ (D.tup [.str p.1,toD p.2]::prog ps) [x,y]=_;unfold qH;rw[e1,aa,show uX [.v (.str p.1),.v (toD p.2)]=some true from rfl,aa,if_pos rfl,e2,aa,h2];rfl
theorem tV:∀F:Fs D,nC (F.map λq=>.tup [.str q.1,q.2])=some (F.map λq=>(ky q.1,q.2))
 |[]=>rfl
 |p::F=>by
  have ih:=tV F;show(nC (D.tup [.str p.1,p.2]::F.map _))=_;unfold nC;rw[ih];rfl
theorem ZT:∀(q:List (Key×D)) (ks:List Key) (l:List D),(∀p∈q,p.1∉ks)->(q.map (·.1)).Nodup->q.foldl (λz p=>jL z.1 z.2 p.1 p.2) (ks,l)=(ks++q.map (·.1),l++q.map (·.2))
 |[],ks,l,h,hn=>by simp
 |p::q,ks,l,h,hn=>by
  have e:jL ks l p.1 p.2=(ks++[p.1],l++[p.2]):=by
   unfold jL;rw[if_neg];intro z;obtain⟨j,h1,h2⟩:=List.any_eq_true.mp z;exact h p (by simp) (of_decide_eq_true h2 ▸ h1)
  rw[aq,dl] at hn;rw[jf,e,ZT q _ _ (λp' hp hm=>by
   rcases bf.mp hm with z|z
   ·exact h p' (by simp[hp]) z
   ·have z':p'.1=p.1:=by simpa using z
    exact hn.1 (z' ▸ fo.mpr ⟨p',hp,rfl⟩)) hn.2]
  simp
theorem tY:∀{l:List (List Nat)},l.Nodup->(l.map ky).Nodup
 |[],_=>jt
 |a::l,h=>by
  rw[dl] at h;rw[aq,dl];refine⟨λz=>?_,tY h.2⟩;obtain⟨b,h1,h2⟩:=fo.mp z;exact h.1 (nS h2 ▸ h1)
theorem zP4{Q:D->Prop}{ps:Pr}(hp:∀p∈ps,dp p.2<40/\nd p.2<=500/\∀i:Int,Q (.tup [.str p.1,.int i]))(hl:ps.length<=1000)(hn:(ps.map (·.1)).Nodup):∃F:Fs D,nsF F=ps.map (·.1)/\(∀q∈F,∃e,(q.1,e)∈ps/\Mk Q e q.2)/\dd (.lst (prog ps))=some (ev F):=by
 obtain⟨F,h1,h3,h2⟩:=JH ps .un .un trivial trivial hp;refine⟨F,h1,h3,?_⟩;unfold dd ddE pW zBG xS xI;have it:mIt (zB 1) [.un,.v (.lst (prog ps)),.v (.int 0)]=some (prog ps):=rfl;rw[it,aa,if_pos (show(prog ps).length<af by unfold prog;rw[ak];exact Nat.lt_of_le_of_lt hl (by decide)),show YE [] 2 [.un,.v (.lst (prog ps)),.v (.int 0)]=[.un,.un] from rfl,h2,aa,tV];show some (D.dct (zCQ (F.map λq=>(ky q.1,q.2))).1 (zCQ (F.map λq=>(ky q.1,q.2))).2)=_;unfold zCQ;have ek:(F.map λq=>(ky q.1,q.2)).map (·.1)=ksF F:=by rw[gm];rfl
 have el:(F.map λq=>(ky q.1,q.2)).map (·.2)=vsF id F:=by rw[gm];rfl
 rw[ZT _ _ _ (λ_ _ z=>by cases z) (by rw[ek,zGJ,h1];exact tY hn),ek,el];rfl
theorem zG7(h:gw w):zNY ⟨mo,s,[],[mv w],.non,df⟩=some (.tup [.str [118,97,108,117,101],.int s,du w]):=by
 obtain⟨as,ht⟩:=zDQ w h;have e:([mv w]:List D).getLast?=some (mv w):=rfl;unfold zNY;show(([mv w]:List D).getLast?.bind _)=_;rw[e,aa,ht];rfl
structure Ly(d:D)(n:Nat):Prop where
 ok:okD d=true
 cl:(toP d).canLay0=true
 dp:(toP d).depth<=n
structure LyL(l:List D)(n:Nat):Prop where
 ok:zFF l=true
 cl:PyData.canLayAll0 (pB l)=true
 dp:PyData.depthAll (pB l)<=n
theorem kH:LyL [] n:=⟨rfl,rfl,cg _⟩
theorem yL(h:Ly d m)(hl:LyL l n)(hm:m<=n):LyL (d::l) n:=by
 refine⟨?_,?_,?_⟩
 ·show(okD d && zFF l)=true;rw[h.ok,hl.ok];rfl
 ·show((toP d).canLay0 && PyData.canLayAll0 (pB l))=true;rw[h.cl,hl.cl];rfl
 ·show max (toP d).depth (PyData.depthAll (pB l))<=n;have:=h.dp;have:=hl.dp;lia
theorem u7(h:LyL l n):Ly (.tup l) (n+1):=⟨h.ok,h.cl,jv h.dp⟩
theorem gK(i:Int):Ly (.int i) 0:=⟨rfl,rfl,ae _⟩
theorem u8(h:PyData.strOk ⟨s.toArray⟩=true):Ly (.str s) 0:=⟨rfl,h,ae _⟩
theorem Ly.n{d:D}{n:Nat}(h:Ly d n)(hn:n<=400):zBH 400 d=true:=by
 unfold zBH;rw[h.ok,h.cl,decide_eq_true (bv h.dp hn)];rfl
theorem NmC.ok(h:NmC s):PyData.strOk ⟨s.toArray⟩=true:=by
 unfold PyData.strOk;simp;exact h.ch
noncomputable def VAL:List Nat:=[118,97,108,117,101]
noncomputable def TIR:List Nat:=[116,105,114,101,100]
noncomputable def zM1:List Nat:=[109,97,105,110]
theorem QX:∀{l:List D},(∀d∈l,Ly d n)->LyL l n
 |[],_=>kH
 |d::l,h=>yL (h d (by simp)) (QX λe he=>h e (by simp[he])) (ae _)
theorem Ly.le{d:D}{a b:Nat}(h:Ly d a)(hn:a<=b):Ly d b:=⟨h.ok,h.cl,bv h.dp hn⟩
theorem zK6:PyData.strOk ⟨([111,110,101]:List Nat).toArray⟩=true:=NmC.ok ⟨by decide,by decide⟩
theorem zKE:PyData.strOk ⟨([114,101,99]:List Nat).toArray⟩=true:=NmC.ok ⟨by decide,by decide⟩
theorem zPU:PyData.strOk ⟨([102,110]:List Nat).toArray⟩=true:=NmC.ok ⟨by decide,by decide⟩
theorem zOF(hD:Df X F)(h:VOk X v):∃w,v=mv w/\gw w/\Ly (du w) 3/\((∃n,du w=.int n)\/∃l,du w=.tup l):=by
 cases h with
 |@int n _=>exact⟨.int n,rfl,trivial,(gK n).le (by decide),.inl ⟨n,rfl⟩⟩
 |@one l n hl _=>exact⟨.one l n,rfl,trivial,(u7 (n:=0) (yL (u8 zK6) (yL (u8 (hD.nmc l hl).ok) (yL (gK n) kH (ae _)) (ae _)) (ae _))).le (by decide),.inr ⟨_,rfl⟩⟩
 |@rc fs g _=>
  have gl:fs.length<=63:=by have:=g.len;have:=hD.len;unfold ksF at *;rw[ak] at *;lia
  refine⟨.rc fs,rfl,⟨g.nd,gl⟩,u7 (n:=2) (yL (u8 zKE) (yL (u7 (n:=1) (QX λd hd=>?_)) kH (ae _)) (by decide)),.inr ⟨_,rfl⟩⟩;obtain⟨s,hs,e⟩:=qq.mp hd;obtain⟨i,ei⟩:=bK (mP s hs);rw[ei] at e;cases e;exact u7 (n:=0) (yL (u8 (hD.nmc s (g.mm s (mP s hs))).ok) (yL (gK i) kH (ae _)) (ae _))
 |@fn x e d G _ _ _ _ _ _ _=>exact⟨.fn x d G,rfl,trivial,(u7 (n:=0) (yL (u8 zPU) kH (ae _))).le (by decide),.inr ⟨_,rfl⟩⟩
structure Ps(ps:Pr)(M:List (List Nat)):Prop where
 nod:(ps.map (·.1)).Nodup
 main:zM1∈ps.map (·.1)
 len:ps.length<=20
 ok:∀p∈ps,dp p.2<40/\nd p.2<=500/\WOk M p.2/\Cl p.2 (·∈ps.map (·.1))/\NmC p.1
 ml:M.length<=63
 nmc:∀s∈M,NmC s
def Gd(A:List (List Nat))(a b:D):Prop:=(a=.str VAL/\Ly b 3/\((∃n,b=.int n)\/∃l,b=.tup l))\/(a=.str STK/\∃s∈A,NmC s/\∃i:Int,b=.tup [.str s,.int i])
def An(c:Nat)(o:Option (D×D))(mo:Int):D:=if mo<c then .tup [.str TIR,.int mo,.non] else match o with
 |some (a,b)=>.tup [a,.int c,b]
 |none=>.non
theorem zOT{st:Mst}(h:st.wait=[]\/nonB st.ended=false):gY (n+1) st=some st:=by
 refine if_neg λz=>?_
 rcases h with h|h
 ·rw[h] at z;cases z.1
 ·rw[h] at z;cases z.2
theorem zR3(h:Ps ps M):∃(c:Nat) (o:Option (D×D)),(o=none->c=41)/\(∀a b,o=some (a,b)->c<=40/\Gd (ps.map (·.1)) a b)/\∀mo:Int,0<=mo->(o=none->mo<=40)->∃as,bU [.v (.lst (prog ps)),.v (.int mo)]=some (.v (An c o mo),as):=by
 let Q:D->Prop:=λm=>∃s∈ps.map (·.1),NmC s/\∃i:Int,m=.tup [.str s,.int i]
 let X:Cx:=⟨M,ps.map (·.1),500,Q⟩
 obtain⟨F,f1,f2,f3⟩:=zP4 (Q:=Q) (ps:=ps) (λp hp=>⟨(h.ok p hp).1,(h.ok p hp).2.1,λi=>⟨p.1,fo.mpr ⟨p,hp,rfl⟩,(h.ok p hp).2.2.2.2,i,rfl⟩⟩) (by have:=h.len;lia) h.nod;have hD:Df X F:=⟨f1,λq hq=>by
  obtain⟨e,e1,e2⟩:=f2 q hq;obtain⟨k1,k2,k3,k4,_⟩:=h.ok _ e1;exact⟨e,e2,k3,k4,k2⟩,h.ml,h.nmc⟩
 obtain⟨d,ed⟩:=bK (fs:=F) (s:=zM1) (by rw[f1];exact h.main);obtain⟨e,m1,m2,m3,m4⟩:=hD.ok _ (pY ed);obtain⟨c,E,T,⟨t1,tr⟩,eo,hT⟩:=zOL hD 40 e d [] m1 m2 m4 (m3.mono λs h=>.inr h) ⟨jt,λ_ h=>by cases h⟩ λ_ h=>by cases h
 have m4':nd e<=500:=m4;have hc:c<=41:=by
  cases E with
  |val v=>have:=eo.2;lia
  |stk m=>have:=eo.2;lia
  |non=>exact jj eo
 have hT2:T<=42000:=by
  have:c*(2*X.N)<=41*(2*X.N):=Nat.mul_le_mul_right _ hc
  have e:X.N=500:=rfl;rw[e] at this hT;lia
 have lf:=bA id zM1 F;rw[ed] at lf;have go:∀(mo:Int) (y:D),0<=mo->(∀st:Mst,Fi (ev F) mo 0 [] [] c E st->(st.wait=[]\/nonB st.ended=false)/\zNY st=some y)->∃as,bU [.v (.lst (prog ps)),.v (.int mo)]=some (.v y,as):=λmo y h0 k=>by
  obtain⟨st,⟨j,hj,r⟩,f⟩:=tr mo 0 [] [] h0 (by simp;lia) (by simp;lia);obtain⟨k1,k2⟩:=k st f;have e1:gY WF ⟨mo,0,[tsk d (ev []) false],[],.non,ev F⟩=some st:=by
   have:=r ((WF-j-1)+1)
   rw[zOT k1,show j+((WF-j-1)+1)=WF by unfold WF;lia] at this;exact this
  refine⟨[.v (.lst (prog ps)),.v (.int mo)],?_⟩;unfold bU;show(dd _).bind _=_;rw[f3,aa];unfold zQO;show((yW (ksF F) (vsF id F) (ky zM1)).bind _).map _=_;rw[lf];show((gY WF ⟨mo,0,[tsk d (ev []) false],[],.non,ev F⟩).bind _).map _=_;rw[e1,aa,k2];rfl
 have tire:∀(mo:Int) (o:Option (D×D)),mo<c->∀st:Mst,Fi (ev F) mo 0 [] [] c E st->(st.wait=[]\/nonB st.ended=false)/\zNY st=some (An c o mo):=λmo o hm st f=>by
  unfold Fi at f;rw[if_pos (by lia)] at f;obtain⟨w',c',rfl⟩:=f;refine⟨.inr rfl,?_⟩;unfold An;rw[if_pos hm];rfl
 cases E with
 |non=>exact⟨c,none,λ_=>eo,λa b h=>by(cases h),λmo h0 hm=>go mo _ h0 (tire mo none (by have:=hm rfl;have:c=40+1:=eo;lia))⟩
 |stk m=>
  refine⟨c,some (.str STK,m),λh=>by(cases h),λa b h=>by(cases h;exact⟨eo.2,.inr ⟨rfl,eo.1⟩⟩),λmo h0 hm=>?_⟩;by_cases z:mo<c
  ·exact go mo _ h0 (tire mo _ z)
  ·refine go mo _ h0 λst f=>?_
   unfold Fi at f;rw[if_neg (by lia)] at f;obtain⟨w',c',rfl⟩:=f;refine⟨.inr rfl,?_⟩;unfold An;rw[if_neg z,on];rfl
 |val v=>
  obtain⟨w,rfl,w2,w3,w4⟩:=zOF hD eo.1;refine⟨c,some (.str VAL,du w),λh=>by(cases h),λa b h=>by(cases h;exact⟨eo.2,.inl ⟨rfl,w3,w4⟩⟩),λmo h0 hm=>?_⟩;by_cases z:mo<c
  ·exact go mo _ h0 (tire mo _ z)
  ·refine go mo _ h0 λst f=>?_
   unfold Fi at f;rw[if_neg (by lia)] at f;cases (show st=_ from f);refine⟨.inl rfl,?_⟩;unfold An;rw[if_neg z,on];exact zG7 w2
theorem JM{α:Type}(a b:List α)(x:α){k:Int}(hk:k=-((b.length:Int)+1)):atI (a++x::b) k=some x:=by
 have e:ixN (a++x::b).length k=some a.length:=by
  unfold ixN;rw[if_neg (by lia),if_pos (by simp;lia)]
  congr 1
  simp;lia
 unfold atI;rw[e];simp
theorem zH7{α:Type}(a b:α)(l:List α):bR (a::b::l) (some 2) none=l:=by
 unfold bR;have e:HT.sIx (a::b::l).length 0 (some 2)=min 2 (a::b::l).length:=HT.sIx_nat _ 0 2;rw[e,HT.sIx_none];simp
theorem Q5:∀l:List Int,X4 (l.map D.int)=some l
 |[]=>rfl
 |i::l=>by simp[X4,Q5 l]
theorem WZ{c1 c2:MB}{r:En}{a:Bool}(e1:c1 r=some a)(e2:a=true->∃b,c2 r=some b):∃b,xG c1 c2 r=some b/\(b=true->a=true/\c2 r=some true):=by
 cases a
 ·exact⟨false,by unfold xG;rw[e1];rfl,λh=>by cases h⟩
 ·obtain⟨b,h⟩:=e2 rfl;refine⟨b,by unfold xG;rw[e1,aa,if_pos rfl,h],λhb=>⟨rfl,by rw[h,hb]⟩⟩
theorem dA{α:Type}(l:List α)(k:Nat)(h:k<=l.length):∃a b,l=a++b/\b.length=k:=⟨l.take (l.length-k),l.drop (l.length-k),(vh _ _).symm,by rw[ja];lia⟩
theorem ZE{f g:ME}{r:En}{i j:Int}(h1:f r=some (.int i))(h2:g r=some (.int j)):zI2 (zA f (zA g zK)) r=some (.int (max i j)):=by
 unfold zI2;rw[zC h1 (zC h2 zN)];show some (D.int (if j > i then j else i))=_
 congr 2
 split<;>lia
theorem uZ{l:List (List Nat)}{r:En}{f g:ME}{i:Int}(hf:f r=some (.lst (l.map .str)))(hg:g r=some (.int i))(h0:0<=i)(h1:i<l.length):∃s∈l,zD ixD f g r=some (.str s):=by
 obtain⟨j,rfl⟩:=ue h0;have hj:j<l.length:=by lia
 refine⟨l[j],List.getElem_mem hj,zP hf hg ?_⟩;show atI (l.map D.str) (j:Int)=_;refine yY ?_;rw[bn,bt hj];rfl
theorem zIE(x:D)(l:List D):atI (x::l) 0=some x:=yY (j:=0) rfl
theorem zRB{r:En}:zD zIJ (mC (.int 10)) (mC (.int 6)) r=some (.int 1000000):=rfl
def itm(e:Ex):D:=.tup [toD e,.int (dp e)]
theorem ix0{f:ME}{r:En}{e:Ex}(h:f r=some (itm e)):zD ixD f (mC (.int 0)) r=some (toD e):=zP h zF (zIE _ _)
theorem ix1{f:ME}{r:En}{e:Ex}(h:f r=some (itm e)):zD ixD f (mC (.int 1)) r=some (.int (dp e)):=zP h zF (yY (j:=1) rfl)
theorem XN{f:ME}{r:En}{n:Int}(h:f r=some (.int n)):xM (zA (mC (.str [110,117,109])) (zA f zK)) r=some (nu n):=qA (zC zF (zC h zN)) (by show 2<=100;decide)
theorem v8{f g:ME}{r:En}{e:Ex}{i:Int}(h:f r=some (toD e))(h2:g r=some (.int i))(hi:i=(dp e:Int)):xM (zA f (zA g zK)) r=some (itm e):=by
 subst hi;exact qA (zC h (zC h2 zN)) (by show 2<=100;decide)
section
variable{NS:List (List Nat)}{c n:Int}
theorem QY(hN:NS.length=6)(n0:0<=n):∃e,WOk NS e/\dp e<=1/\nd e<=2/\∃as,wI [.v (.int c),.v (.int n),.v (.lst (NS.map .str))]=some (.v (itm e),as):=by
 let R1:En:=[.v (.int c),.v (.int n),.v (.lst (NS.map .str)),.v (.int (n / 8)),.un]
 have n8:0<=n / 8:=oy n0 (by decide);have start:∀{h:MS} {z},h R1=z->zZ (xH 3 (zD xY (zB 1) (mC (.int 8)))) h [.v (.int c),.v (.int n),.v (.lst (NS.map .str)),.un,.un]=z:=λq=>zQ (.int (n / 8)) (x4 rfl zF (by decide)) (by rfl) q
 have m8:∀{r:En},zB 1 r=some (.int n)->zD xL (zB 1) (mC (.int 8)) r=some (.int (n % 8)):=λh=>yM h zF (by decide)
 have c1:mBl (zD ltA (zD xL (zB 1) (mC (.int 8))) (mC (.int 4))) R1=some (decide (n % 8<4)):=kK (zP (m8 rfl) zF rfl);by_cases z:n % 8<4
 ·rw[decide_eq_true z] at c1;obtain⟨s,hs,es⟩:=uZ (l:=NS) (r:=R1) (f:=zB 2) (g:=zD xL (zB 3) (mC (.int 6))) (i:=n / 8 % 6) rfl (yM rfl zF (by decide)) (cq _ (by decide)) (by rw[hN];exact ck _ (by decide));refine⟨.nm s,hs,cg _,by show 1<=2;decide,xP (r':=R1) ?_⟩;show yP [.v (.int c),.v (.int n),.v (.lst (NS.map .str)),.un,.un]=_;unfold yP;exact start (qK c1 (yI (v8 (e:=.nm s) (qA (zC zF (zC es zN)) (by show 2<=100;decide)) zF rfl)))
 ·rw[decide_eq_false z] at c1;obtain⟨x,hx,ex⟩:∃x:Int,small x/\zD ixD (xR (yO (zA (zD xL (zB 3) (mC (.int 4))) (zA (zD xL (zD xB (zB 0) (zB 3)) (zD zIJ (mC (.int 10)) (mC (.int 6)))) zK)))) (zD xL (zB 1) (mC (.int 2))) R1=some (.int x):=by
   have l1:xR (yO (zA (zD xL (zB 3) (mC (.int 4))) (zA (zD xL (zD xB (zB 0) (zB 3)) (zD zIJ (mC (.int 10)) (mC (.int 6)))) zK))) R1=some (.lst [.int (n / 8 % 4),.int ((c+n / 8) % 1000000)]):=j3 (zC (yM rfl zF (by decide)) (zC (yM (xK rfl rfl) zRB (by decide)) zN)) (by show 2<=100;decide);have i1:zD xL (zB 1) (mC (.int 2)) R1=some (.int (n % 2)):=yM rfl zF (by decide);have h2:n % 2=0\/n % 2=1:=by lia
   rcases h2 with h2|h2
   ·rw[h2] at i1;exact⟨n / 8 % 4,by unfold small;lia,zP l1 i1 (zIE _ _)⟩
   ·rw[h2] at i1;exact⟨(c+n / 8) % 1000000,by unfold small;lia,zP l1 i1 (yY (j:=1) rfl)⟩
  let R2:En:=[.v (.int c),.v (.int n),.v (.lst (NS.map .str)),.v (.int (n / 8)),.v (.int x)]
  have c2:mBl (zD eqA (zD xL (zB 1) (mC (.int 8))) (mC (.int 4))) R2=some (decide (n % 8=4)):=kK (zP (m8 rfl) zF rfl);have c3:mBl (zD eqA (zD xL (zB 1) (mC (.int 8))) (mC (.int 5))) R2=some (decide (n % 8=5)):=kK (zP (m8 rfl) zF rfl);by_cases z2:n % 8=4
  ·rw[decide_eq_true z2] at c2;obtain⟨s,hs,es⟩:=uZ (l:=NS) (r:=R2) (f:=zB 2) (g:=zD xL (zD xY (zB 3) (mC (.int 4))) (mC (.int 6))) (i:=n / 8 / 4 % 6) rfl (yM (x4 rfl zF (by decide)) zF (by decide)) (cq _ (by decide)) (by rw[hN];exact ck _ (by decide));refine⟨.tag s x,⟨hs,hx⟩,ae _,ae _,xP (r':=R2) ?_⟩;show yP [.v (.int c),.v (.int n),.v (.lst (NS.map .str)),.un,.un]=_;unfold yP;exact start (yS c1 (zQ (.int x) (r2:=R2) ex (by rfl) (qK c2 (yI (v8 (e:=.tag s x) (qA (zC zF (zC es (zC (XN rfl) zN))) (by show 3<=100;decide)) zF rfl)))))
  ·rw[decide_eq_false z2] at c2;by_cases z3:n % 8=5
   ·rw[decide_eq_true z3] at c3;refine⟨.emp,trivial,cg _,by show 1<=2;decide,xP (r':=R2) ?_⟩;show yP [.v (.int c),.v (.int n),.v (.lst (NS.map .str)),.un,.un]=_;unfold yP;exact start (yS c1 (zQ (.int x) (r2:=R2) ex (by rfl) (yS c2 (qK c3 (yI (v8 (e:=.emp) (qA (zC zF zN) (by show 1<=100;decide)) zF rfl))))))
   ·rw[decide_eq_false z3] at c3;refine⟨.num x,hx,cg _,by show 1<=2;decide,xP (r':=R2) ?_⟩;show yP [.v (.int c),.v (.int n),.v (.lst (NS.map .str)),.un,.un]=_;unfold yP;exact start (yS c1 (zQ (.int x) (r2:=R2) ex (by rfl) (yS c2 (yS c3 (yI (v8 (e:=.num x) (XN rfl) zF rfl))))))
noncomputable def ws1:List (List Nat):=[[102,110],[103,101,116],[108,101,115,115],[119,105,100,101],[119,105,116,104],[112,117,116],[102,110],[119,105,116,104]]
theorem zK7(hN:NS.length=6)(n0:0<=n){e:Ex}(he:WOk NS e):∃e',WOk NS e'/\dp e'=dp e+1/\nd e'<=nd e+2/\∃as,qV [.v (.int n),.v (.lst (NS.map .str)),.v (itm e)]=some (.v (itm e'),as):=by
 let R0:En:=[.v (.int n),.v (.lst (NS.map .str)),.v (itm e),.un,.un]
 obtain⟨w,hw,ew⟩:=uZ (l:=ws1) (r:=R0) (f:=xR (yO (zLR ws1))) (g:=zD xL (zB 0) (mC (.int 8))) (i:=n % 8) rfl (yM rfl zF (by decide)) (cq _ (by decide)) (ck _ (by decide))
 let R1:En:=[.v (.int n),.v (.lst (NS.map .str)),.v (itm e),.v (.str w),.un]
 obtain⟨s,hs,es⟩:=uZ (l:=NS) (r:=R1) (f:=zB 1) (g:=zD xL (zD xY (zB 0) (mC (.int 8))) (mC (.int 6))) (i:=n / 8 % 6) rfl (yM (x4 rfl zF (by decide)) zF (by decide)) (cq _ (by decide)) (by rw[hN];exact ck _ (by decide))
 let R2:En:=[.v (.int n),.v (.lst (NS.map .str)),.v (itm e),.v (.str w),.v (.str s)]
 have dp1:zD xB (zD ixD (zB 2) (mC (.int 1))) (mC (.int 1)) R2=some (.int ((dp e:Int)+1)):=xK (ix1 rfl) zF;have x48:0<=n / 48 % 5/\n / 48 % 5<5:=⟨cq _ (by decide),ck _ (by decide)⟩;have start:∀{h:MS} {z},h R2=z->zZ (xH 3 (zD ixD (xR (yO (zLR ws1))) (zD xL (zB 0) (mC (.int 8))))) (zZ (xH 4 (zD ixD (zB 1) (zD xL (zD xY (zB 0) (mC (.int 8))) (mC (.int 6))))) h) R0=z:=λq=>zQ (.str w) (r2:=R1) ew (by rfl) (zQ (.str s) (r2:=R2) es (by rfl) q)
 have fld:∀d:Bool,zF8 (mBl (zD eqA (zB 3) (mC (.str [119,105,116,104])))) (mBl (zD eqA (zB 3) (mC (.str [112,117,116])))) R2=some true->(w=[119,105,116,104]\/w=[112,117,116])->∃e',WOk NS e'/\dp e'=dp e+1/\nd e'<=nd e+2/\∃as,qV [.v (.int n),.v (.lst (NS.map .str)),.v (itm e)]=some (.v (itm e'),as):=λ_ c1 hw'=>by
  refine⟨.fld w s (n / 48 % 5) e,⟨hw',hs,⟨x48.1,by lia⟩,he⟩,rfl,by show 2+nd e<=_;lia,xP (r':=R2) ?_⟩;show xW R0=_;unfold xW;exact start (qK c1 (yI (v8 (e:=.fld w s (n / 48 % 5) e) (qA (zC rfl (zC rfl (zC (XN (yM (x4 rfl zF (by decide)) zF (by decide))) (zC (ix0 rfl) zN)))) (by show 4<=100;decide)) dp1 rfl)))
 have lab:(w=FN\/w=[103,101,116]\/w=[108,101,115,115]\/w=[119,105,100,101])->zF8 (mBl (zD eqA (zB 3) (mC (.str [119,105,116,104])))) (mBl (zD eqA (zB 3) (mC (.str [112,117,116])))) R2=some false->xG (mBl (zD eqA (zB 3) (mC (.str [119,105,100,101])))) (mBl (zD eqA (zD xL (zD xY (zB 0) (mC (.int 48))) (mC (.int 4))) (mC (.int 0)))) R2=some false->∃e',WOk NS e'/\dp e'=dp e+1/\nd e'<=nd e+2/\∃as,qV [.v (.int n),.v (.lst (NS.map .str)),.v (itm e)]=some (.v (itm e'),as):=λhw' c1 c2=>by
  refine⟨.lab w s e,⟨hw',hs,he⟩,rfl,by show 1+nd e<=_;lia,xP (r':=R2) ?_⟩;show xW R0=_;unfold xW;exact start (yS c1 (yS c2 (yI (v8 (e:=.lab w s e) (qA (zC rfl (zC rfl (zC (ix0 rfl) zN))) (by show 3<=100;decide)) dp1 rfl))))
 simp only[ws1,ca,List.not_mem_nil,or_false] at hw;rcases hw with rfl|rfl|rfl|rfl|rfl|rfl|rfl|rfl
 ·exact lab (.inl rfl) rfl rfl
 ·exact lab (.inr (.inl rfl)) rfl rfl
 ·exact lab (.inr (.inr (.inl rfl))) rfl rfl
 ·have c2:xG (mBl (zD eqA (zB 3) (mC (.str [119,105,100,101])))) (mBl (zD eqA (zD xL (zD xY (zB 0) (mC (.int 48))) (mC (.int 4))) (mC (.int 0)))) R2=some (decide (n / 48 % 4=0)):=by
   show mBl (zD eqA (zD xL (zD xY (zB 0) (mC (.int 48))) (mC (.int 4))) (mC (.int 0))) R2=_;exact kK (zP (yM (x4 rfl zF (by decide)) zF (by decide)) zF rfl)
  by_cases z:n / 48 % 4=0
  ·rw[decide_eq_true z] at c2;refine⟨.nev e,he,rfl,by show 1+nd e<=_;lia,xP (r':=R2) ?_⟩;show xW R0=_;unfold xW;exact start (yS (by rfl) (qK c2 (yI (v8 (e:=.nev e) (qA (zC zF (zC (ix0 rfl) zN)) (by show 2<=100;decide)) dp1 rfl))))
  ·rw[decide_eq_false z] at c2;exact lab (.inr (.inr (.inr rfl))) rfl c2
 ·exact fld true rfl (.inl rfl)
 ·exact fld true rfl (.inr rfl)
 ·exact lab (.inl rfl) rfl rfl
 ·exact fld true rfl (.inl rfl)
noncomputable def ws2:List (List Nat):=[[100,111],[43],[100,111],[45],[100,111],[60],[42]]
theorem zDM{a b:Ex}(ha:WOk NS a)(hb:WOk NS b):∃w,WOk NS (.bin w a b)/\∃as,qU [.v (.int n),.v (itm a),.v (itm b)]=some (.v (itm (.bin w a b)),as):=by
 let R0:En:=[.v (.int n),.v (itm a),.v (itm b),.un]
 obtain⟨w,hw,ew⟩:=uZ (l:=ws2) (r:=R0) (f:=xR (yO (zLR ws2))) (g:=zD xL (zB 0) (mC (.int 7))) (i:=n % 7) rfl (yM rfl zF (by decide)) (cq _ (by decide)) (ck _ (by decide));have hw':w=[100,111]\/w=[43]\/w=[45]\/w=[42]\/w=[60]:=by
  simp only[ws2,ca,List.not_mem_nil,or_false] at hw;rcases hw with rfl|rfl|rfl|rfl|rfl|rfl|rfl<;>simp
 refine⟨w,⟨hw',ha,hb⟩,xP (r':=[.v (.int n),.v (itm a),.v (itm b),.v (.str w)]) ?_⟩;show jT R0=_;unfold jT;exact zQ (.str w) (r2:=[.v (.int n),.v (itm a),.v (itm b),.v (.str w)]) ew (by rfl) (yI (v8 (e:=.bin w a b) (qA (zC rfl (zC (ix0 rfl) (zC (ix0 rfl) zN))) (by show 3<=100;decide)) (xK zF (ZE (ix1 rfl) (ix1 rfl))) (by show _=((1+max (dp a) (dp b):Nat):Int);lia)))
theorem JK:∀(hs:List Ex) (x:Sl),fre x->qH (yN 0) uX (zD ixD (zB 0) (mC (.int 1))) (hs.map itm) [x]=some (hs.map λf=>D.int (dp f))
 |[],x,_=>rfl
 |f::hs,x,hx=>by
  have ih:=JK hs (.v (itm f)) trivial;rw[aq,aq];have e1:yN 0 (itm f) [x]=some [.v (itm f)]:=zW (r:=[x]) rfl hx;have e2:zD ixD (zB 0) (mC (.int 1)) [.v (itm f)]=some (.int (dp f)):=ix1 (e:=f) rfl;have e3:uX [.v (itm f)]=some true:=rfl;unfold qH;rw[e1,aa,e3,aa,if_pos rfl,e2,aa,ih];rfl
theorem zRG{f:ME}{r:En}{hs:List Ex}{a:Ex}(h:f r=some (.lst ((a::hs).map itm)))(hl:hs.length<100):dI (xS [] 1 (mIt f) (yN 0) (zD ixD (zB 0) (mC (.int 1)))) r=some (.int ((hs.map λf=>(dp f:Int)).foldl max (dp a:Int))):=by
 have it:mIt f r=some ((a::hs).map itm):=by
  unfold mIt;rw[h];rfl
 have cm:xS [] 1 (mIt f) (yN 0) (zD ixD (zB 0) (mC (.int 1))) r=some (((a::hs).map λf=>(dp f:Int)).map D.int):=by
  unfold xS xI;rw[it,aa,if_pos (by rw[ak,ao];exact x3 (by lia))];show qH _ _ _ _ [.un]=_;rw[JK (a::hs) .un trivial,gm];rfl
 unfold dI;rw[cm,aa,Q5];rfl
theorem JZ(hN:NS.length=6)(n0:0<=n){a b d:Ex}(ha:WOk NS a)(hb:WOk NS b)(hd:WOk NS d):∃e',WOk NS e'/\dp e'=1+max (max (dp a) (dp b)) (dp d)/\nd e'=1+nd a+nd b+nd d/\∃as,jJ [.v (.int n),.v (.lst (NS.map .str)),.v (.lst ([a,b,d].map itm))]=some (.v (itm e'),as):=by
 let R0:En:=[.v (.int n),.v (.lst (NS.map .str)),.v (.lst ([a,b,d].map itm)),.un,.un,.un]
 let m:Int:=1+max (max (dp a:Int) (dp b)) (dp d)
 let R1:En:=[.v (.int n),.v (.lst (NS.map .str)),.v (.lst ([a,b,d].map itm)),.v (.int m),.un,.un]
 have mx:zD xB (mC (.int 1)) (dI (xS [] 1 (mIt (zB 2)) (yN 0) (zD ixD (zB 0) (mC (.int 1))))) R0=some (.int m):=xK zF (zRG (a:=a) (hs:=[b,d]) rfl (by show 2<100;decide));have c1:mBl (zD eqA (zD xL (zB 0) (mC (.int 2))) (mC (.int 0))) R1=some (decide (n % 2=0)):=kK (zP (yM rfl zF (by decide)) zF rfl);have i0:∀{r:En},zB 2 r=some (.lst ([a,b,d].map itm))->zD ixD (zD ixD (zB 2) (mC (.int 0))) (mC (.int 0)) r=some (toD a):=λh=>ix0 (zP h zF (zIE _ _))
 have i1:∀{r:En},zB 2 r=some (.lst ([a,b,d].map itm))->zD ixD (zD ixD (zB 2) (mC (.int 1))) (mC (.int 0)) r=some (toD b):=λh=>ix0 (zP h zF (yY (j:=1) rfl))
 have i2:∀{r:En},zB 2 r=some (.lst ([a,b,d].map itm))->zD ixD (zD ixD (zB 2) (mC (.int 2))) (mC (.int 0)) r=some (toD d):=λh=>ix0 (zP h zF (yY (j:=2) rfl))
 have em:m=((1+max (max (dp a) (dp b)) (dp d):Nat):Int):=by show 1+max (max (dp a:Int) (dp b)) (dp d)=_;lia
 by_cases z:n % 2=0
 ·rw[decide_eq_true z] at c1;refine⟨.ite a b d,⟨ha,hb,hd⟩,rfl,rfl,xP (r':=R1) ?_⟩;show xO R0=_;unfold xO;exact zQ (.int m) (r2:=R1) mx (by rfl) (qK c1 (yI (v8 (e:=.ite a b d) (qA (zC zF (zC (i0 rfl) (zC (i1 rfl) (zC (i2 rfl) zN)))) (by show 4<=100;decide)) rfl em)))
 ·rw[decide_eq_false z] at c1;have q:∀i:Int,0<=i % 6/\i % 6<NS.length:=λi=>⟨cq _ (by decide),by rw[hN];exact ck _ (by decide)⟩
  obtain⟨s,hs,es⟩:=uZ (l:=NS) (r:=R1) (f:=zB 1) (g:=zD xL (zD xY (zB 0) (mC (.int 2))) (mC (.int 6))) (i:=n / 2 % 6) rfl (yM (x4 rfl zF (by decide)) zF (by decide)) (q _).1 (q _).2
  let R2:En:=[.v (.int n),.v (.lst (NS.map .str)),.v (.lst ([a,b,d].map itm)),.v (.int m),.v (.str s),.un]
  obtain⟨x,hx,ex⟩:=uZ (l:=NS) (r:=R2) (f:=zB 1) (g:=zD xL (zD xY (zB 0) (mC (.int 12))) (mC (.int 6))) (i:=n / 12 % 6) rfl (yM (x4 rfl zF (by decide)) zF (by decide)) (q _).1 (q _).2
  let R3:En:=[.v (.int n),.v (.lst (NS.map .str)),.v (.lst ([a,b,d].map itm)),.v (.int m),.v (.str s),.v (.str x)]
  obtain⟨y,hy,ey⟩:=uZ (l:=NS) (r:=R3) (f:=zB 1) (g:=zD xL (zD xY (zB 0) (mC (.int 72))) (mC (.int 6))) (i:=n / 72 % 6) rfl (yM (x4 rfl zF (by decide)) zF (by decide)) (q _).1 (q _).2;refine⟨.cas a s x b y d,⟨hs,hx,hy,ha,hb,hd⟩,rfl,rfl,xP (r':=R3) ?_⟩;show xO R0=_;unfold xO;exact zQ (.int m) (r2:=R1) mx (by rfl) (yS c1 (zQ (.str s) (r2:=R2) es (by rfl) (zQ (.str x) (r2:=R3) ex (by rfl) (yI (v8 (e:=.cas a s x b y d) (qA (zC zF (zC (i0 rfl) (zC rfl (zC rfl (zC (i1 rfl) (zC ey (zC (i2 rfl) zN))))))) (by show 7<=100;decide)) rfl em)))))
end
theorem zRL:∀(l:List Int) (i:Int),i<=l.foldl max i/\∀x∈l,x<=l.foldl max i
 |[],i=>⟨vz _,λ_ h=>by cases h⟩
 |a::l,i=>by
  obtain⟨h1,h2⟩:=zRL l (max i a);show i<=l.foldl max (max i a)/\∀x∈a::l,x<=l.foldl max (max i a);refine⟨by lia,λx hx=>?_⟩;rcases ca.mp hx with rfl|hx
  ·lia
  ·exact h2 x hx
theorem mT{gs hs:List Ex}{k:Int}{r:En}(hv:zB 0 r=some (.lst ((gs++hs).map itm)))(hk : -k=-(hs.length:Int))(h0:0<hs.length):mSl (zB 0) (xA (mUn kP (mC (.int k)))) x2 r=some (.lst (hs.map itm))/\mSl (zB 0) x2 (xA (mUn kP (mC (.int k)))) r=some (.lst (gs.map itm)):=by
 have q:=zCA (gs.map itm) (hs.map itm) (k:=-k) (by rw[ak];exact hk) (by rw[ak];exact h0);rw[<-cy] at q;constructor
 ·refine bF hv (xC (XO zF)) (by rfl) ?_;show some (D.lst (bR _ _ _))=_;rw[q.1]
 ·refine bF hv (by rfl) (xC (XO zF)) ?_;show some (D.lst (bR _ _ _))=_;rw[q.2]
theorem cnd{R:En}{es:List Ex}{c0:MB}{a:Bool}(q:Nat)(hR:zB 0 R=some (.lst (es.map itm)))(q0:0<q)(q1:q<100)(hc:c0 R=some a):∃b,xG c0 (xG (mBl (zD gtD (mUn qX (zB 0)) (mC (.int ((q:Int)-1))))) (mBl (zD ltA (dI (xS [] 1 (mIt (mSl (zB 0) (xA (mUn kP (mC (.int (q:Int))))) x2)) (yN 0) (zD ixD (zB 0) (mC (.int 1))))) (mC (.int 10))))) R=some b/\(b=true->∃gs hs,es=gs++hs/\hs.length=q/\∀e∈hs,dp e<10):=by
 have ln:mUn qX (zB 0) R=some (.int (es.length:Int)):=jV hR (by show some (D.int ((es.map itm).length:Int))=_;rw[ak]);have inner:∃b,xG (mBl (zD gtD (mUn qX (zB 0)) (mC (.int ((q:Int)-1))))) (mBl (zD ltA (dI (xS [] 1 (mIt (mSl (zB 0) (xA (mUn kP (mC (.int (q:Int))))) x2)) (yN 0) (zD ixD (zB 0) (mC (.int 1))))) (mC (.int 10)))) R=some b/\(b=true->∃gs hs,es=gs++hs/\hs.length=q/\∀e∈hs,dp e<10):=by
  by_cases h:q<=es.length
  ·obtain⟨gs,hs,e1,e2⟩:=dA es q h;have sb:=(mT (gs:=gs) (hs:=hs) (k:=q) (r:=R) (by rw[<-e1];exact hR) (by rw[e2]) (by lia)).1;obtain⟨f,t,rfl⟩:∃f t,hs=f::t:=by
    cases hs with
    |nil=>simp at e2;lia
    |cons f t=>exact⟨f,t,rfl⟩
   have mx:=zRG sb (by simp at e2;lia);have lt:mBl (zD ltA (dI (xS [] 1 (mIt (mSl (zB 0) (xA (mUn kP (mC (.int (q:Int))))) x2)) (yN 0) (zD ixD (zB 0) (mC (.int 1))))) (mC (.int 10))) R=some (decide ((t.map λf=>(dp f:Int)).foldl max (dp f:Int)<10)):=kK (zP mx zF rfl);obtain⟨b',h3,h4⟩:=WZ (c1:=mBl (zD gtD (mUn qX (zB 0)) (mC (.int ((q:Int)-1))))) (nX ln zF) (λ_=>⟨_,lt⟩);refine⟨b',h3,λhb=>⟨gs,f::t,e1,e2,?_⟩⟩;have z:=(h4 hb).2;rw[lt] at z;have z2:=of_decide_eq_true (bw z);obtain⟨m1,m2⟩:=zRL (t.map λf=>(dp f:Int)) (dp f:Int);intro e he;rcases ca.mp he with rfl|he
   ·lia
   ·have:=m2 _ (fo.mpr ⟨e,he,rfl⟩);lia
  ·refine⟨false,?_,λh=>by cases h⟩;unfold xG;rw[nX ln zF,decide_eq_false (by lia)];rfl
 obtain⟨b,h1,h2⟩:=inner;obtain⟨b',h3,h4⟩:=WZ (r:=R) hc (λ_=>⟨b,h1⟩);refine⟨b',h3,λhb=>?_⟩;have z:=(h4 hb).2;rw[h1] at z;exact h2 (by simpa using z)
def zN5(NS:List (List Nat))(es:List Ex):Prop:=∀e∈es,WOk NS e/\dp e<=10
def Gw(NS:List (List Nat))(es:List Ex)(c k:Int):Prop:=∃es':List Ex,zN5 NS es'/\es'≠[]/\tn es'<=tn es+2/\es'.length<=es.length+1/\∃as,jK [.v (.lst (es.map itm)),.v (.int c),.v (.int k),.v (.lst (NS.map .str))]=some (.v (.lst (es'.map itm)),as)
theorem zBQ{NS:List (List Nat)}{es:List Ex}(hN:NS.length=6)(hg:zN5 NS es)(hl:es.length<=1000)(c k:Int):Gw NS es c k:=by
 obtain⟨n,n0,hn⟩:=wS c (50+k);obtain⟨m,m0,hm⟩:=wS c (250+k)
 let P:D:=.lst (es.map itm)
 let S:Sl:=.v (.lst (NS.map .str))
 let R:En:=[.v P,.v (.int c),.v (.int k),S,.v (.int n),.v (.int (m % 9))]
 let G1:MS:=(wQ (zD xB (mSl (zB 0) x2 (xA (mUn kP (mC (.int 3))))) (xR (yO (zA (zM 3 jJ (zA (zB 4) (zA (zB 3) (zA (mSl (zB 0) (xA (mUn kP (mC (.int 3)))) x2) zK)))) zK)))))
 let G2:MS:=(wQ (zD xB (mSl (zB 0) x2 (xA (mUn kP (mC (.int 2))))) (xR (yO (zA (zM 3 qU (zA (zB 4) (zA (zD ixD (zB 0) (mUn kP (mC (.int 2)))) (zA (zD ixD (zB 0) (mUn kP (mC (.int 1)))) zK)))) zK)))))
 let G3:MS:=(wQ (zD xB (mSl (zB 0) x2 (xA (mUn kP (mC (.int 1))))) (xR (yO (zA (zM 3 qV (zA (zB 4) (zA (zB 3) (zA (zD ixD (zB 0) (mUn kP (mC (.int 1)))) zK)))) zK)))))
 let G4:MS:=(wQ (zD xB (zB 0) (xR (yO (zA (zM 3 wI (zA (zB 1) (zA (zB 4) (zA (zB 3) zK)))) zK)))))
 let C1:MB:=(xG (mBl (zD gtD (zB 5) (mC (.int 6)))) (xG (mBl (zD gtD (mUn qX (zB 0)) (mC (.int 2)))) (mBl (zD ltA (dI (xS [] 1 (mIt (mSl (zB 0) (xA (mUn kP (mC (.int 3)))) x2)) (yN 0) (zD ixD (zB 0) (mC (.int 1))))) (mC (.int 10))))))
 let C2:MB:=(xG (mBl (zD gtD (zB 5) (mC (.int 4)))) (xG (mBl (zD gtD (mUn qX (zB 0)) (mC (.int 1)))) (mBl (zD ltA (dI (xS [] 1 (mIt (mSl (zB 0) (xA (mUn kP (mC (.int 2)))) x2)) (yN 0) (zD ixD (zB 0) (mC (.int 1))))) (mC (.int 10))))))
 let C3:MB:=(xG (mBl (zD gtD (zB 5) (mC (.int 2)))) (xG (mBl (zD gtD (mUn qX (zB 0)) (mC (.int 0)))) (mBl (zD ltA (zD ixD (zD ixD (zB 0) (mUn kP (mC (.int 1)))) (mC (.int 1))) (mC (.int 10))))))
 have start:∀z,zZ (sIf C1 G1 y0) (zZ (sIf C2 G2 y0) (zZ (sIf C3 G3 y0) G4)) R=z->w6 [.v P,.v (.int c),.v (.int k),S,.un,.un]=z:=λz h=>by
  unfold w6;refine zQ (.int n) (r2:=[.v P,.v (.int c),.v (.int k),S,.v (.int n),.un]) (zR (p:=.v (.int n)) (zC rfl (zC (xK zF rfl) zN)) rfl hn) (by rfl) ?_;exact zQ (.int (m % 9)) (r2:=R) (yM (zR (p:=.v (.int m)) (zC rfl (zC (xK zF rfl) zN)) rfl hm) zF (by decide)) (by rfl) h
 have ln:mUn qX (zB 0) R=some (.int (es.length:Int)):=jV (x:=P) rfl (by show some (D.int ((es.map itm).length:Int))=_;rw[ak]);have gdq:∀(gs hs:List Ex) (q:Ex),es=gs++hs->WOk NS q->dp q<=10->zN5 NS (gs++[q]):=λgs hs q e hq hd x hx=>by
  simp only[bf,ba] at hx;rcases hx with hx|rfl
  ·exact hg x (by rw[e];simp[hx])
  ·exact⟨hq,hd⟩
 have fin:∀(gs hs:List Ex) (q:Ex) (f g:ME) (r:En),es=gs++hs->f r=some (.lst (gs.map itm))->g r=some (itm q)->zD xB f (xR (yO (zA g zK))) r=some (.lst ((gs++[q]).map itm)):=λgs hs q f g r e h1 h2=>by
  rw[cy]
  have:gs.length<=es.length:=by rw[e,bb];lia
  exact zPO h1 (j3 (l:=[itm q]) (zC h2 zN) (by show 1<=100;decide)) (by simp;lia)
 have t1:∀q:Ex,tn [q]=nd q:=λq=>by simp[tn]
 have last:∀(gs:List Ex) (b:Ex),es=gs++[b]->zD ixD (zB 0) (mUn kP (mC (.int 1))) R=some (itm b):=λgs b e=>zP (x:=P) rfl (XO zF) (by
  show atI (es.map itm) (-1)=_;rw[e,cy];exact JM (gs.map itm) [] (itm b) rfl)
 obtain⟨b1,k1,p1⟩:∃b,C1 R=some b/\(b=true->∃gs hs,es=gs++hs/\hs.length=3/\∀e∈hs,dp e<10):=cnd 3 rfl (by decide) (by decide) (nX rfl zF);obtain⟨b2,k2,p2⟩:∃b,C2 R=some b/\(b=true->∃gs hs,es=gs++hs/\hs.length=2/\∀e∈hs,dp e<10):=cnd 2 rfl (by decide) (by decide) (nX rfl zF);obtain⟨b3,k3,p3⟩:∃b,C3 R=some b/\(b=true->∃gs a,es=gs++[a]/\dp a<10):=by
  have inner:∃b,xG (mBl (zD gtD (mUn qX (zB 0)) (mC (.int 0)))) (mBl (zD ltA (zD ixD (zD ixD (zB 0) (mUn kP (mC (.int 1)))) (mC (.int 1))) (mC (.int 10)))) R=some b/\(b=true->∃gs a,es=gs++[a]/\dp a<10):=by
   by_cases h:1<=es.length
   ·obtain⟨gs,hs,e1,e2⟩:=dA es 1 h;obtain⟨a,rfl⟩:∃a,hs=[a]:=by
     match hs,e2 with
     |[a],_=>exact⟨a,rfl⟩
    have lt:mBl (zD ltA (zD ixD (zD ixD (zB 0) (mUn kP (mC (.int 1)))) (mC (.int 1))) (mC (.int 10))) R=some (decide ((dp a:Int)<10)):=kK (zP (ix1 (last gs a e1)) zF rfl);obtain⟨b',h3,h4⟩:=WZ (c1:=mBl (zD gtD (mUn qX (zB 0)) (mC (.int 0)))) (nX ln zF) (λ_=>⟨_,lt⟩);refine⟨b',h3,λhb=>⟨gs,a,e1,?_⟩⟩;have z:=(h4 hb).2;rw[lt] at z;have z2:=of_decide_eq_true (bw z);lia
   ·refine⟨false,?_,λh=>by cases h⟩;unfold xG;rw[nX ln zF,decide_eq_false (by lia)];rfl
  obtain⟨b,h1,h2⟩:=inner;obtain⟨b',h3,h4⟩:=WZ (c1:=mBl (zD gtD (zB 5) (mC (.int 2)))) (r:=R) (nX rfl zF) (λ_=>⟨b,h1⟩);refine⟨b',h3,λhb=>?_⟩;have z:=(h4 hb).2;rw[h1] at z;exact h2 (by simpa using z)
 cases b1
 rotate_left
 ·obtain⟨gs,hs,e1,e2,e3⟩:=p1 rfl;obtain⟨a,b,d,rfl⟩:∃a b d,hs=[a,b,d]:=by
   match hs,e2 with
   |[a,b,d],_=>exact⟨a,b,d,rfl⟩
  have sb:=mT (gs:=gs) (hs:=[a,b,d]) (k:=3) (r:=R) (by rw[<-e1];rfl) rfl (rb _);obtain⟨q,o1,o2,o3,o4⟩:=JZ (n:=n) hN n0 (hg a (by rw[e1];simp)).1 (hg b (by rw[e1];simp)).1 (hg d (by rw[e1];simp)).1;have da:=e3 a (by simp);have db:=e3 b (by simp);have dd:=e3 d (by simp);refine⟨gs++[q],gdq gs _ q e1 o1 (by lia),by simp,?_,by rw[e1];simp,xP (r':=R) (start _ (qK k1 (yI (fin gs _ q _ _ _ e1 sb.2 (zR (p:=.v (itm q)) (zC rfl (zC rfl (zC sb.1 zN))) rfl o4)))))⟩;rw[e1,kL,kL,t1,o3];simp only[tn,aq,jw,List.sum_cons,List.sum_nil];lia
 cases b2
 rotate_left
 ·obtain⟨gs,hs,e1,e2,e3⟩:=p2 rfl;obtain⟨a,b,rfl⟩:∃a b,hs=[a,b]:=by
   match hs,e2 with
   |[a,b],_=>exact⟨a,b,rfl⟩
  have sb:=mT (gs:=gs) (hs:=[a,b]) (k:=2) (r:=R) (by rw[<-e1];rfl) rfl (rb _);obtain⟨w,o1,o2⟩:=zDM (n:=n) (hg a (by rw[e1];simp)).1 (hg b (by rw[e1];simp)).1;have da:=e3 a (by simp);have db:=e3 b (by simp);have i2:zD ixD (zB 0) (mUn kP (mC (.int 2))) R=some (itm a):=zP (x:=P) rfl (XO zF) (by
   show atI (es.map itm) (-2)=_;rw[e1,cy];exact JM (gs.map itm) [itm b] (itm a) rfl)
  refine⟨gs++[.bin w a b],gdq gs _ _ e1 o1 (by show 1+max (dp a) (dp b)<=10;lia),by simp,?_,by rw[e1];simp,xP (r':=R) (start _ (yS k1 (qK k2 (yI (fin gs _ (.bin w a b) _ _ _ e1 sb.2 (zR (p:=.v (itm (.bin w a b))) (zC rfl (zC i2 (zC (last (gs++[a]) b (by rw[e1];simp)) zN))) rfl o2))))))⟩;rw[e1,kL,kL,t1];simp only[tn,aq,jw,List.sum_cons,List.sum_nil];show _+(1+nd a+nd b)<=_;lia
 cases b3
 rotate_left
 ·obtain⟨gs,a,e1,e3⟩:=p3 rfl;have sb:=mT (gs:=gs) (hs:=[a]) (k:=1) (r:=R) (by rw[<-e1];rfl) rfl (rb _);obtain⟨q,o1,o2,o3,o4⟩:=zK7 (n:=n) hN n0 (hg a (by rw[e1];simp)).1;refine⟨gs++[q],gdq gs _ _ e1 o1 (by lia),by simp,?_,by rw[e1];simp,xP (r':=R) (start _ (yS k1 (yS k2 (qK k3 (yI (fin gs _ q _ _ _ e1 sb.2 (zR (p:=.v (itm q)) (zC rfl (zC rfl (zC (last gs a e1) zN))) rfl o4)))))))⟩;rw[e1,kL,kL,t1,t1];lia
 ·obtain⟨q,o1,o2,o3,o4⟩:=QY (c:=c) (n:=n) hN n0;refine⟨es++[q],gdq es [] q (by simp) o1 (by lia),by simp,?_,by simp,xP (r':=R) (start _ (yS k1 (yS k2 (yS k3 (yI (fin es [] q _ _ _ (by simp) rfl (zR (p:=.v (itm q)) (zC rfl (zC rfl (zC rfl zN))) rfl o4)))))))⟩;rw[kL,t1];lia
def zJC:MS:=(zZ (xH 0 (zD xB (mSl (zB 0) (xA (mC (.int 2))) x2) (xR (yO (zA (zM 3 qU (zA (zM 2 zO (zA (zB 1) (zA (zD xB (mC (.int 500)) (zB 2)) zK))) (zA (zD ixD (zB 0) (mC (.int 0))) (zA (zD ixD (zB 0) (mC (.int 1))) zK)))) zK)))))
 (xH 2 (zD xB (zB 2) (mC (.int 1)))))
abbrev wF(m:Nat)(L:List Ex)(c k:Int):Option Fl:=qB m (mBl (zD gtD (mUn qX (zB 0)) (mC (.int 1)))) zJC [.v (.lst (L.map itm)),.v (.int c),.v (.int k)]
section
variable{NS:List (List Nat)}{c:Int}
theorem X9{a b:Ex}{L:List Ex}{k:Int}(ha:WOk NS a)(hb:WOk NS b)(hl:L.length<=900):∃q:Ex,WOk NS q/\dp q=1+max (dp a) (dp b)/\nd q=1+nd a+nd b/\∀m,wF (m+1) (a::b::L) c k=wF m (L++[q]) c (k+1):=by
 obtain⟨n,n0,hm⟩:=wS c (500+k)
 let P:D:=.lst ((a::b::L).map itm)
 let R:En:=[.v P,.v (.int c),.v (.int k)]
 obtain⟨w,o1,o2⟩:=zDM (n:=n) ha hb;refine⟨.bin w a b,o1,rfl,rfl,λm=>?_⟩;have cd:mBl (zD gtD (mUn qX (zB 0)) (mC (.int 1))) R=some true:=by
  have l0:mUn qX (zB 0) R=some (.int ((a::b::L).length:Int)):=jV (x:=P) rfl (by show some (D.int (((a::b::L).map itm).length:Int))=_;rw[ak]);rw[nX l0 zF,decide_eq_true (by simp;lia)]
 refine bV cd ?_;unfold zJC;refine zQ (.lst ((L++[Ex.bin w a b]).map itm)) ?_ (r2:=[.v (.lst ((L++[Ex.bin w a b]).map itm)),.v (.int c),.v (.int k)]) (by rfl) (kZ (xK rfl zF) (by rfl));rw[cy];refine zPO (l:=L.map itm) ?_ (j3 (l:=[itm (Ex.bin w a b)]) (zC (x:=itm (Ex.bin w a b)) ?_ zN) (by show 1<=100;decide)) (by simp;lia)
 ·refine bF (x:=P) rfl (xC zF) (by rfl) ?_;show some (D.lst (bR (itm a::itm b::L.map itm) (some 2) none))=_;rw[zH7]
 ·have i0:zD ixD (zB 0) (mC (.int 0)) R=some (itm a):=zP (x:=P) rfl zF (zIE _ _);have i1:zD ixD (zB 0) (mC (.int 1)) R=some (itm b):=zP (x:=P) rfl zF (yY (j:=1) rfl);exact zR (p:=.v (itm (Ex.bin w a b))) (zC (zR (p:=.v (.int n)) (zC rfl (zC (xK zF rfl) zN)) rfl hm) (zC i0 (zC i1 zN))) rfl o2
theorem uD:∀(n:Nat) (xs ys:List Ex) (d m:Nat) (k:Int),xs.length+ys.length=n+1->n<=800->(∀e∈xs,WOk NS e/\dp e<=d)->(∀e∈ys,WOk NS e/\dp e<=d+1)->xs.length+2*ys.length<=2 ^ m->∃(q:Ex) (k':Int),WOk NS q/\dp q<=d+m/\nd q=tn (xs++ys)+n/\∀j,wF (n+j) (xs++ys) c k=wF j [q] c k'
 |0,xs,ys,d,m,k,hl,hn,hx,hy,hm=>by
  match xs,ys,hl with
  |[e],[],_=>exact⟨e,k,(hx e (by simp)).1,by have:=(hx e (by simp)).2;lia,by simp[tn],λj=>by rw[qw];rfl⟩
  |[],[e],_=>
   have:m≠0:=λz=>by subst z;simp at hm
   exact⟨e,k,(hy e (by simp)).1,by have:=(hy e (by simp)).2;lia,by simp[tn],λj=>by rw[qw];rfl⟩
  |_::_,_::_,hl=>simp at hl;lia
  |[],_::_::_,hl=>simp at hl
  |_::_::_,[],hl=>simp at hl
 |n+1,xs,ys,d,m,k,hl,hn,hx,hy,hm=>by
  have low:∀(a b:Ex) (t ys:List Ex),WOk NS a->WOk NS b->t.length+ys.length<=800->∃q:Ex,WOk NS q/\dp q=1+max (dp a) (dp b)/\nd q=1+nd a+nd b/\∀m,wF (m+1) (a::b::(t++ys)) c k=wF m (t++ys++[q]) c (k+1):=λa b t ys ha hb h=>X9 ha hb (by rw[bb];lia)
  have hi:∀{m:Nat},2<=2 ^ m->∃p,m=p+1:=λ{m} h=>by
   cases m with
   |zero=>simp at h
   |succ p=>exact⟨p,rfl⟩
  match xs,ys,hl with
  |a::b::t,ys,hl=>
   have ha:=hx a (by simp);have hb:=hx b (by simp);obtain⟨q,q1,q2,q3,q4⟩:=low a b t ys ha.1 hb.1 (by simp at hl;lia);obtain⟨r,k',r1,r2,r3,r4⟩:=uD n t (ys++[q]) d m (k+1) (by simp at hl ⊢;lia) (by lia) (λe he=>hx e (by simp[he])) (λe he=>by
    rcases bf.mp he with z|z
    ·exact hy e z
    ·rw[ba.mp z];exact⟨q1,by have:=ha.2;have:=hb.2;lia⟩) (by simp at hm ⊢;lia)
   refine⟨r,k',r1,r2,?_,λj=>?_⟩
   ·rw[r3];simp[kL,tn];lia
   ·rw[show n+1+j=n+j+1 by lia];refine(q4 (n+j)).trans ?_;rw[gq];exact r4 j
  |[a],b::t,hl=>
   have ha:=hx a (by simp);have hb:=hy b (by simp);obtain⟨p,rfl⟩:=hi (m:=m) (by simp at hm;lia);obtain⟨q,q1,q2,q3,q4⟩:=low a b t [] ha.1 hb.1 (by simp at hl ⊢;lia);rw[dm] at q4;obtain⟨r,k',r1,r2,r3,r4⟩:=uD n t [q] (d+1) p (k+1) (by simp at hl ⊢;lia) (by lia) (λe he=>hy e (by simp[he])) (λe he=>by
    rw[ba.mp he];exact⟨q1,by have:=ha.2;have:=hb.2;lia⟩) (by rw[Nat.pow_succ] at hm;simp at hm ⊢;lia)
   refine⟨r,k',r1,by lia,?_,λj=>?_⟩
   ·rw[r3];simp[kL,tn];lia
   ·rw[show n+1+j=n+j+1 by lia];exact(q4 (n+j)).trans (r4 j)
  |[],a::b::t,hl=>
   have ha:=hy a (by simp);have hb:=hy b (by simp);obtain⟨p,rfl⟩:=hi (m:=m) (by simp at hm;lia);obtain⟨q,q1,q2,q3,q4⟩:=low a b t [] ha.1 hb.1 (by simp at hl ⊢;lia);rw[dm] at q4;obtain⟨r,k',r1,r2,r3,r4⟩:=uD n t [q] (d+1) p (k+1) (by simp at hl ⊢;lia) (by lia) (λe he=>hy e (by simp[he])) (λe he=>by
    rw[ba.mp he];exact⟨q1,by have:=ha.2;have:=hb.2;lia⟩) (by rw[Nat.pow_succ] at hm;simp at hm ⊢;lia)
   refine⟨r,k',r1,by lia,?_,λj=>?_⟩
   ·rw[r3];simp[kL,tn];lia
   ·rw[show n+1+j=n+j+1 by lia];exact(q4 (n+j)).trans (r4 j)
  |[],[],hl=>simp at hl
  |[],[_],hl=>simp at hl
  |[_],[],hl=>simp at hl
theorem zGU{es:List Ex}(hg:zN5 NS es)(h0:es≠[])(hl:es.length<=64):∃q:Ex,WOk NS q/\dp q<=16/\nd q<=tn es+64/\∃as,wO [.v (.lst (es.map itm)),.v (.int c)]=some (.v (itm q),as):=by
 have l1:0<es.length:=qi.mpr h0;obtain⟨q,k',q1,q2,q3,q4⟩:=uD (NS:=NS) (c:=c) (es.length-1) es [] 10 6 0 (by simp;lia) (by lia) hg (λ_ h=>by cases h) (by simp;lia);rw[dm] at q3 q4;refine⟨q,q1,q2,by lia,xP (r':=[.v (.lst ([q].map itm)),.v (.int c),.v (.int k')]) ?_⟩;show wL [.v (.lst (es.map itm)),.v (.int c),.un]=_;unfold wL;refine zQ (.int 0) zF (r2:=[.v (.lst (es.map itm)),.v (.int c),.v (.int 0)]) (by rfl) ?_;have w:=q4 (WF-(es.length-1));rw[show es.length-1+(WF-(es.length-1))=WF by unfold WF;lia,show WF-(es.length-1)=(WF-(es.length-1)-1)+1 by unfold WF;lia] at w;unfold wF at w;rw[vQ (r:=[.v (.lst ([q].map itm)),.v (.int c),.v (.int k')]) (by rfl)] at w;unfold zJC at w;rw[yT w];exact yI (zP (x:=.lst ([q].map itm)) rfl zF (zIE _ _))
end
def fv:Ex->List (List Nat)->List (List Nat)
 |.num _,_=>[]
 |.nm s,N=>if s∈N then [] else [s]
 |.emp,_=>[]
 |.tag _ _,_=>[]
 |.lab w l e,N=>fv e (if w=FN then N++[l] else N)
 |.nev e,N=>fv e N
 |.fld _ _ _ e,N=>fv e N
 |.bin _ a b,N=>fv a N++fv b N
 |.ite a b c,N=>fv a N++fv b N++fv c N
 |.cas a _ x b y c,N=>fv a N++fv b (N++[x])++fv c (N++[y])
theorem jE:∀(e:Ex) (N:List (List Nat)),(fv e N).length<=nd e
 |.num _,_=>by simp[fv,nd]
 |.nm s,N=>by unfold fv;split<;>simp[nd]
 |.emp,_=>by simp[fv,nd]
 |.tag _ _,_=>by simp[fv,nd]
 |.lab w l e,N=>by have:=jE e (if w=FN then N++[l] else N);simp only[fv,nd];lia
 |.nev e,N=>by have:=jE e N;simp only[fv,nd];lia
 |.fld _ _ _ e,N=>by have:=jE e N;simp only[fv,nd];lia
 |.bin _ a b,N=>by have:=jE a N;have:=jE b N;simp only[fv,nd,bb];lia
 |.ite a b c,N=>by have:=jE a N;have:=jE b N;have:=jE c N;simp only[fv,nd,bb];lia
 |.cas a _ x b y c,N=>by have:=jE a N;have:=jE b (N++[x]);have:=jE c (N++[y]);simp only[fv,nd,bb];lia
theorem cP:∀(e:Ex) (N:List (List Nat)),WOk M e->∀s∈fv e N,s∈M
 |.num _,_,_,s,h=>by simp[fv] at h
 |.nm t,N,ho,s,h=>by
  unfold fv at h;split at h
  ·cases h
  ·rw[ba.mp h];exact ho
 |.emp,_,_,s,h=>by simp[fv] at h
 |.tag _ _,_,_,s,h=>by simp[fv] at h
 |.lab w l e,N,ho,s,h=>cP e _ ho.2.2 s h
 |.nev e,N,ho,s,h=>cP e _ ho s h
 |.fld _ _ _ e,N,ho,s,h=>cP e _ ho.2.2.2 s h
 |.bin _ a b,N,ho,s,h=>(bf.mp h).elim (cP a _ ho.2.1 s) (cP b _ ho.2.2 s)
 |.ite a b c,N,ho,s,h=>(bf.mp h).elim (λh=>(bf.mp h).elim (cP a _ ho.1 s) (cP b _ ho.2.1 s)) (cP c _ ho.2.2 s)
 |.cas a _ x b y c,N,ho,s,h=>(bf.mp h).elim (λh=>(bf.mp h).elim (cP a _ ho.2.2.2.1 s) (cP b _ ho.2.2.2.2.1 s)) (cP c _ ho.2.2.2.2.2 s)
theorem dS:∀(e:Ex) (N:List (List Nat)),Cl e λs=>s∈N\/s∈fv e N
 |.num _,_=>trivial
 |.nm s,N=>by
  show s∈N\/s∈fv (.nm s) N;by_cases h:s∈N
  ·exact .inl h
  ·right;unfold fv;rw[if_neg h];simp
 |.emp,_=>trivial
 |.tag _ _,_=>trivial
 |.lab w l e,N=>show Cl e λs=>(w=FN/\s=l)\/s∈N\/s∈fv e (if w=FN then N++[l] else N) from(dS e (if w=FN then N++[l] else N)).mono λs h=>by
  rcases h with h|h
  ·by_cases z:w=FN
   ·rw[if_pos z] at h;rcases bf.mp h with q|q
    ·exact .inr (.inl q)
    ·exact .inl ⟨z,ba.mp q⟩
   ·rw[if_neg z] at h;exact .inr (.inl h)
  ·exact .inr (.inr h)
 |.nev e,N=>dS e N
 |.fld _ _ _ e,N=>dS e N
 |.bin _ a b,N=>⟨(dS a N).mono λs h=>h.imp id λh=>bf.mpr (.inl h),(dS b N).mono λs h=>h.imp id λh=>bf.mpr (.inr h)⟩
 |.ite a b c,N=>⟨(dS a N).mono λs h=>h.imp id λh=>by simp[fv,h],(dS b N).mono λs h=>h.imp id λh=>by simp[fv,h],(dS c N).mono λs h=>h.imp id λh=>by simp[fv,h]⟩
 |.cas a _ x b y c,N=>⟨(dS a N).mono λs h=>h.imp id λh=>by simp[fv,h],(dS b (N++[x])).mono λs h=>by
   rcases h with h|h
   ·rcases bf.mp h with q|q
    ·exact .inr (.inl q)
    ·exact .inl (ba.mp q)
   ·exact .inr (.inr (by simp[fv,h])),(dS c (N++[y])).mono λs h=>by
   rcases h with h|h
   ·rcases bf.mp h with q|q
    ·exact .inr (.inl q)
    ·exact .inl (ba.mp q)
   ·exact .inr (.inr (by simp[fv,h]))⟩
noncomputable def kn(N:List (List Nat)):D:=.lst (N.map .str)
theorem Z8(s:List Nat):∀N:List (List Nat),((N.map D.str).any λz=>eqF z (.str s))=decide (s∈N)
 |[]=>by simp
 |t::N=>by
  rw[aq,jn,Z8 s N,show eqF (.str t) (.str s)=decide (t=s) from rfl];by_cases h:t=s
  ·simp[h]
  ·have h':¬s=t:=λz=>h z.symm
   simp[h,h']
theorem cV:∀N:List (List Nat),(N.map D.str).all jG=true
 |[]=>rfl
 |t::N=>by rw[aq,ji,cV N];rfl
def zIB(m:MF):MS:=(sIf (k8 (mUn (j8 "tuple") (zB 3))) (xH 2 (zD xB (zB 2) (zM 2 m (zA (zB 3) (zA (zB 1) zK))))) y0)
theorem cQ{m:MF}{N:List (List Nat)}:∀(l:List Pt) (A:List (List Nat)) (x:Sl),fre x->PtOk l->A.length+tn (l.filterMap ptE)<=5000->(∀e,Pt.ex e∈l->∃as,m [.v (toD e),.v (kn N)]=some (.v (kn (fv e N)),as))->∃x',nY (yN 3) (zIB m) (l.map ptD) [E,.v (kn N),.v (kn A),x]=some (.nx [E,.v (kn N),.v (kn (A++(l.filterMap ptE).flatMap (fv · N))),x'])
 |[],A,x,hx,h1,h2,h3=>⟨x,by simp[nY]⟩
 |.pl d::l,A,x,hx,h1,h2,h3=>by
  obtain⟨x',e⟩:=cQ (E:=E) l A (.v d) trivial h1.tail h2 λe he=>h3 e (by simp[he])
  refine⟨x',?_⟩;show nY _ _ (d::l.map ptD) _=_;have c0:k8 (mUn (j8 "tuple") (zB 3)) [E,.v (kn N),.v (kn A),.v d]=some false:=by
   unfold k8;rw[jV (f:=zB 3) (r:=[E,.v (kn N),.v (kn A),.v d]) (x:=d) rfl (h1 d (by simp))];rfl
  rw[bC (r1:=[E,.v (kn N),.v (kn A),.v d]) (zW (i:=3) (x:=x) rfl hx) (r':=[E,.v (kn N),.v (kn A),.v d]) (by unfold zIB;rw[oS c0];rfl),e];rfl
 |.ex a::l,A,x,hx,h1,h2,h3=>by
  have fl:=jE a N;have t:tn ((Pt.ex a::l).filterMap ptE)=nd a+tn (l.filterMap ptE):=by simp[ptE,tn]
  rw[t] at h2;obtain⟨x',e⟩:=cQ (E:=E) l (A++fv a N) (.v (toD a)) trivial h1.tail (by rw[bb];lia) λe he=>h3 e (by simp[he])
  refine⟨x',?_⟩;show nY _ _ (toD a::l.map ptD) _=_;have c0:k8 (mUn (j8 "tuple") (zB 3)) [E,.v (kn N),.v (kn A),.v (toD a)]=some true:=by
   unfold k8;rw[jV (f:=zB 3) (r:=[E,.v (kn N),.v (kn A),.v (toD a)]) (x:=toD a) rfl (ZN a)];rfl
  have ad:zD xB (zB 2) (zM 2 m (zA (zB 3) (zA (zB 1) zK))) [E,.v (kn N),.v (kn A),.v (toD a)]=some (kn (A++fv a N)):=by
   unfold kn;rw[cy];exact zPO (l:=A.map .str) rfl (zR (p:=.v (kn (fv a N))) (zC rfl (zC rfl zN)) rfl (h3 a (by simp))) (by rw[ak,ak];lia)
  rw[bC (r1:=[E,.v (kn N),.v (kn A),.v (toD a)]) (zW (i:=3) (x:=x) rfl hx) (r':=[E,.v (kn N),.v (kn (A++fv a N)),.v (toD a)]) (by unfold zIB;rw[zCI c0];exact kZ ad (by rfl)),e];simp[ptE]
theorem gL{f g:ME}{r:En}{A B:List (List Nat)}(h1:f r=some (kn A))(h2:g r=some (kn B))(h:A.length+B.length<=100000):zD xB f g r=some (kn (A++B)):=by
 unfold kn at *;rw[cy];exact zPO h1 h2 (by rw[ak,ak];exact h)
theorem bN:∀(k:Nat) (e:Ex) (N:List (List Nat)),dp e<k->WOk M e->nd e<=1000->N.length+dp e<=1000->∃as,yR k [.v (toD e),.v (kn N)]=some (.v (kn (fv e N)),as)
 |0,e,N,h,_,_,_=>by lia
 |k+1,e,N,h,ho,hn,hN=>by
  have eqw:∀{r:En} {w v:List Nat} {t:List D},zB 0 r=some (.tup (.str w::t))->mBl (zD eqA (zD ixD (zB 0) (mC (.int 0))) (mC (.str v))) r=some (decide (w=v)):=λh=>kK (zP (zP h zF (zIE _ _)) zF rfl)
  have node:∀(w:List Nat) (t:List Pt),pts e=.pl (.str w)::t->w≠[110,97,109,101]->w≠[102,110]->w≠[99,97,115,101]->fv e N=(t.filterMap ptE).flatMap (fv · N)->(∀a,Pt.ex a∈t->WOk M a)->∃as,yR (k+1) [.v (toD e),.v (kn N)]=some (.v (kn (fv e N)),as):=λw t hp w1 w2 w3 hf hO=>by
   have e0:toD e=.tup (.str w::t.map ptD):=by rw[mM,hp];rfl
   have po:PtOk t:=λd hd=>zAH e d (by rw[hp];simp[hd])
   have tne:tn (t.filterMap ptE)<=1000:=by
    have:=ZA e
    unfold ch at this;rw[hp,cn] at this;simp[ptE] at this;unfold ptE at *;lia
   obtain⟨x',lp⟩:=cQ (m:=yR k) (N:=N) (E:=.v (toD e)) t [] .un trivial po (by show 0+_<=5000;lia) λa ha=>by
    have:=zN3 (e:=e) (a:=a) (by rw[hp];simp[ha])
    exact bN k a N (by lia) (hO a ha) (by lia) (by lia)
   rw[List.nil_append,<-hf] at lp;refine xP (r':=[.v (toD e),.v (kn N),.v (kn (fv e N)),x']) ?_;show yQ (yR k) [.v (toD e),.v (kn N),.un,.un]=_;unfold yQ;have v0:zB 0 [.v (toD e),.v (kn N),.un,.un]=some (.tup (.str w::t.map ptD)):=by rw[e0];rfl
   have c1:=eqw (v:=[110,97,109,101]) v0;have c2:=eqw (v:=[102,110]) v0;have c3:=eqw (v:=[99,97,115,101]) v0;rw[decide_eq_false w1] at c1;rw[decide_eq_false w2] at c2;rw[decide_eq_false w3] at c3;refine yS c1 (yS c2 (yS c3 (zQ (kn []) (r2:=[.v (toD e),.v (kn N),.v (kn []),.un]) (by rfl) (by rfl) ?_)));have it:mIt (mSl (zB 0) (xA (mC (.int 1))) x2) [.v (toD e),.v (kn N),.v (kn []),.un]=some (t.map ptD):=by
    unfold mIt;have sl:mSl (zB 0) (xA (mC (.int 1))) x2 [.v (toD e),.v (kn N),.v (kn []),.un]=some (.tup (t.map ptD)):=by
     refine bF (x:=.tup (.str w::t.map ptD)) (by rw[<-e0];rfl) (xC zF) (by rfl) ?_;show(if HT.sIx (D.str w::t.map ptD).length 0 (some ((1:Nat):Int))=0/\HT.sIx (D.str w::t.map ptD).length (D.str w::t.map ptD).length none=(D.str w::t.map ptD).length then none else some (D.tup (bR (D.str w::t.map ptD) (some ((1:Nat):Int)) none)))=_;rw[HT.sIx_nat,if_neg (by simp),mF];rfl
    rw[sl];rfl
   rw[yT (r':=[.v (toD e),.v (kn N),.v (kn (fv e N)),x']) (by unfold mW;rw[it];unfold zIB at lp;exact lp)];exact yI rfl
  cases e with
  |num n=>exact node _ _ rfl (by decide) (by decide) (by decide) rfl λa ha=>by simp at ha
  |emp=>exact node _ _ rfl (by decide) (by decide) (by decide) rfl λa ha=>by simp at ha
  |tag l n=>exact node _ _ rfl (by decide) (by decide) (by decide) (by simp[fv,ptE,cn]) λa ha=>by simp at ha;subst ha;exact ho.2
  |nev e=>exact node _ _ rfl (by decide) (by decide) (by decide) (by simp[fv,ptE,cn]) λa ha=>by simp at ha;subst ha;exact ho
  |fld w l n e=>
   refine node w [.pl (.str l),.ex (.num n),.ex e] rfl ?_ ?_ ?_ (by simp[fv,ptE,cn]) λa ha=>by(simp at ha;rcases ha with rfl|rfl;exact ho.2.2.1;exact ho.2.2.2)
   all_goals (rcases ho.1 with rfl|rfl<;>decide)
  |bin w a b=>
   refine node w [.ex a,.ex b] rfl ?_ ?_ ?_ (by simp[fv,ptE,cn]) λa ha=>by(simp at ha;rcases ha with rfl|rfl;exact ho.2.1;exact ho.2.2)
   all_goals (rcases ho.1 with rfl|rfl|rfl|rfl|rfl<;>decide)
  |ite a b c=>exact node _ _ rfl (by decide) (by decide) (by decide) (by simp[fv,ptE,cn]) λa ha=>by(simp at ha;rcases ha with rfl|rfl|rfl;exact ho.1;exact ho.2.1;exact ho.2.2)
  |nm s=>
   let R:En:=[.v (toD (.nm s)),.v (kn N),.un,.un]
   have c1:mBl (zD eqA (zD ixD (zB 0) (mC (.int 0))) (mC (.str [110,97,109,101]))) R=some true:=eqw (w:=[110,97,109,101]) (t:=[.str s]) rfl;have i1:zD ixD (zB 0) (mC (.int 1)) R=some (.str s):=zP (x:=toD (.nm s)) rfl zF (yY (j:=1) rfl);have ni:zD (inD true) (zD ixD (zB 0) (mC (.int 1))) (zB 1) R=some (.bl (!decide (s∈N))):=zP i1 (y:=kn N) rfl (by
    show(if jG (.str s)=true/\(N.map D.str).all jG=true then some (D.bl (!((N.map D.str).any λz=>eqF z (.str s)))) else none)=_;rw[if_pos ⟨rfl,cV N⟩,Z8])
   refine xP (r':=R) ?_;show yQ (yR k) R=_;unfold yQ;refine qK c1 (yI ?_);by_cases z:s∈N
   ·rw[decide_eq_true z] at ni;have ef:fv (.nm s) N=[]:=by unfold fv;rw[if_pos z]
    rw[ef];exact bF (x:=.lst [.str s]) (j3 (zC i1 zN) (by show 1<=100;decide)) (by rfl) (xC (jV ni rfl)) rfl
   ·rw[decide_eq_false z] at ni;have ef:fv (.nm s) N=[s]:=by unfold fv;rw[if_neg z]
    rw[ef];exact bF (x:=.lst [.str s]) (j3 (zC i1 zN) (by show 1<=100;decide)) (by rfl) (xC (jV ni rfl)) rfl
  |lab w l e=>
   by_cases z:w=FN
   ·subst z
    let R:En:=[.v (toD (.lab FN l e)),.v (kn N),.un,.un]
    have c1:mBl (zD eqA (zD ixD (zB 0) (mC (.int 0))) (mC (.str [110,97,109,101]))) R=some false:=eqw (w:=[102,110]) (t:=[.str l,toD e]) rfl;have c2:mBl (zD eqA (zD ixD (zB 0) (mC (.int 0))) (mC (.str [102,110]))) R=some true:=eqw (w:=[102,110]) (t:=[.str l,toD e]) rfl;have i1:zD ixD (zB 0) (mC (.int 1)) R=some (.str l):=zP (x:=toD (.lab FN l e)) rfl zF (yY (j:=1) rfl);have i2:zD ixD (zB 0) (mC (.int 2)) R=some (toD e):=zP (x:=toD (.lab FN l e)) rfl zF (yY (j:=2) rfl);have hd:dp e+1<k+1:=h;have hnd:1+nd e<=1000:=hn;have hN':N.length+(dp e+1)<=1000:=hN;have ih:=bN k e (N++[l]) (by lia) ho.2.2 (by lia) (by simp;lia);refine xP (r':=R) ?_;show yQ (yR k) R=_;unfold yQ;exact yS c1 (qK c2 (yI (zR (p:=.v (kn (fv e (N++[l])))) (zC i2 (zC (gL (A:=N) (B:=[l]) rfl (j3 (zC i1 zN) (by show 1<=100;decide)) (by simp;lia)) zN)) rfl ih)))
   ·refine node w [.pl (.str l),.ex e] rfl ?_ ?_ ?_ (by simp[fv,ptE,z,cn]) λa ha=>by(simp at ha;subst ha;exact ho.2.2)
    all_goals (rcases ho.1 with q|rfl|rfl|rfl<;>first|exact absurd q z|decide)
  |cas a l x b y c=>
   let C:D:=toD (.cas a l x b y c)
   let R:En:=[.v C,.v (kn N),.un,.un]
   have c1:mBl (zD eqA (zD ixD (zB 0) (mC (.int 0))) (mC (.str [110,97,109,101]))) R=some false:=eqw (w:=[99,97,115,101]) (t:=[toD a,.str l,.str x,toD b,.str y,toD c]) rfl;have c2:mBl (zD eqA (zD ixD (zB 0) (mC (.int 0))) (mC (.str [102,110]))) R=some false:=eqw (w:=[99,97,115,101]) (t:=[toD a,.str l,.str x,toD b,.str y,toD c]) rfl;have c3:mBl (zD eqA (zD ixD (zB 0) (mC (.int 0))) (mC (.str [99,97,115,101]))) R=some true:=eqw (w:=[99,97,115,101]) (t:=[toD a,.str l,.str x,toD b,.str y,toD c]) rfl;have at_:∀{r:En} (j:Nat) (d:D),zB 0 r=some C->[D.str [99,97,115,101],toD a,.str l,.str x,toD b,.str y,toD c][j]?=some d->zD ixD (zB 0) (mC (.int (j:Int))) r=some d:=λj d h1 h2=>zP h1 zF (yY h2)
   have hd:1+max (max (dp a) (dp b)) (dp c)<k+1:=h;have hnd:1+nd a+nd b+nd c<=1000:=hn;have hN':N.length+(1+max (max (dp a) (dp b)) (dp c))<=1000:=hN;obtain⟨_,_,_,oa,ob,oc⟩:=ho;have ia:=bN k a N (by lia) oa (by lia) (by lia);have ib:=bN k b (N++[x]) (by lia) ob (by lia) (by simp;lia);have ic:=bN k c (N++[y]) (by lia) oc (by lia) (by simp;lia);have la:=jE a N;have lb:=jE b (N++[x]);have lc:=jE c (N++[y])
   let R1:En:=[.v C,.v (kn N),.v (kn (fv a N++fv b (N++[x]))),.un]
   refine xP (r':=R1) ?_;show yQ (yR k) R=_;unfold yQ;refine yS c1 (yS c2 (qK c3 (zQ (kn (fv a N++fv b (N++[x]))) (r2:=R1) (gL (zR (p:=.v (kn (fv a N))) (zC (at_ 1 _ rfl rfl) (zC rfl zN)) rfl ia) (zR (p:=.v (kn (fv b (N++[x])))) (zC (at_ 4 _ rfl rfl) (zC (gL (A:=N) (B:=[x]) rfl (j3 (zC (at_ 3 _ rfl rfl) zN) (by show 1<=100;decide)) (by simp;lia)) zN)) rfl ib) (by lia)) (by rfl) (yI ?_))));exact gL (A:=fv a N++fv b (N++[x])) rfl (zR (p:=.v (kn (fv c (N++[y])))) (zC (at_ 6 _ rfl rfl) (zC (gL (A:=N) (B:=[y]) rfl (j3 (zC (at_ 5 _ rfl rfl) zN) (by show 1<=100;decide)) (by simp;lia)) zN)) rfl ic) (by rw[bb];lia)
def hnd:ME:=(zD ixD (xR (yO (zA (xM (zA (mC (.str [110,117,109])) (zA (zD xL (zD xY (zB 6) (mC (.int 35))) (zD zIJ (mC (.int 10)) (mC (.int 6)))) zK))) (zA (xM (zA (mC (.str [101,109,112,116,121])) zK)) (zA (xM (zA (mC (.str [102,110])) (zA (mC (.str [113])) (zA (xM (zA (mC (.str [110,97,109,101])) (zA (mC (.str [113])) zK))) zK)))) zK))))) (zD xL (zD xL (zD xY (zB 6) (mC (.int 35))) (mC (.int 4))) (mC (.int 3))))
def zCV:MS:=(zZ (xH 6 (zM 2 zO (zA (zB 1) (zA (zD xB (mC (.int 600)) (zB 4)) zK))))
 (zZ (xH 7 (zD ixD (zB 5) (zD xL (zB 6) (mUn qX (zB 5)))))
 (zZ (xH 3 (xM (zA (mC (.str [102,110])) (zA (zB 7) (zA (zB 3) zK)))))
 (zZ (xH 4 (zD xB (zB 4) (mC (.int 1))))
 (zZ (sIf (mBl (zD gtD (zD xL (zD xY (zB 6) (mC (.int 7))) (mC (.int 5))) (mC (.int 0))))
 (zZ (xH 8 hnd)
 (zZ (xH 3 (xM (zA (mC (.str [100,111])) (zA (zB 3) (zA (zB 8) zK)))))
 (xH 4 (zD xB (zB 4) (mC (.int 1))))))
 y0)
 (xH 5 (xR (xI [7] 2 (mIt (zB 5)) (yN 1) (mBl (zD neA (zB 1) (zB 0))) (zB 1)))))))))
theorem zRM(t:List Nat):∀(N:List (List Nat)) (x:Sl),fre x->qH (yN 1) (mBl (zD neA (zB 1) (zB 0))) (zB 1) (N.map .str) [.v (.str t),x]=some ((N.filter λs=>decide (s≠t)).map .str)
 |[],x,_=>rfl
 |s::N,x,hx=>by
  have ih:=zRM t N (.v (.str s)) trivial;rw[aq];unfold qH;rw[zW (i:=1) (r:=[.v (.str t),x]) (x:=x) rfl hx,aa];show(mBl (zD neA (zB 1) (zB 0)) [.v (.str t),.v (.str s)]).bind _=_;rw[show mBl (zD neA (zB 1) (zB 0)) [.v (.str t),.v (.str s)]=some (!decide (s=t)) from rfl,aa];by_cases h:s=t
  ·rw[decide_eq_true h,if_neg (by decide),uc (by simp[h])];exact ih
  ·rw[decide_eq_false h,if_pos (show(!false)=true from rfl),ub (by simp[h])];show(qH _ _ _ (N.map .str) [.v (.str t),.v (.str s)]).map _=_;rw[ih];rfl
theorem qD{A B:List (List Nat)}(h:∀s∈A,s∈B):∀{e:Ex},WOk A e->WOk B e
 |.num _,o=>o
 |.nm s,o=>h s o
 |.emp,_=>trivial
 |.tag _ _,o=>⟨h _ o.1,o.2⟩
 |.lab _ _ e,o=>⟨o.1,h _ o.2.1,qD h o.2.2⟩
 |.nev e,o=>qD (e:=e) h o
 |.fld _ _ _ _,o=>⟨o.1,h _ o.2.1,o.2.2.1,qD h o.2.2.2⟩
 |.bin _ _ _,o=>⟨o.1,qD h o.2.1,qD h o.2.2⟩
 |.ite _ _ _,o=>⟨qD h o.1,qD h o.2.1,qD h o.2.2⟩
 |.cas _ _ _ _ _ _,o=>⟨h _ o.1,h _ o.2.1,h _ o.2.2.1,qD h o.2.2.2.1,qD h o.2.2.2.2.1,qD h o.2.2.2.2.2⟩
section
variable{M N:List (List Nat)}{c:Int}{I:Sl}
theorem zGS{r:En}{n:Int}(n0:0<=n)(hr:zB 6 r=some (.int n))(hq:[113]∈M):∃a:Ex,WOk M a/\dp a<=1/\nd a<=2/\(∀P,Cl a P)/\hnd r=some (toD a):=by
 let x:Int:=n / 35 % 1000000
 have l1:xR (yO (zA (xM (zA (mC (.str [110,117,109])) (zA (zD xL (zD xY (zB 6) (mC (.int 35))) (zD zIJ (mC (.int 10)) (mC (.int 6)))) zK))) (zA (xM (zA (mC (.str [101,109,112,116,121])) zK)) (zA (xM (zA (mC (.str [102,110])) (zA (mC (.str [113])) (zA (xM (zA (mC (.str [110,97,109,101])) (zA (mC (.str [113])) zK))) zK)))) zK)))) r=some (.lst [toD (.num x),toD .emp,toD (.lab FN [113] (.nm [113]))]):=j3 (zC (XN (yM (x4 hr zF (by decide)) zRB (by decide))) (zC rfl (zC rfl zN))) (by show 3<=100;decide);have i1:zD xL (zD xL (zD xY (zB 6) (mC (.int 35))) (mC (.int 4))) (mC (.int 3)) r=some (.int (n / 35 % 4 % 3)):=yM (yM (x4 hr zF (by decide)) zF (by decide)) zF (by decide);have h3:n / 35 % 4 % 3=0\/n / 35 % 4 % 3=1\/n / 35 % 4 % 3=2:=by lia
 rcases h3 with h|h|h
 ·rw[h] at i1;exact⟨.num x,⟨cq _ (by decide),ck _ (by decide)⟩,cg _,by show 1<=2;decide,λ_=>trivial,zP l1 i1 (zIE _ _)⟩
 ·rw[h] at i1;exact⟨.emp,trivial,cg _,by show 1<=2;decide,λ_=>trivial,zP l1 i1 (yY (j:=1) rfl)⟩
 ·rw[h] at i1;exact⟨.lab FN [113] (.nm [113]),⟨.inl rfl,hq,hq⟩,ae _,ae _,λP=>.inl ⟨rfl,rfl⟩,zP l1 i1 (yY (j:=2) rfl)⟩
theorem rH(hq:[113]∈M){e:Ex}{d:Int}{fr:List (List Nat)}{x6 x7 x8:Sl}(h6:fre x6)(h7:fre x7)(h8:fre x8)(hf:fr≠[])(hl:fr.length<=1000)(hm:∀s∈fr,s∈M)(ho:WOk M e)(hc:Cl e λs=>s∈N\/s∈fr):∃(t:List Nat) (e':Ex) (d':Int) (y6 y7 y8:Sl),t∈fr/\fre y6/\fre y7/\fre y8/\WOk M e'/\Cl e' (λs=>s∈N\/s∈fr.filter λs=>decide (s≠t))/\dp e'<=dp e+2/\nd e'<=nd e+4/\zCV [I,.v (.int c),.v (kn N),.v (toD e),.v (.int d),.v (kn fr),x6,x7,x8]=some (.nx [I,.v (.int c),.v (kn N),.v (toD e'),.v (.int d'),.v (kn (fr.filter λs=>decide (s≠t))),y6,y7,y8]):=by
 obtain⟨n,n0,hn⟩:=wS c (600+d)
 let R1:En:=[I,.v (.int c),.v (kn N),.v (toD e),.v (.int d),.v (kn fr),.v (.int n),x7,x8]
 have lp:0<fr.length:=qi.mpr hf;have ln:mUn qX (zB 5) R1=some (.int (fr.length:Int)):=jV (x:=kn fr) rfl (by show some (D.int ((fr.map D.str).length:Int))=_;rw[ak]);obtain⟨t,ht,et⟩:=uZ (l:=fr) (r:=R1) (f:=zB 5) (g:=zD xL (zB 6) (mUn qX (zB 5))) (i:=n % (fr.length:Int)) rfl (yM rfl ln (by lia)) (cq _ (by lia)) (ck _ (by lia))
 let e1:Ex:=.lab FN t e
 have c1:Cl e1 λs=>s∈N\/s∈fr.filter λs=>decide (s≠t):=Cl.mono (e:=e) (λs h=>by
  by_cases z:s=t
  ·exact .inl ⟨rfl,z⟩
  ·exact .inr (h.imp id λh=>lu.mpr ⟨h,decide_eq_true z⟩)) hc
 have o1:WOk M e1:=⟨.inl rfl,hm t ht,ho⟩
 let R2:En:=[I,.v (.int c),.v (kn N),.v (toD e),.v (.int d),.v (kn fr),.v (.int n),.v (.str t),x8]
 let R3:En:=[I,.v (.int c),.v (kn N),.v (toD e1),.v (.int d),.v (kn fr),.v (.int n),.v (.str t),x8]
 let R4:En:=[I,.v (.int c),.v (kn N),.v (toD e1),.v (.int (d+1)),.v (kn fr),.v (.int n),.v (.str t),x8]
 have start:∀{h:MS} {z},h R4=z->zZ (xH 6 (zM 2 zO (zA (zB 1) (zA (zD xB (mC (.int 600)) (zB 4)) zK)))) (zZ (xH 7 (zD ixD (zB 5) (zD xL (zB 6) (mUn qX (zB 5))))) (zZ (xH 3 (xM (zA (mC (.str [102,110])) (zA (zB 7) (zA (zB 3) zK))))) (zZ (xH 4 (zD xB (zB 4) (mC (.int 1)))) h))) [I,.v (.int c),.v (kn N),.v (toD e),.v (.int d),.v (kn fr),x6,x7,x8]=z:=λq=>
  zQ (.int n) (r2:=R1) (zR (p:=.v (.int n)) (zC rfl (zC (xK zF rfl) zN)) rfl hn) (zW (i:=6) (x:=x6) rfl h6) (zQ (.str t) (r2:=R2) et (zW (i:=7) (x:=x7) rfl h7) (zQ (toD e1) (r2:=R3) (qA (zC zF (zC rfl (zC rfl zN))) (by show 3<=100;decide)) (by rfl) (zQ (.int (d+1)) (r2:=R4) (xK rfl zF) (by rfl) q)))
 have fin:∀(a b:Sl) (y:Sl),xH 5 (xR (xI [7] 2 (mIt (zB 5)) (yN 1) (mBl (zD neA (zB 1) (zB 0))) (zB 1))) [I,.v (.int c),.v (kn N),a,b,.v (kn fr),.v (.int n),.v (.str t),y]=some (.nx [I,.v (.int c),.v (kn N),a,b,.v (kn (fr.filter λs=>decide (s≠t))),.v (.int n),.v (.str t),y]):=λa b y=>by
  refine kZ (d:=kn (fr.filter λs=>decide (s≠t))) ?_ (by rfl);unfold xR xI;rw[show mIt (zB 5) [I,.v (.int c),.v (kn N),a,b,.v (kn fr),.v (.int n),.v (.str t),y]=some (fr.map .str) from rfl,aa,if_pos (by rw[ak];exact x3 (by lia))];show(qH _ _ _ _ [.v (.str t),.un]).map _=_;rw[zRM t fr .un trivial];rfl
 have g1:mBl (zD gtD (zD xL (zD xY (zB 6) (mC (.int 7))) (mC (.int 5))) (mC (.int 0))) R4=some (decide (0<n / 7 % 5)):=nX (yM (x4 rfl zF (by decide)) zF (by decide)) zF;by_cases z:0<n / 7 % 5
 ·rw[decide_eq_true z] at g1;obtain⟨a,a1,a2,a3,a4,a5⟩:=zGS (M:=M) (r:=R4) n0 rfl hq
  let e2:Ex:=.bin [100,111] e1 a
  refine⟨t,e2,d+1+1,.v (.int n),.v (.str t),.v (toD a),ht,trivial,trivial,trivial,⟨.inl rfl,o1,a1⟩,⟨c1,a4 _⟩,by show 1+max (dp e+1) (dp a)<=_;lia,by show 1+(1+nd e)+nd a<=_;lia,?_⟩;unfold zCV;refine start ?_;rw[yT (r':=[I,.v (.int c),.v (kn N),.v (toD e2),.v (.int (d+1+1)),.v (kn fr),.v (.int n),.v (.str t),.v (toD a)]) ?_]
  ·exact fin _ _ _
  ·rw[zCI g1];exact zQ (toD a) (r2:=[I,.v (.int c),.v (kn N),.v (toD e1),.v (.int (d+1)),.v (kn fr),.v (.int n),.v (.str t),.v (toD a)]) a5 (zW (i:=8) (x:=x8) rfl h8) (zQ (toD e2) (r2:=[I,.v (.int c),.v (kn N),.v (toD e2),.v (.int (d+1)),.v (kn fr),.v (.int n),.v (.str t),.v (toD a)]) (qA (zC zF (zC rfl (zC rfl zN))) (by show 3<=100;decide)) (by rfl) (kZ (xK rfl zF) (by rfl)))
 ·rw[decide_eq_false z] at g1;refine⟨t,e1,d+1,.v (.int n),.v (.str t),x8,ht,trivial,trivial,h8,o1,c1,by show dp e+1<=_;lia,by show 1+nd e<=_;lia,?_⟩;unfold zCV;refine start ?_;rw[yT (r':=R4) (by rw[oS g1];rfl)];exact fin _ _ _
theorem zNQ{r:En}{fr:List (List Nat)}(h:zB 5 r=some (kn fr)):mBl (zD neA (zB 5) (xR (yO zK))) r=some (decide (fr≠[])):=by
 refine kK (zP h (y:=.lst []) rfl ?_);show(if (fr.map D.str).all jG=true/\([]:List D).all jG=true then some (D.bl (!zL7 (fr.map D.str) [])) else none)=_;rw[if_pos ⟨cV fr,rfl⟩];cases fr<;>rfl
theorem dW(hq:[113]∈M):∀(j:Nat) (L:List (List Nat)) (e:Ex) (d:Int) (fr:List (List Nat)) (x6 x7 x8:Sl),fre x6->fre x7->fre x8->L.length<=j->(∀s∈fr,s∈L)->fr.length<=1000->(∀s∈fr,s∈M)->WOk M e->Cl e (λs=>s∈N\/s∈fr)->∃(e':Ex) (d':Int) (y6 y7 y8:Sl),WOk M e'/\Cl e' (·∈N)/\dp e'<=dp e+2*j/\nd e'<=nd e+4*j/\∀m,qB (j+1+m) (mBl (zD neA (zB 5) (xR (yO zK)))) zCV [I,.v (.int c),.v (kn N),.v (toD e),.v (.int d),.v (kn fr),x6,x7,x8]=some (.nx [I,.v (.int c),.v (kn N),.v (toD e'),.v (.int d'),.v (kn []),y6,y7,y8])
 |j,L,e,d,[],x6,x7,x8,h6,h7,h8,hL,hf,hl,hm,ho,hc=>⟨e,d,x6,x7,x8,ho,hc.mono λs h=>h.elim id (λh=>by cases h),by lia,by lia,λm=>by
  rw[show j+1+m=(j+m)+1 by lia];exact vQ ((zNQ (fr:=[]) rfl).trans (by rw[decide_eq_false (by simp)]))⟩
 |0,L,e,d,s::fr,x6,x7,x8,h6,h7,h8,hL,hf,hl,hm,ho,hc=>by
  have:=uv (hf s (by simp))
  lia
 |j+1,L,e,d,s::fr,x6,x7,x8,h6,h7,h8,hL,hf,hl,hm,ho,hc=>by
  obtain⟨t,e1,d1,y6,y7,y8,t1,f6,f7,f8,t2,t3,t4,t5,t6⟩:=rH (c:=c) (I:=I) hq (d:=d) h6 h7 h8 (List.cons_ne_nil s fr) hl hm ho hc;have tL:=hf t t1;obtain⟨e',d',z6,z7,z8,r1,r2,r3,r4,r5⟩:=dW hq j (L.erase t) e1 d1 ((s::fr).filter λs=>decide (s≠t)) y6 y7 y8 f6 f7 f8 (by rw[tq tL];lia) (λx hx=>by
   obtain⟨q1,q2⟩:=lu.mp hx;exact(vq (of_decide_eq_true q2)).mpr (hf x q1)) (bv (vj ..) hl) (λx hx=>hm x (lu.mp hx).1) t2 t3
  refine⟨e',d',z6,z7,z8,r1,r2,by lia,by lia,λm=>?_⟩;rw[show j+1+1+m=(j+1+m)+1 by lia];exact(bV ((zNQ (fr:=s::fr) rfl).trans (by rw[decide_eq_true (by simp)])) t6).trans (r5 m)
theorem WP{NS:List (List Nat)}{q:Ex}(hq:[113]∈M)(hN:NS.length<=6)(hM:∀s∈NS,s∈M)(ho:WOk NS q)(hd:dp q<=16)(hn:nd q<=400)(hl:N.length<=100):∃e:Ex,WOk M e/\Cl e (·∈N)/\dp e<=28/\nd e<=424/\∃as,wP [.v (itm q),.v (.int c),.v (kn N)]=some (.v (toD e),as):=by
 have fl:=jE q N;obtain⟨e',d',y6,y7,y8,r1,r2,r3,r4,r5⟩:=dW (N:=N) (c:=c) (I:=.v (itm q)) hq 6 NS q (dp q:Int) (fv q N) .un .un .un trivial trivial trivial hN (cP q N ho) (by lia) (λs hs=>hM s (cP q N ho s hs)) (qD hM ho) (dS q N);refine⟨e',r1,r2,by lia,by lia,xP (r':=[.v (itm q),.v (.int c),.v (kn N),.v (toD e'),.v (.int d'),.v (kn []),y6,y7,y8]) ?_⟩;show wM [.v (itm q),.v (.int c),.v (kn N),.un,.un,.un,.un,.un,.un]=_;unfold wM;rw[yT (r':=[.v (itm q),.v (.int c),.v (kn N),.v (toD q),.v (.int (dp q:Int)),.un,.un,.un,.un]) (by rfl)];refine zQ (kn (fv q N)) (r2:=[.v (itm q),.v (.int c),.v (kn N),.v (toD q),.v (.int (dp q:Int)),.v (kn (fv q N)),.un,.un,.un]) (zR (p:=.v (kn (fv q N))) (zC rfl (zC rfl zN)) rfl (bN RF q N (by show _<40;lia) ho (by lia) (by lia))) (by rfl) ?_;have w:=r5 (WF-7);rw[show 6+1+(WF-7)=WF from rfl] at w;unfold zCV hnd at w;rw[yT w];exact yI rfl
end
theorem Z2{x:ME}{j:Nat}{mk:Sl->En}{p:List Nat->Prop}(hj:∀s d,fre s->yN j d (mk s)=some (mk (.v d))):∀(L:List D) (s:Sl),fre s->(∀a∈L,∃c,p c/\x (mk (.v a))=some (.str c))->∃cs:List (List Nat),cs.length=L.length/\(∀c∈cs,p c)/\qH (yN j) uX x L (mk s)=some (cs.map .str)
 |[],s,hs,h=>⟨[],rfl,(λ_ h=>by cases h),rfl⟩
 |a::L,s,hs,h=>by
  obtain⟨c,hc,e⟩:=h a (by simp);obtain⟨cs,h1,h2,h3⟩:=Z2 hj L (.v a) trivial λb hb=>h b (by simp[hb])
  refine⟨c::cs,by simp[h1],λd hd=>?_,?_⟩
  ·rcases ca.mp hd with rfl|hd
   ·exact hc
   ·exact h2 d hd
  ·unfold qH;rw[hj s a hs,aa,show uX (mk (.v a))=some true from rfl,aa,if_pos rfl,e,aa,h3];rfl
theorem WO(s:List α)(k:Nat):bR s none (some (k:Int))=s.take k:=by
 unfold bR;rw[HT.sIx_nat,HT.sIx_none,si,Nat.sub_zero];by_cases h:k<=s.length
 ·rw[ri h]
 ·rw[Nat.min_eq_right (by lia),List.take_length,kj (by lia)]
noncomputable def abc:List Nat:=[97,98,99,100,101,102,103,104,105,106,107,108,109,110,111,112,113,114,115,116,117,118,119,120,121,122]
structure Nm7(s:List Nat):Prop where
 len:s.length<=7
 ch:∀x∈s,x<1114112
theorem QT{n:Int}(n0:0<=n):∃s,Nm7 s/\∃as,wH [.v (.int n)]=some (.v (.str s),as):=by
 obtain⟨k,hk⟩:∃k:Nat,n % 7=(k:Int):=⟨(n % 7).toNat,by lia⟩
 let C:Sl:=.v (.int n)
 obtain⟨cs,c1,c2,c3⟩:=JJ (x:=zD ixD (mC (.str abc)) (zD xL (zM 2 zO (zA (zB 0) (zA (zD xB (mC (.int 30)) (zB 1)) zK))) (mC (.int 26)))) (j:=1) (mk:=λs=>[C,s]) (p:=(·∈abc)) (λs d hs=>zW (x:=s) rfl hs) ((List.range k).map λi=>D.int ((0:Int)+(i:Nat))) .un trivial (λd hd=>by
  obtain⟨i,_,rfl⟩:=fo.mp hd;obtain⟨m,m0,hm⟩:=wS n (30+((0:Int)+(i:Nat)));obtain⟨ch,h1,h2⟩:=zP6 (l:=abc) (by decide) (i:=m % 26) (cq _ (by decide)) (ck _ (by decide));exact⟨ch,h1,zP (x:=.str abc) zF (yM (zR (p:=.v (.int m)) (zC rfl (zC (xK zF rfl) zN)) rfl hm) zF (by decide)) h2⟩)
 rw[ak,km] at c1;have low:∀x∈abc,x<1114112:=by decide
 have cl:∀x∈cs,x<1114112:=λx hx=>low x (c2 x hx)
 have len:cs.length<=6:=by lia
 obtain⟨a,ha⟩:∃a:Nat,n / 7 % ((cs.length:Int)+1)=(a:Int):=⟨(n / 7 % ((cs.length:Int)+1)).toNat,by have:=cq (n / 7) (show(cs.length:Int)+1≠0 by lia);lia⟩
 let R:En:=[C,.v (.str cs),.v (.int (a:Int))]
 refine⟨cs.take a++[113]++cs.drop a,⟨by simp;lia,λx hx=>?_⟩,xP (r':=R) ?_⟩
 ·rcases bf.mp hx with q|q
  ·rcases bf.mp q with q|q
   ·exact cl x (ju q)
   ·rw[ba.mp q];decide
  ·exact cl x (pj q)
 show qP [C,.un,.un]=_;unfold qP;refine zQ (.str cs) (r2:=[C,.v (.str cs),.un]) ?_ (by rfl) (zQ (.int (a:Int)) (r2:=R) ?_ (by rfl) (yI ?_))
 ·unfold zI3;rw[zF,aa];show(xS _ _ _ _ _ _).bind _=_;unfold xS xI;rw[pE (n:=k) (hk ▸ yM rfl zF (by decide)) (by lia),aa,if_pos (by rw[ak,km];exact x3 (by lia))];rw[show YE [0] 2 [C,.un,.un]=[C,.un] from rfl];unfold abc at c3;rw[c3,aa,rT,aa,if_pos,ZJ];have e:((cs.map λc=>[c]).map List.length).sum=cs.length:=by
   rw[gm];clear c2 c3 c1 cl len ha R
   induction cs with
   |nil=>rfl
   |cons x t ih=>simp at ih ⊢;lia
  rw[e];simp;lia
 ·have ln:mUn qX (zB 1) [C,.v (.str cs),.un]=some (.int (cs.length:Int)):=jV (x:=.str cs) rfl (if_pos (bv (show cs.length<=100 by lia) (by decide)));exact ha ▸ yM (x4 rfl zF (by decide)) (xK ln zF) (by lia)
 ·exact zP (x:=.str (cs.take a++[113])) (y:=.str (cs.drop a)) (zP (x:=.str (cs.take a)) (bF (x:=.str cs) rfl (by rfl) (xC rfl) (by rw[d8 (by lia),WO])) zF (c8 (by simp;lia))) (bF (x:=.str cs) rfl (xC rfl) (by rfl) (by rw[d8 (by lia),mF])) (c8 (by simp;lia))
def zFN(pre suf:List Nat)(i:Nat):List Nat:=pre++[97+i]++suf
theorem zLL(h:zFN p s i=zFN p s j):i=j:=by
 unfold zFN at h;simpa using h
theorem nJ{f:Nat->List Nat}(hf:∀i j,f i=f j->i=j):∀{l:List Nat},l.Nodup->(l.map f).Nodup
 |[],_=>jt
 |a::l,h=>by
  rw[dl] at h;rw[aq,dl];refine⟨λz=>?_,nJ hf h.2⟩;obtain⟨b,h1,h2⟩:=fo.mp z;exact h.1 (hf _ _ h2 ▸ h1)
def zH9(p s:List Nat)(m:Nat):List (List Nat):=(List.range m).map (zFN p s)++[zM1]
theorem oI(h:113∈p++s)(m:Nat):(zH9 p s m).Nodup:=by
 refine qx.mpr ⟨nJ (λ_ _=>zLL) List.nodup_range,by simp,λx hx y hy e=>?_⟩;obtain⟨i,_,rfl⟩:=fo.mp hx;rw[ba.mp hy] at e
 have:113∈zM1:=by
  rw[<-e];unfold zFN;rcases bf.mp h with q|q<;>simp[q]
 revert this
 decide
def zCU:MS:=(xH 11 (zM 4 jK (zA (zB 11) (zA (zD ixD (zB 0) (zB 12)) (zA (zB 12) (zA (zB 10) zK))))))
section
variable{NS:List (List Nat)}{cs:List Int}{a1 a2 a3 a4 a5 a6 a7 a8 a9:Sl}
theorem m9(hN:NS.length=6):∀(L:List Nat) (es:List Ex) (x:Sl),fre x->(∀j∈L,j<cs.length)->zN5 NS es->es≠[]->es.length+L.length<=900->∃(es':List Ex) (x':Sl),fre x'/\zN5 NS es'/\es'≠[]/\tn es'<=tn es+2*L.length/\es'.length<=es.length+L.length/\nY (yN 12) zCU (L.map λj:Nat=>D.int (j:Int)) [.v (.lst (cs.map .int)),a1,a2,a3,a4,a5,a6,a7,a8,a9,.v (kn NS),.v (.lst (es.map itm)),x]=some (.nx [.v (.lst (cs.map .int)),a1,a2,a3,a4,a5,a6,a7,a8,a9,.v (kn NS),.v (.lst (es'.map itm)),x'])
 |[],es,x,hx,hj,hg,h0,hl=>⟨es,x,hx,hg,h0,by lia,by lia,rfl⟩
 |j::L,es,x,hx,hj,hg,h0,hl=>by
  rw[ao] at hl;have hj0:=hj j (by simp);obtain⟨es1,g1,g2,g3,g4,g5⟩:=zBQ hN hg (by lia) cs[j] (j:Int);obtain⟨es',x',r0,r1,r2,r3,r4,r5⟩:=m9 hN L es1 (.v (.int (j:Int))) trivial (λi hi=>hj i (by simp[hi])) g1 g2 (by lia);refine⟨es',x',r0,r1,r2,by rw[ao];lia,by rw[ao];lia,?_⟩;rw[aq,bC (r1:=[.v (.lst (cs.map .int)),a1,a2,a3,a4,a5,a6,a7,a8,a9,.v (kn NS),.v (.lst (es.map itm)),.v (.int (j:Int))]) (zW (i:=12) (x:=x) rfl hx) (r':=[.v (.lst (cs.map .int)),a1,a2,a3,a4,a5,a6,a7,a8,a9,.v (kn NS),.v (.lst (es1.map itm)),.v (.int (j:Int))]) ?_]
  ·exact r5
  ·unfold zCU;exact kZ (zR (p:=.v (.lst (es1.map itm))) (zC rfl (zC (zP (x:=.lst (cs.map .int)) (y:=.int (j:Int)) rfl rfl (yY (by rw[bn,bt hj0];rfl))) (zC rfl (zC rfl zN)))) rfl g5) (by rfl)
end
theorem zOW{k n m:Nat}(hm:1<=m/\m<=6)(hn:n<=60):gQ (k:Int) (n:Int) (m:Int)<=60/\∀i<gQ (k:Int) (n:Int) (m:Int),k+i*m<n:=by
 unfold gQ
 have:m=1\/m=2\/m=3\/m=4\/m=5\/m=6:=by lia
 rcases this with rfl|rfl|rfl|rfl|rfl|rfl<;>exact⟨by lia,λi hi=>by lia⟩
def zIC:MS:=(zZ (xH 9 (mSl (zB 6) (xA (zI2 (zA (mC (.int 0)) (zA (zD J2 (zB 8) (mC (.int 2))) zK)))) (xA (zD xB (zB 8) (mC (.int 1))))))
 (zZ (xH 10 (zD xB (xR (xS [2,8] 3 (gS (zD J2 (mC (.int 6)) (mUn qX (zB 9)))) (yN 2) (zM 1 wH (zA (zM 2 zO (zA (zB 0) (zA (zD xB (zB 1) (zB 2)) zK))) zK)))) (zB 9)))
 (zZ (xH 11 (xR (yO (zA (zM 3 wI (zA (zB 2) (zA (zM 2 zO (zA (zB 2) (zA (zD xB (mC (.int 20)) (zB 8)) zK))) (zA (zB 10) zK)))) zK))))
 (zZ (mW (yN 12) (QW (zB 8) (mUn qX (zB 0)) (zB 3)) zCU)
 (sX (zCN 7 (xM (zA (zD ixD (zB 6) (zB 8)) (zA (zM 3 wP (zA (zM 2 wO (zA (zB 11) (zA (zB 2) zK))) (zA (zB 2) (zA (mSl (zB 6) x2 (xA (zD xB (zB 8) (mC (.int 1))))) zK)))) zK)))))))))
structure Sf(C:List (List Nat))(k:Nat)(ps:Pr)(M:List (List Nat)):Prop where
 nm:ps.map (·.1)=C.take k
 q:[113]∈M
 ml:M.length<=1+6*k
 mc:∀s∈M,NmC s
 ok:∀p∈ps,dp p.2<40/\nd p.2<=500/\WOk M p.2/\Cl p.2 (·∈C)
section
variable{cs:List Int}{C:List (List Nat)}{mn:Nat}{sc:Int}{a1 a4 a5:Sl}
def Fr(cs:List Int)(a1:Sl)(sc:Int)(mn:Nat)(a4 a5:Sl)(C:List (List Nat))(ps:Pr)(x8 x9 x10 x11 x12:Sl):En:=[.v (.lst (cs.map .int)),a1,.v (.int sc),.v (.int (mn:Int)),a4,a5,.v (kn C),.o (prog ps),x8,x9,x10,x11,x12]
theorem zB7(hcs:cs.length<=60)(hC:C.length=mn)(hm:1<=mn/\mn<=6)(hc:∀s∈C,NmC s){k:Nat}(hk:k<mn){ps:Pr}{M:List (List Nat)}(h:Sf C k ps M){x9 x10 x11 x12:Sl}(h9:fre x9)(h10:fre x10)(h11:fre x11)(h12:fre x12):∃(ps':Pr) (M':List (List Nat)) (y9 y10 y11 y12:Sl),Sf C (k+1) ps' M'/\fre y9/\fre y10/\fre y11/\fre y12/\zIC (Fr cs a1 sc mn a4 a5 C ps (.v (.int (k:Int))) x9 x10 x11 x12)=some (.nx (Fr cs a1 sc mn a4 a5 C ps' (.v (.int (k:Int))) y9 y10 y11 y12)):=by
 let K:Sl:=.v (.int (k:Int))
 let AB:List (List Nat):=(C.take (k+1)).drop (k-2)
 have abl:AB.length<=6:=by simp[AB];lia
 have abc:∀s∈AB,s∈C:=λs hs=>ju (pj hs)
 have s9:mSl (zB 6) (xA (zI2 (zA (mC (.int 0)) (zA (zD J2 (zB 8) (mC (.int 2))) zK)))) (xA (zD xB (zB 8) (mC (.int 1)))) (Fr cs a1 sc mn a4 a5 C ps K x9 x10 x11 x12)=some (kn AB):=by
  refine bF (x:=kn C) rfl (xC (ZE zF (zP (x:=.int (k:Int)) rfl zF rfl))) (xC (xK (i:=(k:Int)) rfl zF)) ?_;show some (D.lst (bR (C.map D.str) (some (max 0 ((k:Int)-2))) (some ((k:Int)+1))))=_;rw[show max 0 ((k:Int)-2)=((k-2:Nat):Int) by lia,show(k:Int)+1=((k+1:Nat):Int) by lia,JI,<-tm,<-List.map_drop];rfl
 let R1:=Fr cs a1 sc mn a4 a5 C ps K (.v (kn AB)) x10 x11 x12
 obtain⟨ns,n1,n2,n3⟩:=Z2 (x:=zM 1 wH (zA (zM 2 zO (zA (zB 0) (zA (zD xB (zB 1) (zB 2)) zK))) zK)) (j:=2) (mk:=λs=>[.v (.int sc),K,s]) (p:=Nm7) (λs d hs=>zW (i:=2) (x:=s) rfl hs) ((List.range (6-AB.length)).map λi=>D.int ((0:Int)+(i:Nat))) .un trivial (λd hd=>by
  obtain⟨i,_,rfl⟩:=fo.mp hd;obtain⟨m,m0,hm⟩:=wS sc ((k:Int)+((0:Int)+(i:Nat)));obtain⟨s,hs,es⟩:=QT m0;exact⟨s,hs,zR (p:=.v (.str s)) (zC (zR (p:=.v (.int m)) (zC rfl (zC (xK rfl rfl) zN)) rfl hm) zN) rfl es⟩)
 rw[ak,km] at n1
 let NS:List (List Nat):=ns++AB
 have nsl:NS.length=6:=by show(ns++AB).length=6;rw[bb];lia
 have nsc:∀s∈NS,NmC s:=λs hs=>by
  rcases bf.mp hs with q|q
  ·exact⟨by have:=(n2 s q).len;lia,(n2 s q).ch⟩
  ·exact hc s (abc s q)
 have s10:zD xB (xR (xS [2,8] 3 (gS (zD J2 (mC (.int 6)) (mUn qX (zB 9)))) (yN 2) (zM 1 wH (zA (zM 2 zO (zA (zB 0) (zA (zD xB (zB 1) (zB 2)) zK))) zK)))) (zB 9) R1=some (kn NS):=by
  refine gL (A:=ns) (B:=AB) ?_ rfl (by lia);have ln:zD J2 (mC (.int 6)) (mUn qX (zB 9)) R1=some (.int ((6-AB.length:Nat):Int)):=by
   have l0:mUn qX (zB 9) R1=some (.int (AB.length:Int)):=jV (x:=kn AB) rfl (by show some (D.int ((AB.map D.str).length:Int))=_;rw[ak]);rw[show((6-AB.length:Nat):Int)=6-(AB.length:Int) by lia];exact zP zF l0 rfl
  unfold xR xS xI;rw[pE ln (by lia),aa,if_pos (by rw[ak,km];exact x3 (by lia))];rw[show YE [2,8] 3 R1=[.v (.int sc),K,.un] from rfl,n3];rfl
 let R2:=Fr cs a1 sc mn a4 a5 C ps K (.v (kn AB)) (.v (kn NS)) x11 x12
 obtain⟨m,m0,hm2⟩:=wS sc (20+(k:Int));obtain⟨lf,l1,l2,l3,l4⟩:=QY (c:=sc) (n:=m) nsl m0;have s11:xR (yO (zA (zM 3 wI (zA (zB 2) (zA (zM 2 zO (zA (zB 2) (zA (zD xB (mC (.int 20)) (zB 8)) zK))) (zA (zB 10) zK)))) zK)) R2=some (.lst ([lf].map itm)):=j3 (zC (zR (p:=.v (itm lf)) (zC rfl (zC (zR (p:=.v (.int m)) (zC rfl (zC (xK zF rfl) zN)) rfl hm2) (zC rfl zN))) rfl l4) zN) (by show 1<=100;decide)
 let R3:=Fr cs a1 sc mn a4 a5 C ps K (.v (kn AB)) (.v (kn NS)) (.v (.lst ([lf].map itm))) x12
 obtain⟨z1,z2⟩:=zOW (k:=k) hm hcs
 let L:List Nat:=(List.range (gQ (k:Int) (cs.length:Int) (mn:Int))).map λi=>k+i*mn
 obtain⟨es,x',fx,e1,e2,e3,e4,e5⟩:=m9 (cs:=cs) (a1:=a1) (a2:=.v (.int sc)) (a3:=.v (.int (mn:Int))) (a4:=a4) (a5:=a5) (a6:=.v (kn C)) (a7:=.o (prog ps)) (a8:=K) (a9:=.v (kn AB)) nsl L [lf] x12 h12 (λj hj=>by
  obtain⟨i,hi,rfl⟩:=fo.mp hj;exact z2 i (kl.mp hi)) (λe he=>by rw[ba.mp he];exact⟨l1,by lia⟩) (by simp) (by simp[L];lia)
 have Ll:L.length<=60:=by simp[L];exact z1
 have t1:tn [lf]<=2:=by simp[tn];lia
 have l1':es.length<=61:=by simp at e4;lia
 have s12:mW (yN 12) (QW (zB 8) (mUn qX (zB 0)) (zB 3)) zCU R3=some (.nx (Fr cs a1 sc mn a4 a5 C ps K (.v (kn AB)) (.v (kn NS)) (.v (.lst (es.map itm))) x')):=by
  have rg:QW (zB 8) (mUn qX (zB 0)) (zB 3) R3=some (L.map λj:Nat=>D.int (j:Int)):=by
   have ln:mUn qX (zB 0) R3=some (.int (cs.length:Int)):=jV (x:=.lst (cs.map .int)) rfl (by show some (D.int ((cs.map D.int).length:Int))=_;rw[ak]);unfold QW;have hI:∀i:Int,DD.intD (.int i)=some i:=λi=>by unfold DD.intD;rfl
   rw[show zB 8 R3=some (.int (k:Int)) from rfl,aa,hI,aa,ln,aa,hI,aa,show zB 3 R3=some (.int (mn:Int)) from rfl,aa,hI,aa];rw[if_pos (by lia)];unfold zNE;rw[gm];refine congrArg some (qh λi _=>?_);show D.int ((k:Int)+(i:Int)*(mn:Int))=.int ((k+i*mn:Nat):Int);rw[Int.natCast_add,Int.natCast_mul]
  unfold mW;rw[rg];exact e5
 let R4:=Fr cs a1 sc mn a4 a5 C ps K (.v (kn AB)) (.v (kn NS)) (.v (.lst (es.map itm))) x'
 obtain⟨q,q1,q2,q3,q4⟩:=zGU (NS:=NS) (c:=sc) e1 e2 (by lia)
 let M':List (List Nat):=M++NS
 obtain⟨e,o1,o2,o3,o4,o5⟩:=WP (M:=M') (N:=C.take (k+1)) (c:=sc) (bf.mpr (.inl h.q)) (jj nsl) (λs hs=>bf.mpr (.inr hs)) q1 q2 (by lia) (by rw[gp];lia);have hkC:k<C.length:=by lia
 have ix:zD ixD (zB 6) (zB 8) R4=some (.str C[k]):=zP (x:=kn C) (y:=.int (k:Int)) rfl rfl (yY (by rw[bn,bt hkC];rfl));have sl2:mSl (zB 6) x2 (xA (zD xB (zB 8) (mC (.int 1)))) R4=some (kn (C.take (k+1))):=by
  refine bF (x:=kn C) rfl (by rfl) (xC (xK (i:=(k:Int)) rfl zF)) ?_;show some (D.lst (bR (C.map D.str) none (some ((k:Int)+1))))=_;rw[show(k:Int)+1=((k+1:Nat):Int) by lia,WO,<-tm];rfl
 have tp:xM (zA (zD ixD (zB 6) (zB 8)) (zA (zM 3 wP (zA (zM 2 wO (zA (zB 11) (zA (zB 2) zK))) (zA (zB 2) (zA (mSl (zB 6) x2 (xA (zD xB (zB 8) (mC (.int 1))))) zK)))) zK)) R4=some (.tup [.str C[k],toD e]):=qA (zC ix (zC (zR (p:=.v (toD e)) (zC (zR (p:=.v (itm q)) (zC rfl (zC rfl zN)) rfl q4) (zC rfl (zC sl2 zN))) rfl o5) zN)) (by show 2<=100;decide);have pl:ps.length<=6:=by
  have:=congrArg List.length h.nm
  rw[ak,gp] at this;lia
 refine⟨ps++[(C[k],e)],M',.v (kn AB),.v (kn NS),.v (.lst (es.map itm)),x',⟨?_,bf.mpr (.inl h.q),?_,λs hs=>?_,λp hp=>?_⟩,trivial,trivial,trivial,?_,?_⟩
 ·rw[cy,h.nm,List.take_succ_eq_append_getElem hkC];rfl
 ·show(M++NS).length<=_;rw[bb];have:=h.ml;lia
 ·rcases bf.mp hs with z|z
  ·exact h.mc s z
  ·exact nsc s z
 ·rcases bf.mp hp with z|z
  ·obtain⟨k1,k2,k3,k4⟩:=h.ok p z;exact⟨k1,k2,qD (λs hs=>bf.mpr (.inl hs)) k3,k4⟩
  ·rw[ba.mp z];exact⟨by show dp e<40;lia,by show nd e<=500;lia,o1,o2.mono λs hs=>ju hs⟩
 ·exact fx
 ·unfold zIC;refine zQ (kn AB) (r2:=R1) s9 (zW (i:=9) (x:=x9) rfl h9) (zQ (kn NS) (r2:=R2) s10 (zW (i:=10) (x:=x10) rfl h10) (zQ (.lst ([lf].map itm)) (r2:=R3) s11 (zW (i:=11) (x:=x11) rfl h11) ?_));rw[yT s12];refine mV (d:=.non) ?_
  have:=WY (i:=7) (r:=R4) (S:=prog ps) rfl tp (x3 (by show(prog ps).length<=_;unfold prog;rw[ak];lia))
  rw[this];show some (D.non,Fr cs a1 sc mn a4 a5 C ps K (.v (kn AB)) (.v (kn NS)) (.v (.lst (es.map itm))) x' |>.set 7 _)=_;unfold Fr prog;rw[cy];rfl
end
section
variable{cs:List Int}{C:List (List Nat)}{mn:Nat}{sc:Int}{a1 a4 a5:Sl}
theorem oB(hcs:cs.length<=60)(hC:C.length=mn)(hm:1<=mn/\mn<=6)(hc:∀s∈C,NmC s):∀(r k:Nat) (ps:Pr) (M:List (List Nat)) (x8 x9 x10 x11 x12:Sl),k+r=mn->Sf C k ps M->fre x8->fre x9->fre x10->fre x11->fre x12->∃(ps':Pr) (M':List (List Nat)) (y8 y9 y10 y11 y12:Sl),Sf C mn ps' M'/\nY (yN 8) zIC ((List.range' k r).map λi:Nat=>D.int ((0:Int)+(i:Nat))) (Fr cs a1 sc mn a4 a5 C ps x8 x9 x10 x11 x12)=some (.nx (Fr cs a1 sc mn a4 a5 C ps' y8 y9 y10 y11 y12))
 |0,k,ps,M,x8,x9,x10,x11,x12,hk,h,_,_,_,_,_=>by
  obtain rfl:k=mn:=by lia
  exact⟨ps,M,x8,x9,x10,x11,x12,h,rfl⟩
 |r+1,k,ps,M,x8,x9,x10,x11,x12,hk,h,h8,h9,h10,h11,h12=>by
  obtain⟨ps1,M1,y9,y10,y11,y12,t1,f9,f10,f11,f12,t2⟩:=zB7 (a1:=a1) (sc:=sc) (a4:=a4) (a5:=a5) hcs hC hm hc (show k<mn by lia) h h9 h10 h11 h12;obtain⟨ps',M',z8,z9,z10,z11,z12,r1,r2⟩:=oB hcs hC hm hc r (k+1) ps1 M1 (.v (.int (k:Int))) y9 y10 y11 y12 (by lia) t1 trivial f9 f10 f11 f12;refine⟨ps',M',z8,z9,z10,z11,z12,r1,?_⟩;rw[List.range'_succ,aq,on];rw[bC (r1:=Fr cs a1 sc mn a4 a5 C ps (.v (.int (k:Int))) x9 x10 x11 x12) (zW (i:=8) (x:=x8) rfl h8) t2];exact r2
end
noncomputable def ab12:List Nat:=[97,98,99,100,101,102,103,104,105,106,107,108]
theorem zHW{cs:List Int}(hcs:cs.length<=60){f sc:Int}(f0:0<=f)(s0:0<=sc):∃(ps:Pr) (M:List (List Nat)),Ps ps M/\∃as,qW [.v (.lst (cs.map .int)),.v (.int f),.v (.int sc)]=some (.f (prog ps),as):=by
 obtain⟨mn,hmn⟩:∃mn:Nat,1+max ((cs.length:Int)-1) (f % 5) / 18+f / 5 % 3=(mn:Int):=⟨(1+max ((cs.length:Int)-1) (f % 5) / 18+f / 5 % 3).toNat,by lia⟩;have hm:1<=mn/\mn<=6:=by lia
 obtain⟨s,hs,es⟩:=QT s0
 let b:List Nat:=[113]++s.take 6
 have bl:b.length<=7/\1<=b.length:=by simp[b];lia
 have bc:∀x∈b,x<1114112:=λx hx=>by
  rcases bf.mp hx with q|q
  ·rw[ba.mp q];decide
  ·exact hs.ch x (ju q)
 obtain⟨a,ha⟩:∃a:Nat,sc / 3 % (b.length:Int)=(a:Int):=⟨(sc / 3 % (b.length:Int)).toNat,by have:=cq (sc / 3) (show(b.length:Int)≠0 by lia);lia⟩
 let C:List (List Nat):=zH9 (b.take a) (b.drop a) (mn-1)
 have hC:C.length=mn:=by simp[C,zH9];lia
 have q113:113∈b.take a++b.drop a:=by rw[vh];simp[b]
 have hc:∀t∈C,NmC t:=λt ht=>by
  rcases bf.mp ht with q|q
  ·obtain⟨i,hi,rfl⟩:=fo.mp q;have hi:=kl.mp hi;refine⟨by unfold zFN;simp;lia,λx hx=>?_⟩;unfold zFN at hx;simp only[bf,ba] at hx;rcases hx with(hx|rfl)|hx
   ·exact bc x (ju hx)
   ·lia
   ·exact bc x (pj hx)
  ·rw[ba.mp q];exact⟨by decide,by decide⟩
 let F0:Sl:=.v (.lst (cs.map .int))
 let F1:Sl:=.v (.int f)
 let F2:Sl:=.v (.int sc)
 let F3:Sl:=.v (.int (mn:Int))
 let F4:Sl:=.v (.str b)
 let F5:Sl:=.v (.int (a:Int))
 obtain⟨ps,M,y8,y9,y10,y11,y12,r1,r2⟩:=oB (cs:=cs) (C:=C) (mn:=mn) (sc:=sc) (a1:=F1) (a4:=F4) (a5:=F5) hcs hC hm hc mn 0 [] [[113]] .un .un .un .un .un (by lia) ⟨rfl,by simp,by simp,λt ht=>by rw[ba.mp ht];exact⟨by decide,by decide⟩,λp hp=>by cases hp⟩ trivial trivial trivial trivial trivial;have nmE:ps.map (·.1)=C:=by rw[r1.nm,kj (by lia)]
 have pl:ps.length=mn:=by have:=congrArg List.length nmE;rw[ak] at this;lia
 refine⟨ps,M,⟨by rw[nmE];exact oI q113 _,by rw[nmE];simp[C,zH9],by lia,λp hp=>?_,by have:=r1.ml;lia,r1.mc⟩,?_⟩
 ·obtain⟨k1,k2,k3,k4⟩:=r1.ok p hp;exact⟨k1,k2,k3,by rw[nmE];exact k4,hc p.1 (by rw[<-nmE];exact fo.mpr ⟨p,hp,rfl⟩)⟩
 have fin:wU [F0,F1,F2,.un,.un,.un,.un,.un,.un,.un,.un,.un,.un]=some (.rf (prog ps) (Fr cs F1 sc mn F4 F5 C ps y8 y9 y10 y11 y12)):=by
  unfold wU;have ln:mUn qX (zB 0) [F0,F1,F2,.un,.un,.un,.un,.un,.un,.un,.un,.un,.un]=some (.int (cs.length:Int)):=jV (x:=.lst (cs.map .int)) rfl (by show some (D.int ((cs.map D.int).length:Int))=_;rw[ak]);refine zQ (.int (mn:Int)) (r2:=[F0,F1,F2,F3,.un,.un,.un,.un,.un,.un,.un,.un,.un]) (hmn ▸ xK (xK zF (x4 (ZE (zP ln zF rfl) (yM rfl zF (by decide))) zF (by decide))) (yM (x4 rfl zF (by decide)) zF (by decide))) (by rfl) ?_;refine zQ (.str b) (r2:=[F0,F1,F2,F3,F4,.un,.un,.un,.un,.un,.un,.un,.un]) ?_ (by rfl) ?_
  ·refine zP (x:=.str [113]) (y:=.str (s.take 6)) zF (bF (x:=.str s) (zR (p:=.v (.str s)) (zC rfl zN) rfl es) (by rfl) (xC zF) ?_) (c8 (by simp;lia));rw[d8 (by have:=hs.len;lia),show(6:Int)=((6:Nat):Int) from rfl,WO]
  have lb:mUn qX (zB 4) [F0,F1,F2,F3,F4,.un,.un,.un,.un,.un,.un,.un,.un]=some (.int (b.length:Int)):=jV (x:=.str b) rfl (if_pos (bv (show b.length<=100 by lia) (by decide)));refine zQ (.int (a:Int)) (r2:=[F0,F1,F2,F3,F4,F5,.un,.un,.un,.un,.un,.un,.un]) (ha ▸ yM (x4 rfl zF (by decide)) lb (by lia)) (by rfl) ?_;refine zQ (kn C) (r2:=[F0,F1,F2,F3,F4,F5,.v (kn C),.un,.un,.un,.un,.un,.un]) ?_ (by rfl) ?_
  ·refine gL (A:=(List.range (mn-1)).map (zFN (b.take a) (b.drop a))) (B:=[zM1]) ?_ (by rfl) (by simp;lia);have sm:zD J2 (zB 3) (mC (.int 1)) [F0,F1,F2,F3,F4,F5,.un,.un,.un,.un,.un,.un,.un]=some (.int ((mn-1:Nat):Int)):=by
    rw[show((mn-1:Nat):Int)=(mn:Int)-1 by lia];exact zP (x:=.int (mn:Int)) rfl zF rfl
   unfold xR xS xI;rw[pE sm (by lia),aa,if_pos (by rw[ak,km];exact x3 (by lia))];rw[show YE [4,5] 3 [F0,F1,F2,F3,F4,F5,.un,.un,.un,.un,.un,.un,.un]=[F4,F5,.un] from rfl];rw[mG (mk:=λs=>[F4,F5,s]) (y:=λi=>D.str (zFN (b.take a) (b.drop a) i)) (λs d hs=>zW (i:=2) (x:=s) rfl hs) (List.range (mn-1)) .un trivial (λi hi=>?_)]
   ·unfold kn;rw[gm];rfl
   ·have hi':i<mn-1:=kl.mp hi;have e2:ixD (.str ab12) (.int ((0:Int)+(i:Nat)))=some (.str [97+i]):=by
     show(if ab12.length<=af then (atI ab12 ((0:Int)+(i:Nat))).map λc=>D.str [c] else none)=_;have ab:∀i,i<12->ab12[i]?=some (97+i):=by decide
     rw[if_pos (by decide),on,yY (ab i (by lia))];rfl
    have t1:(b.take a).length<=7:=by rw[gp];lia
    have t2:(b.drop a).length<=7:=by rw[ja];lia
    unfold zFN;refine zP (x:=.str (b.take a++[97+i])) (y:=.str (b.drop a)) (zP (x:=.str (b.take a)) (bF (x:=.str b) rfl (by rfl) (xC rfl) ?_) (zP (x:=.str ab12) zF rfl e2) (c8 (by simp;lia))) (bF (x:=.str b) rfl (xC rfl) (by rfl) ?_) (c8 (by simp;lia))
    ·rw[d8 (by lia),WO]
    ·rw[d8 (by lia),mF]
  rw[yT (r':=Fr cs F1 sc mn F4 F5 C [] .un .un .un .un .un) (by rfl)];rw[yT (r':=Fr cs F1 sc mn F4 F5 C ps y8 y9 y10 y11 y12) ?_]
  ·rfl
  ·unfold mW;rw[pE (n:=mn) (r:=Fr cs F1 sc mn F4 F5 C [] .un .un .un .un .un) rfl (by lia),vp];unfold zIC zCU at r2;exact r2
 refine⟨(Fr cs F1 sc mn F4 F5 C ps y8 y9 y10 y11 y12).take 3,?_⟩;unfold qW mkF;show(wU [F0,F1,F2,.un,.un,.un,.un,.un,.un,.un,.un,.un,.un]).bind _=_;rw[fin];rfl
structure Sh(d:D)(n b:Nat):Prop where
 ok:okD d=true
 sh:(toP d).showable=true
 nd:(toP d).hasDict=false
 dp:(toP d).depth<=n
 ls:PyData.leavesShort 13 (toP d)=true
 bk:(toP d).bulk<=b
structure ShL(l:List D)(n b:Nat):Prop where
 ok:zFF l=true
 sh:PyData.showableAll (pB l)=true
 nd:PyData.hasDictAll (pB l)=false
 dp:PyData.depthAll (pB l)<=n
 ls:PyData.leavesShortAll 13 (pB l)=true
 bk:PyData.bulkAll (pB l)<=b
theorem qM:ShL [] n 0:=⟨rfl,rfl,rfl,cg _,rfl,ae _⟩
theorem zS(h:Sh d m b)(hl:ShL l n c)(hm:m<=n)(hk:b+1+c<=k):ShL (d::l) n k:=by
 refine⟨?_,?_,?_,?_,?_,?_⟩
 ·show(okD d && zFF l)=true;rw[h.ok,hl.ok];rfl
 ·show((toP d).showable && PyData.showableAll (pB l))=true;rw[h.sh,hl.sh];rfl
 ·show((toP d).hasDict || PyData.hasDictAll (pB l))=false;rw[h.nd,hl.nd];rfl
 ·show max (toP d).depth (PyData.depthAll (pB l))<=n;have:=h.dp;have:=hl.dp;lia
 ·show(PyData.leavesShort 13 (toP d) && PyData.leavesShortAll 13 (pB l))=true;rw[h.ls,hl.ls];rfl
 ·show(toP d).bulk+1+PyData.bulkAll (pB l)<=k;have:=h.bk;have:=hl.bk;lia
theorem vI(h:ShL l n b):Sh (.tup l) (n+1) b:=⟨h.ok,h.sh,h.nd,jv h.dp,h.ls,h.bk⟩
theorem J6(h:∀c∈s,c<16 ^ 8):Sh (.str s) 0 s.length:=by
 refine⟨rfl,rfl,rfl,ae _,?_,ae _⟩;show(s.all λc=>decide (c<16 ^ 8))=true;exact rh.mpr λc hc=>decide_eq_true (h c hc)
theorem zJZ(h:small i):Sh (.int i) 0 0:=by
 refine⟨rfl,?_,rfl,ae _,?_,ae _⟩
 ·show decide (i.natAbs.log2<1920)=true;refine decide_eq_true ?_;have h2:i.natAbs<2 ^ 20:=by have:=h.1;have:=h.2;lia
  by_cases z:i.natAbs=0
  ·rw[z];decide
  ·exact om ((Nat.log2_lt z).mpr h2) (by decide)
 ·show decide ((PyData.int i).shown.length<=13)=true;refine decide_eq_true ?_;rw[PyData.shown];exact bv (toString_length_le h.1 (k:=6) (by decide) h.2) (by decide)
theorem zLK(h:NmC s):∀c∈s,c<16 ^ 8:=λc hc=>bh (h.ch c hc) (by decide)
theorem zIS(h:small n):Sh (nu n) 1 6:=vI (zS (J6 (by decide)) (zS (zJZ h) qM (ae 0) (ae _)) (ae 0) (show 3+1+(0+1+0)<=6 by decide))
theorem zII(h:w.length<=5/\∀c∈w,c<16 ^ 8):Sh (.str w) 0 5:=by
 have:=J6 h.2
 exact⟨this.ok,this.sh,this.nd,this.dp,this.ls,bv this.bk h.1⟩
theorem zIT(h:NmC s):Sh (.str s) 0 9:=by
 have:=J6 (zLK h)
 exact⟨this.ok,this.sh,this.nd,this.dp,this.ls,bv this.bk h.len⟩
section
variable{M:List (List Nat)}
theorem dD(hM:∀s∈M,NmC s):∀{e:Ex},WOk M e->Sh (toD e) (dp e+1) (40*nd e)
 |.num n,h=>by
  have:=zIS h
  exact⟨this.ok,this.sh,this.nd,this.dp,this.ls,bv this.bk (show 6<=40*1 by decide)⟩
 |.nm s,h=>vI (zS (zII (by decide)) (zS (zIT (hM s h)) qM (ae 0) (ae _)) (ae 0) (show 5+1+(9+1+0)<=40*1 by decide))
 |.emp,h=>vI (zS (zII (by decide)) qM (ae 0) (show 5+1+0<=40*1 by decide))
 |.tag l n,h=>vI (n:=1) (zS (zII (by decide)) (zS (zIT (hM l h.1)) (zS (zIS h.2) qM (ae _) (ae _)) (by decide) (ae _)) (by decide) (show 5+1+(9+1+(6+1+0))<=40*2 by decide))
 |.lab w l e,h=>by
  have he:=dD hM h.2.2;have hw:w.length<=5/\∀c∈w,c<16 ^ 8:=by rcases h.1 with rfl|rfl|rfl|rfl<;>decide
  refine vI (n:=dp e+1) (zS (zII hw) (zS (zIT (hM l h.2.1)) (zS he qM (by lia) (ae _)) (by lia) (ae _)) (cg _) ?_);show 5+1+(9+1+(40*nd e+1+0))<=40*(1+nd e);lia
 |.nev e,h=>by
  have he:=dD hM (e:=e) h;refine vI (n:=dp e+1) (zS (zII (by decide)) (zS he qM (by lia) (ae _)) (cg _) ?_);show 5+1+(40*nd e+1+0)<=40*(1+nd e);lia
 |.fld w l n e,h=>by
  have he:=dD hM h.2.2.2;have hw:w.length<=5/\∀c∈w,c<16 ^ 8:=by rcases h.1 with rfl|rfl<;>decide
  refine vI (n:=dp e+1) (zS (zII hw) (zS (zIT (hM l h.2.1)) (zS (zIS h.2.2.1) (zS he qM (by lia) (ae _)) (by lia) (ae _)) (by lia) (ae _)) (cg _) ?_);show 5+1+(9+1+(6+1+(40*nd e+1+0)))<=40*(2+nd e);lia
 |.bin w a b,h=>by
  have ha:=dD hM h.2.1;have hb:=dD hM h.2.2;have hw:w.length<=5/\∀c∈w,c<16 ^ 8:=by rcases h.1 with rfl|rfl|rfl|rfl|rfl<;>decide
  refine vI (n:=1+max (dp a) (dp b)) (zS (zII hw) (zS ha (zS hb qM (by lia) (ae _)) (by lia) (ae _)) (cg _) ?_);show 5+1+(40*nd a+1+(40*nd b+1+0))<=40*(1+nd a+nd b);lia
 |.ite a b c,h=>by
  have ha:=dD hM h.1;have hb:=dD hM h.2.1;have hc:=dD hM h.2.2;refine vI (n:=1+max (max (dp a) (dp b)) (dp c)) (zS (zII (by decide)) (zS ha (zS hb (zS hc qM (by lia) (ae _)) (by lia) (ae _)) (by lia) (ae _)) (cg _) ?_);show 5+1+(40*nd a+1+(40*nd b+1+(40*nd c+1+0)))<=40*(1+nd a+nd b+nd c);lia
 |.cas a l x b y c,h=>by
  obtain⟨o1,o2,o3,o4,o5,o6⟩:=h;have ha:=dD hM o4;have hb:=dD hM o5;have hc:=dD hM o6;refine vI (n:=1+max (max (dp a) (dp b)) (dp c)) (zS (zII (by decide)) (zS ha (zS (zIT (hM l o1)) (zS (zIT (hM x o2)) (zS hb (zS (zIT (hM y o3)) (zS hc qM (by lia) (ae _)) (by lia) (ae _)) (by lia) (ae _)) (by lia) (ae _)) (by lia) (ae _)) (by lia) (ae _)) (cg _) ?_);show 5+1+(40*nd a+1+(9+1+(9+1+(40*nd b+1+(9+1+(40*nd c+1+0))))))<=40*(1+nd a+nd b+nd c)
  have:=ZA a;have:=ZA b;have:=ZA c
  lia
theorem QG(hM:∀s∈M,NmC s):∀{ps:Pr},(∀p∈ps,dp p.2<40/\nd p.2<=500/\WOk M p.2/\NmC p.1)->ShL (prog ps) 50 (20100*ps.length)
 |[],h=>qM
 |p::ps,h=>by
  obtain⟨h4,h5,h3,h1⟩:=h p (by simp);have ih:=QG hM (ps:=ps) λq hq=>h q (by simp[hq])
  refine zS (vI (zS (zIT h1) (zS (dD hM h3) qM (ae _) (ae _)) (cg _) (ae _))) ih (by lia) ?_;rw[ao];lia
theorem zEF(h:Ps ps M):pF (prog ps)=true:=by
 have q:=QG h.nmc (ps:=ps) λp hp=>⟨(h.ok p hp).1,(h.ok p hp).2.1,(h.ok p hp).2.2.1,(h.ok p hp).2.2.2.2⟩
 have hl:=h.len;have e1:(toP (.lst (prog ps))).bulk<=2 ^ 20:=bv q.bk (by lia);have e2:=PyData.shown_fits_bulk (B:=13) (by decide) (by decide) (d:=toP (.lst (prog ps))) q.ls e1;have e3:(toP (.lst (prog ps))).showable=true:=q.sh;have e4:(toP (.lst (prog ps))).hasDict=false:=q.nd;have e5:(toP (.lst (prog ps))).depth<=150:=by
  show PyData.depthAll (pB (prog ps))+1<=150
  have:=q.dp;lia
 unfold pF;rw[q.ok,e3,e4,decide_eq_true e5,decide_eq_true e2];rfl
end
theorem zCC{f g:ME}{r:En}{i m:Int}(h1:f r=some (.int i))(h2:g r=some (.int m))(h0:0<=i)(hm:i<=m):mBl (gJ leA leA (mC (.int 0)) f g) r=some true:=by
 refine kK ?_;unfold gJ;rw[zF,aa,h1,aa];show(match D.bl (decide ((0:Int)<=i)) with | .bl true=>_ | .bl false=>_|_=>_)=_;rw[decide_eq_true h0];show(g r).bind _=_;rw[h2];show some (D.bl (decide (i<=m)))=_;rw[decide_eq_true hm]
section
variable{A:List (List Nat)}{a b:D}{i mo:Int}
abbrev GR(a b:D)(i mo:Int)(A:List (List Nat))(x:Sl):En:=[.v (.tup [a,.int i,b]),.v (.int mo),.v (kn A),x]
theorem ZQ(h0:0<=i)(hm:i<=mo):zF8 (cL (k8 (mUn (j8 "tuple") (zB 0)))) (zF8 (mBl (zD neA (mUn qX (zB 0)) (mC (.int 3)))) (zF8 (cL (k8 (zM 1 jI (zA (zD ixD (zB 0) (mC (.int 1))) zK)))) (cL (mBl (gJ leA leA (mC (.int 0)) (zD ixD (zB 0) (mC (.int 1))) (zB 1)))))) (GR a b i mo A .un)=some false:=by
 show cL (mBl (gJ leA leA (mC (.int 0)) (zD ixD (zB 0) (mC (.int 1))) (zB 1))) (GR a b i mo A .un)=some false;unfold cL;rw[zCC (i:=i) (m:=mo) (zP (x:=.tup [a,.int i,b]) rfl zF (yY (j:=1) rfl)) rfl h0 hm];rfl
theorem ixb{r:En}(h:zB 0 r=some (.tup [a,.int i,b])):zD ixD (zB 0) (mC (.int 2)) r=some b:=zP h zF (yY (j:=2) rfl)
theorem rK{f g:ME}{r:En}(h1:f r=some (.bl true))(h2:g r=some (.bl true)):pX f g r=some (.bl true):=by
 unfold pX;rw[h1];exact h2
theorem zBR(h0:0<=mo):∃as,wJ [.v (.tup [.str TIR,.int mo,.non]),.v (.int mo),.v (kn A)]=some (.v (.bl true),as):=by
 refine xP (r':=GR (.str TIR) .non mo mo A .un) ?_;show xF (GR (.str TIR) .non mo mo A .un)=_;unfold xF;refine yS (ZQ h0 (vz _)) (qK (by rfl) (yI (rK ?_ (by rfl))));refine zP (x:=.int mo) (y:=.int mo) (zP (x:=.tup [.str TIR,.int mo,.non]) rfl zF (yY (j:=1) rfl)) rfl ?_;show some (D.bl (decide (mo=mo)))=_;rw[decide_eq_true rfl]
theorem zBS(h0:0<=i)(hm:i<=mo)(hg:Gd A a b):∃as,wJ [.v (.tup [a,.int i,b]),.v (.int mo),.v (kn A)]=some (.v (.bl true),as):=by
 rcases hg with⟨rfl,_,hb⟩|⟨rfl,s,hs,_,j,rfl⟩
 ·refine xP (r':=GR (.str VAL) b i mo A .un) ?_;show xF (GR (.str VAL) b i mo A .un)=_;unfold xF;refine yS (ZQ h0 hm) (yS (by rfl) (yS (by rfl) (yI (rK (by rfl) ?_))));refine zP (ixb rfl) zF ?_;rcases hb with⟨n,rfl⟩|⟨l,rfl⟩<;>rfl
 ·let W:D:=.tup [.str s,.int j]
  refine xP (r':=GR (.str STK) W i mo A (.v W)) ?_;show xF (GR (.str STK) W i mo A .un)=_;unfold xF;refine yS (ZQ h0 hm) (yS (by rfl) (qK (by rfl) (zQ W (r2:=GR (.str STK) W i mo A (.v W)) (ixb rfl) (by rfl) (yI (rK (by rfl) (rK (by rfl) (rK ?_ (by rfl))))))));refine zP (x:=.str s) (y:=kn A) (zP (x:=W) rfl zF (zIE _ _)) rfl ?_;show(if jG (.str s)=true/\(A.map D.str).all jG=true then some (D.bl ((A.map D.str).any λz=>eqF z (.str s))) else none)=_;rw[if_pos ⟨rfl,cV A⟩,Z8,decide_eq_true hs]
end
theorem zGI(mo:Int):zBH 400 (.tup [.str TIR,.int mo,.non])=true:=(u7 (n:=0) (yL (u8 (NmC.ok ⟨by decide,by decide⟩)) (yL (gK mo) (yL ⟨rfl,rfl,ae 0⟩ kH (ae _)) (ae _)) (ae _))).n (by decide)
theorem Q0{A:List (List Nat)}{a b:D}(c:Int)(hg:Gd A a b):zBH 400 (.tup [a,.int c,b])=true:=by
 rcases hg with⟨rfl,h,_⟩|⟨rfl,s,_,hs,j,rfl⟩
 ·exact(u7 (n:=3) (yL (u8 (NmC.ok ⟨by decide,by decide⟩)) (yL (gK c) (yL h kH (ae _)) (by decide)) (by decide))).n (by decide)
 ·exact(u7 (n:=1) (yL (u8 (NmC.ok ⟨by decide,by decide⟩)) (yL (gK c) (yL (u7 (n:=0) (yL (u8 hs.ok) (yL (gK j) kH (ae _)) (ae _))) kH (ae _)) (by decide)) (by decide))).n (by decide)
theorem nq{A:List (List Nat)}{r:En}{a b:D}{c:Int}(h:zB 7 r=some (.tup [a,.int c,b]))(hg:Gd A a b):mBl (zD neA (zD ixD (zB 7) (mC (.int 0))) (mC (.str [116,105,114,101,100]))) r=some true:=by
 rcases hg with⟨rfl,_⟩|⟨rfl,_⟩<;>exact kK (zP (zP h zF (zIE _ _)) zF rfl)
theorem nt{r:En}{c:Int}(h:zB 7 r=some (.tup [.str TIR,.int c,.non])):mBl (zD neA (zD ixD (zB 7) (mC (.int 0))) (mC (.str [116,105,114,101,100]))) r=some false:=kK (zP (x:=.str TIR) (zP h zF (zIE _ _)) zF rfl)
def zCT:MS:=(zZ (xH 9 (zD xL (zM 2 zO (zA (zM 2 xQ (zA (zB 0) (zA (zD xB (mC (.int 3)) (zD zFO (mC (.int 10)) (zB 8))) zK))) (zA (zD xB (mC (.int 910)) (zB 8)) zK))) (zD xB (zB 6) (mC (.int 1)))))
 (zZ (xH 10 (zM 2 bU (zA (zB 3) (zA (zB 9) zK))))
 (sIf (xG (mBl (zD neA (zD ixD (zB 7) (mC (.int 0))) (mC (.str [116,105,114,101,100])))) (mBl (zD geD (zB 9) (zD ixD (zB 7) (mC (.int 1))))))
 (sIf (mBl (zD (neN 400) (zB 10) (zB 7)))
 (wQ (mC (.bl false)))
 y0)
 (sIf (mBl (zD (neN 400) (zB 10) (xM (zA (mC (.str [116,105,114,101,100])) (zA (zB 9) (zA (mC .non) zK))))))
 (wQ (mC (.bl false)))
 y0))))
section
variable{ns:List Int}{ps:Pr}{M:List (List Nat)}{c:Nat}{o:Option (D×D)}{mo:Int}{a1 a2 a4 a5:Sl}
def LR(ns:List Int)(a1 a2:Sl)(ps:Pr)(a4 a5:Sl)(mo:Int)(V:D)(x8 x9 x10:Sl):En:=[.v (.lst (ns.map .int)),a1,a2,.v (.lst (prog ps)),a4,a5,.v (.int mo),.v V,x8,x9,x10]
theorem zBI(h0:0<=mo)(hm:mo<=40)(ho:o=none->c=41)(hg:∀a b,o=some (a,b)->c<=40/\Gd (ps.map (·.1)) a b)(hr:∀mo:Int,0<=mo->(o=none->mo<=40)->∃as,bU [.v (.lst (prog ps)),.v (.int mo)]=some (.v (An c o mo),as))(k:Nat)(hk:k<6){x9 x10:Sl}(h9:fre x9)(h10:fre x10):∃y9 y10:Sl,fre y9/\fre y10/\zCT (LR ns a1 a2 ps a4 a5 mo (An c o mo) (.v (.int (k:Int))) x9 x10)=some (.nx (LR ns a1 a2 ps a4 a5 mo (An c o mo) (.v (.int (k:Int))) y9 y10)):=by
 obtain⟨cl,hcl⟩:=oH ns (3+10*k);obtain⟨n,n0,hn⟩:=wS cl (910+(k:Int))
 let fw:Int:=n % (mo+1)
 have f0:0<=fw:=cq _ (by lia);have f1:fw<mo+1:=ck _ (by lia)
 let K:Sl:=.v (.int (k:Int))
 let V:D:=An c o mo
 let R0:=LR ns a1 a2 ps a4 a5 mo V K x9 x10
 let R1:=LR ns a1 a2 ps a4 a5 mo V K (.v (.int fw)) x10
 let R2:=LR ns a1 a2 ps a4 a5 mo V K (.v (.int fw)) (.v (An c o fw))
 refine⟨.v (.int fw),.v (An c o fw),trivial,trivial,?_⟩;unfold zCT;refine zQ (.int fw) (r2:=R1) ?_ (zW (i:=9) (x:=x9) rfl h9) (zQ (An c o fw) (r2:=R2) (zR (p:=.v (An c o fw)) (zC rfl (zC rfl zN)) rfl (hr fw f0 λ_=>by lia)) (zW (i:=10) (x:=x10) rfl h10) ?_)
 ·refine yM (zR (p:=.v (.int n)) (zC (zR (p:=.v (.int cl)) (zC (x:=.lst (ns.map .int)) rfl (zC (x:=.int ((3+10*k:Nat):Int)) ?_ zN)) rfl hcl) (zC (xK zF rfl) zN)) rfl hn) (xK rfl zF) (by lia);rw[show((3+10*k:Nat):Int)=3+10*(k:Int) by lia];exact xK zF (XR zF rfl (by decide))
 have tir:fw<c->mBl (zD (neN 400) (zB 10) (xM (zA (mC (.str [116,105,114,101,100])) (zA (zB 9) (zA (mC .non) zK))))) R2=some false:=λhf=>by
  have e:An c o fw=.tup [.str TIR,.int fw,.non]:=if_pos hf;refine kK (zP (x:=.tup [.str TIR,.int fw,.non]) (y:=.tup [.str TIR,.int fw,.non]) (by rw[<-e];rfl) (qA (zC zF (zC rfl (zC zF zN))) (by show 3<=100;decide)) (mD (zGI fw)).2)
 by_cases z:mo<c
 ·have e:V=.tup [.str TIR,.int mo,.non]:=if_pos z;have cf:xG (mBl (zD neA (zD ixD (zB 7) (mC (.int 0))) (mC (.str [116,105,114,101,100])))) (mBl (zD geD (zB 9) (zD ixD (zB 7) (mC (.int 1))))) R2=some false:=by
   unfold xG;rw[nt (c:=mo) (by rw[<-e];rfl)];rfl
  rw[oS cf,oS (tir (by lia))];rfl
 ·obtain⟨a,b,rfl⟩:∃a b,o=some (a,b):=by
   cases o with
   |none=>exact absurd (ho rfl) (by lia)
   |some p=>exact⟨p.1,p.2,rfl⟩
  obtain⟨g1,g2⟩:=hg a b rfl;have e:V=.tup [a,.int (c:Int),b]:=if_neg z;have ct:xG (mBl (zD neA (zD ixD (zB 7) (mC (.int 0))) (mC (.str [116,105,114,101,100])))) (mBl (zD geD (zB 9) (zD ixD (zB 7) (mC (.int 1))))) R2=some (decide ((c:Int)<=fw)):=by
   unfold xG;rw[nq (a:=a) (b:=b) (c:=(c:Int)) (by rw[<-e];rfl) g2,aa,if_pos rfl];exact kK (zP (x:=.int fw) (y:=.int (c:Int)) rfl (zP (x:=.tup [a,.int (c:Int),b]) (by rw[<-e];rfl) zF (yY (j:=1) rfl)) rfl)
  by_cases y:(c:Int)<=fw
  ·rw[decide_eq_true y] at ct;have e2:An c (some (a,b)) fw=.tup [a,.int (c:Int),b]:=if_neg (by lia);have nf:mBl (zD (neN 400) (zB 10) (zB 7)) R2=some false:=kK (zP (x:=.tup [a,.int (c:Int),b]) (y:=.tup [a,.int (c:Int),b]) (by rw[<-e2];rfl) (by rw[<-e];rfl) (mD (Q0 _ g2)).2);rw[zCI ct,oS nf];rfl
  ·rw[decide_eq_false y] at ct;rw[oS ct,oS (tir (by lia))];rfl
theorem ZH(h0:0<=mo)(hm:mo<=40)(ho:o=none->c=41)(hg:∀a b,o=some (a,b)->c<=40/\Gd (ps.map (·.1)) a b)(hr:∀mo:Int,0<=mo->(o=none->mo<=40)->∃as,bU [.v (.lst (prog ps)),.v (.int mo)]=some (.v (An c o mo),as)):∀(r k:Nat) (x8 x9 x10:Sl),k+r=6->fre x8->fre x9->fre x10->∃y8 y9 y10:Sl,nY (yN 8) zCT ((List.range' k r).map λi:Nat=>D.int ((0:Int)+(i:Nat))) (LR ns a1 a2 ps a4 a5 mo (An c o mo) x8 x9 x10)=some (.nx (LR ns a1 a2 ps a4 a5 mo (An c o mo) y8 y9 y10))
 |0,k,x8,x9,x10,hk,_,_,_=>⟨x8,x9,x10,rfl⟩
 |r+1,k,x8,x9,x10,hk,h8,h9,h10=>by
  obtain⟨y9,y10,f9,f10,t⟩:=zBI (ns:=ns) (a1:=a1) (a2:=a2) (a4:=a4) (a5:=a5) h0 hm ho hg hr k (by lia) h9 h10;obtain⟨z8,z9,z10,q⟩:=ZH h0 hm ho hg hr r (k+1) (.v (.int (k:Int))) y9 y10 (by lia) trivial f9 f10;refine⟨z8,z9,z10,?_⟩;rw[List.range'_succ,aq,on];rw[bC (r1:=LR ns a1 a2 ps a4 a5 mo (An c o mo) (.v (.int (k:Int))) x9 x10) (zW (i:=8) (x:=x8) rfl h8) t];exact q
end
theorem ZB:∀(ps:Pr) (x y:Sl),fre x->fre y->qH (dX 2 (qL (yN 0) (qL (yN 1) oQ))) uX (zB 0) (prog ps) [x,y]=some ((ps.map (·.1)).map .str)
 |[],x,y,_,_=>rfl
 |p::ps,x,y,hx,hy=>by
  have ih:=ZB ps (.v (.str p.1)) (.v (toD p.2)) trivial trivial;have e1:dX 2 (qL (yN 0) (qL (yN 1) oQ)) (.tup [.str p.1,toD p.2]) [x,y]=some [.v (.str p.1),.v (toD p.2)]:=bdP (r1:=[.v (.str p.1),y]) (zW (i:=0) (x:=x) rfl hx) (zW (i:=1) (x:=y) rfl hy);show qH _ _ _ (D.tup [.str p.1,toD p.2]::prog ps) [x,y]=_;unfold qH;rw[e1,aa,show uX [.v (.str p.1),.v (toD p.2)]=some true from rfl,aa,if_pos rfl,show zB 0 [.v (.str p.1),.v (toD p.2)]=some (.str p.1) from rfl,aa,ih];rfl
theorem law_math:∀ns:List Int,ns.length<=63->∃as,Z9 [.v (.lst (ns.map .int))]=some (.v (.bl true),as):=by
 intro ns hns;obtain⟨c0,hc0⟩:=oH ns 0;obtain⟨F,F0,hF⟩:=wS c0 900;obtain⟨c1,hc1⟩:=oH ns 1;obtain⟨G,G0,hG⟩:=wS c1 901;obtain⟨c2,hc2⟩:=oH ns 2;obtain⟨m,m0,hm⟩:=wS c2 902
 let cs:List Int:=(ns.take 103).drop 3
 have cl:cs.length<=60:=by simp only[cs,ja,gp];lia
 obtain⟨ps,M,hP,as,hd⟩:=zHW cl F0 G0;obtain⟨c,o,ho,hg,hr⟩:=zR3 hP;have rep:=zEF hP
 let mo:Int:=m % 41
 have mo0:0<=mo:=cq _ (by decide);have mo1:mo<=40:=by have:=ck m (show(0:Int)<41 by decide);show m % 41<=40;lia
 let A:List (List Nat):=ps.map (·.1)
 let S:D:=.lst (ns.map .int)
 let P:D:=.lst (prog ps)
 let V:D:=An c o mo
 have pl:(prog ps).length<=20:=by unfold prog;rw[ak];exact hP.len
 obtain⟨y8,y9,y10,lp⟩:=ZH (ns:=ns) (ps:=ps) (c:=c) (o:=o) (mo:=mo) (a1:=.v (.int F)) (a2:=.v P) (a4:=.v (kn A)) (a5:=.v (mX (prog ps))) mo0 mo1 ho hg hr 6 0 .un .un .un rfl trivial trivial trivial;have good:∃as,wJ [.v V,.v (.int mo),.v (kn A)]=some (.v (.bl true),as):=by
  by_cases z:mo<c
  ·have e:V=.tup [.str TIR,.int mo,.non]:=if_pos z;rw[e];exact zBR mo0
  ·obtain⟨a,b,rfl⟩:∃a b,o=some (a,b):=by
    cases o with
    |none=>exact absurd (ho rfl) (by lia)
    |some p=>exact⟨p.1,p.2,rfl⟩
   have e:V=.tup [a,.int (c:Int),b]:=if_neg z;rw[e];exact zBS (by lia) (by lia) (hg a b rfl).2
 let E:Sl->Sl->Sl->En:=λx y z=>LR ns (.v (.int F)) (.v P) ps (.v (kn A)) (.v (mX (prog ps))) mo V x y z
 refine xP (r':=E y8 y9 y10) ?_;show zCP [.v S,.un,.un,.un,.un,.un,.un,.un,.un,.un,.un]=_;unfold zCP;refine zQ (.int F) (r2:=[.v S,.v (.int F),.un,.un,.un,.un,.un,.un,.un,.un,.un]) (zR (p:=.v (.int F)) (zC (zR (p:=.v (.int c0)) (zC (x:=S) rfl (zC zF zN)) rfl hc0) (zC zF zN)) rfl hF) (by rfl) ?_;refine zQ P (r2:=[.v S,.v (.int F),.v P,.un,.un,.un,.un,.un,.un,.un,.un]) ?_ (by rfl) ?_
 ·have ar:zA (mSl (zB 0) (xA (mC (.int 3))) (xA (mC (.int 103)))) (zA (zB 1) (zA (zM 2 zO (zA (zM 2 xQ (zA (zB 0) (zA (mC (.int 1)) zK))) (zA (mC (.int 901)) zK))) zK)) [.v S,.v (.int F),.un,.un,.un,.un,.un,.un,.un,.un,.un]=some [.lst (cs.map .int),.int F,.int G]:=by
   refine zC (bF (x:=S) rfl (xC zF) (xC zF) ?_) (zC rfl (zC (zR (p:=.v (.int G)) (zC (zR (p:=.v (.int c1)) (zC (x:=S) rfl (zC zF zN)) rfl hc1) (zC zF zN)) rfl hG) zN));show some (D.lst (bR (ns.map D.int) (some ((3:Nat):Int)) (some ((103:Nat):Int))))=_;rw[JI,<-tm,<-List.map_drop]
  have hd':qW (([.lst (cs.map .int),.int F,.int G]:List D).map Sl.v)=some (.f (prog ps),as):=hd;unfold xR vL;rw[ar,aa,if_pos (show([.lst (cs.map .int),.int F,.int G]:List D).length=3 from rfl),hd'];rfl
 refine zQ P (r2:=[.v S,.v (.int F),.v P,.v P,.un,.un,.un,.un,.un,.un,.un]) (by rfl) (by rfl) ?_;refine zQ (kn A) (r2:=[.v S,.v (.int F),.v P,.v P,.v (kn A),.un,.un,.un,.un,.un,.un]) ?_ (by rfl) ?_
 ·unfold xR xS xI;rw[show mIt (zB 2) [.v S,.v (.int F),.v P,.v P,.un,.un,.un,.un,.un,.un,.un]=some (prog ps) from rfl,aa,if_pos (x3 (by lia)),show YE [] 2 [.v S,.v (.int F),.v P,.v P,.un,.un,.un,.un,.un,.un,.un]=[.un,.un] from rfl,ZB ps .un .un trivial trivial];rfl
 have rp:∀r:En,zB 3 r=some P->pV (zN7 (zB 3)) r=some (mX (prog ps)):=λr h=>by
  unfold pV zN7;rw[h,aa];show Option.bind (some (prog ps)) _=_;rw[aa,if_pos rep]
 refine zQ (mX (prog ps)) (r2:=[.v S,.v (.int F),.v P,.v P,.v (kn A),.v (mX (prog ps)),.un,.un,.un,.un,.un]) (rp _ rfl) (by rfl) ?_;refine zQ (.int mo) (r2:=[.v S,.v (.int F),.v P,.v P,.v (kn A),.v (mX (prog ps)),.v (.int mo),.un,.un,.un,.un]) (yM (zR (p:=.v (.int m)) (zC (zR (p:=.v (.int c2)) (zC (x:=S) rfl (zC zF zN)) rfl hc2) (zC zF zN)) rfl hm) zF (by decide)) (by rfl) ?_;refine zQ V (r2:=E .un .un .un) (zR (p:=.v V) (zC rfl (zC rfl zN)) rfl (hr mo mo0 λ_=>mo1)) (by rfl) ?_;have gc:cL (k8 (zM 3 wJ (zA (zB 7) (zA (zB 6) (zA (zB 4) zK))))) (E .un .un .un)=some false:=by
  have:zM 3 wJ (zA (zB 7) (zA (zB 6) (zA (zB 4) zK))) (E .un .un .un)=some (.bl true):=zR (p:=.v (.bl true)) (l:=[V,.int mo,kn A]) (zC rfl (zC rfl (zC rfl zN))) rfl good
  unfold cL k8;rw[this];rfl
 refine yS gc ?_;have sl:mW (yN 8) (gS (mC (.int 6))) zCT (E .un .un .un)=some (.nx (E y8 y9 y10)):=by
  unfold mW;rw[pE (n:=6) (f:=mC (.int 6)) rfl (by decide),aa,vp];exact lp
 unfold zCT at sl;rw[yT sl];have cf:xG (mBl (zD neA (zD ixD (zB 7) (mC (.int 0))) (mC (.str [116,105,114,101,100])))) (mBl (zD (neN 400) (zM 2 bU (zA (zB 3) (zA (mC (.int 1000)) zK))) (zB 7))) (E y8 y9 y10)=some false:=by
  unfold xG;by_cases z:mo<c
  ·have e:V=.tup [.str TIR,.int mo,.non]:=if_pos z;rw[nt (c:=mo) (by rw[<-e];rfl)];rfl
  ·obtain⟨a,b,rfl⟩:∃a b,o=some (a,b):=by
    cases o with
    |none=>exact absurd (ho rfl) (by lia)
    |some p=>exact⟨p.1,p.2,rfl⟩
   obtain⟨g1,g2⟩:=hg a b rfl;have e:V=.tup [a,.int (c:Int),b]:=if_neg z;have e2:An c (some (a,b)) 1000=.tup [a,.int (c:Int),b]:=if_neg (by lia);have nf:mBl (zD (neN 400) (zM 2 bU (zA (zB 3) (zA (mC (.int 1000)) zK))) (zB 7)) (E y8 y9 y10)=some false:=kK (zP (x:=.tup [a,.int (c:Int),b]) (y:=.tup [a,.int (c:Int),b]) (by
    rw[<-e2];exact zR (p:=.v (An c (some (a,b)) 1000)) (zC rfl (zC zF zN)) rfl (hr 1000 (by decide) λh=>by cases h)) (by rw[<-e];rfl) (mD (Q0 _ g2)).2)
   rw[nq (a:=a) (b:=b) (c:=(c:Int)) (by rw[<-e];rfl) g2,aa,if_pos rfl];exact nf
 refine yS cf (yI (zP (rp _ rfl) (y:=mX (prog ps)) rfl ?_));unfold mX;show some (D.bl (decide (_=_)))=_;rw[decide_eq_true rfl]
theorem zN9{α:Type}{l:List α}(h:l.length=1):∃a0,l=[a0]:=List.length_eq_one_iff.mp h
theorem zPN{α:Type}{l:List α}(h:l.length=2):∃a0 a1,l=[a0,a1]:=by
 cases l with
 |nil=>cases h
 |cons a0 l=>obtain⟨a1,rfl⟩:=zN9 (oj h);exact⟨a0,a1,rfl⟩
theorem zPM{α:Type}{l:List α}(h:l.length=3):∃a0 a1 a2,l=[a0,a1,a2]:=by
 cases l with
 |nil=>cases h
 |cons a0 l=>obtain⟨a1,a2,rfl⟩:=zPN (oj h);exact⟨a0,a1,a2,rfl⟩
theorem zQQ{α:Type}{l:List α}(h:l.length=4):∃a0 a1 a2 a3,l=[a0,a1,a2,a3]:=by
 cases l with
 |nil=>cases h
 |cons a0 l=>obtain⟨a1,a2,a3,rfl⟩:=zPM (oj h);exact⟨a0,a1,a2,a3,rfl⟩
def uY(K:Fg)(n:Str)(st:Stmt):Prop:=∃(f:Addr) (od an:Option Addr) (sl:Array (Option Value)) (oc kV dc pm cd ct:Value),PySem.W.nsIn K ay n=some (some (.ref f))/\K.lookup f=some ⟨oc,od,.func (PySem.W.fnOf n n (vB st) (qS st) (zG st) .none kV dc pm an cd ct),sl⟩/\PySem.W.codeIn K cd n=true/\PySem.W.keepIn K (.ref f)=true
theorem dfo{K:Fg}{n:Str}{st:Stmt}{f:Addr}{od an:Option Addr}{sl:Array (Option Value)}{oc kV dc pm cd ct:Value}(a:PySem.W.nsIn K ay n=some (some (.ref f)))(l:K.lookup f=some ⟨oc,od,.func (PySem.W.fnOf n n (vB st) (qS st) (zG st) .none kV dc pm an cd ct),sl⟩)(c:PySem.W.codeIn K cd n=true)(k:PySem.W.keepIn K (.ref f)=true):uY K n st:=⟨f,od,an,sl,oc,kV,dc,pm,cd,ct,a,l,c,k⟩
theorem deo{K:Fg}{h:Heap}{mg:Str->Option Value}{n:Str}{i:Nat}{ps:List Str}(X:K.In h)(G:h.Ns ay mg)(D:uY K n (top i))(hb:∀{f:Addr} {d:FuncData},Fun K n n (top i) f d->Binds K d ps []):Nonempty (De K mg n i ps):=by
 obtain⟨f,_,_,_,_,_,_,_,_,_,a,l,c,k⟩:=D;have F:=X8 (st:=top i) l c k;exact⟨⟨f,_,F,ir X G a,hb F⟩⟩
def dh{K:Fg}{h:Heap}{mg:Str->Option Value}{n:Str}{i:Nat}{ps:List Str}(X:K.In h)(G:h.Ns ay mg)(D:uY K n (top i))(hb:∀{f:Addr} {d:FuncData},Fun K n n (top i) f d->Binds K d ps []:=by intro _ _ F;exact F.binds λ_ _ _ _ _ _ us hl=>by first|(obtain⟨_,rfl⟩:=zN9 hl;rfl)|(obtain⟨_,_,rfl⟩:=zPN hl;rfl)|(obtain⟨_,_,_,rfl⟩:=zPM hl;rfl)|(obtain⟨_,_,_,_,rfl⟩:=zQQ hl;rfl)|(cases len0 hl;rfl)):De K mg n i ps:=Classical.choice (deo X G D hb)
def FnK(K:Fg)(n q:Str)(st:Stmt)(f:Addr):Prop:=∃(od an:Option Addr) (sl:Array (Option Value)) (oc kV dc pm cd ct:Value),K.lookup f=some ⟨oc,od,.func (PySem.W.fnOf n q (vB st) (qS st) (zG st) .none kV dc pm an cd ct),sl⟩/\PySem.W.codeIn K cd q=true/\PySem.W.keepIn K (.ref f)=true
theorem fnk{K:Fg}{n q:Str}{st:Stmt}{f:Addr}{od an:Option Addr}{sl:Array (Option Value)}{oc kV dc pm cd ct:Value}(l:K.lookup f=some ⟨oc,od,.func (PySem.W.fnOf n q (vB st) (qS st) (zG st) .none kV dc pm an cd ct),sl⟩)(c:PySem.W.codeIn K cd q=true)(k:PySem.W.keepIn K (.ref f)=true):FnK K n q st f:=⟨od,an,sl,oc,kV,dc,pm,cd,ct,l,c,k⟩
theorem uE{K:Fg}{n q:Str}{st:Stmt}{f:Addr}{ps:List Str}(D:FnK K n q st f)(hb:∀{f:Addr} {d:FuncData},Fun K n q st f d->Binds K d ps []:=by intro _ _ F;exact F.binds λ_ _ _ _ _ _ us hl=>by first|(obtain⟨_,rfl⟩:=zN9 hl;rfl)|(obtain⟨_,_,rfl⟩:=zPN hl;rfl)|(obtain⟨_,_,_,rfl⟩:=zPM hl;rfl)|(obtain⟨_,_,_,_,rfl⟩:=zQQ hl;rfl)|(cases len0 hl;rfl)):∃m:Dm K n q st ps,m.a=f/\PySem.W.keepIn K (.ref f)=true:=by
 obtain⟨_,_,_,_,_,_,_,_,_,l,c,k⟩:=D;have F:=X8 (st:=st) l c k;exact⟨⟨f,_,F,hb F⟩,rfl,k⟩
theorem jF{K:Fg}{h:Heap}{mg:Str->Option Value}{n:Str}{i:Nat}{f:Addr}{ps:List Str}(X:K.In h)(G:h.Ns ay mg)(a:PySem.W.nsIn K ay n=some (some (.ref f)))(D:FnK K n n (top i) f)(hb:∀{f:Addr} {d:FuncData},Fun K n n (top i) f d->Binds K d ps []:=by intro _ _ F;exact F.binds λ_ _ _ _ _ _ us hl=>by first|(obtain⟨_,rfl⟩:=zN9 hl;rfl)|(obtain⟨_,_,rfl⟩:=zPN hl;rfl)|(obtain⟨_,_,_,rfl⟩:=zPM hl;rfl)|(obtain⟨_,_,_,_,rfl⟩:=zQQ hl;rfl)|(cases len0 hl;rfl)):∃m:De K mg n i ps,m.a=f:=by
 obtain⟨_,_,_,_,_,_,_,_,_,l,c,k⟩:=D;have F:=X8 (st:=top i) l c k;exact⟨⟨f,_,F,ir X G a,hb F⟩,rfl⟩
theorem itup_mk{K:Fg}{p:Addr}{ns:List Int}{od:Option Addr}{its:Array Value}{n:Nat}{sl:Array (Option Value)}(l:K.lookup p=some ⟨.type "tuple",od,.seq its n,sl⟩)(s:its.size<=af)(v:Vals (ns.map V.int) its.toList):YF K p ns:=⟨_,_,_,l,rfl,rfl,s,v⟩
theorem zLU{K:Fg}(hm:∀ns:List Int,ns.length<=63->∃as,Z9 [.v (.lst (ns.map .int))]=some (.v (.bl true),as))(H:Hp)(a:Addr)(ns:List Int)(hl:ns.length<=63)(hS:SqL K H a (ns.map V.int)):spD K 1 Z9 [.ref a] H (λv _=>v=.bl true) (λ_ _ _=>False):=by
 have il:∀l:List Int,IsL K (λ_=>False) H (l.map D.int) (l.map V.int):=λl=>by
  induction l with
  |nil=>exact IsL.nil
  |cons x l ih=>exact .cons (by rw[Is.int_iff]) ih
 obtain⟨as,e⟩:=hm ns hl;refine⟨λ_=>False,[.v (.lst (ns.map .int))],_,as,rfl,R.args (ds:=[.lst (ns.map .int)]) noF (.cons (by rw[Is.lst_iff];exact⟨a,_,rfl,hS.imp (λz=>⟨id,z⟩) id,il ns⟩) .nil),λi l=>?_,e,λv H' _ iv=>by rw[Is.bl_iff] at iv;exact iv⟩;cases i with
 |zero=>exact⟨(λz=>by cases z),(λz=>by cases z),(λ_ z=>by cases z)⟩
 |succ i=>exact⟨(λz=>by cases z),(λz=>by cases z),(λ_ z=>by cases z)⟩
theorem all_mk{l:PySem.W.OpenLaw}{w:World}{K:Fg}{h:Heap}{mg:Str->Option Value}{fa:Addr}(X:K.In h)(G:h.Ns ay mg)(hfa:mg "law" = some (.ref fa))(D0:uY K "inner" (top 2))(D1:uY K "places" (top 1))(D2:uY K "inner_numbers" (top 4))(D3:uY K "sort_of" (top 9))(D4:uY K "binding" (top 10))(D5:uY K "worked" (top 11))(D6:uY K "held_in" (top 38))(D7:uY K "told_part" (top 39))(D8:uY K "told" (top 37))(D9:uY K "marked" (top 15))(D10:uY K "has_field" (top 17))(D11:uY K "has_no_field" (top 18))(D12:uY K "with_field" (top 19))(D13:uY K "without_field" (top 20))(D14:uY K "_law_cell" (top 41))(D15:uY K "_law_mixed" (top 42))(D16:uY K "_law_name" (top 43))(D17:uY K "_law_leaf" (top 44))(D18:uY K "_law_one" (top 45))(D19:uY K "_law_two" (top 46))(D20:uY K "_law_three" (top 47))(D21:uY K "_law_grown" (top 48))(D22:uY K "_law_folded" (top 49))(D23:uY K "_law_free" (top 50))(D24:uY K "_law_closed" (top 51))(D25:uY K "_law_defs" (top 52))(D26:uY K "_law_whole" (top 53))(D27:uY K "_law_good" (top 54))(D28:uY K "law" (top 55)){C B:Addr}(aC:PySem.W.nsIn K ay "Plain" = some (some (.ref C)))(aB:PySem.W.nsIn K ay "Reckoner" = some (some (.ref B)))(pg:PySem.W.plainGet K C Str.empty=true)(hd:PySem.W.hasDictIn K C=true)(po:PySem.W.plainOver K C=true)(sa:PySem.W.findIn K (.ref C) "__setattr__" = some (some (.builtin "object.__setattr__")))(mk:PySem.W.makesIn K C=true)(kc:PySem.W.keepIn K (.ref C)=true)(j3i:PySem.W.findIn K (.ref C) "most" = some none)(j0v:PySem.W.findIn K (.ref C) "steps" = some none)(j0q:PySem.W.findIn K (.ref C) "waiting" = some none)(j1l:PySem.W.findIn K (.ref C) "come" = some none)(j0r:PySem.W.findIn K (.ref C) "ended" = some none)(j2h:PySem.W.findIn K (.ref C) "defs" = some none){j3s:Addr}(fc:PySem.W.findCls K (.ref B) (.type "type") "__init__" = some (.val (.ref j3s)))(cga:PySem.W.specialIn K (.ref B) "__getattribute__" = some (some (.builtin "type.__getattribute__")))(crd:PySem.W.readsIn K B (.type "type")=true)(chh:PySem.W.handedIn (.ref j3s)=true)(j6t:FnK K "__init__" "Reckoner.__init__" (bI 8 0) j3s){j3t:Addr}(j6u:PySem.W.findIn K (.ref C) "__init__" = some (some (.ref j3t)))(j6v:PySem.W.isFn K (.ref j3t)=true)(j6w:FnK K "__init__" "Plain.__init__" (bI 16 0) j3t){yB:Addr}(j6x:PySem.W.findIn K (.ref C) "begin" = some (some (.ref yB)))(j6y:PySem.W.isFn K (.ref yB)=true)(j6z:FnK K "begin" "Reckoner.begin" (bI 8 1) yB){yH:Addr}(j8b:PySem.W.findIn K (.ref C) "tell" = some (some (.ref yH)))(j8c:PySem.W.isFn K (.ref yH)=true)(j8d:FnK K "tell" "Reckoner.tell" (bI 8 2) yH){jH:Addr}(j8e:PySem.W.findIn K (.ref C) "step" = some (some (.ref jH)))(j8f:PySem.W.isFn K (.ref jH)=true)(j8g:FnK K "step" "Reckoner.step" (bI 8 3) jH){jP:Addr}(j6d:PySem.W.findIn K (.ref C) "run_on" = some (some (.ref jP)))(j6e:PySem.W.isFn K (.ref jP)=true)(j6f:FnK K "run_on" "Reckoner.run_on" (bI 8 4) jP){yA:Addr}(j4h:PySem.W.findIn K (.ref C) "begin_parts" = some (some (.ref yA)))(j4i:PySem.W.isFn K (.ref yA)=true)(j4j:FnK K "begin_parts" "Reckoner.begin_parts" (bI 8 5) yA){yF:Addr}(j5a:PySem.W.findIn K (.ref C) "parts_come" = some (some (.ref yF)))(j5b:PySem.W.isFn K (.ref yF)=true)(j5c:FnK K "parts_come" "Reckoner.parts_come" (bI 8 6) yF){qF:Addr}(j7a:PySem.W.findIn K (.ref C) "go_on" = some (some (.ref qF)))(j7b:PySem.W.isFn K (.ref qF)=true)(j7c:FnK K "go_on" "Plain.go_on" (bI 16 1) qF){zU:Addr}(j7d:PySem.W.findIn K (.ref C) "stick" = some (some (.ref zU)))(j7e:PySem.W.isFn K (.ref zU)=true)(j7f:FnK K "stick" "Plain.stick" (bI 16 2) zU){j6q:Addr}(j8x:PySem.W.nsIn K ay "run" = some (some (.ref j6q)))(j8y:FnK K "run" "run" (top 14) j6q){jQ:Addr}(j6g:PySem.W.nsIn K ay "of_num" = some (some (.ref jQ)))(j6h:FnK K "of_num" "of_num" (top 21) jQ){wA:Addr}(j5t:PySem.W.nsIn K ay "of_name" = some (some (.ref wA)))(j5u:FnK K "of_name" "of_name" (top 22) wA){kI:Addr}(j7g:PySem.W.nsIn K ay "of_fn" = some (some (.ref kI)))(j7h:FnK K "of_fn" "of_fn" (top 23) kI){kJ:Addr}(j7i:PySem.W.nsIn K ay "of_do" = some (some (.ref kJ)))(j7j:FnK K "of_do" "of_do" (top 24) kJ){xX:Addr}(j5n:PySem.W.nsIn K ay "of_empty" = some (some (.ref xX)))(j5o:FnK K "of_empty" "of_empty" (top 25) xX){qE:Addr}(j6i:PySem.W.nsIn K ay "of_get" = some (some (.ref qE)))(j6j:FnK K "of_get" "of_get" (top 26) qE){xT:Addr}(j5v:PySem.W.nsIn K ay "of_with" = some (some (.ref xT)))(j5w:FnK K "of_with" "of_with" (top 27) xT){wT:Addr}(j6k:PySem.W.nsIn K ay "of_put" = some (some (.ref wT)))(j6l:FnK K "of_put" "of_put" (top 28) wT){wB:Addr}(j5x:PySem.W.nsIn K ay "of_less" = some (some (.ref wB)))(j5y:FnK K "of_less" "of_less" (top 29) wB){qZ:Addr}(j6m:PySem.W.nsIn K ay "of_tag" = some (some (.ref qZ)))(j6n:FnK K "of_tag" "of_tag" (top 30) qZ){x5:Addr}(j5z:PySem.W.nsIn K ay "of_wide" = some (some (.ref x5)))(j6a:FnK K "of_wide" "of_wide" (top 31) x5){xU:Addr}(j6b:PySem.W.nsIn K ay "of_case" = some (some (.ref xU)))(j6c:FnK K "of_case" "of_case" (top 32) xU){wN:Addr}(j5p:PySem.W.nsIn K ay "of_never" = some (some (.ref wN)))(j5q:FnK K "of_never" "of_never" (top 33) wN){jM:Addr}(j7k:PySem.W.nsIn K ay "of_if" = some (some (.ref jM)))(j7l:FnK K "of_if" "of_if" (top 34) jM){yC:Addr}(j5d:PySem.W.nsIn K ay "of_working" = some (some (.ref yC)))(j5e:FnK K "of_working" "of_working" (top 35) yC){j5f:Addr}{j3u:Array DictEntry}{j8h:Nat}(j8i:PySem.W.nsIn K ay "WAYS" = some (some (.ref j5f)))(j8j:K.lookup j5f=some ⟨.type "dict",none,.dict j3u j8h,#[]⟩)(j8k:(j5f == ik)=false)(j8l:PySem.W.KeysLit w.params j3u.toList)(j8m:YA j3u.toList [([110,117,109],jQ),([110,97,109,101],wA),([102,110],kI),([100,111],kJ),([101,109,112,116,121],xX),([103,101,116],qE),([119,105,116,104],xT),([112,117,116],wT),([108,101,115,115],wB),([116,97,103],qZ),([119,105,100,101],x5),([99,97,115,101],xU),([110,101,118,101,114],wN),([105,102],jM),([43],yC),([45],yC),([42],yC),([60],yC)]){t_0 t_1 t_2 t_3 t_4 t_5 t_6 t_7 t_8 t_9 t_10 t_11 t_12 t_13:Addr}{j3v:Addr}{j3e:Array DictEntry}{j7m:Nat}(j7n:PySem.W.nsIn K ay "AHEAD" = some (some (.ref j3v)))(j7o:K.lookup j3v=some ⟨.type "dict",none,.dict j3e j7m,#[]⟩)(j7p:(j3v == ik)=false)(j7q:PySem.W.KeysLit w.params j3e.toList)(j7r:YA j3e.toList [([100,111],t_0),([103,101,116],t_1),([119,105,116,104],t_2),([112,117,116],t_3),([108,101,115,115],t_4),([116,97,103],t_5),([119,105,100,101],t_6),([99,97,115,101],t_7),([110,101,118,101,114],t_8),([105,102],t_9),([43],t_10),([45],t_11),([42],t_12),([60],t_13)])(j_0:YF K t_0 [1,2])(j_1:YF K t_1 [2])(j_2:YF K t_2 [2,3])(j_3:YF K t_3 [2,3])(j_4:YF K t_4 [2])(j_5:YF K t_5 [2])(j_6:YF K t_6 [2])(j_7:YF K t_7 [1])(j_8:YF K t_8 [1])(j_9:YF K t_9 [1])(j_10:YF K t_10 [1,2])(j_11:YF K t_11 [1,2])(j_12:YF K t_12 [1,2])(j_13:YF K t_13 [1,2])(j4r:PySem.W.nsIn K ay "bool" = some none)(j3j:PySem.W.nsIn K ay "dict" = some none)(j4m:PySem.W.nsIn K ay "int" = some none)(j1d:PySem.W.nsIn K ay "isinstance" = some none)(j4n:PySem.W.nsIn K ay "len" = some none)(j4s:PySem.W.nsIn K ay "list" = some none)(j4o:PySem.W.nsIn K ay "max" = some none)(j2q:PySem.W.nsIn K ay "range" = some none)(j4t:PySem.W.nsIn K ay "repr" = some none)(j0z:PySem.W.nsIn K ay "reversed" = some none)(j3d:PySem.W.nsIn K ay "sorted" = some none)(j1o:PySem.W.nsIn K ay "tuple" = some none)(j5m:PySem.W.nsIn K ay "zip" = some none){j3f:Tok}(j0p:PySem.W.nsIn K ay "END_OF_NUMBERS" = some (some (.int 1000000 j3f))){j5g:Tok}(j1e:PySem.W.nsIn K ay "MOST_PARTS" = some (some (.int 200 j5g))):∃fd:FuncData,(∀(s:Shared) (v:Value),BindsTo s fd ⟨[v],[]⟩ [("_law_script",v)])/\∀base:Heap,K.In base->base.Ns ay mg->FnOk l.prog w K mg base CX0 47 fa fd ["_law_script"] (spD K 1 Z9):=by
 obtain⟨f28,_,_,_,_,_,_,_,_,_,a28,l28,c28,k28⟩:=D28;have e:=hfa.symm.trans (ir X G a28);cases e;have F28:=X8 (st:=top 55) l28 c28 k28;have b28:=F28.binds (ps:=["_law_script"]) λ_ _ _ _ _ _ us hl=>by obtain⟨_,rfl⟩:=zN9 hl;rfl
 obtain⟨j0w,rfl,j7s⟩:=uE (ps:=["self", "most"]) j6t;obtain⟨j0x,rfl,j8z⟩:=uE (ps:=["self", "program", "most"]) j6w;obtain⟨j0y,rfl,j7t⟩:=uE (ps:=pn1) j6z;obtain⟨j1m,rfl,j8n⟩:=uE (ps:=["self", "value"]) j8d;obtain⟨j1n,rfl,j8o⟩:=uE (ps:=["self"]) j8g;obtain⟨j0o,rfl,j6o⟩:=uE (ps:=["self"]) j6f;obtain⟨j0b,rfl,j4k⟩:=uE (ps:=pn1) j4j;obtain⟨j0e,rfl,j5h⟩:=uE (ps:=pn2) j5c;obtain⟨j1a,rfl,j7u⟩:=uE (ps:=["self", "expression", "bound", "parts"]) j7c;obtain⟨j1b,rfl,j7v⟩:=uE (ps:=pn2) j7f;obtain⟨j4l,rfl⟩:=jF (ps:=["program", "most"]) X G j8x j8y;obtain⟨j0k,rfl⟩:=jF (ps:=pn3) X G j6g j6h;obtain⟨j0f,rfl⟩:=jF (ps:=pn3) X G j5t j5u;obtain⟨j0s,rfl⟩:=jF (ps:=pn3) X G j7g j7h;obtain⟨j0t,rfl⟩:=jF (ps:=pn3) X G j7i j7j;obtain⟨j0c,rfl⟩:=jF (ps:=pn3) X G j5n j5o;obtain⟨j0l,rfl⟩:=jF (ps:=pn3) X G j6i j6j;obtain⟨j0g,rfl⟩:=jF (ps:=pn3) X G j5v j5w;obtain⟨j0m,rfl⟩:=jF (ps:=pn3) X G j6k j6l;obtain⟨j0h,rfl⟩:=jF (ps:=pn3) X G j5x j5y;obtain⟨j0n,rfl⟩:=jF (ps:=pn3) X G j6m j6n;obtain⟨j0i,rfl⟩:=jF (ps:=pn3) X G j5z j6a;obtain⟨j0j,rfl⟩:=jF (ps:=pn3) X G j6b j6c;obtain⟨j0d,rfl⟩:=jF (ps:=pn3) X G j5p j5q;obtain⟨j0u,rfl⟩:=jF (ps:=pn3) X G j7k j7l;obtain⟨j0a,rfl⟩:=jF (ps:=pn3) X G j5d j5e;exact⟨_,λs v=>.of_eq rfl,λbase _ _=>zK9 ⟨dh X G D0,
  dh X G D1,
  dh X G D2,
  dh X G D3,
  dh X G D4,
  dh X G D5,
  dh X G D6,
  dh X G D7,
  dh X G D8,
  dh X G D9,
  dh X G D10,
  dh X G D11,
  dh X G D12,
  dh X G D13,
  dh X G D14,
  dh X G D15,
  dh X G D16,
  dh X G D17,
  dh X G D18,
  dh X G D19,
  dh X G D20,
  dh X G D21,
  dh X G D22,
  dh X G D23,
  dh X G D24,
  dh X G D25,
  dh X G D26,
  dh X G D27,
  ⟨_,_,F28,ir X G a28,b28⟩,
  C,
  B,
  ir X G aC,
  ir X G aB,
  ⟨pg,hd,po,sa⟩,
  j3i,
  j0v,
  j0q,
  j1l,
  j0r,
  j2h,
  j0w,
  j0x,
  j0y,
  j1m,
  j1n,
  j0o,
  j0b,
  j0e,
  j1a,
  j1b,
  ⟨j6x,j6y,j7t⟩,
  ⟨j8b,j8c,j8n⟩,
  ⟨j8e,j8f,j8o⟩,
  ⟨j6d,j6e,j6o⟩,
  ⟨j4h,j4i,j4k⟩,
  ⟨j5a,j5b,j5h⟩,
  ⟨j7a,j7b,j7u⟩,
  ⟨j7d,j7e,j7v⟩,
  ⟨mk,j6u,j6v,kc⟩,
  ⟨cga,crd,fc,chh,j7s⟩,
  j4l,
  j0k,
  j0f,
  j0s,
  j0t,
  j0c,
  j0l,
  j0g,
  j0m,
  j0h,
  j0n,
  j0i,
  j0j,
  j0d,
  j0u,
  j0a,
  _,
  ⟨_,_,_,ir X G j8i,j8k,j8j,j8l,j8m⟩,
  ⟨_,⟨_,_,_,ir X G j7n,j7p,j7o,j7q,j7r⟩,⟨_,_,rfl,j_0,⟨_,_,rfl,j_1,⟨_,_,rfl,j_2,⟨_,_,rfl,j_3,⟨_,_,rfl,j_4,⟨_,_,rfl,j_5,⟨_,_,rfl,j_6,⟨_,_,rfl,j_7,⟨_,_,rfl,j_8,⟨_,_,rfl,j_9,⟨_,_,rfl,j_10,⟨_,_,rfl,j_11,⟨_,_,rfl,j_12,⟨_,_,rfl,j_13,rfl⟩⟩⟩⟩⟩⟩⟩⟩⟩⟩⟩⟩⟩⟩⟩,
  rfl,
  rfl,
  rfl,
  rfl,
  rfl,
  rfl,
  rfl,
  rfl,
  rfl,
  rfl,
  rfl,
  rfl,
  rfl,
  rfl,
  rfl,
  rfl,
  rfl,
  rfl,dg X G j4r,dg X G j3j,dg X G j4m,dg X G j1d,dg X G j4n,dg X G j4s,dg X G j4o,dg X G j2q,dg X G j4t,dg X G j0z,dg X G j3d,dg X G j1o,dg X G j5m,⟨_,ir X G j0p⟩,⟨_,ir X G j1e⟩⟩⟩
theorem walk{l:PySem.W.OpenLaw}{q:Program}{loose:List Str}{XP:(Str->Option Value)->Heap->Prop}{YP:World->Heap->Prop}{d:DefRec}{K:Params->Fg}(hm:∀ns:List Int,ns.length<=63->∃as,Z9 [.v (.lst (ns.map .int))]=some (.v (.bl true),as))(hn:l.most=some 63)(hdf:d.params.defaults=[])(hY:∀(w:World) (h:Heap),YP w h->(K w.params).In h)(F:∀(w:World) (mg:Str->Option Value) (fa:Addr) (h:Heap),(K w.params).In h->h.Ns ay mg->mg d.name=some (.ref fa) ->
   ∃fd:FuncData,(∀(s:Shared) (u:Value),BindsTo s fd ⟨[u],[]⟩ [("_law_script",u)])/\∀base:Heap,(K w.params).In base->base.Ns ay mg->FnOk l.prog w (K w.params) mg base CX0 47 fa fd ["_law_script"] (spD (K w.params) 1 Z9)):PySem.W.WalkO q loose XP YP l.row.toRowW d [] (λf vs=>PySem.call f vs):=
 L2.walk_ofK (n:=63) (k:=47) (x:="_law_script") (CX:=CX0) (sp:=λK=>spD K 1 Z9) hn (by decide) hdf ⟨rfl,by decide,by decide,rfl⟩ hY F (λK H a ns hl _ hS=>zLU hm H a ns hl hS) λ_ _ _ _ z=>z
end K46
end
/-! twins that no proof needs: where a constant of such a name stands, the head lays none -/
namespace PySem.W.Fast
def tw53860060941938808:=0
def tw2056657486712741188:=0
def tw18122383882268104796:=0
def tw12607650141726596442:=0
def tw17212192873788568712:=0
def tw9914267759493384169:=0
def tw9013418015649492111:=0
noncomputable def tw2561430239547974254 : PySem.Program := PySem.Challenge.pw_fieldrows_k46_steps_and_tired
theorem te2561430239547974254 : PySem.Challenge.pw_fieldrows_k46_steps_and_tired = tw2561430239547974254 := rfl
def tw13108229672311653164:=0
def tw662816118107049267:=0
def tw15822717544758273058:=0
def tw1540677399347240699:=0
def tw13477663261031697050:=0
def tw10855573448130898746:=0
def tw16057727878852739907:=0
def tw1066375508316558908:=0
def tw5214813574909731594:=0
def tw15360430539110402295:=0
def tw15371488697325484196:=0
def tw6801393390581328057:=0
def tw10537109754967363461:=0
def tw1507711971658621346:=0
def tw18373435126840472378:=0
def tw11498226955164678545:=0
def tw13568508097787731112:=0
def tw481760329507648339:=0
def tw9160458403952630043:=0
def tw15679425957007210515:=0
def tw8749692419063138905:=0
def tw10669497813655883119:=0
def tw17097642402139055030:=0
def tw10133710090483526156:=0
def tw16377090020129346870:=0
def tw9956980973819511030:=0
def tw18395375685677332676:=0
def tw9799627533322602822:=0
def tw16138941781230296773:=0
def tw1805597115545980847:=0
def tw15163929125097907111:=0
def tw13804143744441889177:=0
def tw13009380761671748473:=0
def tw14641385489208688116:=0
def tw9618874942703529189:=0
def tw18300365317431771574:=0
def tw17817566550206573358:=0
def tw5582567947442753728:=0
def tw7168474217054252636:=0
def tw13963730800995540337:=0
def tw4307014814309337556:=0
def tw17738235555523951698:=0
def tw7876581976366770854:=0
def tw3806337122874908294:=0
def tw2095577642941335813:=0
def tw16216700011810709963:=0
def tw13076950741590442842:=0
def tw18095106866446855729:=0
def tw5958397544872708288:=0
def tw11066673299154544633:=0
def tw10072512281664880519:=0
def tw2262668151811670412:=0
def tw12345878620076517336:=0
def tw4000149192862055072:=0
def tw14734329561062756133:=0
def tw18383480649568463870:=0
def tw308640283749135898:=0
def tw18258307883085990673:=0
def tw16926501485539405899:=0
def tw9705756478446098339:=0
def tw14455877987566668884:=0
def tw12742775951262950850:=0
def tw17256080594072707813:=0
def tw3721764282306529329:=0
def tw11447935780107333408:=0
def tw10448981783948411035:=0
def tw6185316145620036332:=0
def tw16188016178495916466:=0
def tw9412416473201053612:=0
def tw15638230080664202112:=0
def tw13700627554141714049:=0
def tw17180542617852865308:=0
def tw599564014579197622:=0
def tw2436529091541434017:=0
def tw2539808846777097822:=0
def tw6020385065777117728:=0
def tw13951958780173168400:=0
def tw15375567623347698009:=0
def tw887216854636474865:=0
def tw4355807391518226982:=0
def tw14037988801163694184:=0
def tw16422707019743952840:=0
def tw6375297287968285970:=0
def tw16755182948168537827:=0
def tw17026428681422281459:=0
def tw17379153895946070822:=0
def tw17280117275647537708:=0
def tw4977661914199924219:=0
def tw18108151289127906730:=0
def tw347027483707862758:=0
def tw2545893579446407842:=0
def tw9528104836892830801:=0
def tw7696681048275992967:=0
def tw1894478856143216984:=0
def tw15771376945572116277:=0
def tw14782720112650222120:=0
def tw8712738418323397496:=0
def tw11492687773813042814:=0
def tw3574658191915679351:=0
def tw18072010272344042962:=0
def tw4087694806947278774:=0
def tw9373506597384580388:=0
def tw6431542785978522576:=0
def tw1024679464960776563:=0
def tw8958712786711583323:=0
def tw9110291143599864485:=0
def tw7437994281506265935:=0
def tw15409040175696086489:=0
def tw17163813499375784834:=0
def tw3849440593208201983:=0
def tw16976292225939588058:=0
def tw14790847550826020581:=0
def tw11388095059861423942:=0
def tw7934151875719717241:=0
def tw7996171729860691439:=0
def tw6719549229247317256:=0
def tw3013936692312672296:=0
def tw8920598457325218361:=0
def tw6098135846116976762:=0
def tw1270675628575954530:=0
def tw12320197763561684042:=0
def tw18130487445198057339:=0
def tw11735320452387710120:=0
def tw15765016661318957450:=0
def tw5694411197441519370:=0
def tw2202891150155745609:=0
def tw4601176345037482847:=0
def tw14965778168396963783:=0
def tw17428294868287124736:=0
def tw19930733288679735:=0
def tw6564190515070569017:=0
def tw17833119319605087310:=0
def tw4301023831288637707:=0
def tw8050785121771791258:=0
end PySem.W.Fast
open PyProof.Rows PySem PySem.W
set_option maxRecDepth 100000 in
set_option maxHeartbeats 0 in
theorem PySem.Challenge.cw_fieldrows_k46_steps_and_tired_holds : PySem.Challenge.rw_fieldrows_k46_steps_and_tired.Holds := by
  w_on; o_law; k_head; (case hw => w_witness2)
  k_fill
  refine K46.walk (l := PySem.Challenge.rw_fieldrows_k46_steps_and_tired) K46.law_math rfl rfl (fun w h Y => PySem.W.kIn_of Y) ?F
  case F =>
    intro w mg fa h KX G hmg
    refine' K46.all_mk KX G hmg (K46.dfo ?q0a ?q0b ?q0c ?q0d) (K46.dfo ?q0e ?q0f ?q0g ?q0h) (K46.dfo ?q0i ?q0j ?q0k ?q0l) (K46.dfo ?q0m ?q0n ?q0o ?q0p) (K46.dfo ?q0q ?q0r ?q0s ?q0t) (K46.dfo ?q0u ?q0v ?q0w ?q0x) (K46.dfo ?q0y ?q0z ?q1a ?q1b) (K46.dfo ?q1c ?q1d ?q1e ?q1f) (K46.dfo ?q1g ?q1h ?q1i ?q1j) (K46.dfo ?q1k ?q1l ?q1m ?q1n) (K46.dfo ?q1o ?q1p ?q1q ?q1r) (K46.dfo ?q1s ?q1t ?q1u ?q1v) (K46.dfo ?q1w ?q1x ?q1y ?q1z) (K46.dfo ?q2a ?q2b ?q2c ?q2d) (K46.dfo ?q2e ?q2f ?q2g ?q2h) (K46.dfo ?q2i ?q2j ?q2k ?q2l) (K46.dfo ?q2m ?q2n ?q2o ?q2p) (K46.dfo ?q2q ?q2r ?q2s ?q2t) (K46.dfo ?q2u ?q2v ?q2w ?q2x) (K46.dfo ?q2y ?q2z ?q3a ?q3b) (K46.dfo ?q3c ?q3d ?q3e ?q3f) (K46.dfo ?q3g ?q3h ?q3i ?q3j) (K46.dfo ?q3k ?q3l ?q3m ?q3n) (K46.dfo ?q3o ?q3p ?q3q ?q3r) (K46.dfo ?q3s ?q3t ?q3u ?q3v) (K46.dfo ?q3w ?q3x ?q3y ?q3z) (K46.dfo ?q4a ?q4b ?q4c ?q4d) (K46.dfo ?q4e ?q4f ?q4g ?q4h) (K46.dfo ?q4i ?q4j ?q4k ?q4l) ?q4m ?q4n ?q4o ?q4p ?q4q ?q4r ?q4s ?q4t ?q4u ?q4v ?q4w ?q4x ?q4y ?q4z ?q5a ?q5b ?q5c ?q5d (K46.fnk ?q5e ?q5f ?q5g) ?q5h ?q5i (K46.fnk ?q5j ?q5k ?q5l) ?q5m ?q5n (K46.fnk ?q5o ?q5p ?q5q) ?q5r ?q5s (K46.fnk ?q5t ?q5u ?q5v) ?q5w ?q5x (K46.fnk ?q5y ?q5z ?q6a) ?q6b ?q6c (K46.fnk ?q6d ?q6e ?q6f) ?q6g ?q6h (K46.fnk ?q6i ?q6j ?q6k) ?q6l ?q6m (K46.fnk ?q6n ?q6o ?q6p) ?q6q ?q6r (K46.fnk ?q6s ?q6t ?q6u) ?q6v ?q6w (K46.fnk ?q6x ?q6y ?q6z) ?q7a (K46.fnk ?q7b ?q7c ?q7d) ?q7e (K46.fnk ?q7f ?q7g ?q7h) ?q7i (K46.fnk ?q7j ?q7k ?q7l) ?q7m (K46.fnk ?q7n ?q7o ?q7p) ?q7q (K46.fnk ?q7r ?q7s ?q7t) ?q7u (K46.fnk ?q7v ?q7w ?q7x) ?q7y (K46.fnk ?q7z ?q8a ?q8b) ?q8c (K46.fnk ?q8d ?q8e ?q8f) ?q8g (K46.fnk ?q8h ?q8i ?q8j) ?q8k (K46.fnk ?q8l ?q8m ?q8n) ?q8o (K46.fnk ?q8p ?q8q ?q8r) ?q8s (K46.fnk ?q8t ?q8u ?q8v) ?q8w (K46.fnk ?q8x ?q8y ?q8z) ?q9a (K46.fnk ?q9b ?q9c ?q9d) ?q9e (K46.fnk ?q9f ?q9g ?q9h) ?q9i (K46.fnk ?q9j ?q9k ?q9l) ?q9m ?q9n ?q9o ?q9p ?q9q ?q9r ?q9s ?q9t ?q9u ?q9v (K46.itup_mk ?q9w ?q9x ?q9y) (K46.itup_mk ?q9z ?x0a ?x0b) (K46.itup_mk ?x0c ?x0d ?x0e) (K46.itup_mk ?x0f ?x0g ?x0h) (K46.itup_mk ?x0i ?x0j ?x0k) (K46.itup_mk ?x0l ?x0m ?x0n) (K46.itup_mk ?x0o ?x0p ?x0q) (K46.itup_mk ?x0r ?x0s ?x0t) (K46.itup_mk ?x0u ?x0v ?x0w) (K46.itup_mk ?x0x ?x0y ?x0z) (K46.itup_mk ?x1a ?x1b ?x1c) (K46.itup_mk ?x1d ?x1e ?x1f) (K46.itup_mk ?x1g ?x1h ?x1i) (K46.itup_mk ?x1j ?x1k ?x1l) ?x1m ?x1n ?x1o ?x1p ?x1q ?x1r ?x1s ?x1t ?x1u ?x1v ?x1w ?x1x ?x1y ?x1z ?x2a
    (case q0a|q0b|q0c|q0d|q0e|q0f|q0g|q0h|q0i|q0j|q0k|q0l|q0m|q0n|q0o|q0p|q0q|q0r|q0s|q0t|q0u|q0v|q0w|q0x|q0y|q0z|q1a|q1b|q1c|q1d|q1e|q1f|q1g|q1h|q1i|q1j|q1k|q1l|q1m|q1n|q1o|q1p|q1q|q1r|q1s|q1t|q1u|q1v|q1w|q1x|q1y|q1z|q2a|q2b|q2c|q2d|q2e|q2f|q2g|q2h|q2i|q2j|q2k|q2l|q2m|q2n|q2o|q2p|q2q|q2r|q2s|q2t|q2u|q2v|q2w|q2x|q2y|q2z|q3a|q3b|q3c|q3d|q3e|q3f|q3g|q3h|q3i|q3j|q3k|q3l|q3m|q3n|q3o|q3p|q3q|q3r|q3s|q3t|q3u|q3v|q3w|q3x|q3y|q3z|q4a|q4b|q4c|q4d|q4e|q4f|q4g|q4h|q4i|q4j|q4k|q4l|q4m|q4n|q4o|q4p|q4q|q4r|q4s|q4t|q4u|q4v|q4w|q4x|q4y|q4z|q5a|q5b|q5c|q5e|q5f|q5g|q5h|q5i|q5j|q5k|q5l|q5m|q5n|q5o|q5p|q5q|q5r|q5s|q5t|q5u|q5v|q5w|q5x|q5y|q5z|q6a|q6b|q6c|q6d|q6e|q6f|q6g|q6h|q6i|q6j|q6k|q6l|q6m|q6n|q6o|q6p|q6q|q6r|q6s|q6t|q6u|q6v|q6w|q6x|q6y|q6z|q7a|q7b|q7c|q7d|q7e|q7f|q7g|q7h|q7i|q7j|q7k|q7l|q7m|q7n|q7o|q7p|q7q|q7r|q7s|q7t|q7u|q7v|q7w|q7x|q7y|q7z|q8a|q8b|q8c|q8d|q8e|q8f|q8g|q8h|q8i|q8j|q8k|q8l|q8m|q8n|q8o|q8p|q8q|q8r|q8s|q8t|q8u|q8v|q8w|q8x|q8y|q8z|q9a|q9b|q9c|q9d|q9e|q9f|q9g|q9h|q9i|q9j|q9k|q9l|q9m|q9n|q9r|q9s|x1m|x1n|x1o|x1p|x1q|x1r|x1s|x1t|x1u|x1v|x1w|x1x|x1y|x1z|x2a => k_is)
    (case q9o|q9t => decide)
    (case q9q|q9v => repeat (first | exact rfl | refine ⟨_, _, rfl, ⟨_, rfl, rfl⟩, ?_⟩))
    (case q9p|q9u => repeat (first | exact trivial | refine ⟨⟨_, _, rfl, rfl⟩, ?_⟩))
    (case q5d => rfl)
    (case q9w|q9z|x0c|x0f|x0i|x0l|x0o|x0r|x0u|x0x|x1a|x1d|x1g|x1j => k_is)
    (case q9x|x0a|x0d|x0g|x0j|x0m|x0p|x0s|x0v|x0y|x1b|x1e|x1h|x1k => decide)
    (case q9y|x0b|x0e|x0h|x0k|x0n|x0q|x0t|x0w|x0z|x1c|x1f|x1i|x1l => repeat (first | exact .nil | refine .cons ⟨_, rfl⟩ ?_))
