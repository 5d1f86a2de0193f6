import PyProof.Rows.All
import Wide.All
import OpenK.AllK
import Wide.FinOn
import PySem.Challenge.RW_fieldrows_k43_records
import Lean
set_option Elab.async false
set_option linter.all false
set_option maxRecDepth 100000
set_option maxHeartbeats 4100000
open Option renaming bind_some → aa, map_some → bm, bind_eq_some_iff → og, map_eq_some_iff → oz, isSome_iff_exists → uh
open PySem renaming wpAny_bind → ac, starEach → ae, sizeLine → af, wpAny_pure → ag, mainGlobals → bc, attributeBase → bt, wpAny_field → bu, wpAny_newObj_type → cn, wpAny_callSpecial?_slot → cy, behindInMarks → dh, backTo → dl, wpAny_call_entry → dz, compareOp → et, wpAny_holding → fu, foldedSetIterable → gc, keywordEach → gh, mem_of_lookup → gk, wpAny_of_eq → gp, wpAny_seqItems → gq, builtinLookup_eq_fast → gu, wpAny_mono → gx, swapsWith → gy, assignEach → ib, wpAny_specialOf → ii, sysModules → ik, wpAny_setField_rec → iw, backToKw → ja, wpAny_passesOwn → jl, typeLookup_type → jm, codeAny_builtin → jn, wpAny_truthy_bool → jt, wpAny_attempt → jy, isSubtype_type → km, plainId_quiet → lq, wpAny_updateSeq → lw, wpAny_typeOf → mq, wpAny_setField → mx, wpAny_rule → my, wpAny_Call_Name_kw → mz, wpAny_isInstance → nw, wpAny_pyNext_list_item → ou, call_meets → oy, wpAny_execs_nil → qe, wpAny_pyNext_list_end → qf, wpAny_updateSeq_pair → ql, sizeLine_eq → qo, wpAny_onRaise → qy, wpAny_pyIter_tuple → rh, wpAny_pyIter_list → rj, slot_list_getitem → rl, codeAny_mono → rm, wpAny_pyIter_zip → se, isSubtype_stop → su, boot_len → sy, wpAny_standAt → uc, wpAny_getItem_list_slice → ud, wpAny_comprehension_free → ue, evalPart_none → uf, concat_meets → vb, wpAny_isTrue_Compare1 → vm, wpAny_pyIter_revIter → vw, wpAny_loadName_local → vz, wpAny_letGo → wb, wpAny_loadName_cell → wq
open PySem.Heap renaming get?_push_of_some → ad, lt_size → am, get?_push_size → ba, get?_update_self → jb, size_push → ji, get?_update_other → lc
open Nat renaming le_refl → ah, lt_of_lt_of_le → bb, ne_of_lt → be, le_trans → bq, zero_le → ck, ne_of_gt → ge, lt_irrefl → io, le_add_right → iq, le_of_lt → kq, le_of_not_lt → lp, le_of_eq → mw, succ_le_succ → oh, lt_succ_self → om, zero_add → pb, lt_trans → ph, min_eq_left → sg, sub_min_sub_right → vq, add_left_cancel → xb
open List renaming size_toArray → ak, length_map → ao, map_cons → aq, getElem?_eq_some_iff → ar, length_cons → au, getElem?_append_left → ax, getElem?_map → ay, getElem?_append_right → bf, mem_cons → bh, getElem?_eq_getElem → bn, length_nil → bo, length_append → bv, mem_cons_of_mem → bx, getElem?_replicate → cf, mem_singleton → cj, mem_append → cq, append_assoc → cw, nodup_cons → dg, mem_append_right → dw, not_mem_nil → eg, mem_map → fg, map_append → fo, length_reverse → fw, lookup_cons → gj, find?_cons → gm, append_nil → gn, filterMap_cons → gs, getElem?_set_ne → ic, getElem?_cons_succ → ig, length_take → ir, reverse_cons → je, map_map → jf, length_drop → jh, mem_cons_self → jk, any_cons → jo, all_cons → jp, dropLast_eq_take → js, foldl_cons → kg, length_eq_zero_iff → kj, mem_range → kr, drop_of_length_le → kt, drop_eq_nil_of_le → ku, getElem?_reverse → lg, getElem?_eq_none → lh, mem_of_getElem? → lu, forIn_cons → ma, nodup_nil → ng, mem_filterMap → nh, length_range → ni, getElem?_take_of_lt → nu, all_eq_true → on, take_of_length_le → qc, map_nil → qd, getElem?_zipWith → qk, mem_append_left → qp, getElem?_of_mem → qq, forIn_nil → qr, length_pos_iff → qx, nodup_append → ro, eraseIdxIfInBounds_toArray → rq, zipIdx_cons → sf, of_mem_zip → si, mem_filter → sj, length_set → sk, dropLast_concat_getLast → sn, getD_eq_getElem?_getD → tt, mem_of_find?_eq_some → tz, getElem?_zip_eq_some → ua, drop_eq_getElem_cons → ub, filter_cons_of_pos → ut, filter_cons_of_neg → uv, getElem?_set_self → vh, length_replicate → vt, mem_of_mem_take → we, mem_of_mem_drop → wf, forall_mem_cons → wg, dropLast_concat → wj, map_congr_left → xf, getElem?_range → xg, forall_mem_nil → xh
open Bool renaming false_ne_true → av, and_eq_true → bw, false_eq_true → cr, eq_iff_iff → mi, not_true → ui
open Option.some renaming inj → bg, injEq → eh
open PySem.W renaming mg_none_of → cg, kia_one → fi, mg_of → jg, callWith_K → kh, methodCall_KW → qg, plainGet_of → qw, kitx_list → rn, cellsFrom_some → vc
open PySem.F renaming plainAttrs_list → cz, slot_zip_next → jd, type_list_pop → jq, slot_list_pop → jr, slot_NoneType_hash → ju, slot_tuple_iterator_next → jv, type_list_append → kb, slot_list_append → ke, plain_extend_loop → mj, args_zip_next_1 → nj, slot_list_getattribute → nv, entry_zip_next → oq, args_tuple_iterator_next_1 → so, entry_tuple_iterator_next → sr, slot_tuple_getitem → tm, args_tuple_add_2 → ug, plainAttrs_dict → uo, entry_tuple_add → uq, slot_tuple_add → vf, slot_dict_pop → vn, slot_dict_get → vo, plain_reversed_new → wl, args_object_init_2 → wm, args_list_extend_2 → wo, entry_list_extend → xi, entry_extend_loop → xj
open Int renaming emod_lt_of_pos → dm, emod_nonneg → fq, toNat_natCast → kz, ediv_nonneg → mh, eq_ofNat_of_zero_le → ux, le_refl → wk
open PyProof.Rows renaming callWith_type1 → dq, slot_tuple_getitem → gf, subscriptTail_builtinR → ox, slicePart_none → qm, boot_tuple → ri, Subscript_ → sw, boot_reversed → tq, boot_tuple → ur, boot_dict → vg, boot_zip → vp, entry_tuple_getitem → wr
open PySem.PassesOwn renaming never → gt
open Array renaming getElem?_toList → gv, length_toList → jx, toArray_toList → qu, getElem?_push → xk
open PySem.Around renaming under_plainId → ie
open Classical renaming choose_spec → jc
open PySem.Obj renaming data_mapFields → jj, isFreed_of_fields → qh
open PySem.Heap.SameBut renaming update → jw, refl → rp
open PySem.Calls renaming spliced_cons → ki, callWith_builtin → lf, spliced_nil → nr, evalArgs_plain → qt, Name_function_global → tx
open Ne renaming symm → lr
open Nat.succ renaming inj → pe
open Iff renaming rfl → qv
open PySem.Paired renaming length → rc
open List.cons renaming inj → re
open PySem.SeqAt.RcNeAt renaming lists_lengths → sx
open List.Perm renaming refl → tw
open PySem.AutoSeq1 renaming sub_tuple_tuple → uk, sub_tuple_list → uy, sub_list_tuple → uz, sub_list_list → vk
open PySem.SeqAt renaming eq_list_lengthsAt → um
open PyProof.Rows.IsTup renaming new → uw
open PySem.SeqAt.EqAt renaming str_none → wu, none_str → wv, none_int → ww, int_none → wz
noncomputable abbrev Fg:=PySem.W.Frag
namespace L2
open PySem PySem.Spec PyProof.Rows
noncomputable abbrev Key:=Sum Int Str
noncomputable def gX:Key->Value->Bool
 |.inl k,v=>Value.isInt k v
 |.inr x,v=>Value.isStrOf x v
noncomputable def zQM(w:World):Key->Int
 |.inl k=>hashInt k
 |.inr x=>hashStr w x
theorem yR:∀{k:Key} {v:Value},gX k v=true->(∃i t,k=Sum.inl i/\v=Value.int i t)\/(∃x t,k=Sum.inr x/\v=Value.str x t)
 |.inl i,v,h=>by
  obtain⟨t,e⟩:=Value.isInt_shape (k:=i) (v:=v) h;exact .inl ⟨i,t,rfl,e⟩
 |.inr x,v,h=>by
  obtain⟨t,e⟩:=Value.isStrOf_shape (x:=x) (v:=v) h;exact .inr ⟨x,t,rfl,e⟩
theorem WT(i:Int)(t:Tok):gX (.inl i) (.int i t)=true:=by simp[gX,Value.isInt]
theorem WS(x:Str)(t:Tok):gX (.inr x) (.str x t)=true:=by simp[gX,Value.isStrOf]
theorem zLG(a b:Int):decide ((Sum.inl a:Key)=Sum.inl b)=(a == b):=by
 by_cases e:a=b
 ·subst e;simp
 ·have h:¬(Sum.inl a:Key)=Sum.inl b:=λq=>e (Sum.inl.inj q)
  rw[decide_eq_false h];exact(beq_eq_false_iff_ne.mpr e).symm
theorem zLD(a b:Str):decide ((Sum.inr a:Key)=Sum.inr b)=decide (a=b):=by
 by_cases e:a=b
 ·subst e;simp
 ·have h:¬(Sum.inr a:Key)=Sum.inr b:=λq=>e (Sum.inr.inj q)
  rw[decide_eq_false h,decide_eq_false e]
theorem zLF(a:Int)(b:Str):decide ((Sum.inl a:Key)=Sum.inr b)=false:=decide_eq_false (λq=>nomatch q)
theorem zLE(a:Str)(b:Int):decide ((Sum.inr a:Key)=Sum.inl b)=false:=decide_eq_false (λq=>nomatch q)
noncomputable def yM(prog:Program)(w:World):PySem.KeyKind prog w Key where
 is:=gX
 hash:=zQM w
 inj:=λv a b ha hb=>by
  rcases yR ha with⟨i,t,rfl,rfl⟩|⟨x,t,rfl,rfl⟩
  ·rcases yR hb with⟨j,u,rfl,e⟩|⟨y,u,rfl,e⟩
   ·injection e with e1 _;rw[e1]
   ·exact nomatch e
  ·rcases yR hb with⟨j,u,rfl,e⟩|⟨y,u,rfl,e⟩
   ·exact nomatch e
   ·injection e with e1 _;rw[e1]
 byValue:=λk v h=>by
  rcases yR h with⟨i,t,rfl,rfl⟩|⟨x,t,rfl,rfl⟩<;>rfl
 pyHash:=λhv h=>by
  rcases yR hv with⟨i,t,rfl,rfl⟩|⟨x,t,rfl,rfl⟩
  ·exact wpAny_pyHash_int h
  ·exact wpAny_pyHash_str h
 eqBool:=λhu hv h=>by
  rcases yR hu with⟨i,t,rfl,rfl⟩|⟨x,t,rfl,rfl⟩
  ·rcases yR hv with⟨j,u,rfl,rfl⟩|⟨y,u,rfl,rfl⟩
   ·rw[zLG] at h;exact wpAny_eqBool_int h
   ·rw[zLF] at h;exact SeqAt.EqAt.int_str i t y u _ _ _ _ h
  ·rcases yR hv with⟨j,u,rfl,rfl⟩|⟨y,u,rfl,rfl⟩
   ·rw[zLE] at h;exact SeqAt.EqAt.str_int x t j u _ _ _ _ h
   ·rw[zLD] at h;exact wpAny_eqBool_str h
 «strs»:=λk x t v h=>by
  rcases yR h with⟨i,u,rfl,e⟩|⟨y,u,rfl,e⟩
  ·exact nomatch e
  ·injection e with e1 _
   subst e1;cases v<;>rfl
theorem nK(prog:Program)(w:World)(i:Int)(t:Tok):(yM prog w).is (.inl i) (.int i t)=true:=WT i t
theorem nJ(prog:Program)(w:World)(x:Str)(t:Tok):(yM prog w).is (.inr x) (.str x t)=true:=WS x t
end L2
namespace L2
open PySem PySem.Spec PyProof.Rows
inductive V where
 |non|bl (b:Bool)|int (i:Int)|str (x:Str)|byt (b:Array UInt8)|flt (b:UInt64)|ref (a:Addr)|ty (n:String)
 deriving DecidableEq
def RelV:V->Value->Prop
 |.non,u=>u=Value.none
 |.bl b,u=>u=Value.bool b
 |.int i,u=>∃t,u=Value.int i t
 |.str x,u=>∃t,u=Value.str x t
 |.byt b,u=>∃t,u=Value.bytes b t
 |.flt b,u=>∃t,u=Value.float b t
 |.ref a,u=>u=Value.ref a
 |.ty n,u=>u=Value.type n
abbrev Vals:List V->List Value->Prop:=Paired RelV
theorem Vals.length(r:Vals xs us):xs.length=us.length:=rc r
theorem Vals.get:∀{xs:List V} {us:List Value} {i:Nat} {x:V},Vals xs us->xs[i]?=some x->∃u,us[i]?=some u/\RelV x u
 |_,_,_,_,.nil,e=>by simp at e
 |_,_,0,_,.cons r _,e=>by simp at e;subst e;exact⟨_,rfl,r⟩
 |_,_,i+1,x,.cons _ t,e=>by
  obtain⟨u,h1,h2⟩:=Vals.get (i:=i) (x:=x) t (by simpa using e);exact⟨u,by simpa using h1,h2⟩
theorem Vals.append:∀{xs ys:List V} {us ws:List Value},Vals xs us->Vals ys ws->Vals (xs++ys) (us++ws)
 |_,_,_,_,.nil,s=>s
 |_,_,_,_,.cons r t,s=>.cons r (Vals.append t s)
theorem Vals.take:∀{xs:List V} {us:List Value} (n:Nat),Vals xs us->Vals (xs.take n) (us.take n)
 |_,_,0,_=>.nil
 |_,_,_+1,.nil=>.nil
 |_,_,n+1,.cons r t=>.cons r (Vals.take n t)
theorem Vals.drop:∀{xs:List V} {us:List Value} (n:Nat),Vals xs us->Vals (xs.drop n) (us.drop n)
 |_,_,0,r=>r
 |_,_,_+1,.nil=>.nil
 |_,_,n+1,.cons _ t=>Vals.drop n t
def RelO:Option V->Option Value->Prop
 |some v,some u=>RelV v u
 |none,none=>True
 |_,_=>False
def KV:List (κ×V)->List (κ×Value)->Prop:=Paired λ(p:κ×V) (q:κ×Value)=>p.1=q.1/\RelV p.2 q.2
noncomputable def kV:Key->V
 |.inl i=>.int i
 |.inr x=>.str x
inductive HO where
 |lst (xs:List V)
 |tup (xs:List V)
 |dK (kvs:List (Key×V))|dT (kvs:List (List Key×V))
 |set (S:Int->Bool) (n:Nat)
 |ins (C dx:Addr) (fs:List (Str×V))
 |own (x:Addr)
 |xd (fs:List (Str×V))
 |met (f x:Addr)
 |rng (lo hi:Int)
 |frz (o:Obj) (u:HO)
 |tbl (ps:Array Value)
 |ext (φ:Heap->Prop)
noncomputable abbrev Hp:=Addr->Option HO
noncomputable def upd(H:Hp)(a:Addr)(o:HO):Hp:=λb=>if b=a then some o else H b
theorem zQ:upd H a o a=some o:=by unfold upd;rw[if_pos rfl]
theorem zN(h:b≠a):upd H a o b=H b:=by unfold upd;rw[if_neg h]
theorem zJB{H:Hp}{a b:Addr}{o u:HO}(h:H a=some o)(h':H b=some u)(d:o≠u):a≠b:=by
 intro e;subst e;rw[h] at h';exact d (bg h')
theorem xV{H:Hp}{a b:Addr}{o:HO}(h:H a=some o)(h':H b=none):a≠b:=by
 intro e;subst e;rw[h] at h';cases h'
noncomputable def qOf(ps:Array Value):Str:=match (ps[0]?:Option Value) with
 |some (.str q _)=>q
 |_=>""
def zRP(q:Str)(o:Obj):Prop:=∃vs t,o.data=.fields vs/\vs[1]?=some (.str q t)
def zPE(H:Hp)(h:Heap)(a:Addr)(q:Str):Prop:=∃ts:Array Value,h.get? a=some (PySem.W.tabObj ts)/\TriplesOk ts.toList/\∀pos cv,codeAmong pos ts.toList=some cv->∃c oc u,cv=.ref c/\H c=some (.frz oc u)/\zRP q oc
section
variable(P:Program)(w:World)
def ObjOk(H:Hp)(h:Heap)(a:Addr):HO->Prop
 |.lst xs=>xs.length<=af/\∃(its:List Value) (n:Nat),Vals xs its/\h.get? a=some { cls:=.type "list",data:=.seq its.toArray n }
 |.tup xs=>xs.length<=af/\∃its:List Value,Vals xs its/\IsTup h a its.toArray
 |.dK kvs=>kvs.length<=af/\(a == ik)=false/\∃vs,KV kvs vs/\h.DictOf (yM P w) a vs
 |.dT kvs=>kvs.length<=af/\(a == ik)=false/\∃xs:List (List Key×Addr×Value),
   Paired (λ(p:List Key×V) (q:List Key×Addr×Value)=>p.1=q.1/\H q.2.1=some (.tup (p.1.map kV))/\RelV p.2 q.2.2) kvs xs /\
   ∃o es ep,h.get? a=some o/\o.ExactDict/\o.data=.dict es ep/\es.toList=xs.map (entryOfKey (tupleKind (yM P w)))/\(xs.map (·.1)).Nodup
 |.set S n=>h.SetOf (intKind P w) a S n
 |.ins C dx fs=>H dx=some (.own a)/\fs.length<=1000/\dx≠a/\h.get? a=some (PySem.W.instObj C dx) /\
   ∃mA,h.Ns1 dx mA/\(∀f,RelO (fs.lookup f) (mA f))/\PySem.Within mA (fs.map (·.1))
 |.own _=>∃o,h.get? a=some o
 |.xd fs=>∃mA,h.Ns1 a mA/\∀f,RelO (fs.lookup f) (mA f)
 |.rng lo hi=>∃t u v,h.get? a=some { cls:=.type "range",data:=.fields #[.int lo t,.int hi u,.int 1 v] }
 |.frz o u=>h.get? a=some o/\ObjOk H h a u
 |.tbl ps=>zPE H h a (qOf ps)
 |.met f x=>h.get? a=some (PySem.W.methodObj (.ref f) (.ref x))
 |.ext φ=>φ h/\(∃o,h.get? a=some o)/\∀h1 h2:Heap,φ h1->(∀o,h1.get? a=some o->h2.get? a=some o)->φ h2
def HOk(H:Hp)(h:Heap):Prop:=∀a o,H a=some o->ObjOk P w H h a o
end
theorem ObjOk.lt(x:ObjOk P w H h a o):a<h.objs.size:=by
 cases o with
 |lst xs=>obtain⟨_,_,_,_,e⟩:=x;exact am e
 |tup xs=>obtain⟨_,_,_,p⟩:=x;exact p.lt
 |dK kvs=>obtain⟨_,_,_,_,o,_,_,e,_⟩:=x;exact am e
 |dT kvs=>obtain⟨_,_,_,_,o,_,_,e,_⟩:=x;exact am e
 |set S n=>obtain⟨o,_,_,_,e,_⟩:=x;exact am e
 |ins C dx fs=>obtain⟨_,_,_,e,_⟩:=x;exact am e
 |own y=>obtain⟨_,e⟩:=x;exact am e
 |xd fs=>obtain⟨_,⟨_,_,_,e,_⟩,_⟩:=x;exact am e
 |rng lo hi=>obtain⟨_,_,_,e⟩:=x;exact am e
 |frz ob u=>obtain⟨e,_⟩:=x;exact am e
 |tbl ps=>obtain⟨_,e,_⟩:=x;exact am e
 |met f y=>exact am (show h.get? a=some _ from x)
 |ext φ=>obtain⟨_,⟨_,e⟩,_⟩:=x;exact am e
theorem Paired.mapP:∀{l₁:List α} {l₂:List β},Paired F l₁ l₂->(∀a b,F a b->G a b)->Paired G l₁ l₂
 |_,_,.nil,_=>.nil
 |_,_,.cons r t,f=>.cons (f _ _ r) (Paired.mapP t f)
theorem ObjOk.stay(x:ObjOk P w H h a o)(k:∀b u,(b=a\/H b=some (.own a))->h.get? b=some u->h'.get? b=some u)(ho:∀b,H b=some (.own a)->H' b=some (.own a))(ht:∀b xs,H b=some (.tup xs)->H' b=some (.tup xs))(hf:∀b o u,H b=some (.frz o u)->H' b=some (.frz o u)):ObjOk P w H' h' a o:=by
 induction o with
 |lst xs=>obtain⟨z,its,n,r,e⟩:=x;exact⟨z,its,n,r,k _ _ (.inl rfl) e⟩
 |tup xs=>obtain⟨z,its,r,ob,e,c⟩:=x;exact⟨z,its,r,ob,k _ _ (.inl rfl) e,c⟩
 |dK kvs=>obtain⟨z,y,vs,r,ob,es,ep,e,c⟩:=x;exact⟨z,y,vs,r,ob,es,ep,k _ _ (.inl rfl) e,c⟩
 |dT kvs=>
  obtain⟨z,y,xs,r,ob,es,ep,e,c⟩:=x;exact⟨z,y,xs,Paired.mapP r λp q z=>⟨z.1,ht _ _ z.2.1,z.2.2⟩,ob,es,ep,k _ _ (.inl rfl) e,c⟩
 |set S n=>obtain⟨ob,es,ep,t,e,c⟩:=x;exact⟨ob,es,ep,t,k _ _ (.inl rfl) e,c⟩
 |ins C dx fs=>
  obtain⟨d,z,ne,e,mA,⟨od,es,ep,e2,c⟩,r⟩:=x;exact⟨ho _ d,z,ne,k _ _ (.inl rfl) e,mA,⟨od,es,ep,k _ _ (.inr d) e2,c⟩,r⟩
 |own y=>obtain⟨ob,e⟩:=x;exact⟨ob,k _ _ (.inl rfl) e⟩
 |xd fs=>obtain⟨mA,⟨od,es,ep,e,c⟩,r⟩:=x;exact⟨mA,⟨od,es,ep,k _ _ (.inl rfl) e,c⟩,r⟩
 |rng lo hi=>obtain⟨t,u,v,e⟩:=x;exact⟨t,u,v,k _ _ (.inl rfl) e⟩
 |frz ob u ih=>obtain⟨e,q⟩:=x;exact⟨k _ _ (.inl rfl) e,ih q⟩
 |tbl ps=>obtain⟨ts,e,z,r⟩:=x;exact⟨ts,k _ _ (.inl rfl) e,z,λp v q=>let ⟨c,oc,u,e1,e2,e3⟩:=r p v q;⟨c,oc,u,e1,hf _ _ _ e2,e3⟩⟩
 |met f y=>
  have e:h.get? a=some (PySem.W.methodObj (.ref f) (.ref y)):=x;show h'.get? a=some (PySem.W.methodObj (.ref f) (.ref y));exact k a _ (.inl rfl) e
 |ext φ=>obtain⟨p,⟨o,e⟩,st⟩:=x;exact⟨st _ _ p λo q=>k _ _ (.inl rfl) q,⟨o,k _ _ (.inl rfl) e⟩,st⟩
theorem HOk.lt(x:HOk P w H h)(e:H a=some o):a<h.objs.size:=(x a o e).lt
theorem HOk.fresh(x:HOk P w H h)(e:h.objs.size<=a):H a=none:=by
 cases q:H a with
 |none=>rfl
 |some u=>exact absurd (bb (x.lt q) e) (io _)
theorem HOk.kept(x:HOk P w H h)(k:∀b u,h.get? b=some u->h'.get? b=some u):HOk P w H h':=λa o e=>
 (x a o e).stay (λb u _ q=>k b u q) (λ_ q=>q) (λ_ _ q=>q) λ_ _ _ q=>q
theorem HOk.laid(x:HOk P w H h)(k:∀b u,h.get? b=some u->h'.get? b=some u)(hp:h.objs.size<=a)(new:ObjOk P w (upd H a o) h' a o):HOk P w (upd H a o) h':=λb u e=>by
 have hn:=x.fresh hp;by_cases hb:b=a
 ·subst hb;rw[zQ] at e;cases e;exact new
 ·rw[zN hb] at e;exact(x b u e).stay (λc v _ q=>k c v q) (λc q=>by rw[zN (xV q hn)];exact q) (λc xs q=>by rw[zN (xV q hn)];exact q) λc o u q=>by rw[zN (xV q hn)];exact q
def Rd(H:Hp)(a:Addr)(u:HO):Prop:=H a=some u\/∃o,H a=some (.frz o u)
theorem Rd.ok(r:Rd H a u)(x:HOk P w H h):ObjOk P w H h a u:=by
 rcases r with r|⟨o,r⟩
 ·exact x a u r
 ·obtain⟨_,q⟩:=x a _ r;exact q
def Mut:Option HO->Prop
 |some (.lst _)=>True
 |some (.dK _)=>True
 |some (.dT _)=>True
 |some (.set _ _)=>True
 |some (.ins _ _ _)=>True
 |some (.ext _)=>True
 |_=>False
theorem HOk.write(ok:HOk P w H h)(mu:Mut (H x))(he:e=x\/H e=some (.own x))(k:∀b u,b≠e->h.get? b=some u->h'.get? b=some u)(heo:∃u,h'.get? e=some u)(new:ObjOk P w (upd H x o') h' x o'):HOk P w (upd H x o') h':=λb u q=>by
 have nown:∀c y,H c=some (.own y)->c≠x:=λc y r z=>by subst z;rw[r] at mu;exact mu
 have ntup:∀c xs,H c=some (.tup xs)->c≠x:=λc xs r z=>by subst z;rw[r] at mu;exact mu
 by_cases hb:b=x
 ·subst hb;rw[zQ] at q;cases q;exact new
 ·rw[zN hb] at q;by_cases hbe:b=e
  ·have q':H b=some (.own x):=by
    rcases he with z|z
    ·exact absurd (hbe.trans z) hb
    ·rw[hbe];exact z
   rw[q] at q';cases q';obtain⟨v,hv⟩:=heo;exact⟨v,by rw[hbe];exact hv⟩
  ·refine(ok b u q).stay (λc v hc r=>k c v ?_ r) (λc r=>by rw[zN (nown c b r)];exact r) (λc xs r=>by rw[zN (ntup c xs r)];exact r) λc o u r=>by rw[zN (λz=>by subst z;rw[r] at mu;exact mu)];exact r
   rcases hc with rfl|hc
   ·exact hbe
   ·rintro rfl;rcases he with z|z
    ·exact nown c b hc z
    ·rw[hc] at z;cases z;exact hb rfl
structure Un(fs ex:List Addr)(H H':Hp)(h h':Heap):Prop where
 keep:∀b o,h.get? b=some o->H b=none->b∉fs->b∉ex->h'.get? b=some o
 slot:∀b o,h.get? b=some o->H b=none->b∈fs->b∉ex->∃sl,h'.get? b=some { o with slots:=sl }
 free:∀b o,h.get? b=some o->H b=none->b∉ex->H' b=none
 there:∀b o,h.get? b=some o->b∉ex->∃o',h'.get? b=some o'
 tups:∀b xs,H b=some (.tup xs)->H' b=some (.tup xs)
 frzs:∀b o u,H b=some (.frz o u)->H' b=some (.frz o u)
 tbls:∀b ps,H b=some (.tbl ps)->∃more,H' b=some (.tbl (ps++more))
theorem Un.any(u:Un fs ex H H1 h h1)(q:h.get? b=some ob)(n:H b=none)(hx:b∉ex):∃sl,h1.get? b=some { ob with slots:=sl }:=by
 by_cases hb:b∈fs
 ·exact u.slot b ob q n hb hx
 ·exact⟨ob.slots,u.keep b ob q n hb hx⟩
theorem Un.kept(k:∀b u,h.get? b=some u->h'.get? b=some u):Un fs ex H H h h':=
 ⟨λb ob q _ _ _=>k b ob q,λb ob q _ _ _=>⟨ob.slots,k b ob q⟩,λ_ _ _ n _=>n,λb ob q _=>⟨ob,k b ob q⟩,λ_ _ q=>q,λ_ _ _ q=>q,λ_ ps q=>⟨#[],by rw[q];simp⟩⟩
theorem Un.refl:Un fs ex H H h h:=Un.kept λ_ _ q=>q
theorem Un.laid(k:∀b u,h.get? b=some u->h'.get? b=some u)(hp:h.objs.size<=a)(hn:H a=none):Un fs ex H (upd H a o) h h' where
 keep:=λb u q _ _ _=>k b u q
 slot:=λb u q _ _ _=>⟨u.slots,k b u q⟩
 free:=λb u q n _=>by rw[zN (be (bb (am q) hp))];exact n
 there:=λb u q _=>⟨u,k b u q⟩
 tups:=λb xs q=>by rw[zN (xV q hn)];exact q
 frzs:=λb u xs q=>by rw[zN (xV q hn)];exact q
 tbls:=λb ps q=>⟨#[],by rw[zN (xV q hn),q];simp⟩
theorem Un.write(mu:Mut (H x))(he:e=x\/H e=some (.own x))(k:∀b u,b≠e->h.get? b=some u->h'.get? b=some u)(heo:∃u,h'.get? e=some u):Un fs ex H (upd H x o) h h':=by
 have hx:∀b,H b=none->b≠x:=λb n z=>by subst z;rw[n] at mu;exact mu
 have hb:∀b,H b=none->b≠e:=λb n z=>by
  subst z;rcases he with r|r
  ·exact hx b n r
  ·rw[n] at r;cases r
 have hm:∀b u,H b=some u->¬Mut (some u)->b≠x:=λb u q nm z=>by subst z;rw[q] at mu;exact nm mu
 refine⟨λb u q n _ _=>k b u (hb b n) q,λb u q n _ _=>⟨u.slots,k b u (hb b n) q⟩,λb u q n _=>by rw[zN (hx b n)];exact n,λb u q _=>?_,
  λb xs q=>by rw[zN (hm b _ q λz=>z)];exact q,λb u xs q=>by rw[zN (hm b _ q λz=>z)];exact q,λb ps q=>⟨#[],by rw[zN (hm b _ q λz=>z),q];simp⟩⟩
 by_cases hbe:b=e
 ·subst hbe;exact heo
 ·exact⟨u,k b u hbe q⟩
noncomputable def trk(h:Heap)(H:Hp):List Addr:=(List.range h.objs.size).filter λa=>(H a).isSome
noncomputable def zIY(h:Heap)(H:Hp):Heap:=PySem.W.hideAll h (trk h H)
theorem WW(h:Heap)(H:Hp):(zIY h H).objs.size=h.objs.size:=PySem.W.hideAll_size _ _
theorem zCC(e:h.get? b=some o)(n:H b=none):(zIY h H).get? b=some o:=
 PySem.W.hideAll_get _ e λhm=>by
  have q:(H b).isSome=true:=(sj.mp hm).2;rw[n] at q;simp at q
theorem zF8(e:(zIY h H).get? b=some o):h.get? b=some o/\H b=none:=by
 have e':h.get? b=some o:=PySem.W.of_hideAll (trk h H) e;refine⟨e',?_⟩;cases q:H b with
 |none=>rfl
 |some x=>
  have hm:b∈trk h H:=sj.mpr ⟨kr.mpr (am e'),by simp[q]⟩;have z:(zIY h H).get? b=none:=PySem.W.hideAll_none (trk h H) hm;rw[z] at e;cases e
end L2
namespace L2
open PySem PySem.Spec PyProof.Rows
structure Mod(K:Fg)(mg:Str->Option Value)(base:Heap):Prop where
 kin:K.In base
 glob:base.Ns bc mg
 blt:∃mb,base.Ns builtinsNs mb/\∀x:Str,x ≠ "__name__" -> mb x=bootBuiltins x
 nolimit:base.NoLimit
structure Cx where
 prog:Program
 w:World
 K:Fg
 mg:Str->Option Value
 base:Heap
 A:Around
 N:List Str
 s₀:Shared
 H₀:Hp
 env:Env
 outer:List Env
 stack:List Env
 ex:List Addr
 fn:Str->Bool
 calm:Bool
 pn:List (Addr×Obj)
 xe:Value->Shared->Prop
noncomputable def frs(l:List Env):List Addr:=l.filterMap (·.frame)
noncomputable abbrev Cx.fs(X:Cx):List Addr:=frs X.outer
def Vis(sc:Scope)(x:Str):Prop:=sc.names.lookup x=some .local\/sc.names.lookup x=some .cell\/sc.names.lookup x=some .free
def Loc(sc:Scope)(x:Str):Prop:=sc.names.lookup x=some .local\/sc.names.lookup x=some .cell
def zRO(env:Env)(h:Heap)(m:Str->Option Value)(x:Str)(u:Value):Prop:=
 (env.kindOf x=some .local/\m x=some u)\/((env.kindOf x=some .cell\/env.kindOf x=some .free)/\∃c,env.cells.lookup x=some c/\h.IsCell c (some u))
def zNE(K:Fg)(H:Hp):Prop:=True
structure FrF(K:Fg)(l:List Env)(H:Hp):Prop where
 fr:∀b∈frs l,H b=none
 tb:zNE K H
structure Cx.Ok(X:Cx):Prop where
 mod:Mod X.K X.mg X.base
 kind:X.env.scope.kind=.function
 glob:X.env.globals=bc
 blt:X.env.builtins=builtinsNs
 above:X.s₀.heap.objs.size<=X.env.locals
 inj:∀x y c,X.env.cells.lookup x=some c->X.env.cells.lookup y=some c->x=y
 has:∀x,(X.env.kindOf x=some .cell\/X.env.kindOf x=some .free)->∃c,X.env.cells.lookup x=some c
 cab:∀x c,X.fn x=true->X.env.cells.lookup x=some c->X.s₀.heap.objs.size<=c
 hd:X.calm=true->X.A.handled=none
 frames:X.A.frames=some X.stack
 stk:X.stack=X.outer\/(X.stack=X.env::X.outer/\X.env.frame=some X.env.locals)
 exf:∀b∈X.ex,b≠X.env.locals/\∀x c,X.env.cells.lookup x=some c->c≠b
 bs:∀b o,X.base.get? b=some o->X.s₀.heap.get? b=some o/\X.H₀ b=none
 bsz:X.base.objs.size<=X.s₀.heap.objs.size
 noex:∀b o,X.base.get? b=some o->b∉X.ex
 exfs:∀b∈X.ex,b∉X.fs
 funs:X.s₀.heap.FunFrames X.base X.outer
 frf:FrF X.K X.outer X.H₀
structure Inv(X:Cx)(pZ:List (Addr×Obj))(σ:List (Option V))(H:Hp)(s:Shared):Prop where
 ok:X.Ok
 os:s.os=X.s₀.os
 bare:AllBare s.gens
 base:Un X.fs X.ex X.H₀ H X.s₀.heap s.heap
 loc:∃m,s.heap.Ns X.env.locals m/\∀(i:Nat) (x:Str) (v:V),X.N[i]?=some x->σ[i]?=some (some v)->Vis X.env.scope x->∃u,RelV v u/\zRO X.env s.heap m x u
 cell:∀x c,X.env.cells.lookup x=some c->∃v,s.heap.IsCell c v
 free:H X.env.locals=none
 freeC:∀x c,X.env.cells.lookup x=some c->H c=none
 pin:∀p∈X.pn++pZ,s.heap.get? p.1=some p.2/\H p.1=none/\p.1≠X.env.locals/\p.1∉X.fs/\∀v,p.2.data≠.cell v
 hok:HOk X.prog X.w H s.heap
 len:σ.length=X.N.length
section
variable{X:Cx}{pZ:List (Addr×Obj)}{σ:List (Option V)}{H H':Hp}{s:Shared}{h':Heap}
theorem Cx.Ok.nofr(ok:X.Ok){b:Addr}{o:Obj}(e:X.base.get? b=some o):b∉X.fs:=λhb=>by
 have:=(ok.funs.mem hb).1
 rw[e] at this;cases this
theorem Inv.bs(I:Inv X pZ σ H s):∀b o,X.base.get? b=some o->s.heap.get? b=some o/\H b=none:=λb o e=>
 ⟨I.base.keep b o (I.ok.bs b o e).1 (I.ok.bs b o e).2 (I.ok.nofr e) (I.ok.noex b o e),I.base.free b o (I.ok.bs b o e).1 (I.ok.bs b o e).2 (I.ok.noex b o e)⟩
theorem Inv.bk(I:Inv X pZ σ H s):∀b o,X.base.get? b=some o->s.heap.get? b=some o:=λb o e=>(I.bs b o e).1
theorem Inv.mod(I:Inv X pZ σ H s):Mod X.K X.mg X.base:=I.ok.mod
theorem Inv.kIn(I:Inv X pZ σ H s):X.K.In s.heap:=I.ok.mod.kin.keeps I.bk
theorem Inv.lt(I:Inv X pZ σ H s):X.env.locals<s.heap.objs.size:=let ⟨_,hn,_⟩:=I.loc;hn.lt
theorem Inv.sz(I:Inv X pZ σ H s):X.s₀.heap.objs.size<=s.heap.objs.size:=bq I.ok.above (kq I.lt)
theorem Inv.nofs(I:Inv X pZ σ H s)(h:s.heap.objs.size<=a):a∉X.fs:=λhb=>by
 obtain⟨_,o,ho,_⟩:=I.ok.funs.mem hb;exact absurd (bb (am ho) (bq I.sz h)) (io _)
theorem Inv.cne(I:Inv X pZ σ H s):∀x c,X.env.cells.lookup x=some c->c≠X.env.locals:=λx c e z=>by
 obtain⟨v,o,ho,hd⟩:=I.cell x c e;obtain⟨m,⟨o',es,ep,ho',hd',_⟩,_⟩:=I.loc;rw[z,ho'] at ho;cases ho;rw[hd'] at hd;cases hd
theorem Inv.funs(I:Inv X pZ σ H s):s.heap.FunFrames X.base X.outer:=by
 have all:∀(l:List Env),(∀b∈frs l,b∈X.fs)->X.s₀.heap.FunFrames X.base l->s.heap.FunFrames X.base l:=by
  intro l
  induction l with
  |nil=>intro _ _;trivial
  |cons env r ih=>
   intro hs hl;obtain⟨hk,⟨L,o,hf,hn,ho,hd⟩,hr⟩:=hl;have hL:L∈X.fs:=hs L (by unfold frs;rw[gs,hf];exact jk);obtain⟨sl,e⟩:=I.base.slot L o ho (I.ok.frf.fr L hL) hL λz=>I.ok.exfs L z hL
   exact⟨hk,⟨L,_,hf,hn,e,hd⟩,ih (λb hb=>hs b (by unfold frs;rw[gs,hf];exact bx _ hb)) hr⟩
 exact all X.outer (λ_ hb=>hb) I.ok.funs
theorem Inv.stack(I:Inv X pZ σ H s):s.heap.FunFrames X.base X.stack:=by
 rcases I.ok.stk with e|⟨e,hf⟩
 ·rw[e];exact I.funs
 ·rw[e];obtain⟨m,hn,_⟩:=I.loc;refine .cons (by rw[I.ok.kind];decide) hf hn ?_ I.funs;exact Heap.get?_none_of_le (bq I.ok.bsz I.ok.above)
theorem Inv.stkSub(I:Inv X pZ σ H s):∀b∈frs X.stack,b∈X.env.locals::X.fs:=λb hb=>by
 rcases I.ok.stk with e|⟨e,hf⟩
 ·rw[e] at hb;exact bx _ hb
 ·rw[e] at hb;unfold frs at hb;rw[gs,hf] at hb;exact hb
theorem Inv.stkFree(I:Inv X pZ σ H s):∀b∈frs X.stack,H b=none:=λb hb=>by
 rcases bh.mp (I.stkSub b hb) with e|hb
 ·rw[e];exact I.free
 ·obtain⟨_,o,ho,_⟩:=I.ok.funs.mem hb;exact I.base.free b o ho (I.ok.frf.fr b hb) λz=>I.ok.exfs b z hb
theorem Inv.tabIn(I:Inv X pZ σ H s):zNE X.K H:=
 trivial
theorem Inv.step{ch:List Addr}(I:Inv X pZ σ H s)(hch:∀b∈ch,(b∈X.ex\/X.s₀.heap.objs.size<=b)/\b≠X.env.locals/\(∀x c,X.env.cells.lookup x=some c->c≠b)/\∀p∈X.pn++pZ,p.1≠b)(keep:∀b o,b≠X.env.locals->b∉X.fs->b∉ch->s.heap.get? b=some o->H b=none->h'.get? b=some o)(slot:∀b o,b≠X.env.locals->b∈X.fs->b∉ch->s.heap.get? b=some o->H b=none->∃sl,h'.get? b=some { o with slots:=sl })(free:∀b o,b∉ch->s.heap.get? b=some o->H b=none->H' b=none)(there:∀b o,b∉ch->s.heap.get? b=some o->∃o',h'.get? b=some o')(tups:∀b xs,H b=some (.tup xs)->H' b=some (.tup xs))(frzs:∀b o u,H b=some (.frz o u)->H' b=some (.frz o u))(tbls:∀b ps,H b=some (.tbl ps)->∃more,H' b=some (.tbl (ps++more)))(ns:∀m,s.heap.Ns X.env.locals m->h'.Ns X.env.locals m)(hok:HOk X.prog X.w H' h')(hg:AllBare g'):Inv X pZ σ H' { s with heap:=h',gens:=g',drawn:=d',toks:=t' }:=by
 have neL:∀b o,X.s₀.heap.get? b=some o->b≠X.env.locals:=λb o e=>be (bb (am e) I.ok.above)
 have neC:∀b o,X.s₀.heap.get? b=some o->b∉X.ex->b∉ch:=λb o e hx hb=>by
  rcases(hch b hb).1 with z|z
  ·exact hx z
  ·exact absurd (bb (am e) z) (io _)
 have cellK:∀x c,X.env.cells.lookup x=some c->∀v,s.heap.IsCell c v->h'.IsCell c v:=λx c e v ⟨o,ho,hd⟩=>by
  have nch:c∉ch:=λz=>(hch c z).2.2.1 x c e rfl
  by_cases hc:c∈X.fs
  ·obtain⟨sl,q⟩:=slot c o (I.cne x c e) hc nch ho (I.freeC x c e);exact⟨_,q,hd⟩
  ·exact⟨o,keep c o (I.cne x c e) hc nch ho (I.freeC x c e),hd⟩
 refine⟨I.ok,I.os,hg,⟨λb o e n hb hx=>?_,λb o e n hb hx=>?_,λb o e n hx=>?_,λb o e hx=>?_,λb xs e=>tups b xs (I.base.tups b xs e),λb o xs e=>frzs b o xs (I.base.frzs b o xs e),λb ps e=>?_⟩,?_,λx c e=>?_,?_,λx c e=>?_,λp hp=>?_,hok,I.len⟩
 ·exact keep b o (neL b o e) hb (neC b o e hx) (I.base.keep b o e n hb hx) (I.base.free b o e n hx)
 ·obtain⟨sl,e1⟩:=I.base.slot b o e n hb hx;obtain⟨sl',e2⟩:=slot b _ (neL b o e) hb (neC b o e hx) e1 (I.base.free b o e n hx);exact⟨sl',e2⟩
 ·obtain⟨o',e1⟩:=I.base.there b o e hx;exact free b o' (neC b o e hx) e1 (I.base.free b o e n hx)
 ·obtain⟨o',e1⟩:=I.base.there b o e hx;exact there b o' (neC b o e hx) e1
 ·obtain⟨m1,e1⟩:=I.base.tbls b ps e;obtain⟨m2,e2⟩:=tbls b _ e1;exact⟨m1++m2,by rw[e2,Array.append_assoc]⟩
 ·obtain⟨m,hn,hl⟩:=I.loc;refine⟨m,ns m hn,λi x v e1 e2 e3=>?_⟩;obtain⟨u,r,l⟩:=hl i x v e1 e2 e3;refine⟨u,r,?_⟩;rcases l with l|⟨k,c,e,z⟩
  ·exact .inl l
  ·exact .inr ⟨k,c,e,cellK x c e _ z⟩
 ·obtain⟨v,z⟩:=I.cell x c e;exact⟨v,cellK x c e v z⟩
 ·obtain⟨m,⟨o,_,_,ho,_⟩,_⟩:=I.loc;exact free _ o (λz=>(hch _ z).2.1 rfl) ho I.free
 ·obtain⟨v,o,ho,hd⟩:=I.cell x c e;exact free c o (λz=>(hch c z).2.2.1 x c e rfl) ho (I.freeC x c e)
 ·obtain⟨e,n,ne,nf,d⟩:=I.pin p hp;have nch:p.1∉ch:=λz=>(hch p.1 z).2.2.2 p hp rfl
  exact⟨keep p.1 p.2 ne nf nch e n,free p.1 p.2 nch e n,ne,nf,d⟩
theorem Inv.un(I:Inv X pZ σ H s)(u:Un X.fs [] H H' s.heap h')(hok:HOk X.prog X.w H' h'):Inv X pZ σ H' { s with heap:=h',toks:=t' }:=by
 obtain⟨m,⟨o,es,ep,ho,r⟩,_⟩:=id I.loc;obtain⟨sl,hL⟩:=u.any ho I.free (by simp);exact I.step (g':=s.gens) (d':=s.drawn) (ch:=[]) (λ_ z=>nomatch z) (λb o _ hb _ e n=>u.keep b o e n hb (by simp)) (λb o _ hb _ e n=>u.slot b o e n hb (by simp)) (λb o _ e n=>u.free b o e n (by simp)) (λb o _ e=>u.there b o e (by simp)) u.tups u.frzs u.tbls (λm' hm=>by
  obtain⟨o',es',ep',ho',r'⟩:=hm;rw[ho] at ho';cases ho';exact⟨_,es',ep',hL,r'⟩) hok I.bare
theorem Inv.call{ch:List Addr}(I:Inv X pZ σ H s)(u:Un (frs X.stack) ch H H' s.heap h')(hok:HOk X.prog X.w H' h')(hg:AllBare g')(hch:∀b∈ch,(b∈X.ex\/X.s₀.heap.objs.size<=b)/\b≠X.env.locals/\(∀x c,X.env.cells.lookup x=some c->c≠b)/\∀p∈X.pn++pZ,p.1≠b):Inv X pZ σ H' { s with heap:=h',gens:=g',drawn:=d',toks:=t' }:=by
 obtain⟨m,⟨o,es,ep,ho,r⟩,_⟩:=id I.loc;obtain⟨sl,hL⟩:=u.any ho I.free λz=>(hch _ z).2.1 rfl
 exact I.step (ch:=ch) hch (λb o hL hb hc e n=>u.keep b o e n (λz=>(bh.mp (I.stkSub b z)).elim hL hb) hc) (λb o _ _ hc e n=>u.any e n hc) (λb o hc e n=>u.free b o e n hc) (λb o hc e=>u.there b o e hc) u.tups u.frzs u.tbls (λm' hm=>by
  obtain⟨o',es',ep',ho',r'⟩:=hm;rw[ho] at ho';cases ho';exact⟨_,es',ep',hL,r'⟩) hok hg
theorem Inv.turned(I:Inv X pZ σ H s)(k:∀b o,b≠it->s.heap.get? b=some o->h'.get? b=some o)(hn:H it=none)(hL:it≠X.env.locals)(h1:it∈X.ex\/X.s₀.heap.objs.size<=it)(h2:∀x c,X.env.cells.lookup x=some c->c≠it)(h3:∀p∈X.pn++pZ,p.1≠it):Inv X pZ σ H { s with heap:=h',toks:=t' }:=by
 have nit:∀b u,H b=some u->b≠it:=λb u e z=>by rw[z,hn] at e;cases e
 refine I.step (g':=s.gens) (d':=s.drawn) (ch:=[it]) (λb hb=>?_) (λb o _ _ hc e _=>k b o (λz=>hc (by simp[z])) e) (λb o _ _ hc e _=>⟨o.slots,k b o (λz=>hc (by simp[z])) e⟩) (λ_ _ _ _ n=>n)
  (λb o hc e=>⟨o,k b o (λz=>hc (by simp[z])) e⟩) (λ_ _ e=>e) (λ_ _ _ e=>e) (λb ps e=>⟨#[],by rw[e];simp⟩) (λm hm=>?_) (λb u e=>?_) I.bare
 ·have e:b=it:=by simpa using hb
  subst e;exact⟨h1,hL,h2,h3⟩
 ·obtain⟨o,es,ep,ho,r⟩:=hm;exact⟨o,es,ep,k _ o (lr hL) ho,r⟩
 ·refine(I.hok b u e).stay (λc v hc q=>k c v ?_ q) (λ_ q=>q) (λ_ _ q=>q) λ_ _ _ q=>q
  rcases hc with z|z
  ·rw[z];exact nit b u e
  ·exact nit c _ z
theorem Inv.tok(I:Inv X pZ σ H s)(t:Nat):Inv X pZ σ H { s with toks:=t }:=I.un (h':=s.heap) (t':=t) Un.refl I.hok
theorem Inv.kept(I:Inv X pZ σ H s)(k:∀b u,s.heap.get? b=some u->h'.get? b=some u):Inv X pZ σ H { s with heap:=h',toks:=t' }:=I.un (Un.kept k) (I.hok.kept k)
theorem Inv.laid(I:Inv X pZ σ H s)(k:∀b u,s.heap.get? b=some u->h'.get? b=some u)(hp:s.heap.objs.size<=a)(new:ObjOk X.prog X.w (upd H a o) h' a o):Inv X pZ σ (upd H a o) { s with heap:=h',toks:=t' }:=I.un (Un.laid k hp (I.hok.fresh hp)) (I.hok.laid k hp new)
theorem Inv.write(I:Inv X pZ σ H s)(mu:Mut (H x))(he:e=x\/H e=some (.own x))(k:∀b u,b≠e->s.heap.get? b=some u->h'.get? b=some u)(heo:∃u,h'.get? e=some u)(new:ObjOk X.prog X.w (upd H x o) h' x o):Inv X pZ σ (upd H x o) { s with heap:=h',toks:=t' }:=I.un (Un.write mu he k heo) (I.hok.write mu he k heo new)
theorem Inv.pins_of(I:Inv X pZ σ H s)(h:∀p∈pZ',s.heap.get? p.1=some p.2/\H p.1=none/\p.1≠X.env.locals/\p.1∉X.fs/\∀v,p.2.data≠.cell v):Inv X pZ' σ H s:=
 ⟨I.ok,I.os,I.bare,I.base,I.loc,I.cell,I.free,I.freeC,λp hp=>(cq.mp hp).elim (λz=>I.pin p (qp _ z)) (h p),I.hok,I.len⟩
theorem ZL{N:List Str}(hN:N.Nodup){i j:Nat}{x:Str}(a:N[i]?=some x)(b:N[j]?=some x):i=j:=by
 obtain⟨h1,e1⟩:=ar.mp a;obtain⟨h2,e2⟩:=ar.mp b;exact(List.getElem_inj hN).mp (e1.trans e2.symm)
theorem mR{M:Model}{A:Around}{E:Value->Shared->Prop}{i:Nat}{x:Str}{v:V}{u:Value}{Q:Unit->Shared->Prop}(I:Inv X pZ σ H s)(hN:X.N.Nodup)(hi:X.N[i]?=some x)(hx:Loc X.env.scope x)(r:RelV v u)(h:∀s',Inv X pZ (σ.set i (some v)) H s'->(∃a,Heap.SameBut a s.heap s'.heap/\(a=X.env.locals\/X.env.cells.lookup x=some a))->Q () s')(hf:X.fn x=true\/X.env.scope.names.lookup x=some .local:=by first|exact .inl rfl|exact .inr rfl|assumption):wpAny M A (storeName X.env x u) Q E s:=by
 obtain⟨m,hn,hl⟩:=id I.loc;have hcls:(X.env.scope.kind == .class || (X.env.scope.kind == .module && X.env.locals != X.env.globals))=false:=by rw[I.ok.kind];rfl
 have hiσ:i<σ.length:=by rw[I.len];exact(ar.mp hi).1
 have cne:=I.cne;have tracked:∀{a:Addr} {h':Heap},(∃o,s.heap.get? a=some o/\H a=none)->Heap.SameBut a s.heap h'->HOk X.prog X.w H h':=λ{a h'} ha hs b ob e=>by
  obtain⟨_,_,hfree⟩:=ha;refine(I.hok b ob e).stay (λc w' hc q=>(hs.2 c ?_).trans q) (λ_ q=>q) (λ_ _ q=>q) λ_ _ _ q=>q
  rintro rfl;rcases hc with rfl|hc
  ·rw[hfree] at e;cases e
  ·rw[hfree] at hc;cases hc
 rcases hx with hk|hk
 ·refine wpAny_storeName_local hk hn (λh' hn' hs=>?_) hcls;obtain⟨oL,_,_,hoL,_⟩:=id hn;refine h _ ⟨I.ok,I.os,I.bare,⟨λb o e n hb hx=>?_,λb o e n hb hx=>?_,I.base.free,λb o e hx=>?_,I.base.tups,I.base.frzs,I.base.tbls⟩,⟨_,hn',λj y v' e1 e2 e3=>?_⟩,λy c e=>?_,I.free,I.freeC,λp hp=>?_,tracked ⟨oL,hoL,I.free⟩ hs,by simpa using I.len⟩ ⟨_,hs,.inl rfl⟩
  ·exact(hs.2 b (be (bb (am e) I.ok.above))).trans (I.base.keep b o e n hb hx)
  ·obtain⟨sl,e1⟩:=I.base.slot b o e n hb hx;exact⟨sl,(hs.2 b (be (bb (am e) I.ok.above))).trans e1⟩
  ·obtain⟨o',e1⟩:=I.base.there b o e hx;exact⟨o',(hs.2 b (be (bb (am e) I.ok.above))).trans e1⟩
  ·by_cases hj:j=i
   ·subst hj;rw[hi] at e1;cases e1;rw[vh hiσ] at e2;cases e2;exact⟨u,r,.inl ⟨hk,by simp⟩⟩
   ·rw[ic (lr hj)] at e2;obtain⟨u',r',q⟩:=hl j y v' e1 e2 e3;refine⟨u',r',?_⟩;rcases q with⟨k,e⟩|⟨k,c,e,z⟩
    ·refine .inl ⟨k,?_⟩
     have:y≠x:=λe=>hj (ZL hN e1 (e ▸ hi))
     simp[this,e]
    ·exact .inr ⟨k,c,e,z.sameBut hs (cne y c e)⟩
  ·obtain⟨w',z⟩:=I.cell y c e;exact⟨w',z.sameBut hs (cne y c e)⟩
  ·obtain⟨e,n,ne,nf,d⟩:=I.pin p hp;exact⟨(hs.2 p.1 ne).trans e,n,ne,nf,d⟩
 ·have hfn:X.fn x=true:=by
   rcases hf with z|z
   ·exact z
   ·rw[z] at hk;cases hk
  obtain⟨c,hc⟩:=I.ok.has x (.inl hk);obtain⟨w',z⟩:=I.cell x c hc;refine wpAny_storeName_cell I.ok.kind hk hc z (λh' hc' hs=>?_);obtain⟨oc,hoc,hocd⟩:=id z;refine h { s with heap:=h' } ⟨I.ok,I.os,I.bare,⟨λb o e n hb hx=>?_,λb o e n hb hx=>?_,I.base.free,λb o e hx=>?_,I.base.tups,I.base.frzs,I.base.tbls⟩,⟨m,hn.sameBut hs (lr (cne x c hc)),λj y v' e1 e2 e3=>?_⟩,λy c' e=>?_,I.free,I.freeC,λp hp=>?_,tracked ⟨oc,hoc,I.freeC x c hc⟩ hs,by simpa using I.len⟩ ⟨c,hs,.inr hc⟩
  ·exact(hs.2 b (be (bb (am e) (I.ok.cab x c hfn hc)))).trans (I.base.keep b o e n hb hx)
  ·obtain⟨sl,e1⟩:=I.base.slot b o e n hb hx;exact⟨sl,(hs.2 b (be (bb (am e) (I.ok.cab x c hfn hc)))).trans e1⟩
  ·obtain⟨o',e1⟩:=I.base.there b o e hx;exact⟨o',(hs.2 b (be (bb (am e) (I.ok.cab x c hfn hc)))).trans e1⟩
  ·by_cases hj:j=i
   ·subst hj;rw[hi] at e1;cases e1;rw[vh hiσ] at e2;cases e2;exact⟨u,r,.inr ⟨.inl hk,c,hc,hc'⟩⟩
   ·rw[ic (lr hj)] at e2;obtain⟨u',r',q⟩:=hl j y v' e1 e2 e3;refine⟨u',r',?_⟩;rcases q with q|⟨k,c',e,z'⟩
    ·exact .inl q
    ·refine .inr ⟨k,c',e,z'.sameBut hs ?_⟩;rintro rfl;exact hj (ZL hN e1 (I.ok.inj _ _ _ e hc ▸ hi))
  ·by_cases hcc:c'=c
   ·subst hcc;exact⟨_,hc'⟩
   ·obtain⟨w2,z2⟩:=I.cell y c' e;exact⟨w2,z2.sameBut hs hcc⟩
  ·obtain⟨e,n,ne,nf,d⟩:=I.pin p hp;refine⟨(hs.2 p.1 ?_).trans e,n,ne,nf,d⟩;intro q;rw[q,hoc] at e;have q':oc=p.2:=bg e;exact d w' (by rw[<-q'];exact hocd)
theorem gZ(I:Inv X pZ σ H s)(hN:X.N.Nodup)(hi:X.N[i]?=some x)(hx:Loc X.env.scope x)(r:RelV v u)(h:∀s',Inv X pZ (σ.set i (some v)) H s'->Q () s')(hf:X.fn x=true\/X.env.scope.names.lookup x=some .local:=by first|exact .inl rfl|exact .inr rfl|assumption):wpAny M A (storeName X.env x u) Q E s:=
 mR I hN hi hx r (λs' I' _=>h s' I') hf
theorem Inv.call'{ch:List Addr}(I:Inv X pZ σ H s)(ho:s'.os=s.os)(u:Un (frs X.stack) ch H H' s.heap s'.heap)(hok:HOk X.prog X.w H' s'.heap)(hg:AllBare s'.gens)(hch:∀b∈ch,(b∈X.ex\/X.s₀.heap.objs.size<=b)/\b≠X.env.locals/\(∀x c,X.env.cells.lookup x=some c->c≠b)/\∀p∈X.pn++pZ,p.1≠b):Inv X pZ σ H' s':=by
 obtain⟨h',g',d',t',o'⟩:=s';have e:o'=s.os:=ho;subst e;exact I.call (g':=g') (t':=t') (d':=d') u hok hg hch
end
abbrev XK:=Value->Option Addr->Hp->Prop
noncomputable abbrev St:=List (Option V)
abbrev VK:=V->Hp->Prop
abbrev TE:=St->Hp->VK->Prop
abbrev TT:=St->Hp->(Bool->Hp->Prop)->Prop
abbrev TA:=St->Hp->(List V->Hp->Prop)->Prop
structure Ends where
 nx:St->Hp->Prop
 rt:VK
 bk:St->Hp->Prop:=λ_ _=>False
 ct:St->Hp->Prop:=λ_ _=>False
abbrev TS:=Ends->St->Hp->Prop
def EP(X:Cx)(pZ:List (Addr×Obj))(σ:St)(Q:VK)(u:Value)(s':Shared):Prop:=∃v H',Inv X pZ σ H' s'/\RelV v u/\Q v H'
def TP(X:Cx)(pZ:List (Addr×Obj))(σ:St)(Q:Bool->Hp->Prop)(b:Bool)(s':Shared):Prop:=∃H',Inv X pZ σ H' s'/\Q b H'
def AP(X:Cx)(pZ:List (Addr×Obj))(σ:St)(Q:List V->Hp->Prop)(us:List Value)(s':Shared):Prop:=∃vs H',Inv X pZ σ H' s'/\Vals vs us/\Q vs H'
def SP(X:Cx)(pZ:List (Addr×Obj))(D:Ends)(f:Flow)(s':Shared):Prop:=
 match f with
 |.next=>∃σ' H',Inv X pZ σ' H' s'/\D.nx σ' H'
 |.brk=>∃σ' H',Inv X pZ σ' H' s'/\D.bk σ' H'
 |.cont=>∃σ' H',Inv X pZ σ' H' s'/\D.ct σ' H'
 |.ret u=>∃v σ' H',Inv X pZ σ' H' s'/\RelV v u/\D.rt v H'
def PE(X:Cx)(e:Expr)(t:TE):Prop:=
 ∀(pZ:List (Addr×Obj)) (s:Shared) (σ:St) (H:Hp) (Q:VK),Inv X pZ σ H s->t σ H Q->wpAny (model X.prog X.w) X.A (eval e X.env) (EP X pZ σ Q) X.xe s
def PT(X:Cx)(e:Expr)(t:TT):Prop:=
 ∀(pZ:List (Addr×Obj)) (s:Shared) (σ:St) (H:Hp) (Q:Bool->Hp->Prop),Inv X pZ σ H s->t σ H Q->wpAny (model X.prog X.w) X.A (isTrue e X.env (eval e X.env)) (TP X pZ σ Q) X.xe s
def PW(X:Cx)(e:Expr)(t:TT):Prop:=
 ∀(whole:Sem Value) (pZ:List (Addr×Obj)) (s:Shared) (σ:St) (H:Hp) (Q:Bool->Hp->Prop),Inv X pZ σ H s->t σ H Q->wpAny (model X.prog X.w) X.A (isTrue e X.env whole) (TP X pZ σ Q) X.xe s
theorem PW.pt(h:PW X e t):PT X e t:=h _
def PA(X:Cx)(es:List Expr)(t:TA):Prop:=
 ∀(pos:Pos) (pZ:List (Addr×Obj)) (s:Shared) (σ:St) (H:Hp) (Q:List V->Hp->Prop),Inv X pZ σ H s->t σ H Q->wpAny (model X.prog X.w) X.A (spliced (dl pos (ae es X.env))) (AP X pZ σ Q) X.xe s
def PS(X:Cx)(st:Stmt)(t:TS):Prop:=
 ∀(pZ:List (Addr×Obj)) (s:Shared) (σ:St) (H:Hp) (D:Ends),Inv X pZ σ H s->t D σ H->wpAny (model X.prog X.w) X.A (exec st X.env) (SP X pZ D) X.xe s
def PSs(X:Cx)(st:List Stmt)(t:TS):Prop:=
 ∀(pZ:List (Addr×Obj)) (s:Shared) (σ:St) (H:Hp) (D:Ends),Inv X pZ σ H s->t D σ H->wpAny (model X.prog X.w) X.A (execs st X.env) (SP X pZ D) X.xe s
theorem thn(h:wpAny M A t Q E s)(hQ:∀a s,Q a s->Q' a s):wpAny M A t Q' E s:=gx h hQ λ_ _ x=>x
end L2
namespace L2
open PySem PySem.Spec PyProof.Rows
section
noncomputable def kN(i:Nat):TE:=λσ H Q=>∃v,σ[i]?=some (some v)/\Q v H
noncomputable def tC(v:V):TE:=λ_ H Q=>Q v H
theorem zKN(hN:X.N[i]?=some x)(hv:Vis X.env.scope x)(hd:(x == ("__debug__" : Str))=false:=by decide)(hcd:(x == ("__classdict__" : Str))=false:=by decide):PE X (.Name x pos) (kN i):=by
 intro pZ s σ H Q I h;obtain⟨v,e,h⟩:=h;obtain⟨m,hn,hl⟩:=I.loc;obtain⟨u,r,l⟩:=hl i x v hN e hv;have fin:EP X pZ σ Q u s:=⟨v,H,I,r,h⟩;rcases l with⟨hk,hm⟩|⟨hk,c,hc,hcell⟩
 ·exact wpAny_Name (vz I.ok.kind hk hn hm fin) hd
 ·rcases hk with hk|hk
  ·exact wpAny_Name (wq I.ok.kind hk hc hcell fin) hd
  ·exact wpAny_Name (wpAny_loadName_free I.ok.kind hk hc hcell fin hcd) hd
theorem pX{i j pos}:PE X (.Constant (.int i) j pos) (tC (.int i)):=λ_ _ _ H _ I h=>wpAny_Constant_int ⟨.int i,H,I.tok _,⟨_,rfl⟩,h⟩
theorem zOH{b j pos}:PE X (.Constant (.bool b) j pos) (tC (.bl b)):=λ_ _ _ H _ I h=>Constant_bool ⟨.bl b,H,I,rfl,h⟩
theorem zFU{j pos}:PE X (.Constant .none j pos) (tC .non):=λ_ _ _ H _ I h=>Constant_none ⟨.non,H,I,rfl,h⟩
theorem zKO{x j pos}:PE X (.Constant (.str x) j pos) (tC (.str x)):=λ_ _ _ H _ I h=>Calls.Constant_str ⟨.str x,H,I.tok _,⟨_,rfl⟩,h⟩
def Gl(X:Cx)(x:Str):Prop:=X.env.kindOf x=some .globalImplicit
theorem nU(I:Inv X pZ σ H s)(hg:Gl X x)(hm:X.mg x=some u)(h:Q u s)(hd:(x == ("__debug__" : Str))=false:=by decide):wpAny (model X.prog X.w) X.A (eval (.Name x pos) X.env) Q E s:=
 tx I.ok.kind hg (Calls.loadGlobal_global (by rw[I.ok.glob];exact I.mod.glob.keeps I.bk) hm h) hd
theorem uD(I:Inv X pZ σ H s)(hg:Gl X x)(hm:X.mg x=none)(hv:bootBuiltins x=some u)(h:Q u s)(hn:x ≠ "__name__" := by decide)(hd:(x == ("__debug__" : Str))=false:=by decide):wpAny (model X.prog X.w) X.A (eval (.Name x pos) X.env) Q E s:=by
 obtain⟨mb,h1,h2⟩:=I.mod.blt;exact tx I.ok.kind hg (Calls.loadGlobal_builtin (by rw[I.ok.glob];exact I.mod.glob.keeps I.bk) hm (by rw[I.ok.blt];exact h1.keeps I.bk) ((h2 x hn).trans hv) h) hd
theorem Q6(hg:Gl X x)(hm:X.mg x=some u)(r:RelV v u)(hd:(x == ("__debug__" : Str))=false:=by decide):PE X (.Name x pos) (tC v):=
 λ_ _ _ H _ I h=>nU I hg hm ⟨v,H,I,r,h⟩ hd
theorem qC(hg:Gl X x)(hm:X.mg x=none)(hv:bootBuiltins x=some u)(r:RelV v u)(hn:x ≠ "__name__" := by decide)(hd:(x == ("__debug__" : Str))=false:=by decide):PE X (.Name x pos) (tC v):=
 λ_ _ _ H _ I h=>uD I hg hm hv ⟨v,H,I,r,h⟩ hn hd
def PC(X:Cx)(op:CmpOp)(a b:Expr)(t:TE):Prop:=
 ∀(pZ:List (Addr×Obj)) (s:Shared) (σ:St) (H:Hp) (Q:VK),Inv X pZ σ H s->t σ H Q ->
  wpAny (model X.prog X.w) X.A (eval a X.env) (λv s₁=>wpAny (model X.prog X.w) X.A (eval b X.env) (λu s₂=>wpAny (model X.prog X.w) X.A (et op v u) (EP X pZ σ Q) X.xe s₂) X.xe s₁) X.xe s
theorem ZM(b:Expr)(h:op≠.In)(h2:op≠.NotIn):dh op b=false:=by
 have e1:(op == CmpOp.In)=false:=by cases op<;>first|rfl|exact absurd rfl h
 have e2:(op == CmpOp.NotIn)=false:=by cases op<;>first|rfl|exact absurd rfl h2
 cases b<;>simp[dh,e1,e2]
noncomputable def zQ5(ta:TE):TE:=λσ H Q=>ta σ H λx H1=>Q (.bl (decide (x=.non))) H1
theorem RelV.none_iff(r:RelV x v):(v == Value.none)=decide (x=.non):=by
 cases x with
 |non=>cases r;rfl
 |bl _=>cases r;rfl
 |int _=>obtain⟨t,rfl⟩:=r;rfl
 |str _=>obtain⟨t,rfl⟩:=r;rfl
 |byt _=>obtain⟨t,rfl⟩:=r;rfl
 |flt _=>obtain⟨t,rfl⟩:=r;rfl
 |ref _=>cases r;rfl
 |ty _=>cases r;rfl
theorem zKS{j pos'}(ha:PE X a ta):PC X .Is a (.Constant .none j pos') (zQ5 ta):=by
 intro pZ s σ H Q I h;refine thn (ha pZ s σ H _ I h) λv s1 ⟨x,H1,I1,r1,q1⟩=>?_
 exact Constant_none (is_none_gen ⟨.bl _,H1,I1,by rw[r1.none_iff];rfl,q1⟩)
noncomputable def tB(t:TE):TT:=λσ H Q=>t σ H λx H1=>∃c,x=.bl c/\Q c H1
theorem zFZ(h:PC X op a b t)(h1:dh op b=false:=by first|exact ZM _ (by decide) (by decide)|rfl):PE X (.Compare a [op] [b] pos) t:=λpZ s σ H Q I hw=>wpAny_Compare1 (h pZ s σ H Q I hw) h1
theorem zFD(h:PC X op a b t)(h1:dh op b=false:=by first|exact ZM _ (by decide) (by decide)|rfl):PT X (.Compare a [op] [b] pos) (tB t):=by
 intro pZ s σ H Q I hw;refine vm (thn (h pZ s σ H _ I hw) λv s1 h1=>thn h1 λu s2 h2=>thn h2 λc s3 ⟨x,H1,I1,r1,q1⟩=>?_) h1;obtain⟨d,rfl,q⟩:=q1;cases r1;exact jt ⟨H1,I1,q⟩
theorem zKI(h:PE X e t)(he:∀whole,isTrue e X.env whole=(do let v <- whole;standAt e.pos;holding [v] (truthy v)):=by intro _;rfl):PT X e (tB t):=by
 intro pZ s σ H Q I hw;refine isTrue_plain (thn (h pZ s σ H _ I hw) λv s1 ⟨x,H1,I1,r1,q1⟩=>?_) (he _);obtain⟨d,rfl,q⟩:=q1;cases r1;exact jt ⟨H1,I1,q⟩
variable{rest:List Expr}
noncomputable def zQ9(t u:TT):TT:=λσ H Q=>t σ H λc H1=>if c=true then u σ H1 Q else Q false H1
noncomputable def tOr(t u:TT):TT:=λσ H Q=>t σ H λc H1=>if c=true then Q true H1 else u σ H1 Q
noncomputable def zQ4(t:TT):TT:=λσ H Q=>t σ H λc H1=>Q (!c) H1
theorem Q2(ha:PT X a tA):PW X (.BoolOp .And [a] pos) tA:=by
 intro wh pZ s σ H Q I h;refine isTrue_and (thn (ha pZ s σ H Q I h) λc s1 e=>?_);cases c with
 |true=>exact isTrue_and_nil e
 |false=>exact e
theorem zKG(ha:PT X a tA):PW X (.BoolOp .Or [a] pos) tA:=by
 intro wh pZ s σ H Q I h;refine isTrue_or (thn (ha pZ s σ H Q I h) λc s1 e=>?_);cases c with
 |false=>exact isTrue_or_nil e
 |true=>exact e
theorem zFA(ha:PT X a tA)(hb:PW X (.BoolOp .And (b::rest) pos) tB'):PW X (.BoolOp .And (a::b::rest) pos) (zQ9 tA tB'):=by
 intro wh pZ s σ H Q I h;refine isTrue_and (thn (ha pZ s σ H _ I h) λc s1 ⟨H1,I1,q1⟩=>?_);cases c with
 |true=>exact hb wh pZ s1 σ H1 Q I1 q1
 |false=>exact⟨H1,I1,q1⟩
theorem zOD(ha:PT X a tA)(hb:PW X (.BoolOp .Or (b::rest) pos) tB'):PW X (.BoolOp .Or (a::b::rest) pos) (tOr tA tB'):=by
 intro wh pZ s σ H Q I h;refine isTrue_or (thn (ha pZ s σ H _ I h) λc s1 ⟨H1,I1,q1⟩=>?_);cases c with
 |true=>exact⟨H1,I1,q1⟩
 |false=>exact hb wh pZ s1 σ H1 Q I1 q1
theorem zKJ(ha:PT X a tA):PT X (.UnaryOp .Not a pos) (zQ4 tA):=by
 intro pZ s σ H Q I h;exact isTrue_not (ha pZ s σ H (λc H1=>Q (!c) H1) I h)
noncomputable def zN5(ta tb:TE):TE:=λσ H Q=>ta σ H λx H1=>∃c,x=.bl c/\if c=true then tb σ H1 Q else Q (.bl false) H1
noncomputable def zN1(ta:TE):TE:=λσ H Q=>ta σ H λx H1=>∃c,x=.bl c/\Q (.bl (!c)) H1
theorem zKP{op}(h:PE X a t):PE X (.BoolOp op [a] pos) t:=λpZ s σ H Q I hw=>BoolOp_one (h pZ s σ H Q I hw)
theorem zKR(ha:PE X a ta)(hb:PE X (.BoolOp .And (b::rest) pos) tb):PE X (.BoolOp .And (a::b::rest) pos) (zN5 ta tb):=by
 intro pZ s σ H Q I h;refine BoolOp_and (thn (ha pZ s σ H _ I h) λv s1 ⟨x,H1,I1,r1,q1⟩=>?_);obtain⟨c,rfl,q1⟩:=q1;cases r1;refine jt ?_;cases c with
 |true=>exact hb pZ s1 σ H1 Q I1 q1
 |false=>exact⟨.bl false,H1,I1,rfl,q1⟩
theorem zKQ(ha:PE X a ta):PE X (.UnaryOp .Not a pos) (zN1 ta):=by
 intro pZ s σ H Q I h;refine UnaryOp_ (thn (ha pZ s σ H _ I h) λv s1 ⟨x,H1,I1,r1,q1⟩=>?_);obtain⟨c,rfl,q1⟩:=q1;cases r1;exact not_of (jt ⟨.bl (!c),H1,I1,rfl,q1⟩)
noncomputable def tIf(t:TT)(ta tb:TE):TE:=λσ H Q=>t σ H λc H1=>if c=true then ta σ H1 Q else tb σ H1 Q
theorem zBI(hc:PT X c tA)(ha:PE X a ta)(hb:PE X b tb):PE X (.IfExp c a b pos) (tIf tA ta tb):=by
 intro pZ s σ H Q I h;refine wpAny_IfExp (thn (hc pZ s σ H _ I h) λd s1 ⟨H1,I1,q1⟩=>?_);cases d with
 |true=>exact ha pZ s1 σ H1 Q I1 q1
 |false=>exact hb pZ s1 σ H1 Q I1 q1
end
end L2
namespace L2
open PySem PySem.Spec PyProof.Rows
def SqL(K:Fg)(H:Hp)(a:Addr)(xs:List V):Prop:=
 Rd H a (.lst xs) \/
  ∃(o:Obj) (its:Array Value) (n:Nat),K.lookup a=some o/\o.cls=.type "list" /\ o.dict=none/\o.data=.seq its n/\its.size<=af/\Vals xs its.toList
def SqT(K:Fg)(H:Hp)(a:Addr)(xs:List V):Prop:=
 Rd H a (.tup xs) \/
  ∃(o:Obj) (its:Array Value) (n:Nat),K.lookup a=some o/\o.cls=.type "tuple" /\ o.data=.seq its n/\its.size<=af/\Vals xs its.toList
noncomputable def zRM:Value->Option V
 |.none=>some .non
 |.bool b=>some (.bl b)
 |.int i _=>some (.int i)
 |.str x _=>some (.str x)
 |.bytes b _=>some (.byt b)
 |.float b _=>some (.flt b)
 |.ref a=>some (.ref a)
 |.type n=>some (.ty n)
 |_=>none
theorem RelV.abs(r:RelV x u):zRM u=some x:=by
 cases x with
 |non=>cases r;rfl
 |bl _=>cases r;rfl
 |int _=>obtain⟨t,rfl⟩:=r;rfl
 |str _=>obtain⟨t,rfl⟩:=r;rfl
 |byt _=>obtain⟨t,rfl⟩:=r;rfl
 |flt _=>obtain⟨t,rfl⟩:=r;rfl
 |ref _=>cases r;rfl
 |ty _=>cases r;rfl
theorem RelV.inj(r:RelV x u)(q:RelV y u):x=y:=bg (r.abs.symm.trans q.abs)
theorem Vals.inj:∀{xs ys:List V} {us:List Value},Vals xs us->Vals ys us->xs=ys
 |_,_,_,.nil,.nil=>rfl
 |_,_,_,.cons r t,.cons r' t'=>by rw[r.inj r',Vals.inj t t']
theorem SqL.of{K:Fg}(h:H a=some (.lst xs)):SqL K H a xs:=.inl (.inl h)
theorem SqT.of{K:Fg}(h:H a=some (.tup xs)):SqT K H a xs:=.inl (.inl h)
theorem Inv.list(I:Inv X pZ σ H s)(h:SqL X.K H a xs):∃its:List Value,Vals xs its/\PlainL s.heap a its.toArray/\xs.length<=af:=by
 rcases h with h|⟨o,its,n,hk,hc,hd,hs,hz,r⟩
 ·obtain⟨z,its,n,r,e⟩:=h.ok I.hok;exact⟨its,r,⟨_,n,e,rfl,rfl,rfl⟩,z⟩
 ·refine⟨its.toList,r,⟨o,n,I.kIn a o hk,hc,hd,by simpa using hs⟩,?_⟩;have e:=r.length;simp only[jx] at e;omega
theorem Inv.tuple(I:Inv X pZ σ H s)(h:SqT X.K H a xs):∃its:List Value,Vals xs its/\IsTup s.heap a its.toArray/\xs.length<=af:=by
 rcases h with h|⟨o,its,n,hk,hc,hs,hz,r⟩
 ·obtain⟨z,its,r,p⟩:=h.ok I.hok;exact⟨its,r,p,z⟩
 ·refine⟨its.toList,r,⟨o,I.kIn a o hk,hc,n,by simpa using hs⟩,?_⟩;have e:=r.length;simp only[jx] at e;omega
theorem Inv.list_inj(I:Inv X pZ σ H s)(h:SqL X.K H a xs)(h':SqL X.K H a ys):xs=ys:=by
 obtain⟨its,r,⟨o,n,e,_,_,d⟩,_⟩:=I.list h;obtain⟨its',r',⟨o',n',e',_,_,d'⟩,_⟩:=I.list h';rw[e] at e';cases e';rw[d] at d'
 injection d' with d1 _
 have:its=its':=by simpa using congrArg Array.toList d1
 subst this;exact r.inj r'
theorem Inv.tuple_inj(I:Inv X pZ σ H s)(h:SqT X.K H a xs)(h':SqT X.K H a ys):xs=ys:=by
 obtain⟨its,r,⟨o,e,_,n,d⟩,_⟩:=I.tuple h;obtain⟨its',r',⟨o',e',_,n',d'⟩,_⟩:=I.tuple h';rw[e] at e';cases e';rw[d] at d'
 injection d' with d1 _
 have:its=its':=by simpa using congrArg Array.toList d1
 subst this;exact r.inj r'
noncomputable abbrev Cx.wish(X:Cx)(E:Value->Shared->Prop):Cx:={ X with xe:=E }
noncomputable abbrev Cx.nox(X:Cx):Cx:=X.wish λ_ _=>False
theorem Cx.Ok.wish{X:Cx}(ok:X.Ok)(E:Value->Shared->Prop):(X.wish E).Ok:=
 ⟨ok.mod,ok.kind,ok.glob,ok.blt,ok.above,ok.inj,ok.has,ok.cab,ok.hd,ok.frames,ok.stk,ok.exf,ok.bs,ok.bsz,ok.noex,ok.exfs,ok.funs,ok.frf⟩
theorem Cx.Ok.unwish{X:Cx}{E:Value->Shared->Prop}(ok:(X.wish E).Ok):X.Ok:=
 ⟨ok.mod,ok.kind,ok.glob,ok.blt,ok.above,ok.inj,ok.has,ok.cab,ok.hd,ok.frames,ok.stk,ok.exf,ok.bs,ok.bsz,ok.noex,ok.exfs,ok.funs,ok.frf⟩
theorem Inv.wish(I:Inv X pZ σ H s)(E:Value->Shared->Prop):Inv (X.wish E) pZ σ H s:=⟨I.ok.wish E,I.os,I.bare,I.base,I.loc,I.cell,I.free,I.freeC,I.pin,I.hok,I.len⟩
theorem Inv.unwish(I:Inv (X.wish E) pZ σ H s):Inv X pZ σ H s:=⟨I.ok.unwish,I.os,I.bare,I.base,I.loc,I.cell,I.free,I.freeC,I.pin,I.hok,I.len⟩
theorem SP.unwish{D:Ends}(h:SP (X.wish E) pZ D f s'):SP X pZ D f s':=by
 cases f with
 |next=>obtain⟨σ',H',I,q⟩:=h;exact⟨σ',H',I.unwish,q⟩
 |brk=>obtain⟨σ',H',I,q⟩:=h;exact⟨σ',H',I.unwish,q⟩
 |cont=>obtain⟨σ',H',I,q⟩:=h;exact⟨σ',H',I.unwish,q⟩
 |ret u=>obtain⟨v,σ',H',I,r,q⟩:=h;exact⟨v,σ',H',I.unwish,r,q⟩
theorem PSs.nox{st:List Stmt}(h:PSs X.nox st t):PSs X st t:=λpZ s σ H D I hw=>
 gx (h pZ s σ H D (I.wish _) hw) (λ_ _ q=>q.unwish) λ_ _ z=>False.elim z
section
variable{st:Stmt}{rest:List Stmt}
noncomputable def zN2:TS:=λD σ H=>D.nx σ H
noncomputable def zMC(t u:TS):TS:=λD σ H=>t { D with nx:=u D } σ H
theorem Q4:PSs X [] zN2:=λ_ _ σ H _ I h=>qe ⟨σ,H,I,h⟩
theorem jE(h1:PS X st t)(h2:PSs X rest u):PSs X (st::rest) (zMC t u):=by
 intro pZ s σ H D I h;refine wpAny_execs_cons (thn (h1 pZ s σ H { D with nx:=u D } I h) λf s1 q=>?_);cases f with
 |next=>
  obtain⟨σ',H',I',q⟩:=q;exact h2 pZ s1 σ' H' D I' q
 |ret v=>exact q
 |brk=>exact q
 |cont=>exact q
theorem m9(h1:PS X st t):PSs X [st] t:=by
 intro pZ s σ H D I h;refine wpAny_execs_cons (thn (h1 pZ s σ H D I h) λf s1 q=>?_);cases f with
 |next=>exact qe q
 |ret v=>exact q
 |brk=>exact q
 |cont=>exact q
theorem Inv.quiet(I:Inv X pZ σ H s):interactive X.env=false:=by simp[interactive,I.ok.kind]
noncomputable def zME(te:TE):TS:=λD σ H=>te σ H λ_ H1=>D.nx σ H1
theorem ZB(he:PE X e te)(hs:gy e none pos.line X.env=pure false:=by rfl):PS X (.Expr e pos) (zME te):=by
 intro pZ s σ H D I h;exact wpAny_Expr_any (thn (he pZ s σ H _ I h) λv s1 ⟨x,H1,I1,r1,q1⟩=>⟨σ,H1,I1,q1⟩) I.quiet hs
noncomputable def zQ3(te:TE):TS:=λD σ H=>te σ H D.rt
theorem XR(he:PE X e te):PS X (.Return (some e) pos) (zQ3 te):=by
 intro pZ s σ H D I h;exact wpAny_Return_some (thn (he pZ s σ H _ I h) λv s1 ⟨x,H1,I1,r1,q1⟩=>⟨x,σ,H1,I1,r1,q1⟩)
noncomputable def zQ6(c:TT)(t u:TS):TS:=λD σ H=>c σ H λb H1=>if b=true then t D σ H1 else u D σ H1
theorem zMM(hc:PT X c tc)(ha:PSs X a t)(hb:PSs X b u):PS X (.If c a b pos) (zQ6 tc t u):=by
 intro pZ s σ H D I h;refine wpAny_If (thn (hc pZ s σ H _ I h) λd s1 ⟨H1,I1,q1⟩=>?_);cases d with
 |true=>exact ha pZ s1 σ H1 D I1 q1
 |false=>exact hb pZ s1 σ H1 D I1 q1
end
abbrev TG:=V->St->Hp->(St->Hp->Prop)->Prop
abbrev TGs:=List V->St->Hp->(St->Hp->Prop)->Prop
def PG(X:Cx)(target:Expr)(t:TG):Prop:=
 ∀(pZ:List (Addr×Obj)) (s:Shared) (σ:St) (H:Hp) (v:V) (u:Value) (Q:St->Hp->Prop),Inv X pZ σ H s->RelV v u->t v σ H Q ->
  wpAny (model X.prog X.w) X.A (assign target X.env u) (λ_ s'=>∃σ' H',Inv X pZ σ' H' s'/\Q σ' H') X.xe s
def PGs(X:Cx)(ts:List Expr)(t:TGs):Prop:=
 ∀(pZ:List (Addr×Obj)) (s:Shared) (σ:St) (H:Hp) (vs:List V) (us:List Value) (Q:St->Hp->Prop),Inv X pZ σ H s->Vals vs us->t vs σ H Q ->
  wpAny (model X.prog X.w) X.A (assignInOrder ((ib ts X.env).map (·.2)) us) (λ_ s'=>∃σ' H',Inv X pZ σ' H' s'/\Q σ' H') X.xe s
abbrev TIp:=V->V->Hp->VK->Prop
def PIp(X:Cx)(op:Operator)(t:TIp):Prop:=
 ∀(pZ:List (Addr×Obj)) (s:Shared) (σ:St) (H:Hp) (x y:V) (v u:Value) (Q:VK),Inv X pZ σ H s->RelV x v->RelV y u->t x y H Q ->
  wpAny (model X.prog X.w) X.A (inplaceOp op v u) (EP X pZ σ Q) X.xe s
noncomputable def WY(i:Nat):TG:=λv σ H Q=>Q (σ.set i (some v)) H
theorem ZG(hN:X.N.Nodup)(hi:X.N[i]?=some x)(hx:Loc X.env.scope x)(hf:X.fn x=true\/X.env.scope.names.lookup x=some .local:=by first|exact .inl rfl|exact .inr rfl|assumption):PG X (.Name x pos) (WY i):=by
 intro pZ s σ H v u Q I r h;exact wpAny_assign_Name (gZ I hN hi hx r (λs' I'=>⟨_,H,I',h⟩) hf)
noncomputable def zRH:TGs:=λvs σ H Q=>vs=[]/\Q σ H
noncomputable def zOX(t:TG)(u:TGs):TGs:=λvs σ H Q=>∃v r,vs=v::r/\t v σ H λσ' H'=>u r σ' H' Q
theorem zFR:PGs X [] zRH:=by
 intro pZ s σ H vs us Q I r h;obtain⟨e,h⟩:=h;subst e;cases r;exact assignInOrder_nil ⟨σ,H,I,h⟩
theorem zBE(h1:PG X e t)(h2:PGs X es u)(hs:(ib (e::es) X.env).map (·.2)=assign e X.env::(ib es X.env).map (·.2):=by rfl):PGs X (e::es) (zOX t u):=by
 intro pZ s σ H vs us Q I r h;obtain⟨v,vr,e1,h⟩:=h;subst e1;cases r with
 |cons r rr=>
  rw[hs];refine assignInOrder_cons (thn (h1 pZ s σ H _ _ _ I r h) λ_ s1 ⟨σ1,H1,I1,q1⟩=>?_);exact h2 pZ s1 σ1 H1 _ _ Q I1 rr q1
noncomputable def zRG(K:Fg)(n:Nat)(t:TGs):TG:=λv σ H Q=>∃a xs,v=.ref a/\SqT K H a xs/\xs.length=n/\t xs σ H Q
theorem zKL(hc:X.calm=true)(h:PGs X es t)(hn:(ib es X.env).length=n:=by rfl)(hst:(ib es X.env).findIdx? (·.1)=none:=by rfl):PG X (.Tuple es k pos) (zRG X.K n t):=by
 intro pZ s σ H v u Q I r hw;obtain⟨a,xs,e1,hq,hl,hw⟩:=hw;subst e1;cases r;obtain⟨its,rv,ht,hz⟩:=I.tuple hq;refine assign_Tuple_tuple (I.ok.hd hc) ht (by simp[hn,<-hl,rv.length]) hst λh' hx=>?_
 have I1:Inv X pZ σ H { s with heap:=h' }:=I.kept (t':=s.toks) λb o e=>hx b o (be (am e)) e
 exact h pZ _ σ H xs _ Q I1 (by simpa using rv) hw
noncomputable def zPM(te:TE)(g:TG):TS:=λD σ H=>te σ H λx H1=>g x σ H1 D.nx
theorem zFG(he:PE X e te)(hg:PG X tg g)(hs:swapsWithSole [tg] e pos.line X.env=pure false:=by rfl)(hw:swappedStores [tg] e X.env=pure none:=by rfl)(h1:(ib [tg] X.env).map (·.2)=[assign tg X.env]:=by rfl):PS X (.Assign [tg] e pos) (zPM te g):=by
 intro pZ s σ H D I h;refine wpAny_Assign_stores (thn (he pZ s σ H _ I h) λv s1 ⟨x,H1,I1,r1,q1⟩=>?_) hs hw;rw[h1];exact thn (hg pZ s1 σ H1 x v _ I1 r1 q1) λ_ s2 q=>q
theorem nA(hN:X.N.Nodup)(hi:X.N[i]?=some x)(hx:Loc X.env.scope x)(he:PE X e te)(hs:gy e (some (.Name x pos')) pos.line X.env=pure false:=by rfl)(hf:X.fn x=true\/X.env.scope.names.lookup x=some .local:=by first|exact .inl rfl|exact .inr rfl|assumption):PS X (.Assign [.Name x pos'] e pos) (zPM te (WY i)):=by
 intro pZ s σ H D I h;refine wpAny_Assign_Name (thn (he pZ s σ H _ I h) λv s1 ⟨y,H1,I1,r1,q1⟩=>?_) hs;exact gZ I1 hN hi hx r1 (λs2 I2=>⟨_,H1,I2,q1⟩) hf
noncomputable def zQ8(i:Nat)(te:TE)(ti:TIp):TS:=λD σ H=>∃x,σ[i]?=some (some x)/\te σ H λy H1=>ti x y H1 λz H2=>D.nx (σ.set i (some z)) H2
theorem zKK(hN:X.N.Nodup)(hi:X.N[i]?=some x)(hx:Loc X.env.scope x)(he:PE X e te)(ho:PIp X op ti)(hf:X.fn x=true\/X.env.scope.names.lookup x=some .local:=by first|exact .inl rfl|exact .inr rfl|assumption):PS X (.AugAssign (.Name x pos') op e pos) (zQ8 i te ti):=by
 intro pZ s σ H D I h;obtain⟨v,e1,h⟩:=h;obtain⟨m,hn,hl⟩:=I.loc;have vis:Vis X.env.scope x:=by rcases hx with k|k;exact .inl k;exact .inr (.inl k)
 obtain⟨u,r,l⟩:=hl i x v hi e1 vis;refine wpAny_AugAssign_Name ?_;have go:wpAny (model X.prog X.w) X.A (eval e X.env) (λw s₂=>wpAny (model X.prog X.w) X.A (inplaceOp op u w) (λr s₃=>wpAny (model X.prog X.w) X.A (storeName X.env x r) (λ_=>SP X pZ D .next) X.xe s₃) X.xe s₂) X.xe s:=by
  refine thn (he pZ s σ H _ I h) λw s1 ⟨y,H1,I1,r1,q1⟩=>?_
  refine thn (ho pZ s1 σ H1 v y u w _ I1 r r1 q1) λz s2 ⟨zv,H2,I2,r2,q2⟩=>?_
  exact gZ I2 hN hi hx r2 (λs3 I3=>⟨_,H2,I3,q2⟩) hf
 rcases l with⟨hk,hm⟩|⟨hk,c,hc,hcell⟩
 ·exact vz I.ok.kind hk hn hm go
 ·rcases hk with hk|hk
  ·exact wq I.ok.kind hk hc hcell go
  ·rcases hx with k|k
   ·have:X.env.scope.names.lookup x=some .free:=hk
    rw[k] at this;cases this
   ·have:X.env.scope.names.lookup x=some .free:=hk
    rw[k] at this;cases this
noncomputable def ipI(f:Int->Int->Int):TIp:=λx y H Q=>∃i j,x=.int i/\y=.int j/\Q (.int (f i j)) H
theorem zLN:PIp X .Add (ipI λi j=>i+j):=by
 intro pZ s σ H x y v u Q I r1 r2 h;obtain⟨i,j,e1,e2,q⟩:=h;subst e1;subst e2;obtain⟨t,rfl⟩:=r1;obtain⟨t',rfl⟩:=r2;exact iadd_int ⟨.int _,H,I.tok _,⟨_,rfl⟩,q⟩
noncomputable def zJ1(c:TT)(tb:TS):TS:=λD σ H=>∃W:Nat->St->Hp->Prop,(∃m,W m σ H)/\∀m σ H,W m σ H ->
 c σ H λb H1=>if b=true then ∃N:St->Hp->Prop,(∀σ' H',N σ' H'->∃m',m'<m/\W m' σ' H')/\tb { D with nx:=N,ct:=N,bk:=D.nx } σ H1 else D.nx σ H1
theorem tY(hp:PassesOwn (model X.prog X.w) X.A X.env X.xe)(hc:PT X c tc)(hb:PSs X body tb):PS X (.While c body [] pos) (zJ1 tc tb):=by
 intro pZ s σ H D I h;obtain⟨W,⟨m0,w0⟩,turn⟩:=h;refine wpAny_While (codeAny_whileLoop (λn s'=>∃σ' H',Inv X pZ σ' H' s'/\W n σ' H') ?_ m0 ⟨σ,H,I,w0⟩);rintro n s1 ⟨σ1,H1,I1,w1⟩;refine jl hp (thn (hc pZ s1 σ1 H1 _ I1 (turn n σ1 H1 w1)) λb s2 ⟨H2,I2,q2⟩=>?_);cases b with
 |true=>
  obtain⟨N,hN,q2⟩:=q2;rw[if_pos rfl];refine jl hp (thn (hb pZ s2 σ1 H2 _ I2 q2) λf s3 q3=>?_);cases f with
  |next=>
   obtain⟨σ3,H3,I3,n3⟩:=q3;obtain⟨m',hm,w3⟩:=hN σ3 H3 n3;exact⟨m',hm,σ3,H3,I3,w3⟩
  |cont=>
   obtain⟨σ3,H3,I3,n3⟩:=q3;obtain⟨m',hm,w3⟩:=hN σ3 H3 n3;exact⟨m',hm,σ3,H3,I3,w3⟩
  |brk=>exact q3
  |ret v=>exact q3
 |false=>
  rw[if_neg av];exact qe ⟨σ1,H2,I2,q2⟩
structure It where
 go:Nat->Hp->Prop
 yld:Nat->Hp->V->Hp->Prop
 stop:Nat->Hp->Prop
def o8(X:Cx)(pZ:List (Addr×Obj))(H:Hp)(b:Addr):Prop:=
 H b=none/\b≠X.env.locals/\b∉X.fs/\(b∈X.ex\/X.s₀.heap.objs.size<=b)/\(∀x c,X.env.cells.lookup x=some c->c≠b)/\∀p∈X.pn++pZ,p.1≠b
theorem Inv.fpOk(I:Inv X pZ σ H s)(hb:s.heap.objs.size<=b)(hn:H' b=none):o8 X pZ H' b:=by
 refine⟨hn,ge (bb I.lt hb),I.nofs hb,.inr (bq I.sz hb),λx c e z=>?_,λp hp z=>?_⟩
 ·obtain⟨v,q⟩:=I.cell x c e;exact absurd (bb q.lt (by rw[z];exact hb)) (io _)
 ·exact absurd (bb (am (I.pin p hp).1) (by rw[z];exact hb)) (io _)
structure Turn(P:Program)(w:World)(K:Fg)(tg:Expr)(J:It)(fp:List Addr)(it:Addr)(tn:Nat->Heap->Prop):Prop where
 mem:it∈fp
 obj:∀i h,tn i h->∀b∈fp,∃o,h.get? b=some o/\∀v,o.data≠.cell v
 keep:∀i h h',tn i h->(∀b∈fp,∀o,h.get? b=some o->h'.get? b=some o)->tn i h'
 item:∀(X:Cx),X.prog=P->X.w=w->X.K=K->X.calm=true->∀(i:Nat) (pZ:List (Addr×Obj)) (s:Shared) (σ:St) (H:Hp) (E:Value->Shared->Prop),Inv X pZ σ H s->(∀b∈fp,o8 X pZ H b)->tn i s.heap->J.go i H ->
  wpAny (model P w) X.A (pyNext (.ref it)) (λr s1=>∃u,r=some u /\
   wpAny (model P w) X.A (letOwnedTupleGo tg (.ref it) u) (λ_ s2=>∃x H',Inv X pZ σ H' s2/\RelV x u/\J.yld i H x H'/\tn (i+1) s2.heap/\∀b∈fp,H' b=none) E s1) E s
 done:∀(X:Cx),X.prog=P->X.w=w->X.K=K->X.calm=true->∀(i:Nat) (pZ:List (Addr×Obj)) (s:Shared) (σ:St) (H:Hp) (E:Value->Shared->Prop),Inv X pZ σ H s->(∀b∈fp,o8 X pZ H b)->tn i s.heap->J.stop i H ->
  wpAny (model P w) X.A (pyNext (.ref it)) (λr s1=>r=none/\Inv X pZ σ H s1) E s
 self:∀(A:Around) (i:Nat) (s:Shared) (Q:Value->Shared->Prop) (E:Value->Shared->Prop),tn i s.heap->Q (.ref it) s->wpAny (model P w) A (pyIter (.ref it)) Q E s
abbrev TI:=St->Hp->(It->Hp->Prop)->Prop
def PIE(X:Cx)(pZ:List (Addr×Obj))(σ:St)(tg:Expr)(R:It->Hp->Prop)(itv:Value)(s2:Shared):Prop:=
 ∃(it:Addr) (fp:List Addr) (tn:Nat->Heap->Prop) (J:It) (H':Hp),itv=.ref it/\Inv X pZ σ H' s2/\Turn X.prog X.w X.K tg J fp it tn/\tn 0 s2.heap/\(∀b∈fp,o8 X pZ H' b)/\R J H'
def PI(X:Cx)(tg iter:Expr)(wi:TI):Prop:=
 ∀(pZ:List (Addr×Obj)) (s:Shared) (σ:St) (H:Hp) (R:It->Hp->Prop),Inv X pZ σ H s->wi σ H R ->
  wpAny (model X.prog X.w) X.A (eval iter X.env) (λv s1=>wpAny (model X.prog X.w) X.A (pyIter v) (PIE X pZ σ tg R) X.xe s1) X.xe s
theorem zDM(ho:s.heap.get? it=some o)(hc:o.cls=.type n)(hd:o.data=.fields vs)(hn:["enumerate", "zip", "dict_itemiterator", "dict_reverseitemiterator", "odict_iterator", "itertools.zip_longest", "itertools.pairwise"].contains n=false)(hQ:Q () s):wpAny M A (letOwnedTupleGo tg (.ref it) u) Q E s:=by
 unfold letOwnedTupleGo;cases tg<;>first
  |exact ag hQ
  |(cases u<;>first
    |exact ag hQ
    |(refine ac (wpAny_load ho ?_)
      rw[hc,hd];show wpAny M A (if (["enumerate", "zip", "dict_itemiterator", "dict_reverseitemiterator", "odict_iterator", "itertools.zip_longest", "itertools.pairwise"].contains n && vs[0]? == some (rawInt _))=true then _ else _) Q E s;rw[if_neg (by intro h;rw[hn,Bool.false_and] at h;cases h)];exact ag hQ))
noncomputable def Itl(K:Fg)(a:Addr):It:=
 ⟨λi H=>∃xs x,SqL K H a xs/\xs[i]?=some x,λi H x H'=>H'=H/\∀xs,SqL K H a xs->xs[i]?=some x,λi H=>∃xs,SqL K H a xs/\xs.length<=i⟩
noncomputable def Itt(K:Fg)(a:Addr):It:=
 ⟨λi H=>∃xs x,SqT K H a xs/\xs[i]?=some x,λi H x H'=>H'=H/\∀xs,SqT K H a xs->xs[i]?=some x,λi H=>∃xs,SqT K H a xs/\xs.length<=i⟩
noncomputable def Itr(lo:Int)(n:Nat):It:=⟨λi _=>i<n,λi H x H'=>H'=H/\x=.int (lo+i),λi _=>n<=i⟩
theorem XB{K:Fg}(a it:Addr):Turn P w K tg (Itl K a) [it] it (λi h=>h.IsListIter it a i) where
 mem:=by simp
 obj:=λi h st b hb=>by
  have e:b=it:=by simpa using hb
  subst e;obtain⟨o,e,c,d⟩:=st;exact⟨o,e,λv z=>by rw[d] at z;cases z⟩
 keep:=λi h h' st k=>st.at λo e=>k it (by simp) o e
 item:=by
  intro X hP hw hK hc i pZ s σ H E I hf st hg;subst hP hw hK;obtain⟨xs,x,hq,hx⟩:=hg;obtain⟨its,rv,p,hz⟩:=I.list hq;obtain⟨u,hu,ru⟩:=rv.get hx;obtain⟨f0,f1,f2,f3,f4,f5⟩:=hf it (by simp);refine ou st p.isList (x:=u) (by simpa using hu) λh' st' sb=>?_
  have I1:Inv X pZ σ H { s with heap:=h' }:=I.turned (t':=s.toks) (λb o hb e=>(sb.2 b hb).trans e) f0 f1 f3 f4 f5;obtain⟨o,e,c,d⟩:=id st';exact⟨u,rfl,zDM (s:={ s with heap:=h' }) e c d (by decide) ⟨x,H,I1,ru,⟨rfl,λys hy=>by rw[I.list_inj hy hq];exact hx⟩,st',λb hb=>(hf b hb).1⟩⟩
 done:=by
  intro X hP hw hK hc i pZ s σ H E I hf st hg;subst hP hw hK;obtain⟨xs,hq,hx⟩:=hg;obtain⟨its,rv,p,hz⟩:=I.list hq;obtain⟨f0,f1,f2,f3,f4,f5⟩:=hf it (by simp);have hl:=rv.length;exact qf (I.ok.hd hc) st p.isList (by simp;omega) λh' eb=>⟨rfl,I.turned (t':=s.toks) (λb o hb e=>eb b o hb e) f0 f1 f3 f4 f5⟩
 self:=λ_ _ _ _ _ st h=>wpAny_pyIter_listiter st h
theorem pJ{K:Fg}(a it:Addr):Turn P w K tg (Itt K a) [it] it (λi h=>h.IsTupleIter it a i) where
 mem:=by simp
 obj:=λi h st b hb=>by
  have e:b=it:=by simpa using hb
  subst e;obtain⟨o,e,c,d⟩:=st;exact⟨o,e,λv z=>by rw[d] at z;cases z⟩
 keep:=λi h h' st k=>st.at λo e=>k it (by simp) o e
 item:=by
  intro X hP hw hK hc i pZ s σ H E I hf st hg;subst hP hw hK;obtain⟨xs,x,hq,hx⟩:=hg;obtain⟨its,rv,p,hz⟩:=I.tuple hq;obtain⟨u,hu,ru⟩:=rv.get hx;obtain⟨f0,f1,f2,f3,f4,f5⟩:=hf it (by simp);refine wpAny_pyNext_tuple_item st (show s.heap.IsTuple a its.toArray from p) (x:=u) (by simpa using hu) λh' st' sb=>?_
  have I1:Inv X pZ σ H { s with heap:=h' }:=I.turned (t':=s.toks) (λb o hb e=>(sb.2 b hb).trans e) f0 f1 f3 f4 f5;obtain⟨o,e,c,d⟩:=id st';exact⟨u,rfl,zDM (s:={ s with heap:=h' }) e c d (by decide) ⟨x,H,I1,ru,⟨rfl,λys hy=>by rw[I.tuple_inj hy hq];exact hx⟩,st',λb hb=>(hf b hb).1⟩⟩
 done:=by
  intro X hP hw hK hc i pZ s σ H E I hf st hg;subst hP hw hK;obtain⟨xs,hq,hx⟩:=hg;obtain⟨its,rv,p,hz⟩:=I.tuple hq;obtain⟨f0,f1,f2,f3,f4,f5⟩:=hf it (by simp);have hl:=rv.length;exact wpAny_pyNext_tuple_end (I.ok.hd hc) st (show s.heap.IsTuple a its.toArray from p) (by simp;omega) λh' eb=>⟨rfl,I.turned (t':=s.toks) (λb o hb e=>eb b o hb e) f0 f1 f3 f4 f5⟩
 self:=λ_ _ _ _ _ st h=>wpAny_pyIter_tupleiter st h
theorem pK{K:Fg}(it:Addr)(lo:Int)(n:Nat):Turn P w K tg (Itr lo n) [it] it (λi h=>IsRangeIter h it (lo+(i:Nat)*1) ((n:Int)-(i:Nat)) 1) where
 mem:=by simp
 obj:=λi h st b hb=>by
  have e:b=it:=by simpa using hb
  subst e;exact⟨_,st,λv z=>by
   have z':Data.fields _=Data.cell v:=z;cases z'⟩
 keep:=λi h h' st k=>k it (by simp) _ st
 item:=by
  intro X hP hw hK hc i pZ s σ H E I hf st hg;subst hP hw hK;obtain⟨f0,f1,f2,f3,f4,f5⟩:=hf it (by simp);have W:=Walks.range (prog:=X.prog) (w:=X.w) (I.ok.hd hc) it lo 1 n;refine W.item i s _ _ hg st λv h' tk hv st' kk=>?_
  obtain⟨t,rfl⟩:=hv;have I1:Inv X pZ σ H { s with heap:=h',toks:=tk }:=I.turned (λb o hb e=>kk b o (by simpa using hb) e) f0 f1 f3 f4 f5;refine⟨_,rfl,zDM (s:={ s with heap:=h',toks:=tk }) (n:="range_iterator") st' rfl rfl (by decide) ⟨.int (lo+i),H,I1,⟨t,?_⟩,⟨rfl,rfl⟩,st',λb hb=>(hf b hb).1⟩⟩;rw[Int.mul_one]
 done:=by
  intro X hP hw hK hc i pZ s σ H E I hf st hg;subst hP hw hK;obtain⟨f0,f1,f2,f3,f4,f5⟩:=hf it (by simp);exact wpAny_pyNext_range_end (I.ok.hd hc) st (by have:n<=i:=hg;omega) λh' eb=>⟨rfl,I.turned (t':=s.toks) (λb o hb e=>eb b o hb e) f0 f1 f3 f4 f5⟩
 self:=λ_ _ _ _ _ st h=>wpAny_pyIter_rangeiter st h
end L2
namespace L2
open PySem PySem.Spec PyProof.Rows
theorem zA7{R:It->Hp->Prop}{lo:Int}(I:Inv X pZ σ H s)(h1 : -(2 ^ 62)<=lo)(h2:lo<2 ^ 62)(h3 : -(2 ^ 62)<=hi)(h4:hi<2 ^ 62)(q:R (Itr lo (hi-lo).toNat) H):wpAny (model X.prog X.w) X.A (pyIter (.ref s.heap.objs.size)) (PIE X pZ σ tg R) E { s with heap:=s.heap.push { cls:=.type "range",data:=.fields #[.int lo t,.int hi u,.int 1 v] },toks:=tk }:=by
 refine wpAny_pyIter_range (IsRange.new ..) (small_one h1 h2 h3 h4) ?_;have I1:Inv X pZ σ H { s with heap:=s.heap.push { cls:=.type "range",data:=.fields #[.int lo t,.int hi u,.int 1 v] },toks:=tk }:=I.kept λb o e=>ad _ e
 refine⟨(s.heap.push { cls:=.type "range",data:=.fields #[.int lo t,.int hi u,.int 1 v] }).objs.size,[(s.heap.push { cls:=.type "range",data:=.fields #[.int lo t,.int hi u,.int 1 v] }).objs.size],_,_,H,rfl,
  I1.kept (t':=tk) λb o e=>ad _ e,pK _ lo (hi-lo).toNat,?_,λb hb=>?_,q⟩
 ·have e1:lo+((0:Nat):Int)*1=lo:=by simp
  have e2:(((hi-lo).toNat:Nat):Int)-((0:Nat):Int)=Builtin.Range.rangeSize lo hi 1:=by rw[rangeSize_one];split<;>omega
  show IsRangeIter _ _ (lo+((0:Nat):Int)*1) ((((hi-lo).toNat:Nat):Int)-((0:Nat):Int)) 1;rw[e1,e2];exact ba _ rfl
 ·have e:b=(s.heap.push { cls:=.type "range",data:=.fields #[.int lo t,.int hi u,.int 1 v] }).objs.size:=by simpa using hb
  subst e;exact I1.fpOk (ah _) (I1.hok.fresh (ah _))
noncomputable def zOW(ta:TA):TI:=λσ H R=>ta σ H λvs H1=>∃j:Int,vs=[.int j]/\-(2 ^ 62)<=j/\j<2 ^ 62/\R (Itr 0 j.toNat) H1
theorem XV(hg:Gl X "range")(hm:X.mg "range" = none)(ha:PA X [a] ta)(hs:ae [a] X.env=[(false,eval a X.env)]:=by rfl):PI X tg (.Call (.Name "range" p) [a] [] pos) (zOW ta):=by
 intro pZ s σ H R I h;refine Call_ (uD I hg hm boot_range (dq (thn (ha pos pZ s σ H _ I h) λus s1 ⟨vs,H1,I1,r1,q1⟩=>?_) hs rfl));obtain⟨j,e,q1,q2,q⟩:=q1;subst e;cases r1 with
 |cons r rr=>
  cases rr;obtain⟨t,rfl⟩:=r;exact call_range_1 (zA7 I1 (by omega) (by omega) q1 q2 (by simpa using q))
noncomputable def zQ7(wi:TI)(g:TG)(tb:TS):TS:=λD σ H=>wi σ H λJ H1=>∃W:Nat->Nat->St->Hp->Prop,(∃m,W 0 m σ H1)/\∀i m σ H,W i m σ H ->
 (J.stop i H/\D.nx σ H)\/(J.go i H/\∃N:St->Hp->Prop,(∀σ' H',N σ' H'->∃m',m'<m/\W (i+1) m' σ' H')/\∀x H',J.yld i H x H'->g x σ H' λσ2 H2=>tb { D with nx:=N,ct:=N,bk:=D.nx } σ2 H2)
noncomputable def nB(fp:List Addr)(h:Heap):List (Addr×Obj):=fp.filterMap λb=>(h.get? b).map λo=>(b,o)
theorem kR(hb:b∈fp)(e:h.get? b=some o):(b,o)∈nB fp h:=nh.mpr ⟨b,hb,by rw[e];rfl⟩
theorem X9(hp:p∈nB fp h):p.1∈fp/\h.get? p.1=some p.2:=by
 obtain⟨b,hb,e⟩:=nh.mp hp;cases q:h.get? b with
 |none=>rw[q] at e;cases e
 |some o=>
  rw[q] at e;have e':(b,o)=p:=bg e;subst e';exact⟨hb,q⟩
theorem Inv.pinned(I:Inv X pZ σ H s)(hf:∀b∈fp,o8 X pZ H b)(ho:∀b∈fp,∃o,s.heap.get? b=some o/\∀v,o.data≠.cell v):Inv X (pZ++nB fp s.heap) σ H s:=
 I.pins_of λp hp=>(cq.mp hp).elim (λz=>I.pin p (dw _ z)) λz=>by
  obtain⟨hb,e⟩:=X9 z;obtain⟨f0,f1,f2,_⟩:=hf p.1 hb;obtain⟨o,e',d⟩:=ho p.1 hb;rw[e] at e';cases e';exact⟨e,f0,f1,f2,d⟩
theorem Inv.unpinned{pl:List (Addr×Obj)}(I:Inv X (pZ++pl) σ H s):Inv X pZ σ H s:=I.pins_of λp hp=>I.pin p (dw _ (qp _ hp))
theorem zFE(hp:PassesOwn (model X.prog X.w) X.A X.env X.xe)(hc:X.calm=true)(hi:PI X tg iter wi)(hg:PG X tg g)(hb:PSs X body tb)(hs:∀x,gc iter X.env x=pure x:=by intro _;rfl):PS X (.For tg iter body [] pos) (zQ7 wi g tb):=by
 intro pZ s σ H D I h;refine wpAny_For (thn (hi pZ s σ H _ I h) λv s1 h1=>thn h1 λitv s2 h2=>?_) hs;obtain⟨it,fp,tn,J,H2,e,I2,T,st2,f2,W,⟨m0,w0⟩,turn⟩:=h2;subst e;have stat:∀{H':Hp},(∀b∈fp,H' b=none)->∀b∈fp,o8 X pZ H' b:=λhn b hb=>⟨hn b hb,(f2 b hb).2⟩
 refine codeAny_forLoop_any (λn s'=>∃i σ' H',Inv X pZ σ' H' s'/\tn i s'.heap/\(∀b∈fp,H' b=none)/\W i n σ' H') ?_ m0 ⟨0,σ,H2,I2,st2,λb hb=>(f2 b hb).1,w0⟩;rintro n s3 ⟨i,σ3,H3,I3,st3,fr3,w3⟩;rcases turn i n σ3 H3 w3 with⟨stop,qn⟩|⟨go,N,hN,step⟩
 ·refine jl hp (thn (T.done X rfl rfl rfl hc i pZ s3 σ3 H3 X.xe I3 (stat fr3) st3 stop) λr s4 ⟨hr,I4⟩=>?_);subst hr;exact qe ⟨σ3,H3,I4,qn⟩
 ·refine jl hp (thn (T.item X rfl rfl rfl hc i pZ s3 σ3 H3 X.xe I3 (stat fr3) st3 go) λr s4 ⟨u,hr,h4⟩=>?_);subst hr;refine jl hp (thn h4 λ_ s5 ⟨x,H5,I5,r5,y5,st5,fr5⟩=>?_);have I5':=I5.pinned (stat fr5) (T.obj _ _ st5);refine jl hp (thn (hg _ s5 σ3 H5 x u _ I5' r5 (step x H5 y5)) λ_ s6 ⟨σ6,H6,I6,q6⟩=>?_);refine jl hp (thn (hb _ s6 σ6 H6 _ I6 q6) λf s7 q7=>?_);have again:∀{σ7:St} {H7:Hp},Inv X (pZ++nB fp s5.heap) σ7 H7 s7->N σ7 H7->∃m,m<n/\∃i σ' H',Inv X pZ σ' H' s7/\tn i s7.heap/\(∀b∈fp,H' b=none)/\W i m σ' H':=λ{σ7 H7} I7 n7=>by
   obtain⟨m',hm,w7⟩:=hN σ7 H7 n7;refine⟨m',hm,i+1,σ7,H7,I7.unpinned,T.keep _ _ _ st5 λb hb o e=>(I7.pin (b,o) (dw _ (dw _ (kR hb e)))).1,λb hb=>?_,w7⟩;obtain⟨o,e,d⟩:=T.obj _ _ st5 b hb;exact(I7.pin (b,o) (dw _ (dw _ (kR hb e)))).2.1
  cases f with
  |next=>obtain⟨σ7,H7,I7,n7⟩:=q7;exact again I7 n7
  |cont=>obtain⟨σ7,H7,I7,n7⟩:=q7;exact again I7 n7
  |brk=>obtain⟨σ7,H7,I7,q7⟩:=q7;exact⟨σ7,H7,I7.unpinned,q7⟩
  |ret v=>obtain⟨x7,σ7,H7,I7,r7,q7⟩:=q7;exact⟨x7,σ7,H7,I7.unpinned,r7,q7⟩
end L2
namespace L2
open PySem PySem.Spec PyProof.Rows
abbrev R2:=V->V->Hp->VK->Prop
def OpR(X:Cx)(f:Value->Value->Sem Value)(r:R2):Prop:=
 ∀(pZ:List (Addr×Obj)) (s:Shared) (σ:St) (H:Hp) (x y:V) (v u:Value) (Q:VK),Inv X pZ σ H s->RelV x v->RelV y u->r x y H Q ->
  wpAny (model X.prog X.w) X.A (f v u) (EP X pZ σ Q) X.xe s
def UnR(X:Cx)(f:Value->Sem Value)(r:V->Hp->VK->Prop):Prop:=
 ∀(pZ:List (Addr×Obj)) (s:Shared) (σ:St) (H:Hp) (x:V) (v:Value) (Q:VK),Inv X pZ σ H s->RelV x v->r x H Q ->
  wpAny (model X.prog X.w) X.A (f v) (EP X pZ σ Q) X.xe s
def CallR(X:Cx)(f:Value)(r:List V->Hp->VK->Prop):Prop:=
 ∀(pZ:List (Addr×Obj)) (s:Shared) (σ:St) (H:Hp) (xs:List V) (us:List Value) (Q:VK),Inv X pZ σ H s->Vals xs us->r xs H Q ->
  wpAny (model X.prog X.w) X.A (call f us) (EP X pZ σ Q) X.xe s
def zRN(X:Cx)(r:V->Hp->(Bool->Hp->Prop)->Prop):Prop:=
 ∀(pZ:List (Addr×Obj)) (s:Shared) (σ:St) (H:Hp) (x:V) (v:Value) (Q:Bool->Hp->Prop),Inv X pZ σ H s->RelV x v->r x H Q ->
  wpAny (model X.prog X.w) X.A (truthy v) (TP X pZ σ Q) X.xe s
noncomputable def tOp(r:R2)(ta tb:TE):TE:=λσ H Q=>ta σ H λx H1=>tb σ H1 λy H2=>r x y H2 Q
noncomputable def tUn(r:V->Hp->VK->Prop)(ta:TE):TE:=λσ H Q=>ta σ H λx H1=>r x H1 Q
noncomputable def rI(C:Int->Int->Prop)(g:Int->Int->V):R2:=λx y H Q=>∃i j,x=.int i/\y=.int j/\C i j/\Q (g i j) H
noncomputable def rI0(g:Int->Int->V):R2:=λx y H Q=>∃i j,x=.int i/\y=.int j/\Q (g i j) H
def rU(g:Int->V):V->Hp->VK->Prop:=λx H Q=>∃i,x=.int i/\Q (g i) H
theorem zPZ(ha:PE X a ta)(hb:PE X b tb){pZ:List (Addr×Obj)}{s:Shared}{σ:St}{H:Hp}{R:V->V->Hp->Prop}(I:Inv X pZ σ H s)(h:ta σ H λx H1=>tb σ H1 λy H2=>R x y H2){Q:Value->Shared->Prop}{f:Value->Value->Sem Value}(hf:∀v u s2 x y H2,Inv X pZ σ H2 s2->RelV x v->RelV y u->R x y H2->wpAny (model X.prog X.w) X.A (f v u) Q X.xe s2):wpAny (model X.prog X.w) X.A (eval a X.env) (λv s₁=>wpAny (model X.prog X.w) X.A (eval b X.env) (λu s₂=>wpAny (model X.prog X.w) X.A (f v u) Q X.xe s₂) X.xe s₁) X.xe s:=by
 refine thn (ha pZ s σ H _ I h) λv s1 ⟨x,H1,I1,r1,q1⟩=>?_
 refine thn (hb pZ s1 σ H1 _ I1 q1) λu s2 ⟨y,H2,I2,r2,q2⟩=>?_
 exact hf v u s2 x y H2 I2 r1 r2 q2
theorem zMP{op:Operator}{r:R2}(ho:OpR X (binaryOp op) r)(ha:PE X a ta)(hb:PE X b tb):PE X (.BinOp a op b pos) (tOp r ta tb):=by
 intro pZ s σ H Q I h;exact wpAny_BinOp (zPZ ha hb I h λv u s2 x y H2 I2 rx ry q=>ho pZ s2 σ H2 x y v u Q I2 rx ry q)
theorem zMO(ho:UnR X (unaryOp op) r)(ha:PE X a ta):PE X (.UnaryOp op a pos) (tUn r ta):=by
 intro pZ s σ H Q I h;exact UnaryOp_ (thn (ha pZ s σ H _ I h) λv s1 ⟨x,H1,I1,r1,q1⟩=>ho pZ s1 σ H1 x v Q I1 r1 q1)
theorem opI{f:Value->Value->Sem Value}{C:Int->Int->Prop}{g:Int->Int->Int}(rule:∀(i j:Int) (t u:Tok) (s:Shared) (Q:Value->Shared->Prop) (E:Value->Shared->Prop),C i j->Q (.int (g i j) s.toks) { s with toks:=s.toks+1 }->wpAny (model X.prog X.w) X.A (f (.int i t) (.int j u)) Q E s):OpR X f (rI C λi j=>.int (g i j)):=by
 intro pZ s σ H x y v u Q I rx ry h;obtain⟨i,j,rfl,rfl,hc,q⟩:=h;obtain⟨t,rfl⟩:=rx;obtain⟨t',rfl⟩:=ry;exact rule i j t t' s _ _ hc ⟨.int (g i j),H,I.tok _,⟨_,rfl⟩,q⟩
theorem zQH{f:Value->Value->Sem Value}{g:Int->Int->Int}(rule:∀(i j:Int) (t u:Tok) (s:Shared) (Q:Value->Shared->Prop) (E:Value->Shared->Prop),Q (.int (g i j) s.toks) { s with toks:=s.toks+1 }->wpAny (model X.prog X.w) X.A (f (.int i t) (.int j u)) Q E s):OpR X f (rI0 λi j=>.int (g i j)):=by
 intro pZ s σ H x y v u Q I rx ry h;obtain⟨i,j,rfl,rfl,q⟩:=h;obtain⟨t,rfl⟩:=rx;obtain⟨t',rfl⟩:=ry;exact rule i j t t' s _ _ ⟨.int (g i j),H,I.tok _,⟨_,rfl⟩,q⟩
theorem zPV{f:Value->Value->Sem Value}{g:Int->Int->Bool}(rule:∀(i j:Int) (t u:Tok) (s:Shared) (Q:Value->Shared->Prop) (E:Value->Shared->Prop),Q (.bool (g i j)) s->wpAny (model X.prog X.w) X.A (f (.int i t) (.int j u)) Q E s):OpR X f (rI0 λi j=>.bl (g i j)):=by
 intro pZ s σ H x y v u Q I rx ry h;obtain⟨i,j,rfl,rfl,q⟩:=h;obtain⟨t,rfl⟩:=rx;obtain⟨t',rfl⟩:=ry;exact rule i j t t' s _ _ ⟨.bl (g i j),H,I,rfl,q⟩
def zQV(i j:Int):Prop:=0<j/\j<1073741824
def zQU(i j:Int):Prop:=0<=j/\j<=1000000/\i.natAbs<2 ^ 64
def CMul(i j:Int):Prop:=(-(2 ^ 64)<i/\i<2 ^ 64)\/(-(2 ^ 64)<j/\j<2 ^ 64)
theorem CMul.ok(h:CMul i j):IntMulOk i j:=by
 rcases h with⟨h1,h2⟩|⟨h1,h2⟩
 ·exact .of_left (intBits_le_64 h1 h2)
 ·exact .of_right (intBits_le_64 h1 h2)
theorem op_add:OpR X (binaryOp .Add) (rI0 λi j=>.int (i+j)):=zQH λ_ _ _ _ _ _ _ q=>add_int q
theorem XZ:OpR X (binaryOp .Sub) (rI0 λi j=>.int (i-j)):=zQH λ_ _ _ _ _ _ _ q=>sub_int q
theorem gH:OpR X (binaryOp .Mult) (rI CMul λi j=>.int (i*j)):=opI λ_ _ _ _ _ _ _ hc q=>mul_int q hc.ok
theorem wQ:OpR X (binaryOp .FloorDiv) (rI zQV λi j=>.int (i / j)):=opI λi j _ _ _ _ _ hc q=>by
 have h1:(0:Int)<j:=hc.1;have h2:j<1073741824:=hc.2;exact floordiv_int (by omega) (by rw[Int.fdiv_eq_ediv_of_nonneg i (by omega)];exact q) (.inl (PyProof.noPylong_small (by omega)))
theorem wO:OpR X (binaryOp .Mod) (rI (λ_ j=>0<j) λi j=>.int (i % j)):=opI λi j _ _ _ _ _ hc q=>by
 have h1:(0:Int)<j:=hc;exact mod_int' (by omega) (by rw[Int.fmod_eq_emod_of_nonneg i (by omega)];exact q)
theorem zKT:OpR X (binaryOp .Pow) (rI zQU λi j=>.int (i ^ j.toNat)):=opI λ_ _ _ _ _ _ _ hc q=>pow_int_small hc.1 hc.2.1 hc.2.2 q
theorem unI{f:Value->Sem Value}{g:Int->Int}(rule:∀(i:Int) (t:Tok) (s:Shared) (Q:Value->Shared->Prop) (E:Value->Shared->Prop),Q (.int (g i) s.toks) { s with toks:=s.toks+1 }->wpAny (model X.prog X.w) X.A (f (.int i t)) Q E s):UnR X f (rU λi=>.int (g i)):=by
 intro pZ s σ H x v Q I rx h;obtain⟨i,rfl,q⟩:=h;obtain⟨t,rfl⟩:=rx;exact rule i t s _ _ ⟨.int (g i),H,I.tok _,⟨_,rfl⟩,q⟩
theorem zEH:UnR X (unaryOp .USub) (rU λi=>.int (-i)):=unI λ_ _ _ _ _ q=>neg_int q
noncomputable def zPR:V->V->Bool
 |.non,.non=>true | .non,.int _=>true | .int _,.non=>true | .non,.bl _=>true | .bl _,.non=>true | .non,.str _=>true | .str _,.non=>true
 |.int _,.int _=>true | .bl _,.bl _=>true | .str _,.str _=>true | .byt _,.byt _=>true
 |.int _,.str _=>true | .str _,.int _=>true | .bl _,.str _=>true | .str _,.bl _=>true
 |_,_=>false
noncomputable def rEq:R2:=λx y H Q=>zPR x y=true/\Q (.bl (decide (x=y))) H
noncomputable def rNe:R2:=λx y H Q=>zPR x y=true/\Q (.bl (!decide (x=y))) H
theorem J0:decide (V.int i=V.int j)=(i == j):=by
 rw[mi];simp
theorem zH9:decide (V.bl i=V.bl j)=(i == j):=by
 rw[mi];simp
theorem JZ:decide (V.str i=V.str j)=(i == j):=by
 rw[mi];simp
theorem J1:decide (V.byt i=V.byt j)=(i.toList == j.toList):=by
 rw[mi];cases i;cases j;simp
theorem yU(I:Inv X pZ σ H s)(q:Q (.bl k) H)(e:k=k'):EP X pZ σ Q (.bool k') s:=by
 subst e;exact⟨.bl k,H,I,rfl,q⟩
theorem zOK:OpR X (et .Eq) rEq:=by
 intro pZ s σ H x y v u Q I rx ry h;obtain⟨hs,q⟩:=h;cases x with
 |non=>
  cases rx;cases y with
  |non=>cases ry;exact PySem.EqNone.eq_none_none (yU I q (by simp))
  |bl j=>cases ry;exact PySem.EqNone.eq_none_bool (yU I q (by simp))
  |int j=>obtain⟨t',rfl⟩:=ry;exact PySem.EqNone.eq_none_int (yU I q (by simp))
  |str j=>obtain⟨t',rfl⟩:=ry;exact PySem.EqNone.eq_none_str (yU I q (by simp))
  |_=>exact absurd (show false=true from hs) av
 |bl i=>
  cases rx;cases y with
  |non=>cases ry;exact PySem.EqNone.eq_bool_none (yU I q (by simp))
  |bl j=>cases ry;exact eq_bool (yU I q zH9)
  |str j=>obtain⟨t',rfl⟩:=ry;exact PySem.EqMixed.eq_bool_str (yU I q (by simp))
  |_=>exact absurd (show false=true from hs) av
 |int i=>
  obtain⟨t,rfl⟩:=rx;cases y with
  |non=>cases ry;exact PySem.EqNone.eq_int_none (yU I q (by simp))
  |int j=>obtain⟨t',rfl⟩:=ry;exact eq_int (yU I q J0)
  |str j=>obtain⟨t',rfl⟩:=ry;exact PySem.EqMixed.eq_int_str (yU I q (by simp))
  |_=>exact absurd (show false=true from hs) av
 |str i=>
  obtain⟨t,rfl⟩:=rx;cases y with
  |non=>cases ry;exact PySem.EqNone.eq_str_none (yU I q (by simp))
  |bl j=>cases ry;exact PySem.EqMixed.eq_str_bool (yU I q (by simp))
  |int j=>obtain⟨t',rfl⟩:=ry;exact PySem.EqMixed.eq_str_int (yU I q (by simp))
  |str j=>obtain⟨t',rfl⟩:=ry;exact eq_str (yU I q JZ)
  |_=>exact absurd (show false=true from hs) av
 |byt i=>
  obtain⟨t,rfl⟩:=rx;cases y with
  |byt j=>obtain⟨t',rfl⟩:=ry;exact PySem.W.eq_bytes (yU I q J1)
  |_=>exact absurd (show false=true from hs) av
 |_=>cases y<;>exact absurd (show false=true from hs) av
theorem zOI:OpR X (et .NotEq) rNe:=by
 intro pZ s σ H x y v u Q I rx ry h;obtain⟨hs,q⟩:=h;cases x with
 |non=>
  cases rx;cases y with
  |non=>cases ry;exact PySem.EqNone.ne_none_none (yU I q (by simp))
  |bl j=>cases ry;exact PySem.EqNone.ne_none_bool (yU I q (by simp))
  |int j=>obtain⟨t',rfl⟩:=ry;exact PySem.EqNone.ne_none_int (yU I q (by simp))
  |str j=>obtain⟨t',rfl⟩:=ry;exact PySem.EqNone.ne_none_str (yU I q (by simp))
  |_=>exact absurd (show false=true from hs) av
 |bl i=>
  cases rx;cases y with
  |non=>cases ry;exact PySem.EqNone.ne_bool_none (yU I q (by simp))
  |bl j=>cases ry;exact ne_bool (yU I q (congrArg not zH9))
  |str j=>obtain⟨t',rfl⟩:=ry;exact PySem.EqMixed.ne_bool_str (yU I q (by simp))
  |_=>exact absurd (show false=true from hs) av
 |int i=>
  obtain⟨t,rfl⟩:=rx;cases y with
  |non=>cases ry;exact PySem.EqNone.ne_int_none (yU I q (by simp))
  |int j=>obtain⟨t',rfl⟩:=ry;exact ne_int (yU I q (congrArg not J0))
  |str j=>obtain⟨t',rfl⟩:=ry;exact PySem.EqMixed.ne_int_str (yU I q (by simp))
  |_=>exact absurd (show false=true from hs) av
 |str i=>
  obtain⟨t,rfl⟩:=rx;cases y with
  |non=>cases ry;exact PySem.EqNone.ne_str_none (yU I q (by simp))
  |bl j=>cases ry;exact PySem.EqMixed.ne_str_bool (yU I q (by simp))
  |int j=>obtain⟨t',rfl⟩:=ry;exact PySem.EqMixed.ne_str_int (yU I q (by simp))
  |str j=>obtain⟨t',rfl⟩:=ry;exact ne_str (yU I q (congrArg not JZ))
  |_=>exact absurd (show false=true from hs) av
 |byt i=>
  obtain⟨t,rfl⟩:=rx;cases y with
  |byt j=>obtain⟨t',rfl⟩:=ry;exact PySem.W.ne_bytes (yU I q (congrArg not J1))
  |_=>exact absurd (show false=true from hs) av
 |_=>cases y<;>exact absurd (show false=true from hs) av
theorem op_lt:OpR X (et .Lt) (rI0 λi j=>.bl (decide (i<j))):=zPV λ_ _ _ _ _ _ _ q=>lt_int q
theorem zMR:OpR X (et .Gt) (rI0 λi j=>.bl (decide (j<i))):=zPV λ_ _ _ _ _ _ _ q=>gt_int q
theorem zOJ:OpR X (et .GtE) (rI0 λi j=>.bl (decide (j<=i))):=zPV λ_ _ _ _ _ _ _ q=>ge_int q
theorem OpR.or(h:OpR X f r)(h':OpR X f r'):OpR X f (λx y H Q=>r x y H Q\/r' x y H Q):=by
 intro pZ s σ H x y v u Q I rx ry q;rcases q with q|q
 ·exact h pZ s σ H x y v u Q I rx ry q
 ·exact h' pZ s σ H x y v u Q I rx ry q
theorem xU(b:Expr)(h:op≠.In:=by decide)(h2:op≠.NotIn:=by decide):dh op b=false:=by
 have e1:(op == CmpOp.In)=false:=by cases op<;>first|rfl|exact absurd rfl h
 have e2:(op == CmpOp.NotIn)=false:=by cases op<;>first|rfl|exact absurd rfl h2
 cases b<;>simp[dh,e1,e2]
theorem zFY{op:CmpOp}{r:R2}(ho:OpR X (et op) r)(ha:PE X a ta)(hb:PE X b tb)(hm:dh op b=false):PE X (.Compare a [op] [b] pos) (tOp r ta tb):=by
 intro pZ s σ H Q I h;exact wpAny_Compare1 (zPZ ha hb I h λv u s2 x y H2 I2 rx ry q=>ho pZ s2 σ H2 x y v u Q I2 rx ry q) hm
noncomputable def zNZ(t:TE):TT:=λσ H Q=>t σ H λx H'=>∃k,x=.bl k/\Q k H'
theorem dB(ho:OpR X (et op) r)(ha:PE X a ta)(hb:PE X b tb)(hm:dh op b=false):PT X (.Compare a [op] [b] pos) (zNZ (tOp r ta tb)):=by
 intro pZ s σ H Q I h;refine vm (thn (ha pZ s σ H _ I h) λv s1 ⟨x,H1,I1,r1,q1⟩=>thn (hb pZ s1 σ H1 _ I1 q1) λu s2 ⟨y,H2,I2,r2,q2⟩=>
  thn (ho pZ s2 σ H2 x y v u _ I2 r1 r2 q2) λc s3 ⟨z,H3,I3,r3,k,e,q3⟩=>?_) hm
 subst e;cases r3;exact jt ⟨H3,I3,q3⟩
def zP0(K:Fg)(x:V)(H:Hp)(k:Bool):Prop:=
 match x with
 |.non=>k=false
 |.bl b=>k=b
 |.int i=>k=(i != 0)
 |.str y=>y.length<=af/\k=((y.length:Int) != 0)
 |.byt y=>y.size<=af/\k=((y.size:Int) != 0)
 |.ref p=>(∃xs,SqL K H p xs/\k = !xs.isEmpty)\/(∃xs,SqT K H p xs/\k = !xs.isEmpty)\/∃kvs,H p=some (.dK kvs)/\k = !kvs.isEmpty
 |_=>False
theorem rJ(r:KV kvs vs):(!vs.isEmpty) = !kvs.isEmpty:=by
 cases r<;>rfl
theorem dI(r:Vals xs its):(!its.toArray.isEmpty) = !xs.isEmpty:=by
 cases r<;>simp
theorem gN:(af:Nat)<2 ^ 63:=by rw[qo];decide
theorem zJX:zRN X (λx H Q=>∃k,zP0 X.K x H k/\Q k H):=by
 intro pZ s σ H x v Q I rx h;obtain⟨k,e,q⟩:=h;have hl:=gN;have hs:af=16777216:=qo;cases x with
 |non=>
  cases rx;have e':k=false:=e;subst e';exact truthy_none ⟨H,I,q⟩
 |bl b=>
  cases rx;have e':k=b:=e;subst e';exact jt ⟨H,I,q⟩
 |int i=>
  obtain⟨t,rfl⟩:=rx;have e':k=(i != 0):=e;subst e';exact PySem.P.truthy_int ⟨H,I,q⟩
 |str y=>
  obtain⟨t,rfl⟩:=rx;obtain⟨hy,e'⟩:y.length<=af/\k=((y.length:Int) != 0):=e;subst e';exact PySem.P.truthy_str (by omega) ⟨H,I.tok _,q⟩
 |byt y=>
  obtain⟨t,rfl⟩:=rx;obtain⟨hy,e'⟩:y.size<=af/\k=((y.size:Int) != 0):=e;subst e';exact PySem.W.truthy_bytes (by omega) ⟨H,I.tok _,q⟩
 |ref p=>
  cases rx;have e':(∃xs,SqL X.K H p xs/\k = !xs.isEmpty)\/(∃xs,SqT X.K H p xs/\k = !xs.isEmpty)\/∃kvs,H p=some (.dK kvs)/\k = !kvs.isEmpty:=e;rcases e' with⟨xs,hx,e'⟩|⟨xs,hx,e'⟩|⟨kvs,hx,e'⟩
  ·subst e';obtain⟨its,r,pl,hz⟩:=I.list hx;have hlen:=r.length;exact wpAny_truthy_list pl.isList (by simp only[ak];omega) ⟨H,I.tok _,by rw[dI r];exact q⟩
  ·subst e';obtain⟨its,r,pl,hz⟩:=I.tuple hx;have hlen:=r.length;exact truthy_tuple pl (by simp only[ak];omega) ⟨H,I.tok _,by rw[dI r];exact q⟩
  ·subst e';obtain⟨hz,hS,vs,r,m⟩:kvs.length<=af/\(p == ik)=false/\∃vs,KV kvs vs/\s.heap.DictOf (yM X.prog X.w) p vs:=I.hok p _ hx;have hlen:kvs.length=vs.length:=rc r;exact wpAny_truthy_dict hS m (by omega) ⟨H,I.tok _,by rw[rJ r];exact q⟩
 |_=>exact(show False from e).elim
theorem g9(ha:PE X a ta)(he:∀whole,isTrue a X.env whole=(do let v <- whole;standAt a.pos;holding [v] (truthy v))):PT X a (λσ H Q=>ta σ H λx H'=>∃k,zP0 X.K x H' k/\Q k H'):=by
 intro pZ s σ H Q I h;exact isTrue_plain (thn (ha pZ s σ H _ I h) λv s1 ⟨x,H1,I1,r1,q1⟩=>zJX pZ s1 σ H1 x v Q I1 r1 q1) (he _)
theorem op_add_str:OpR X (binaryOp .Add) (λx y H Q=>∃i j,x=.str i/\y=.str j/\i.length+j.length<=af/\Q (.str (i++j)) H):=by
 intro pZ s σ H x y v u Q I rx ry h;obtain⟨i,j,rfl,rfl,hz,q⟩:=h;obtain⟨t,rfl⟩:=rx;obtain⟨t',rfl⟩:=ry;exact add_str (λt' tk=>⟨.str (i++j),H,I.tok _,⟨_,rfl⟩,q⟩) hz
theorem rZ(r:Vals [x] us):∃u,us=[u]/\RelV x u:=by
 cases r with
 |cons r1 r2=>cases r2;exact⟨_,rfl,r1⟩
theorem zNS(r:Vals [x,y] us):∃u w',us=[u,w']/\RelV x u/\RelV y w':=by
 cases r with
 |cons r1 r2=>
  cases r2 with
  |cons r3 r4=>cases r4;exact⟨_,_,rfl,r1,r3⟩
theorem QE(hc:X.calm=true):CallR X (.builtin "max") (λxs H Q=>∃i j,xs=[.int i,.int j]/\Q (.int (if j > i then j else i)) H):=by
 intro pZ s σ H xs us Q I r h;obtain⟨i,j,rfl,q⟩:=h;obtain⟨u,w',rfl,⟨t,rfl⟩,⟨t',rfl⟩⟩:=zNS r;refine max_two_ints (I.ok.hd hc) λh' tk k=>⟨_,H,I.kept k,?_,q⟩
 by_cases hj:j > i
 ·rw[if_pos hj,if_pos hj];exact⟨_,rfl⟩
 ·rw[if_neg hj,if_neg hj];exact⟨_,rfl⟩
end L2
namespace L2
open PySem PySem.Spec PyProof.Rows
structure ObjM(h:Heap)(x dx C:Addr)(mA:Str->Option Value):Prop where
 obj:h.get? x=some (PySem.W.instObj C dx)
 ns:h.Ns1 dx mA
 ne:dx≠x
theorem WM{h:Heap}{dx:Addr}{mA:Str->Option Value}(n:h.Ns1 dx mA):∃od,h.get? dx=some od/\∀name,PySem.W.lookIn name od=some (mA name):=by
 obtain⟨o,es,ep,ho,hd,hk,_,hm⟩:=n;refine⟨o,ho,λname=>?_⟩;have e:=hm name;unfold nsFind findBy at e;rw[<-Array.find?_toList] at e;unfold PySem.W.lookIn;rw[hd];dsimp only;split
 ·rename_i y q;rw[q] at e;exact congrArg some e
 ·rename_i q;rw[q] at e;have a:es.toList.any (·.refKey)=false:=by
   rw[List.any_eq_false];intro y hy;obtain⟨z,t,hkey⟩:=hk y (Array.mem_toList_iff.mp hy);simp[DictEntry.refKey,hkey]
  have a':¬es.toList.any (·.refKey)=true:=by rw[a];exact av
  rw[if_neg a'];exact congrArg some e
theorem ObjM.look(I:ObjM h x dx C mA):∃od,PySem.W.InstAt h x (PySem.W.instObj C dx) C (some od)/\∀name,PySem.W.lookIn name od=some (mA name):=
 let ⟨od,ho,hl⟩:=WM I.ns
 ⟨od,⟨I.obj,rfl,rfl,ho⟩,hl⟩
section
variable{K:Fg}
theorem zHF(X:K.In s.heap)(I:ObjM s.heap x dx C mA)(hg:PySem.W.plainGet K C name=true)(hh:PySem.W.hasDictIn K C=true)(ha:PySem.W.findIn K (.ref C) name=some none)(hv:mA name=some v)(hv':PySem.W.handedIn v=true)(h:Q v { s with toks:=s.toks+1 }):wpAny (model prog w) A (getAttr (.ref x) name expr) Q E s:=by
 obtain⟨od,J,hl⟩:=I.look;exact PySem.W.get_value X J (qw hg).1 (PySem.W.findObj_own hh ha rfl (by rw[hl,hv])) hv' h
theorem zCG{pl:Sem Bool}(X:K.In s.heap)(I:ObjM s.heap x dx C mA)(hg:PySem.W.plainGet K C name=true)(hf:PySem.W.findIn K (.ref C) name=some (some (.ref f)))(ht:PySem.W.isFn K (.ref f)=true)(hv:mA name=none)(h:Q (.ref f,[.ref x]) s):wpAny (model prog w) A (getMethod (.ref x) name pl) Q E s:=by
 obtain⟨od,J,hl⟩:=I.look;exact PySem.W.method_fn X J (qw hg).1 (qw hg).2 hf (beq_iff_eq.mp ht) (by show(PySem.W.lookIn name od).map (·.isSome)=some false;rw[hl,hv];rfl) h
theorem zE0(X:K.In s.heap)(I:ObjM s.heap x dx C mA)(hs:PySem.W.findIn K (.ref C) "__setattr__" = some (some (.builtin "object.__setattr__")))(hp:PySem.W.plainOver K C=true)(ht:PySem.W.takerIn K C name=some none)(hh:PySem.W.hasDictIn K C=true)(hw:PySem.Within mA ns)(hsz:ns.length<=af)(h:∀h',ObjM h' x dx C (λy=>if y=name then some v else mA y)->Heap.SameBut dx s.heap h'->Q () { s with heap:=h',toks:=s.toks+2 }):wpAny (model prog w) A (setAttr (.ref x) name v) Q E s:=by
 obtain⟨od,J,hl⟩:=I.look;refine PySem.W.set_plain X J hs (PySem.W.osa_open (s:={ s with toks:=s.toks+1 }) (r:=none) X J hp ht λb=>?_);obtain⟨cd,hc,hd'⟩:=PySem.W.any_some hh;have hx:s.heap.get? x=some ⟨.ref C,some dx,.plain,#[]⟩:=I.obj;refine ac (ag (ac (ac (wpAny_loadPart hx (ac (PySem.W.Looks.here (s:={ s with toks:=s.toks+1 }) (PySem.W.looks_clsIn X hc) ?_))))));rw[hd'];refine ag (a:=some dx) (ac (ag (ac ?_)));refine wpAny_nsSet1 (s:={ s with toks:=s.toks+1 }) I.ns λh' hn2 hs2=>?_
 obtain⟨oD,esD,epD,hoD,hdD,hcD⟩:=hn2.count (PySem.Within.cons name v hw);refine ac (wpAny_lookBehind hoD (by rw[hdD];exact pastItsLine_dict (bq hcD (by rw[au];omega))) ?_);exact ag (h _ ⟨(hs2.2 _ (lr I.ne)).trans I.obj,hn2,I.ne⟩ hs2)
theorem zB3{R:Result->Shared->Prop}(X:K.In s.heap)(hm:PySem.W.makesIn K C=true)(hi:PySem.W.findIn K (.ref C) "__init__" = some (some (.ref f)))(hf:PySem.W.typeIn K (.ref f)=some (.type "function"))(h:codeAny (model prog w) (A.under (.builtin "type.__call__" ⟨.ref C::vs,kw⟩)) (.call (.ref f) ⟨.ref (s.heap.objs.size+1)::vs,kw⟩) (PySem.W.InitBack (s.heap.objs.size+1) R)
   { s with heap:=(s.heap.push PySem.W.emptyDict).push (PySem.W.instObj C s.heap.objs.size) }):codeAny (model prog w) A (.call (.ref C) ⟨vs,kw⟩) R s:=by
 obtain⟨hh,g,d,t,os⟩:=s;exact PySem.W.make_core (PySem.W.makes_of X hm) (PySem.W.looks_findIn X hi) (λself=>PySem.W.bind_fn X self hf) (.inl rfl) h
end
noncomputable def YX(f:Str)(v:V):List (Str×V)->List (Str×V)
 |[]=>[(f,v)]
 |(g,x)::r=>if g=f then (g,v)::r else (g,x)::YX f v r
theorem bD(f g:Str)(v:V):∀fs:List (Str×V),(YX f v fs).lookup g=if g=f then some v else fs.lookup g
 |[]=>by
  show List.lookup g [(f,v)]=_;by_cases h:g=f
  ·have hb:(g == f)=true:=beq_iff_eq.mpr h;simp only[List.lookup,hb,if_pos h]
  ·have hb:(g == f)=false:=beq_eq_false_iff_ne.mpr h;simp only[List.lookup,hb,if_neg h]
 |(k,x)::r=>by
  have ih:=bD f g v r;rw[show YX f v ((k,x)::r)=(if k=f then (k,v)::r else (k,x)::YX f v r) from rfl];by_cases hk:k=f
  ·rw[if_pos hk];by_cases h:g=k
   ·have hb:(g == k)=true:=beq_iff_eq.mpr h;simp only[List.lookup,hb,if_pos (h.trans hk)]
   ·have hb:(g == k)=false:=beq_eq_false_iff_ne.mpr h;simp only[List.lookup,hb,if_neg (λe:g=f=>h (e.trans hk.symm))]
  ·rw[if_neg hk];by_cases h:g=k
   ·have hb:(g == k)=true:=beq_iff_eq.mpr h;simp only[List.lookup,hb,if_neg (λe:g=f=>hk (h.symm.trans e))]
   ·have hb:(g == k)=false:=beq_eq_false_iff_ne.mpr h;simp only[List.lookup,hb];exact ih
theorem cD(f:Str)(v:V):∀fs:List (Str×V),f∈(YX f v fs).map (·.1)/\∀g,g∈fs.map (·.1)->g∈(YX f v fs).map (·.1)
 |[]=>⟨by simp[YX],λg h=>by simp at h⟩
 |(k,x)::r=>by
  obtain⟨i1,i2⟩:=cD f v r;rw[show YX f v ((k,x)::r)=(if k=f then (k,v)::r else (k,x)::YX f v r) from rfl];by_cases hk:k=f
  ·rw[if_pos hk];subst hk;exact⟨by simp,λg h=>by simpa using h⟩
  ·rw[if_neg hk];refine⟨?_,λg h=>?_⟩
   ·rw[aq];exact bx _ i1
   ·rw[aq] at h ⊢;rcases bh.mp h with e|e
    ·exact bh.mpr (.inl e)
    ·exact bx _ (i2 g e)
theorem bG(f:Str)(v:V):∀fs:List (Str×V),(YX f v fs).length<=fs.length+1
 |[]=>by simp[YX]
 |(k,x)::r=>by
  have ih:=bG f v r;rw[show YX f v ((k,x)::r)=(if k=f then (k,v)::r else (k,x)::YX f v r) from rfl];by_cases hk:k=f
  ·rw[if_pos hk,au,au];omega
  ·rw[if_neg hk,au,au];omega
theorem RelO.some_of(r:RelO (some v) o):∃u,o=some u/\RelV v u:=by
 cases o with
 |none=>exact(show False from r).elim
 |some u=>exact⟨u,rfl,r⟩
theorem RelO.none_of(r:RelO none o):o=none:=by
 cases o with
 |none=>rfl
 |some u=>exact(show False from r).elim
theorem WX(r:RelV v u):PySem.W.handedIn u=true:=by
 cases v with
 |non=>cases (show u=Value.none from r);rfl
 |bl b=>cases (show u=Value.bool b from r);rfl
 |int i=>obtain⟨t,e⟩:=(show ∃t,u=Value.int i t from r);cases e;rfl
 |str x=>obtain⟨t,e⟩:=(show ∃t,u=Value.str x t from r);cases e;rfl
 |byt b=>obtain⟨t,e⟩:=(show ∃t,u=Value.bytes b t from r);cases e;rfl
 |flt b=>obtain⟨t,e⟩:=(show ∃t,u=Value.float b t from r);cases e;rfl
 |ref a=>cases (show u=Value.ref a from r);rfl
 |ty n=>cases (show u=Value.type n from r);rfl
theorem nZ(hok:HOk P w H h)(e:H a=some (.ins C dx fs)):∃mA,ObjM h a dx C mA/\(∀f,RelO (fs.lookup f) (mA f))/\PySem.Within mA (fs.map (·.1))/\fs.length<=1000/\H dx=some (.own a):=by
 obtain⟨d,z,ne,ob,mA,n,r,q⟩:=(show ObjOk P w H h a (.ins C dx fs) from hok a _ e);exact⟨mA,⟨ob,n,ne⟩,r,q,z,d⟩
structure Cls(K:Fg)(C:Addr):Prop where
 pg:PySem.W.plainGet K C Str.empty=true
 hd:PySem.W.hasDictIn K C=true
 po:PySem.W.plainOver K C=true
 sa:PySem.W.findIn K (.ref C) "__setattr__" = some (some (.builtin "object.__setattr__"))
theorem Cls.get{K:Fg}(c:Cls K C)(f:Str):PySem.W.plainGet K C f=true:=c.pg
def NoAttr(K:Fg)(C:Addr)(f:Str):Prop:=PySem.W.findIn K (.ref C) f=some none
theorem NoAttr.taker{K:Fg}(n:NoAttr K C f):PySem.W.takerIn K C f=some none:=by
 unfold PySem.W.takerIn;rw[show PySem.W.findIn K (.ref C) f=some none from n];rfl
structure Meth(K:Fg)(C:Addr)(m:Str)(f:Addr):Prop where
 at_:PySem.W.findIn K (.ref C) m=some (some (.ref f))
 fn:PySem.W.isFn K (.ref f)=true
 kp:PySem.W.keepIn K (.ref f)=true
theorem dM(I:Inv X pZ σ H s)(e:H a=some (.ins C dx fs))(c:Cls X.K C)(n:NoAttr X.K C f)(l:fs.lookup f=some v)(h:∀u s',Inv X pZ σ H s'->RelV v u->Q u s'):wpAny (model X.prog X.w) A (getAttr (.ref a) f b) Q E s:=by
 obtain⟨mA,O,r,_,_,_⟩:=nZ I.hok e;obtain⟨u,hu,ru⟩:=RelO.some_of (v:=v) (o:=mA f) (by rw[<-l];exact r f);exact zHF I.kIn O (c.get f) c.hd n hu (WX ru) (h u _ (I.tok _) ru)
theorem dJ{pl:Sem Bool}(I:Inv X pZ σ H s)(e:H a=some (.ins C dx fs))(c:Cls X.K C)(k:Meth X.K C m g)(l:fs.lookup m=none)(h:Q (.ref g,[.ref a]) s):wpAny (model X.prog X.w) A (getMethod (.ref a) m pl) Q E s:=by
 obtain⟨mA,O,r,_,_,_⟩:=nZ I.hok e;have hn:mA m=none:=RelO.none_of (by rw[<-l];exact r m);exact zCG I.kIn O (c.get m) k.at_ k.fn hn h
theorem c7(I:Inv X pZ σ H s)(e:H a=some (.ins C dx fs))(c:Cls X.K C)(n:NoAttr X.K C f)(hl:fs.length<1000)(ry:RelV y u)(h:∀s',Inv X pZ σ (upd H a (.ins C dx (YX f y fs))) s'->Q () s'):wpAny (model X.prog X.w) A (setAttr (.ref a) f u) Q E s:=by
 obtain⟨mA,O,r,wi,_,ho⟩:=nZ I.hok e;have hz:(fs.map (·.1)).length<=af:=by rw[ao,qo];omega
 refine zE0 I.kIn O c.sa c.po n.taker c.hd wi hz λh' O' sb=>h _ ?_
 have hd:∃o,h'.get? dx=some o:=let ⟨o,_,_,e',_⟩:=O'.ns;⟨o,e'⟩
 refine I.write (x:=a) (e:=dx) (by rw[e];exact True.intro) (.inr ho) (λb q hb z=>(sb.2 b hb).trans z) hd ?_;refine⟨by rw[zN O.ne];exact ho,?_,O.ne,O'.obj,_,O'.ns,λg=>?_,λg hg=>?_⟩
 ·have:=bG f y fs;omega
 ·show RelO ((YX f y fs).lookup g) (if g=f then some u else mA g);rw[bD];by_cases q:g=f
  ·rw[if_pos q,if_pos q];exact ry
  ·rw[if_neg q,if_neg q];exact r g
 ·by_cases q:g=f
  ·rw[q];exact(cD f y fs).1
  ·refine(cD f y fs).2 g (wi g λz=>hg ?_);show(if g=f then some u else mA g)=none;rw[if_neg q];exact z
theorem Inv.made(I:Inv X pZ σ H s):Inv X pZ σ (upd (upd H s.heap.objs.size (.own (s.heap.objs.size+1))) (s.heap.objs.size+1) (.ins C s.heap.objs.size []))
  { s with heap:=(s.heap.push PySem.W.emptyDict).push (PySem.W.instObj C s.heap.objs.size) }:=by
 have e1:(s.heap.push PySem.W.emptyDict).get? s.heap.objs.size=some PySem.W.emptyDict:=ba s.heap rfl;have e2:((s.heap.push PySem.W.emptyDict).push (PySem.W.instObj C s.heap.objs.size)).get? (s.heap.objs.size+1)=some (PySem.W.instObj C s.heap.objs.size):=by
  have:=ba (s.heap.push PySem.W.emptyDict) (o:=PySem.W.instObj C s.heap.objs.size) rfl
  rwa [ji] at this
 have e3:(s.heap.push PySem.W.emptyDict).Ns s.heap.objs.size (λ_=>none):=⟨PySem.W.emptyDict,#[],_,e1,rfl,(λe he=>absurd he (by simp)),λ_=>rfl⟩;have I1:=I.laid (a:=s.heap.objs.size) (o:=.own (s.heap.objs.size+1)) (h':=s.heap.push PySem.W.emptyDict) (t':=s.toks) (λb u q=>ad _ q) (ah _) ⟨_,e1⟩;refine I1.laid (a:=s.heap.objs.size+1) (o:=.ins C s.heap.objs.size []) (t':=s.toks) (λb u q=>ad _ q) (mw (ji _ _)) ?_;have ne:s.heap.objs.size≠s.heap.objs.size+1:=be (om _);refine⟨by rw[zN ne,zQ],ck _,ne,e2,λ_=>none,(Heap.Ns1.of_empty e3).at λo q=>ad _ q,λ_=>True.intro,λy hy=>absurd rfl hy⟩
theorem zIP(hb:bt e f env (eval e env)=eval e env)(h:wpAny (model prog w) A (eval e env) (λo s₁=>wpAny (model prog w) A (getAttr o f true) Q E s₁) E s):wpAny (model prog w) A (eval (.Attribute e f pos) env) Q E s:=
 Attribute_any_ h (by rw[arm_eval_Attribute,hb])
noncomputable def zP3(K:Fg)(ta:TE)(f:Str):TE:=λσ H Q=>ta σ H λx H1=>∃a C dx fs v,x=.ref a/\H1 a=some (.ins C dx fs)/\Cls K C/\NoAttr K C f/\fs.lookup f=some v/\Q v H1
noncomputable def zJ7(K:Fg)(ta tv:TE)(f:Str):TS:=λD σ H=>tv σ H λy H1=>ta σ H1 λx H2=>∃a C dx fs,x=.ref a/\H2 a=some (.ins C dx fs)/\Cls K C/\NoAttr K C f/\fs.length<1000 /\
 D.nx σ (upd H2 a (.ins C dx (YX f y fs)))
def zQT(X:Cx)(op:Operator)(rd:V->V->Hp->VK->Prop):Prop:=
 ∀(pZ:List (Addr×Obj)) (s:Shared) (σ:St) (H:Hp) (x y:V) (u v:Value) (Q:VK),Inv X pZ σ H s->RelV x u->RelV y v->rd x y H Q->wpAny (model X.prog X.w) X.A (inplaceOp op u v) (EP X pZ σ Q) X.xe s
noncomputable def zE4(K:Fg)(ta tv:TE)(rd:V->V->Hp->VK->Prop)(f:Str):TS:=λD σ H=>ta σ H λx H1=>∃a C dx fs v,x=.ref a/\H1 a=some (.ins C dx fs)/\Cls K C/\NoAttr K C f/\fs.lookup f=some v /\
 tv σ H1 λy H2=>rd v y H2 λz H3=>∃dx' fs',H3 a=some (.ins C dx' fs')/\fs'.length<1000/\D.nx σ (upd H3 a (.ins C dx' (YX f z fs')))
theorem bZ(he:PE X e ta)(hb:bt e f X.env (eval e X.env)=eval e X.env):PE X (.Attribute e f pos) (zP3 X.K ta f):=by
 intro pZ s σ H Q I h;refine zIP hb (thn (he pZ s σ H _ I h) λu s1 ⟨x,H1,I1,rx,a,C,dx,fs,v,ex,ea,c,n,l,q⟩=>?_);subst ex;obtain rfl:u=Value.ref a:=rx;exact dM I1 ea c n l λu' s2 I2 ru=>⟨v,H1,I2,ru,q⟩
theorem gF(ha:PE X o ta)(hv:PE X value tv)(hs:gy value (some (.Attribute o f pos')) pos.line X.env=pure false):PS X (.Assign [.Attribute o f pos'] value pos) (zJ7 X.K ta tv f):=by
 intro pZ s σ H D I h;refine plainObj_wpAny_Assign_Attribute (thn (hv pZ s σ H _ I h) λu s1 ⟨y,H1,I1,ry,q⟩=>thn (ha pZ s1 σ H1 _ I1 q) λov s2 ⟨x,H2,I2,rx,a,C,dx,fs,ex,ea,c,n,l,q2⟩=>?_) hs;subst ex;obtain rfl:ov=Value.ref a:=rx;exact c7 I2 ea c n l ry λs3 I3=>⟨σ,_,I3,q2⟩
theorem XS(ha:PE X o ta)(hv:PE X value tv)(hop:zQT X op rd):PS X (.AugAssign (.Attribute o f tpos) op value pos) (zE4 X.K ta tv rd f):=by
 intro pZ s σ H D I h;refine wpAny_AugAssign_AttributeAny (thn (ha pZ s σ H _ I h) λov s1 ⟨x,H1,I1,rx,a,C,dx,fs,v,ex,ea,c,n,l,q⟩=>?_);subst ex;obtain rfl:ov=Value.ref a:=rx;refine dM I1 ea c n l λu s2 I2 ru=>thn (hv pZ s2 σ H1 _ I2 q) λw3 s3 ⟨y,H2,I3,ry,q3⟩=>thn (hop pZ s3 σ H2 v y u w3 _ I3 ru ry q3) λw4 s4 ⟨z,H3,I4,rz,dx',fs',ea',l',q4⟩=>?_
 exact c7 I4 ea' c n l' rz λs5 I5=>⟨σ,_,I5,q4⟩
def zRC:V->V->Hp->VK->Prop:=λx y H Q=>∃i j,x=.int i/\y=.int j/\Q (.int (i+j)) H
theorem zLO:zQT X .Add zRC:=by
 rintro pZ s σ H x y u v Q I rx ry ⟨i,j,rfl,rfl,q⟩;obtain⟨t,rfl⟩:=(show ∃t,u=Value.int i t from rx);obtain⟨t',rfl⟩:=(show ∃t',v=Value.int j t' from ry);exact PyProof.Rows.iadd_int ⟨.int (i+j),H,I.tok _,⟨_,rfl⟩,q⟩
inductive TyOf (K:Fg) (H:Hp):V->Value->Prop where
 |non:TyOf K H .non (.type "NoneType")
 |bl (x:Bool):TyOf K H (.bl x) (.type "bool")
 |int (i:Int):TyOf K H (.int i) (.type "int")
 |str (x:Str):TyOf K H (.str x) (.type "str")
 |flt (x:UInt64):TyOf K H (.flt x) (.type "float")
 |lst {a:Addr} {xs:List V} (e:H a=some (.lst xs)):TyOf K H (.ref a) (.type "list")
 |frz {a:Addr} {o:Obj} {xs:List V} (e:H a=some (.frz o (.lst xs))):TyOf K H (.ref a) (.type "list")
 |tup {a:Addr} {xs:List V} (e:H a=some (.tup xs)):TyOf K H (.ref a) (.type "tuple")
 |dK {a:Addr} {kvs:List (Key×V)} (e:H a=some (.dK kvs)):TyOf K H (.ref a) (.type "dict")
 |dT {a:Addr} {kvs:List (List Key×V)} (e:H a=some (.dT kvs)):TyOf K H (.ref a) (.type "dict")
 |ins {a C dx:Addr} {fs:List (Str×V)} (e:H a=some (.ins C dx fs)) (cl:Cls K C) (ha:PySem.W.findIn K (.ref C) "__class__" = some (some (.builtin "object.__class__")))
   (hn:PySem.W.specialIn K (.builtin "object.__class__") "__get__" = some (some (.builtin "getset_descriptor.__get__"))) (htk:PySem.W.takesIn K (.builtin "object.__class__")=some true)
   (hm:PySem.W.mroIn K C (.type "object")=some true):TyOf K H (.ref a) (.ref C)
theorem uE(I:Inv X pZ σ H s)(rx:RelV x u)(ty:TyOf X.K H x t)(e:PySem.W.kitOne X.K t c=some b)(h:∀tk,Q (.bool b) { s with toks:=tk }):wpAny (model X.prog X.w) A (call (.builtin "isinstance") [u,c]) Q E s:=by
 cases ty with
 |non=>cases (show u=Value.none from rx);exact fi PySem.W.kitx_none I.kIn True.intro e (λz=>nomatch z) h
 |bl y=>cases (show u=Value.bool y from rx);exact fi PySem.W.kitx_bool I.kIn True.intro e (λz=>nomatch z) h
 |int i=>obtain⟨t,q⟩:=(show ∃t,u=Value.int i t from rx);cases q;exact fi PySem.W.kitx_int I.kIn True.intro e (λz=>nomatch z) h
 |str y=>obtain⟨t,q⟩:=(show ∃t,u=Value.str y t from rx);cases q;exact fi PySem.W.kitx_str I.kIn True.intro e (λz=>nomatch z) h
 |flt y=>obtain⟨t,q⟩:=(show ∃t,u=Value.float y t from rx);cases q;exact fi PySem.W.kitx_float I.kIn True.intro e (λz=>nomatch z) h
 |@lst a xs ea=>
  cases (show u=Value.ref a from rx);obtain⟨_,_,n,_,h1⟩:=(show ObjOk X.prog X.w H s.heap a (.lst xs) from I.hok a _ ea);exact fi rn I.kIn ⟨_,h1,rfl⟩ e (λz=>nomatch z) h
 |@frz a ob xs ea=>
  cases (show u=Value.ref a from rx);obtain⟨_,_,_,n,_,h1⟩:=(show ObjOk X.prog X.w H s.heap a (.frz ob (.lst xs)) from I.hok a _ ea);exact fi rn I.kIn ⟨_,h1,rfl⟩ e (λz=>nomatch z) h
 |@tup a xs ea=>
  cases (show u=Value.ref a from rx);obtain⟨_,_,_,p⟩:=(show ObjOk X.prog X.w H s.heap a (.tup xs) from I.hok a _ ea);obtain⟨o,h1,h2,_⟩:=p;exact fi PySem.W.kitx_tuple I.kIn ⟨o,h1,h2⟩ e (λz=>nomatch z) h
 |@dK a kvs ea=>
  cases (show u=Value.ref a from rx);obtain⟨_,_,vs,_,p⟩:=(show ObjOk X.prog X.w H s.heap a (.dK kvs) from I.hok a _ ea);obtain⟨o,es,ep,h1,h2,_⟩:=p;exact fi PySem.W.kitx_dict I.kIn ⟨o,h1,h2.1⟩ e (λz=>nomatch z) h
 |@dT a kvs ea=>
  cases (show u=Value.ref a from rx);obtain⟨_,_,xs,_,o,es,ep,h1,h2,_⟩:=(show ObjOk X.prog X.w H s.heap a (.dT kvs) from I.hok a _ ea);exact fi PySem.W.kitx_dict I.kIn ⟨o,h1,h2.1⟩ e (λz=>nomatch z) h
 |@ins a C dx fs ea cl ha hn htk hm=>
  cases (show u=Value.ref a from rx);obtain⟨mA,O,_⟩:=nZ I.hok ea;obtain⟨od,J,_⟩:=O.look;exact fi (PySem.W.kitx_own (cl.get _) cl.hd ha hn htk hm) I.kIn J e (λz=>nomatch z) h
end L2
namespace L2
open PySem PySem.Spec PyProof.Rows
structure Room(k:Nat)(A:Around):Prop where
 hd:A.handled=none
 dp:A.depth+3*k+5<recursionLimit
 un:A.units+16*k+200<cLine
 gd:A.guards=some []
theorem Room.mono(r:Room k A)(h:j<=k):Room j A:=⟨r.hd,by have:=r.dp;omega,by have:=r.un;omega,r.gd⟩
theorem Room.deeper(r:Room (k+1) A)(env:Env):Room k (A.deeper env):=
 ⟨r.hd,by have:=r.dp;show A.depth+1+3*k+5<_;omega,by have:=r.un;show A.units+3+16*k+200<_;omega,r.gd⟩
theorem rF{A:Around}{C:Addr}{us:List Value}{kw:List (Str×Value)}:(A.under (.builtin "type.__call__" ⟨.ref C::us,kw⟩)).depth=A.depth+1:=by
 first|rfl|simp[Around.under,Code.weight,Code.isCreation,Code.isGuard,Code.isCaller,Code.frames,Code.isFrame,guardIds]
theorem rD{A:Around}{C:Addr}{us:List Value}{kw:List (Str×Value)}:(A.under (.builtin "type.__call__" ⟨.ref C::us,kw⟩)).units=A.units+1:=by
 first|rfl|simp[Around.under,Code.cUnits,Code.frames,Code.isFrame]
theorem Room.make(r:Room (k+1) A)(C:Addr)(us:List Value)(kw:List (Str×Value)):Room k (A.under (.builtin "type.__call__" ⟨.ref C::us,kw⟩)):=
 ⟨r.hd,by have:=r.dp;rw[rF];omega,by have:=r.un;rw[rD];omega,by first|exact r.gd|(show PySem.pushGuards _ A.guards=_;rw[r.gd];rfl)⟩
theorem Room.depth(r:Room k A):A.depth<recursionLimit:=by have:=r.dp;omega
theorem Room.units0(r:Room k A):A.units<cLine:=by have:=r.un;omega
noncomputable def zET:TA:=λ_ H Q=>Q [] H
noncomputable def mQ(ta:TE)(tr:TA):TA:=λσ H Q=>ta σ H λx H1=>tr σ H1 λxs H2=>Q (x::xs) H2
theorem xF:PA X [] zET:=λ_ _ _ _ H Q I h=>nr ⟨[],H,I,.nil,h⟩
theorem yC(ha:PE X e te)(hr:PA X es t)(hs:ae (e::es) X.env=(false,eval e X.env)::ae es X.env:=by rfl):PA X (e::es) (mQ te t):=by
 intro pos pZ s σ H Q I h;rw[hs];show wpAny _ _ (spliced ((false,eval e X.env)::dl pos (ae es X.env))) _ _ s;refine ki (thn (ha pZ s σ H _ I h) λu s1 ⟨x,H1,I1,r1,q1⟩=>?_);exact thn (hr pos pZ s1 σ H1 _ I1 q1) λus s2 ⟨xs,H2,I2,r2,q2⟩=>⟨x::xs,H2,I2,.cons r1 r2,q2⟩
noncomputable def zQ1(t:TA):TE:=λσ H Q=>t σ H λxs H1=>xs.length<=af/\∀p,H1 p=none->Q (.ref p) (upd H1 p (.tup xs))
noncomputable def zPL(t:TA):TE:=λσ H Q=>t σ H λxs H1=>xs.length<=af/\∀p,H1 p=none->Q (.ref p) (upd H1 p (.lst xs))
theorem zFS{x1}(h:PA X es t):PE X (.Tuple es x1 pos) (zQ1 t):=by
 intro pZ s σ H Q I hq;refine wpAny_Tuple_spliced (thn (h pos pZ s σ H _ I hq) λus s1 ⟨xs,H1,I1,r,z,q⟩=>⟨by rw[<-r.length];exact z,?_⟩);have hf:H1 s1.heap.objs.size=none:=I1.hok.fresh (ah _);refine⟨.ref s1.heap.objs.size,upd H1 s1.heap.objs.size (.tup xs),I1.laid (t':=s1.toks) (λb u e=>ad _ e) (ah _) ?_,rfl,q _ hf⟩;exact⟨z,us,r,⟨_,ba _ rfl,rfl,_,rfl⟩⟩
theorem zBH(h:PA X es t):PE X (.List es pos) (zPL t):=by
 intro pZ s σ H Q I hq;refine wpAny_List_spliced (thn (h pos pZ s σ H _ I hq) λus s1 ⟨xs,H1,I1,r,z,q⟩=>⟨by rw[<-r.length];exact z,?_⟩);have hf:H1 s1.heap.objs.size=none:=I1.hok.fresh (ah _);refine⟨.ref s1.heap.objs.size,upd H1 s1.heap.objs.size (.lst xs),I1.laid (t':=s1.toks) (λb u e=>ad _ e) (ah _) ?_,rfl,q _ hf⟩;exact⟨z,us,0,r,ba _ rfl⟩
abbrev Sp:=List V->Hp->VK->XK->Prop
abbrev CXT:=List Env->Hp->Shared->XK->Value->Shared->Prop
structure Env0(P:Program)(w:World)(K:Fg)(mg:Str->Option Value)(base:Heap)(A:Around)(outer:List Env)(s:Shared)(H:Hp):Prop where
 frames:A.frames=some outer
 mod:Mod K mg base
 bs:∀b o,base.get? b=some o->s.heap.get? b=some o/\H b=none
 bsz:base.objs.size<=s.heap.objs.size
 funs:s.heap.FunFrames base outer
 frf:FrF K outer H
 hok:HOk P w H s.heap
 bare:AllBare s.gens
def CE(outer:List Env)(P:Program)(w:World)(H:Hp)(s:Shared)(Q:VK)(u:Value)(s':Shared):Prop:=
 ∃v H',s'.os=s.os/\AllBare s'.gens/\Un (frs outer) [] H H' s.heap s'.heap/\HOk P w H' s'.heap/\RelV v u/\Q v H'
def CR(CX:CXT)(outer:List Env)(P:Program)(w:World)(H:Hp)(s:Shared)(Q:VK)(E:XK)(r:Result)(s':Shared):Prop:=
 match r with
 |.ok (.ret u)=>CE outer P w H s Q u s'
 |.ok _=>False
 |.error e=>CX outer H s E e s'
structure FnOk(P:Program)(w:World)(K:Fg)(mg:Str->Option Value)(base:Heap)(CX:CXT)(k:Nat)(f:Addr)(fd:FuncData)(ps:List Str)(sp:Sp):Prop where
 len:∀vs H Q E,sp vs H Q E->vs.length=ps.length
 run:∀(A:Around) (outer:List Env) (s:Shared) (H:Hp) (args:Args) (us:List Value) (vs:List V) (Q:VK) (E:XK),Room k A->Env0 P w K mg base A outer s H->BindsTo s fd args (ps.zip us)->Vals vs us->sp vs H Q E ->
  codeAny (model P w) A (.call (.ref f) args) (CR CX outer P w H s Q E) s
theorem FnOk.imp{K:Fg}(F:FnOk P w K mg base CX k f fd ps sp)(h:∀vs H Q E,sp' vs H Q E->sp vs H Q E):FnOk P w K mg base CX k f fd ps sp':=
 ⟨λvs H Q E q=>F.len vs H Q E (h _ _ _ _ q),λA outer s H args us vs Q E hr he hb hv hs=>F.run A outer s H args us vs Q E hr he hb hv (h _ _ _ _ hs)⟩
theorem Env0.make{K:Fg}(e:Env0 P w K mg base A outer s H)(C:Addr)(us:List Value)(kw:List (Str×Value)):Env0 P w K mg base (A.under (.builtin "type.__call__" ⟨.ref C::us,kw⟩)) outer s H:=⟨by first|exact e.frames|(simpa [Around.under,Code.envs,Code.isFrame,pushEnvs] using e.frames),e.mod,e.bs,e.bsz,e.funs,e.frf,e.hok,e.bare⟩
theorem Inv.env0(I:Inv X pZ σ H s):Env0 X.prog X.w X.K X.mg X.base X.A X.stack s H:=
 ⟨I.ok.frames,I.ok.mod,I.bs,bq I.ok.bsz I.sz,I.stack,⟨I.stkFree,I.tabIn⟩,I.hok,I.bare⟩
theorem Inv.after(I:Inv X pZ σ H s)(h:CE X.stack X.prog X.w H s Q u s'):EP X pZ σ Q u s':=by
 obtain⟨v,H',os,bare,un,hok,r,q⟩:=h;obtain⟨hh,g,d,t,os'⟩:=s';obtain rfl:os'=s.os:=os;exact⟨v,H',I.call (h':=hh) (g':=g) (d':=d) (t':=t) (ch:=[]) un hok bare (λb z=>absurd z (by simp)),r,q⟩
noncomputable def zI3(sp:Sp)(dvs:List V)(E:XK)(t:TA):TE:=λσ H Q=>t σ H λvs H1=>sp (vs++dvs) H1 Q E
noncomputable def zMD(C:Addr)(m:Str)(sp:Sp)(dvs:List V)(E:XK)(ta:TE)(t:TA):TE:=λσ H Q=>ta σ H λx H1=>∃a dx fs,x=.ref a/\H1 a=some (.ins C dx fs)/\fs.lookup m=none /\
 t σ H1 λvs H2=>sp (x::(vs++dvs)) H2 Q E
noncomputable def zN3(C:Addr)(sp:Sp)(dvs:List V)(E:XK)(t:TA):TE:=λσ H Q=>t σ H λvs H1=>∀x dx,H1 x=none->H1 dx=none->dx≠x ->
 sp (.ref x::(vs++dvs)) (upd (upd H1 dx (.own x)) x (.ins C dx [])) (λv H2=>v=.non/\Q (.ref x) H2) E
def Binds(K:Fg)(fd:FuncData)(ps:List Str)(ds:List Value):Prop:=
 ∀(s:Shared) (us:List Value),K.In s.heap->(us++ds).length=ps.length->BindsTo s fd ⟨us,[]⟩ (ps.zip (us++ds))
theorem Binds.all{K:Fg}(h:∀us:List Value,us.length=ps.length->bindArgs fd ⟨us,[]⟩=pure (ps.zip us)):Binds K fd ps []:=λs us _ hl=>by
 rw[gn] at hl ⊢;exact .of_eq (h us hl)
def cO(CX:CXT)(X:Cx)(E:XK):Prop:=∀(pZ:List (Addr×Obj)) (σ:St) (H:Hp) (s:Shared) (e:Value) (s':Shared),Inv X pZ σ H s->CX X.stack H s E e s'->X.xe e s'
theorem pV(F:FnOk X.prog X.w X.K X.mg X.base CX k f fd ps sp)(hr:Room k X.A)(hb:Binds X.K fd ps ds)(hd:Vals dvs ds)(hx:cO CX X E)(I:Inv X pZ σ H s)(r:Vals vs us)(h:sp (vs++dvs) H Q E):wpAny (model X.prog X.w) X.A (call (.ref f) us) (EP X pZ σ Q) X.xe s:=by
 have r2:Vals (vs++dvs) (us++ds):=r.append hd;have hl:(us++ds).length=ps.length:=by rw[<-r2.length];exact F.len _ _ _ _ h
 refine wpAny_call (rm (F.run X.A X.stack s H ⟨us,[]⟩ (us++ds) (vs++dvs) Q E hr I.env0 (hb s us I.kIn hl) r2 h) λr s' hq=>?_);cases r with
 |error e=>exact hx pZ σ H s e s' I hq
 |ok fl=>
  cases fl with
  |ret u=>exact I.after hq
  |next=>exact False.elim hq
  |brk=>exact False.elim hq
  |cont=>exact False.elim hq
theorem v6(F:FnOk X.prog X.w X.K X.mg X.base CX k f fd ps sp)(hr:Room k X.A)(hg:Gl X x)(hm:X.mg x=some (.ref f))(hk:PySem.W.keepIn X.K (.ref f)=true)(hb:Binds X.K fd ps ds)(hd:Vals dvs ds)(hx:cO CX X E)(ha:PA X (e::es) t)(hdb:(x == ("__debug__" : Str))=false:=by decide)(he:ae (e::es) X.env=(false,eval e X.env)::ae es X.env:=by rfl)(hpl:(dl pos (ae es X.env)).any (·.1)=false:=by rfl):PE X (.Call (.Name x p) (e::es) [] pos) (zI3 sp dvs E t):=by
 intro pZ s σ H Q I h;refine mz (nU I hg hm ?_ hdb);refine kh (h₀:=X.base) I.ok.mod.kin hk (thn (ha pos pZ s σ H _ I h) λus s1 ⟨vs,H1,I1,r,q⟩=>⟨I1.kIn,?_⟩) he hpl;exact pV F hr hb hd hx I1 r q
theorem zFV{pl:Sem Bool}(he:PE X o ta)(c:Cls X.K C)(hm:Meth X.K C m f)(F:FnOk X.prog X.w X.K X.mg X.base CX k f fd ps sp)(hr:Room k X.A)(hb:Binds X.K fd ps ds)(hd:Vals dvs ds)(hx:cO CX X E)(ha:PA X (e::es) t)(hst:ae (e::es) X.env=(false,eval e X.env)::ae es X.env:=by rfl)(hpl:(dl pos (ae es X.env)).any (·.1)=false:=by rfl)(ht:eval (.Call (.Attribute o m apos) (e::es) [] pos) X.env=(do
   let ov <- eval o X.env
   standAt apos.atName
   let (f,first) <- holding [ov] (getMethod ov m pl)
   callWith pos f first (dl pos (ae (e::es) X.env)) (ja pos (gh [] X.env))):=by rfl):PE X (.Call (.Attribute o m apos) (e::es) [] pos) (zMD C m sp dvs E ta t):=by
 intro pZ s σ H Q I h;refine qg (pl:=pl) (thn (he pZ s σ H _ I h) λu s1 ⟨x,H1,I1,rx,a,dx,fs,ex,ea,l,q⟩=>?_) ht;subst ex;obtain rfl:u=Value.ref a:=rx;refine dJ I1 ea c hm l ?_;refine kh (first:=[.ref a]) (h₀:=X.base) I.ok.mod.kin hm.kp (thn (ha pos pZ s1 σ H1 _ I1 q) λus s2 ⟨vs,H2,I2,r,q2⟩=>⟨I2.kIn,?_⟩) hst hpl;exact pV (us:=.ref a::us) (vs:=.ref a::vs) F hr hb hd hx I2 (.cons rfl r) q2
theorem zBG{pl:Sem Bool}(he:PE X o ta)(c:Cls X.K C)(hm:Meth X.K C m f)(F:FnOk X.prog X.w X.K X.mg X.base CX k f fd ps sp)(hr:Room k X.A)(hb:Binds X.K fd ps ds)(hd:Vals dvs ds)(hx:cO CX X E)(ht:eval (.Call (.Attribute o m apos) [] [] pos) X.env=(do
   let ov <- eval o X.env
   standAt apos.atName
   let (f,first) <- holding [ov] (getMethod ov m pl)
   callWith pos f first (dl pos (ae [] X.env)) (ja pos (gh [] X.env))):=by rfl):PE X (.Call (.Attribute o m apos) [] [] pos) (zMD C m sp dvs E ta zET):=by
 intro pZ s σ H Q I h;refine qg (pl:=pl) (thn (he pZ s σ H _ I h) λu s1 ⟨x,H1,I1,rx,a,dx,fs,ex,ea,l,q⟩=>?_) ht;subst ex;obtain rfl:u=Value.ref a:=rx;refine dJ I1 ea c hm l ?_;exact PySem.W.callWith_K0 (first:=[.ref a]) I1.kIn hm.kp (pV (us:=[.ref a]) (vs:=[.ref a]) F hr hb hd hx I1 (.cons rfl .nil) q)
structure Mk(K:Fg)(C f:Addr):Prop where
 makes:PySem.W.makesIn K C=true
 init:PySem.W.findIn K (.ref C) "__init__" = some (some (.ref f))
 fn:PySem.W.isFn K (.ref f)=true
 kp:PySem.W.keepIn K (.ref C)=true
theorem zA2(M:Mk X.K C f)(F:FnOk X.prog X.w X.K X.mg X.base CX k f fd ps sp)(hr:Room (k+1) X.A)(hb:Binds X.K fd ps ds)(hd:Vals dvs ds)(hx:cO CX X E)(I:Inv X pZ σ H s)(r:Vals vs us)(h:∀x dx,H x=none->H dx=none->dx≠x->sp (.ref x::(vs++dvs)) (upd (upd H dx (.own x)) x (.ins C dx [])) (λv H2=>v=.non/\Q (.ref x) H2) E):wpAny (model X.prog X.w) X.A (call (.ref C) us) (EP X pZ σ Q) X.xe s:=by
 have hq:=h (s.heap.objs.size+1) s.heap.objs.size (I.hok.fresh (Nat.le_succ _)) (I.hok.fresh (ah _)) (be (om _));have I2:=Inv.made (C:=C) I;have r2:Vals (V.ref (s.heap.objs.size+1)::(vs++dvs)) (Value.ref (s.heap.objs.size+1)::(us++ds)):=.cons rfl (r.append hd);have hl:(Value.ref (s.heap.objs.size+1)::us++ds).length=ps.length:=by
  have e:=r2.length;rw[F.len _ _ _ _ hq] at e;exact e.symm
 refine wpAny_call (zB3 (f:=f) I.kIn M.makes M.init (beq_iff_eq.mp M.fn) (rm (F.run _ X.stack _ _ ⟨Value.ref (s.heap.objs.size+1)::us,[]⟩ (Value.ref (s.heap.objs.size+1)::(us++ds)) _ _ E (hr.make C us [])
  (I2.env0.make C us []) (hb _ (Value.ref (s.heap.objs.size+1)::us) I2.kIn hl) r2 hq) λr s' hq'=>?_))
 cases r with
 |error e=>exact hx pZ σ _ _ e s' I2 hq'
 |ok fl=>
  cases fl with
  |ret u=>
   obtain⟨v,H',I3,rv,ev,q3⟩:=I2.after hq';subst ev;exact⟨rv,⟨V.ref (s.heap.objs.size+1),H',I3,rfl,q3⟩⟩
  |next=>exact False.elim hq'
  |brk=>exact False.elim hq'
  |cont=>exact False.elim hq'
theorem zFW(M:Mk X.K C f)(F:FnOk X.prog X.w X.K X.mg X.base CX k f fd ps sp)(hr:Room (k+1) X.A)(hg:Gl X x)(hm:X.mg x=some (.ref C))(hb:Binds X.K fd ps ds)(hd:Vals dvs ds)(hx:cO CX X E)(ha:PA X (e::es) t)(hdb:(x == ("__debug__" : Str))=false:=by decide)(he:ae (e::es) X.env=(false,eval e X.env)::ae es X.env:=by rfl)(hpl:(dl pos (ae es X.env)).any (·.1)=false:=by rfl):PE X (.Call (.Name x p) (e::es) [] pos) (zN3 C sp dvs E t):=by
 intro pZ s σ H Q I h;refine mz (nU I hg hm ?_ hdb);refine kh (h₀:=X.base) I.ok.mod.kin M.kp (thn (ha pos pZ s σ H _ I h) λus s1 ⟨vs,H1,I1,r,q⟩=>⟨I1.kIn,?_⟩) he hpl;exact zA2 M F hr hb hd hx I1 r q
structure FnScope(N P:List Str)(sc:Scope):Prop where
 kind:sc.kind=.function
 co:sc.isCoroutine=false
 gen:sc.isGenerator=false
 nd:N.Nodup
 pre:N.take P.length=P
 par:∀x∈P,sc.names.lookup x=some .local\/sc.names.lookup x=some .cell
 nofree:∀y∈sc.names,y.2≠.free
theorem oV{kindOf:Str->Option NameKind}:∀{binds:List (Str×Value)} {m:Str->Option Value},(∀v,(x,v)∉binds)->bindL kindOf binds m x=m x
 |[],_,_=>rfl
 |(n,v)::r,m,h=>by
  unfold bindL;rw[oV λw hw=>h w (bx _ hw)];split
  ·have:x≠n:=by rintro rfl;exact h v jk
   simp[this]
  ·rfl
theorem oX{kindOf:Str->Option NameKind}:∀{binds:List (Str×Value)} {m:Str->Option Value},(∀v,(x,v)∉binds)->bindC kindOf binds m x=m x
 |[],_,_=>rfl
 |(n,v)::r,m,h=>by
  unfold bindC;rw[oX λw hw=>h w (bx _ hw)];split
  ·rfl
  ·have:x≠n:=by rintro rfl;exact h v jk
   simp[this]
theorem oW{kindOf:Str->Option NameKind}:∀{P:List Str} {vs:List Value} {i:Nat} {m:Str->Option Value},P.Nodup->P[i]?=some x->vs[i]?=some v->kindOf x=some .local ->
  bindL kindOf (P.zip vs) m x=some v
 |[],_,_,_,_,h,_,_=>by simp at h
 |_::_,[],_,_,_,_,h,_=>by simp at h
 |p::P,w::vs,0,m,nd,h1,h2,hk=>by
  simp at h1 h2;subst h1;subst h2;show bindL kindOf ((p,w)::P.zip vs) m p=_;unfold bindL;rw[oV λv hv=>(dg.mp nd).1 (si hv).1,if_pos hk];simp
 |p::P,w::vs,i+1,m,nd,h1,h2,hk=>by
  show bindL kindOf ((p,w)::P.zip vs) m x=_;unfold bindL;exact oW (i:=i) (dg.mp nd).2 (by simpa using h1) (by simpa using h2) hk
theorem oY{kindOf:Str->Option NameKind}:∀{P:List Str} {vs:List Value} {i:Nat} {m:Str->Option Value},P.Nodup->P[i]?=some x->vs[i]?=some v->kindOf x≠some .local ->
  bindC kindOf (P.zip vs) m x=some v
 |[],_,_,_,_,h,_,_=>by simp at h
 |_::_,[],_,_,_,_,h,_=>by simp at h
 |p::P,w::vs,0,m,nd,h1,h2,hk=>by
  simp at h1 h2;subst h1;subst h2;show bindC kindOf ((p,w)::P.zip vs) m p=_;unfold bindC;rw[oX λv hv=>(dg.mp nd).1 (si hv).1,if_neg hk];simp
 |p::P,w::vs,i+1,m,nd,h1,h2,hk=>by
  show bindC kindOf ((p,w)::P.zip vs) m x=_;unfold bindC;exact oY (i:=i) (dg.mp nd).2 (by simpa using h1) (by simpa using h2) hk
noncomputable def start(N:List Str)(vs:List V):St:=vs.map some++List.replicate (N.length-vs.length) none
noncomputable def zIZ(CX:CXT)(P:Program)(w:World)(K:Fg)(mg:Str->Option Value)(base:Heap)(N:List Str)(qual:Str)(scope:Scope)(f:Addr)(cd:Value)(A:Around)(outer:List Env)(s:Shared)(H:Hp)(E:XK):Cx where
 prog:=P
 w:=w
 K:=K
 mg:=mg
 base:=base
 A:=A.deeper (envOfC qual scope s.heap.objs.size f cd)
 N:=N
 s₀:=s
 H₀:=H
 env:=envOfC qual scope s.heap.objs.size f cd
 outer:=outer
 stack:=envOfC qual scope s.heap.objs.size f cd::outer
 ex:=[]
 calm:=true
 fn:=λ_=>true
 pn:=[]
 xe:=λe s'=>wpAny (model P w) (A.deeper (envOfC qual scope s.heap.objs.size f cd)) (leaving (envOfC qual scope s.heap.objs.size f cd) e) (λ_ s''=>CX outer H s E e s'') (λe' s''=>CX outer H s E e' s'') s'
theorem YO{sc:Scope}{n:Nat}{x:Str}(h:sc.names.lookup x=some .cell):∃c,(cellsFrom n sc.names []).lookup x=some c:=by
 have q:=vc sc.names n [] (.inl h);exact uh.mp q
theorem WV{K:Fg}(S:FnScope N ps scope)(hd:A.handled=none)(e0:Env0 P w K mg base A outer s H)(hl:vs.length=ps.length)(r:Vals vs us)(x:InCallC s s.heap.objs.size (bindL (envOfC qual scope s.heap.objs.size f cd).kindOf (ps.zip us) λ_=>none) (cellsFrom (s.heap.objs.size+1) scope.names []) (bindC (envOfC qual scope s.heap.objs.size f cd).kindOf (ps.zip us) λ_=>none) s1):Inv (zIZ CX P w K mg base N qual scope f cd A outer s H E) [] (start N vs) H s1:=by
 have hpl:ps.length<=N.length:=by have:=congrArg List.length S.pre;rw[ir] at this;omega
 obtain⟨h1,tk,rfl,hk⟩:=x.done;have noA:∀b:Addr,b∉(zIZ CX P w K mg base N qual scope f cd A outer s H E).ex:=λb z=>absurd (show b∈([]:List Addr) from z) (by simp)
 refine⟨⟨e0.mod,S.kind,rfl,rfl,ah _,λy z c h1 h2=>?_,λy hy=>?_,λy c _ h=>?_,λ_=>hd,Around.frames_deeper e0.frames,.inr ⟨rfl,rfl⟩,λb z=>absurd z (noA b),e0.bs,e0.bsz,λb _ _=>noA b,λb z=>absurd z (noA b),e0.funs,e0.frf⟩,
  rfl,e0.bare,Un.kept hk,⟨_,x.toInCall.ns,λi y v h1 h2 h3=>?_⟩,λy c h=>⟨_,x.cell y c h⟩,e0.hok.fresh (ah _),λy c h=>?_,λp hp=>absurd (show p∈([]:List (Addr×Obj)) from hp) (by simp),e0.hok.kept hk,?_⟩
 ·exact name_of_addr x.apart (gk h1) (gk h2)
 ·have hy:scope.names.lookup y=some .cell\/scope.names.lookup y=some .free:=hy;rcases hy with hy|hy
  ·exact YO hy
  ·exact absurd rfl (S.nofree _ (gk hy))
 ·exact kq (x.above y c (gk h))
 ·have hi:i<vs.length:=by
   unfold start at h2;by_cases hi:i<vs.length
   ·exact hi
   ·rw[bf (by simpa using hi)] at h2;rw[cf] at h2;split at h2<;>cases h2
  have ha:vs[i]?=some v:=by
   unfold start at h2;rw[ax (by simpa using hi),ay] at h2;cases e:vs[i]? with
   |none=>rw[e] at h2;cases h2
   |some a=>rw[e] at h2;cases h2;rfl
  obtain⟨u,hu,rv⟩:=r.get ha;have hp:ps[i]?=some y:=by
   rw[<-S.pre,nu (by omega)];exact h1
  have ndP:ps.Nodup:=by rw[<-S.pre];exact S.nd.sublist (List.take_sublist _ _)
  refine⟨u,rv,?_⟩;rcases S.par y (lu hp) with k|k
  ·exact .inl ⟨k,oW ndP hp hu k⟩
  ·obtain⟨c,e⟩:=YO (n:=s.heap.objs.size+1) k;refine .inr ⟨.inl k,c,e,?_⟩;have q:=x.cell y c e;rw[oY ndP hp hu (by show scope.names.lookup y≠_;rw[k];decide)] at q;exact q
 ·exact e0.hok.fresh (kq (x.above y c (gk h)))
 ·unfold start;show _=N.length;rw[bv,ao,vt];omega
theorem zM6{K:Fg}{kV:Value}(lk:K.lookup f=some ⟨oc,od,.func (PySem.W.fnOf name qual params body scope dV kV doc pm an cdv ct),osl⟩)(hcd:PySem.W.codeIn K cdv qual=true)(S:FnScope N ps scope)(len:∀vs H Q E,sp vs H Q E->vs.length=ps.length)(hbody:∀(A:Around) (outer:List Env) (s:Shared) (H:Hp) (vs:List V) (Q:VK) (E:XK),Room k (A.deeper (envOfC qual scope s.heap.objs.size f cdv))->sp vs H Q E ->
   ∃t,PSs (zIZ CX P w K mg base N qual scope f cdv A outer s H E) body t/\t { nx:=λ_ H'=>Q .non H',rt:=Q } (start N vs) H):FnOk P w K mg base CX (k+1) f (PySem.W.fnOf name qual params body scope dV kV doc pm an cdv ct) ps sp:=by
 refine⟨len,λA outer s H args us vs Q E hr e0 hb r hsp=>?_⟩;have hl:=len _ _ _ _ hsp;have KX:K.In s.heap:=e0.mod.kin.keeps λb o e=>(e0.bs b o e).1
 have lim:s.heap.NoLimit:=e0.mod.nolimit.keeps λb o e=>(e0.bs b o e).1
 have hkind:∀y∈ps.zip us,scope.names.lookup y.1=some .local\/(scope.names.lookup y.1=some .cell/\((cellsFrom (s.heap.objs.size+1) scope.names []).lookup y.1).isSome=true):=λ⟨n,v⟩ hy=>by
  rcases S.par n (si hy).1 with q|q
  ·exact .inl q
  ·exact .inr ⟨q,vc _ _ _ (.inl q)⟩
 refine codeAny_call_function hr.depth (KX _ _ lk) rfl S.co S.gen rfl (PySem.W.codeRec_of KX hcd) (hb _ _ _ _ ?_);refine wpAny_newFunctionEnv_cells S.kind hkind λenv he s1 x=>?_
 subst he;refine⟨lim.keeps x.toInCall.keep,codeAny_func ?_⟩;obtain⟨t,ht,hq⟩:=hbody A outer s H vs Q E (hr.deeper _) hsp;have I:Inv (zIZ CX P w K mg base N qual scope f cdv A outer s H E) [] (start N vs) H s1:=WV S hr.hd e0 hl r x;refine gx (ht [] s1 (start N vs) H _ I hq) (λfl s' hs=>?_) λe s' hs=>hs
 have fin:∀{σ':St} {H':Hp} {v:V} {u:Value},Inv (zIZ CX P w K mg base N qual scope f cdv A outer s H E) [] σ' H' s'->RelV v u->Q v H'->CE outer P w H s Q u s':=
  λ{σ' H' v u} J rv q=>⟨v,H',J.os,J.bare,J.base,J.hok,rv,q⟩
 cases fl with
 |ret u=>
  obtain⟨v,σ',H',J,rv,q⟩:=hs;exact fin J rv q
 |next=>
  obtain⟨σ',H',J,q⟩:=hs;exact fin (v:=V.non) (u:=Value.none) J rfl q
 |brk=>
  obtain⟨_,_,_,q⟩:=hs;exact False.elim q
 |cont=>
  obtain⟨_,_,_,q⟩:=hs;exact False.elim q
end L2
namespace L2
open PySem PySem.Spec PyProof.Rows
section
variable{id:String}
noncomputable def tCB(r:List V->Hp->VK->Prop)(t:TA):TE:=λσ H Q=>t σ H λvs H1=>r vs H1 Q
theorem j5(hc:CallR X (.builtin id) r)(hg:Gl X x)(hm:X.mg x=none)(hv:bootBuiltins x=some (.builtin id))(ha:PA X (e::es) t)(hn:x ≠ "__name__" := by decide)(hdb:(x == ("__debug__" : Str))=false:=by decide)(he:ae (e::es) X.env=(false,eval e X.env)::ae es X.env:=by rfl)(hpl:(dl pos (ae es X.env)).any (·.1)=false:=by rfl):PE X (.Call (.Name x p) (e::es) [] pos) (tCB r t):=by
 intro pZ s σ H Q I h;refine mz (uD I hg hm hv ?_ hn hdb);exact PyProof.Rows.callWith_builtin1 (thn (ha pos pZ s σ H _ I h) λus s1 ⟨vs,H1,I1,r1,q1⟩=>hc pZ s1 σ H1 vs us Q I1 r1 q1) he hpl
theorem v5(hc:CallR X (.type T) r)(hg:Gl X x)(hm:X.mg x=none)(hv:bootBuiltins x=some (.type T))(ha:PA X (e::es) t)(hn:x ≠ "__name__" := by decide)(hdb:(x == ("__debug__" : Str))=false:=by decide)(he:ae (e::es) X.env=(false,eval e X.env)::ae es X.env:=by rfl)(hpl:(dl pos (ae es X.env)).any (·.1)=false:=by rfl):PE X (.Call (.Name x p) (e::es) [] pos) (tCB r t):=by
 intro pZ s σ H Q I h;refine mz (uD I hg hm hv ?_ hn hdb);exact dq (thn (ha pos pZ s σ H _ I h) λus s1 ⟨vs,H1,I1,r1,q1⟩=>hc pZ s1 σ H1 vs us Q I1 r1 q1) he hpl
end
end L2
namespace HT
open PySem PyProof.Rows
section
open PySem.SeqAt
open PySem.AutoSeq1 (wpAny_loadPart')
open PySem.MeetsSeq PySem.MeetsSeq2 PySem.MeetsSeq3
end
section
variable{prog:Program}{w:World}{A:Around}{E:Value->Shared->Prop}{s:Shared}
theorem cat_tup(ht:IsTup s.heap t vs.toArray)(hb:IsTup s.heap b ws.toArray)(hv:vs≠[])(h1:ws=[]->Q (.ref t) s)(h2:ws≠[]->Q (.ref s.heap.objs.size) { s with heap:=s.heap.push { cls:=.type "tuple",data:=.seq (vs++ws).toArray } })(hsz:vs.length+ws.length<=af):wpAny (model prog w) A (binaryOp .Add (.ref t) (.ref b)) Q E s:=by
 obtain⟨⟨cls,dd,data,sl⟩,ho,hc,n,hd⟩:=id ht;obtain⟨⟨cls2,dd2,data2,sl2⟩,ho2,hc2,n2,hd2⟩:=id hb;simp only at hc hd hc2 hd2;subst hc hd hc2 hd2;have e:vs.toArray++ws.toArray=(vs++ws).toArray:=by simp
 by_cases hw:ws=[]
 ·exact vb ⟨_,ho,rfl⟩ ⟨_,ho2,rfl⟩ noFill_tuple_add seq_tuple_add vf uq (ug _ _)
   (tuple_addW1 t b vs.toArray ws.toArray n n2 dd dd2 sl sl2 (by simpa using hv) (by simp[hw])) ⟨ho,ho2,h1 hw⟩
 ·refine vb ⟨_,ho,rfl⟩ ⟨_,ho2,rfl⟩ noFill_tuple_add seq_tuple_add vf uq (ug _ _)
   (tuple_addW2 t b vs.toArray ws.toArray n n2 dd dd2 sl sl2 (by simpa using hv) (by simpa using hw) (by rw[ak,ak];exact hsz)) ⟨ho,ho2,?_⟩
  rw[e];exact h2 hw
noncomputable def sIx(n d:Nat):Option Int->Nat
 |none=>d
 |some v=>if v<0 then (v+(n:Int)).toNat else min v.toNat n
theorem sIx_none(n d:Nat):sIx n d none=d:=rfl
theorem sIx_nat(n d k:Nat):sIx n d (some (k:Int))=min k n:=by
 show(if (k:Int)<0 then ((k:Int)+(n:Int)).toNat else min (k:Int).toNat n)=min k n;rw[if_neg (by omega),kz]
theorem sIx_le(n d:Nat)(hd:d<=n)(o:Option Int):sIx n d o<=n:=by
 cases o with
 |none=>exact hd
 |some v=>
  show(if v<0 then (v+(n:Int)).toNat else min v.toNat n)<=n;by_cases hv:v<0
  ·rw[if_pos hv];omega
  ·rw[if_neg hv];exact Nat.min_le_right _ _
theorem zAC(v:Int)(n d:Nat):(if v<0 then max (v+(n:Int)) 0 else min v (n:Int))=((sIx n d (some v):Nat):Int):=by
 show(if v<0 then max (v+(n:Int)) 0 else min v (n:Int))=(((if v<0 then (v+(n:Int)).toNat else min v.toNat n):Nat):Int);by_cases hv:v<0
 ·simp only[if_pos hv];omega
 ·simp only[if_neg hv];omega
theorem rX(lo hi:Option Int)(n:Nat):Builtin.Slice.sliceAdjust lo hi 1 (n:Int)=(((sIx n 0 lo:Nat):Int),((sIx n n hi:Nat):Int)):=by
 have h1:¬((1:Int)<0):=by omega
 unfold Builtin.Slice.sliceAdjust;simp only[h1,if_false];refine Prod.ext ?_ ?_
 ·cases lo with
  |none=>rfl
  |some v=>exact zAC v n 0
 ·cases hi with
  |none=>rfl
  |some v=>exact zAC v n n
theorem pW(i j:Nat):Builtin.Slice.slicePlaces (i:Int) (j:Int) 1=j-i:=by
 unfold Builtin.Slice.slicePlaces;have h1:(1:Int) > 0:=by omega
 simp only[h1,if_true,Int.ediv_one]
 split<;>omega
theorem c6(p:IsPart v o)(h:Q o s):wpAny (model prog w) A (Builtin.Slice.slicePartIndex v) Q E s:=by
 cases p with
 |none=>exact qm h
 |int i t=>exact slicePart_int h
theorem vI{sl:Addr}{vl vu:Value}{lo hi:Option Int}{n:Nat}{Q:Int×Int×Nat->Shared->Prop}(hs:s.heap.IsSliceOf sl vl vu .none)(pl:IsPart vl lo)(pu:IsPart vu hi)(h:Q (((sIx n 0 lo:Nat):Int),1,sIx n n hi-sIx n 0 lo) s):wpAny (model prog w) A (Builtin.Slice.sliceApplied (.ref sl) (pure (n:Int))) Q E s:=by
 obtain⟨os,hos,hcs,hds⟩:=id hs;unfold Builtin.Slice.sliceApplied Builtin.Slice.sliceFields;refine ac (ac (bu hos hds (x:=vl) rfl (ac (bu hos hds (x:=vu) rfl (ac (bu hos hds (x:=.none) rfl (ag ?_)))))));refine ac (qm ?_);show wpAny _ _ (if ((1:Int) == 0)=true then _ else _) _ _ s;rw[if_neg (by decide)];refine ac (c6 pl (ac (c6 pu (ac (ag ?_)))));show wpAny _ _ (match Builtin.Slice.sliceAdjust lo hi 1 (n:Int) with|(lo,hi)=>pure (lo,(1:Int),Builtin.Slice.slicePlaces lo hi 1)) _ _ s;rw[rX lo hi n];show wpAny _ _ (pure (((sIx n 0 lo:Nat):Int),(1:Int),Builtin.Slice.slicePlaces ((sIx n 0 lo:Nat):Int) ((sIx n n hi:Nat):Int) 1)) _ _ s;rw[pW];exact ag h
theorem zBD(xs:Array Value)(i k:Nat):((List.range k).filterMap λ(m:Nat)=>xs[((i:Int)+(m:Int)*1).toNat]?).toArray=((xs.toList.drop i).take k).toArray:=by
 have e:(λ(m:Nat)=>xs[((i:Int)+(m:Int)*1).toNat]?)=λm=>xs[i+m]?:=by
  funext m
  have:((i:Int)+(m:Int)*1).toNat=i+m:=by omega
  rw[this]
 rw[e]
 have:=pick_run xs i k
 rw[List.filterMap_map] at this;have e2:((λx=>xs[x]?) ∘ λx=>i+x)=λm=>xs[i+m]?:=rfl
 rw[e2] at this;rw[this]
theorem getItem_tuple_cut{lo:Option Int}(ht:IsTup s.heap t items)(hs:s.heap.IsSliceOf sl vl vu .none)(pl:IsPart vl lo)(pu:IsPart vu hi)(hw:¬(sIx items.size 0 lo=0/\sIx items.size items.size hi=items.size))(h:Q (.ref s.heap.objs.size) { s with heap:=s.heap.push { cls:=.type "tuple",data:=.seq ((items.toList.drop (sIx items.size 0 lo)).take (sIx items.size items.size hi-sIx items.size 0 lo)).toArray } })(hsz:items.size<=af):wpAny (model prog w) A (getItem (.ref t) (.ref sl)) Q E s:=by
 have htake:sizeOk (.seq ((items.toList.drop (sIx items.size 0 lo)).take (sIx items.size items.size hi-sIx items.size 0 lo)).toArray):=by
  show((items.toList.drop (sIx items.size 0 lo)).take (sIx items.size items.size hi-sIx items.size 0 lo)).toArray.size<=af;rw[ak,ir,jh,jx];omega
 have hj:sIx items.size items.size hi<=items.size:=sIx_le _ _ (ah _) hi;obtain⟨os,hos,hcs,hds⟩:=id hs;have hTs:s.TypeIs (.ref sl) "slice" := ⟨os,hos,hcs⟩;unfold getItem
 try with_reducible refine fu ?_
 first|refine ac (ag ?_)|skip
 refine ac (wpAny_sequenceKey ht.typeIs (by decide) ?_);refine ac (cy (name:=Str.ofString "__getitem__") ht.typeIs gf
  (dz gf ht.typeIs wr ?_ (args_tuple_getitem _ _)))
 show wpAny _ _ (Builtin.Tuple.tupleItemsOf (.ref t) >>= _) _ _ s;refine ac (tupleItemsOf_ ht ?_);refine ac (mq hTs ?_);rw[if_pos (by decide)];refine ac (vI hs pl pu ?_);have hno:¬((((sIx items.size 0 lo:Nat):Int) == 0 && (1:Int) == 1 && (sIx items.size items.size hi-sIx items.size 0 lo) == items.size)=true):=by
  intro q;rw[bw,bw] at q;have q1:((sIx items.size 0 lo:Nat):Int)=0:=eq_of_beq q.1.1;have q2:sIx items.size items.size hi-sIx items.size 0 lo=items.size:=eq_of_beq q.2;exact hw ⟨by omega,by omega⟩
 show wpAny _ _ (if (((sIx items.size 0 lo:Nat):Int) == 0 && (1:Int) == 1 && (sIx items.size items.size hi-sIx items.size 0 lo) == items.size)=true then _ else _) _ _ s;rw[if_neg hno,zBD]
 first
  |exact ac (m:=Builtin.Tuple.tupleExact _) (cn (ag ⟨_,rfl,ag h⟩) htake)
  |exact ac (m:=Builtin.Tuple.tupleExact _) (cn (ac (ag (ag ⟨_,rfl,ag h⟩))) htake)
  |exact ac (ac (m:=Builtin.Tuple.tupleExact _) (cn (ag (ag ⟨_,rfl,ag h⟩)) htake))
  |exact ac (ac (m:=Builtin.Tuple.tupleExact _) (cn (ag ⟨_,rfl,ag h⟩) htake))
end
end HT
namespace L2
open PySem PySem.Spec PyProof.Rows
abbrev TO:=St->Hp->(Option Int->Hp->Prop)->Prop
def PO(X:Cx)(e:Option Expr)(t:TO):Prop:=
 ∀(pZ:List (Addr×Obj)) (s:Shared) (σ:St) (H:Hp) (Q:Option Int->Hp->Prop),Inv X pZ σ H s->t σ H Q ->
  wpAny (model X.prog X.w) X.A (evalPart e X.env) (λu s'=>∃o H',Inv X pZ σ H' s'/\IsPart u o/\Q o H') X.xe s
noncomputable def zES:TO:=λ_ H Q=>Q none H
noncomputable def zN0(t:TE):TO:=λσ H Q=>t σ H λx H1=>∃i,x=.int i/\Q (some i) H1
section
variable{X:Cx}{e:Expr}{te:TE}{lo hi:Option Expr}{tl th:TO}{pos p2:Pos}
theorem zFK:PO X none zES:=by
 intro pZ s σ H Q I h;rw[uf];exact ag ⟨none,H,I,.none,h⟩
theorem zFJ(h:PE X e te):PO X (some e) (zN0 te):=by
 intro pZ s σ H Q I hw;rw[evalPart_some];refine thn (h pZ s σ H _ I hw) λu s1 ⟨x,H1,I1,r1,q1⟩=>?_
 obtain⟨i,rfl,q⟩:=q1;obtain⟨t,rfl⟩:=r1;exact⟨some i,H1,I1,.int i t,q⟩
def SlR(X:Cx)(r:V->Option Int->Option Int->Hp->VK->Prop):Prop:=
 ∀(pZ:List (Addr×Obj)) (s:Shared) (σ:St) (H:Hp) (x:V) (v vl vu:Value) (lo hi:Option Int) (sl:Addr) (Q:VK),Inv X pZ σ H s->RelV x v->s.heap.IsSliceOf sl vl vu .none->IsPart vl lo->IsPart vu hi->r x lo hi H Q ->
  ∃T id,typeLookup (.type T) "__getitem__" = pure (some (.builtin id))/\s.TypeIs v T/\wpAny (model X.prog X.w) X.A (getItem v (.ref sl)) (EP X pZ σ Q) X.xe s
theorem SlR.or(h:SlR X r)(h':SlR X r'):SlR X (λx lo hi H Q=>r x lo hi H Q\/r' x lo hi H Q):=by
 intro pZ s σ H x v vl vu lo hi sl Q I rx hs pl pu q;rcases q with q|q
 ·exact h pZ s σ H x v vl vu lo hi sl Q I rx hs pl pu q
 ·exact h' pZ s σ H x v vl vu lo hi sl Q I rx hs pl pu q
noncomputable def tSl(r:V->Option Int->Option Int->Hp->VK->Prop)(te:TE)(tl th:TO):TE:=λσ H Q=>te σ H λx H1=>tl σ H1 λl H2=>th σ H2 λu H3=>r x l u H3 Q
theorem zBF(hr:SlR X r)(he:PE X e te)(hl:PO X lo tl)(hu:PO X hi th):PE X (.Subscript e (.Slice lo hi none p2) pos) (tSl r te tl th):=by
 intro pZ s σ H Q I h;refine sw (thn (he pZ s σ H _ I h) λv s1 ⟨x,H1,I1,r1,q1⟩=>?_);refine wpAny_Slice (thn (hl pZ s1 σ H1 _ I1 q1) λvl s2 ⟨l,H2,I2,pl,q2⟩=>thn (hu pZ s2 σ H2 _ I2 q2) λvu s3 ⟨u,H3,I3,pu,q3⟩=>?_);rw[uf];refine ag ?_;have I4:Inv X pZ σ H3 { s3 with heap:=s3.heap.push { cls:=.type "slice",data:=.fields #[vl,vu,.none] } }:=I3.kept (t':=s3.toks) λb ob q=>ad _ q
 obtain⟨T,id,hT,ht,hg⟩:=hr pZ { s3 with heap:=s3.heap.push { cls:=.type "slice",data:=.fields #[vl,vu,.none] } } σ H3 x v vl vu l u s3.heap.objs.size Q I4 r1 (Heap.IsSliceOf.new ..) pl pu q3;show wpAny (model X.prog X.w) X.A (subscriptTail e (.Slice lo hi none p2) v (.ref s3.heap.objs.size)) (EP X pZ σ Q) X.xe { s3 with heap:=s3.heap.push { cls:=.type "slice",data:=.fields #[vl,vu,.none] } };exact tail_any (ops:=[.ref s3.heap.objs.size,v]) ht hT hg (by with_unfolding_all rfl)
noncomputable def zJL(xs:List V)(lo hi:Option Int):List V:=(xs.drop (HT.sIx xs.length 0 lo)).take (HT.sIx xs.length xs.length hi-HT.sIx xs.length 0 lo)
theorem bH(xs:List V)(lo hi:Option Int):(zJL xs lo hi).length<=xs.length:=by
 unfold zJL;rw[ir,jh];omega
def zP6(K:Fg):V->Option Int->Option Int->Hp->VK->Prop:=λx lo hi H Q=>∃a xs,x=.ref a/\SqT K H a xs /\
 ¬(HT.sIx xs.length 0 lo=0/\HT.sIx xs.length xs.length hi=xs.length)/\∀p,H p=none->Q (.ref p) (upd H p (.tup (zJL xs lo hi)))
theorem sl_tup:SlR X (zP6 X.K):=by
 intro pZ s σ H x v vl vu lo hi sl Q I rx hs pl pu h;obtain⟨a,xs,rfl,hx,hw,q⟩:=h;cases rx;obtain⟨its,r,ht,hz⟩:=I.tuple hx;have hlen:its.toArray.size=xs.length:=by rw[ak];exact r.length.symm
 refine⟨"tuple",_,gf.lookup,ht.typeIs,?_⟩;refine HT.getItem_tuple_cut ht hs pl pu (by rw[hlen];exact hw) ?_ (by rw[hlen];exact hz);rw[hlen];refine⟨.ref s.heap.objs.size,_,I.laid (t':=s.toks) (o:=.tup (zJL xs lo hi)) (λb ob q=>ad _ q) (ah _) ?_,rfl,q _ (I.hok.fresh (ah _))⟩;exact⟨bq (bH xs lo hi) hz,_,(r.drop (HT.sIx xs.length 0 lo)).take (HT.sIx xs.length xs.length hi-HT.sIx xs.length 0 lo),uw _ _⟩
noncomputable def zMK(K:Fg):R2:=λx y H Q=>∃a b xs ys,x=.ref a/\y=.ref b/\SqT K H a xs/\SqT K H b ys/\xs≠[]/\xs.length+ys.length<=af /\
 (ys=[]->Q (.ref a) H)/\(ys≠[]->∀p,H p=none->Q (.ref p) (upd H p (.tup (xs++ys))))
theorem Vals.nil_iff(r:Vals xs us):us=[]↔xs=[]:=by
 cases r with
 |nil=>simp
 |cons _ _=>simp
theorem zF5:OpR X (binaryOp .Add) (zMK X.K):=by
 intro pZ s σ H x y v u Q I rx ry h;obtain⟨a,b,xs,ys,rfl,rfl,ha,hb,hx,hz,q1,q2⟩:=h;cases rx;cases ry;obtain⟨its,r1,p1,_⟩:=I.tuple ha;obtain⟨its2,r2,p2,_⟩:=I.tuple hb;refine HT.cat_tup p1 p2 (λz=>hx (r1.nil_iff.mp z)) (λz=>⟨.ref a,H,I,rfl,q1 (r2.nil_iff.mp z)⟩) (λz=>?_) (by rw[<-r1.length,<-r2.length];exact hz);refine⟨.ref s.heap.objs.size,_,I.laid (t':=s.toks) (o:=.tup (xs++ys)) (λb ob q=>ad _ q) (ah _) ?_,rfl,q2 (λw=>z (r2.nil_iff.mpr w)) _ (I.hok.fresh (ah _))⟩;exact⟨by rw[bv];exact hz,_,r1.append r2,uw _ _⟩
end
end L2
namespace L2
open PySem PySem.Spec PyProof.Rows
noncomputable def ixN(n:Nat)(i:Int):Option Nat:=if 0<=i then (if i<n then some i.toNat else none) else if -(n:Int)<=i then some (i+n).toNat else none
noncomputable def atI(xs:List α)(i:Int):Option α:=(ixN xs.length i).bind λj=>xs[j]?
theorem zG5(h:ixN n i=some j):seqIndex? i n=some j/\j<n/\-(n:Int)<=i/\i<n:=by
 unfold ixN at h;by_cases h0:0<=i
 ·rw[if_pos h0] at h;by_cases h1:i<n
  ·rw[if_pos h1] at h;have e:i.toNat=j:=bg h;exact⟨by rw[seqIndex_of h0 h1,e],by omega,by omega,h1⟩
  ·rw[if_neg h1] at h;cases h
 ·rw[if_neg h0] at h;by_cases h1 : -(n:Int)<=i
  ·rw[if_pos h1] at h;have e:(i+n).toNat=j:=bg h;exact⟨by rw[seqIndex_neg (by omega) h1,e],by omega,h1,by omega⟩
  ·rw[if_neg h1] at h;cases h
theorem YT(h:atI xs i=some v):∃j,seqIndex? i xs.length=some j/\xs[j]?=some v/\j<xs.length/\-(xs.length:Int)<=i/\i<xs.length:=by
 unfold atI at h;cases e:ixN xs.length i with
 |none=>rw[e] at h;cases h
 |some j=>
  rw[e] at h;obtain⟨h1,h2,h3,h4⟩:=zG5 e;exact⟨j,h1,h,h2,h3,h4⟩
theorem oZ{α:Type}{xs:List α}{j:Nat}{v:α}(h:xs[j]?=some v):atI xs (j:Int)=some v:=by
 have hj:j<xs.length:=(ar.mp h).1;have e:ixN xs.length (j:Int)=some j:=by
  unfold ixN;rw[if_pos (by omega),if_pos (by omega)];simp
 unfold atI;rw[e];exact h
theorem zC4(xs:List α)(v:α):atI (xs++[v]) (-1)=some v:=by
 have hl:(xs++[v]).length=xs.length+1:=by simp
 have e:ixN (xs++[v]).length (-1)=some xs.length:=by
  unfold ixN;rw[hl,if_neg (by decide),if_pos (by omega)]
  congr 1
  omega
 unfold atI;rw[e];show(xs++[v])[xs.length]?=some v;simp
def bJ(b:Expr):Prop:=∀o i,subscripted b false o i=operate [o,i] (getItem o i)
def IxR(X:Cx)(r:R2):Prop:=
 ∀(value slice:Expr) (pZ:List (Addr×Obj)) (s:Shared) (σ:St) (H:Hp) (x y:V) (v u:Value) (Q:VK),Inv X pZ σ H s->RelV x v->RelV y u->r x y H Q ->
  subscripted slice false v u=operate [v,u] (getItem v u)->wpAny (model X.prog X.w) X.A (subscriptTail value slice v u) (EP X pZ σ Q) X.xe s
def MtR(X:Cx)(id:String)(r:V->List V->Hp->VK->Prop):Prop:=
 ∀(pZ:List (Addr×Obj)) (s:Shared) (σ:St) (H:Hp) (x:V) (xs:List V) (v:Value) (us:List Value) (Q:VK),Inv X pZ σ H s->RelV x v->Vals xs us->r x xs H Q ->
  wpAny (model X.prog X.w) X.A (call (.builtin id) (v::us)) (EP X pZ σ Q) X.xe s
section
variable{X:Cx}{a b:Expr}{ta tb:TE}{pos:Pos}
theorem IxR.or(h:IxR X r)(h':IxR X r'):IxR X (λx y H Q=>r x y H Q\/r' x y H Q):=by
 intro value slice pZ s σ H x y v u Q I rx ry q hs;rcases q with q|q
 ·exact h value slice pZ s σ H x y v u Q I rx ry q hs
 ·exact h' value slice pZ s σ H x y v u Q I rx ry q hs
theorem zFX(hr:IxR X r)(ha:PE X a ta)(hb:PE X b tb)(hs:bJ b):PE X (.Subscript a b pos) (tOp r ta tb):=by
 intro pZ s σ H Q I h;exact sw (zPZ ha hb I h λv u s2 x y H2 I2 rx ry q=>hr a b pZ s2 σ H2 x y v u Q I2 rx ry q (hs _ _))
noncomputable def zQE(K:Fg):R2:=λx y H Q=>∃p xs i v,x=.ref p/\y=.int i/\SqL K H p xs/\atI xs i=some v/\Q v H
noncomputable def zQC(K:Fg):R2:=λx y H Q=>∃p xs i v,x=.ref p/\y=.int i/\SqT K H p xs/\atI xs i=some v/\Q v H
noncomputable def zQD:R2:=λx y H Q=>∃z i c,x=.str z/\y=.int i/\z.length<=af/\atI z.cps.toList i=some c/\Q (.str ⟨#[c]⟩) H
theorem ix_list:IxR X (zQE X.K):=by
 intro value slice pZ s σ H x y v u Q I rx ry h hs;obtain⟨p,xs,i,z,rfl,rfl,hq,he,q⟩:=h;cases rx;obtain⟨t,rfl⟩:=ry;obtain⟨its,r,pl,hz⟩:=I.list hq;obtain⟨j,h1,h2,h3,h4,h5⟩:=YT he;obtain⟨w,ew,rw'⟩:=r.get h2;have hl:=r.length;have hn:=gN;have fin:EP X pZ σ Q w s:=⟨z,H,I,rw',q⟩;by_cases h0:0<=i
 ·have hj:i.toNat=j:=by
   rw[seqIndex_of h0 h5] at h1;exact bg h1
  exact item_listR pl.isList h0 (by omega) (by rw[hj];simpa using ew) fin hs
 ·have hj:(i+(its.toArray.size:Int)).toNat=j:=by
   rw[seqIndex_neg (by omega) h4] at h1;rw[ak,<-hl];exact bg h1
  exact ox (x:=w) pl.isList.typeIs rl.lookup
   (wpAny_getItem_list_neg (Q:=λr s'=>r=w/\EP X pZ σ Q r s') pl.isList (by omega) (by rw[ak]<;>omega) (by omega) (by rw[hj];simpa using ew) ⟨rfl,fin⟩) hs
theorem ix_tup:IxR X (zQC X.K):=by
 intro value slice pZ s σ H x y v u Q I rx ry h hs;obtain⟨p,xs,i,z,rfl,rfl,hq,he,q⟩:=h;cases rx;obtain⟨t,rfl⟩:=ry;obtain⟨its,r,pl,hz⟩:=I.tuple hq;obtain⟨j,h1,h2,h3,h4,h5⟩:=YT he;obtain⟨w,ew,rw'⟩:=r.get h2;have hl:=r.length;have hn:=gN;have fin:EP X pZ σ Q w s:=⟨z,H,I,rw',q⟩;exact ox (x:=w) pl.typeIs slot_tuple_getitem.lookup
  (getItem_tuple (j:=j) (Q:=λr s'=>r=w/\EP X pZ σ Q r s') pl (by omega) (by omega) (by rw[ak,<-hl];exact h1) (by simpa using ew) ⟨rfl,fin⟩) hs
theorem zLH:IxR X zQD:=by
 intro value slice pZ s σ H x y v u Q I rx ry h hs;obtain⟨z,i,c,rfl,rfl,hz,he,q⟩:=h;obtain⟨t,rfl⟩:=rx;obtain⟨t',rfl⟩:=ry;obtain⟨j,h1,h2,h3,h4,h5⟩:=YT he;have hl:z.cps.toList.length=z.length:=by simp[Str.length]
 rw[hl] at h1 h4 h5;have hn:=gN;exact tail_any (typeIs_str s z t) slot_str_getitem.lookup (getItem_str (c:=c) (by
  have e1:decide (i < -(2 ^ 63:Int))=false:=decide_eq_false (by omega);have e2:decide (i ≥ 2 ^ 63)=false:=decide_eq_false (by omega);rw[e1,e2,Bool.or_false]) (by rw[h1];simpa using h2) ⟨.str ⟨#[c]⟩,H,I.tok _,⟨_,rfl⟩,q⟩) hs
noncomputable def rIx(K:Fg):R2:=λx y H Q=>zQE K x y H Q\/zQC K x y H Q\/zQD x y H Q
theorem zG4:IxR X (rIx X.K):=ix_list.or (ix_tup.or zLH)
theorem gA(lo hi:Option Int)(n:Nat):(sliceBounds lo hi none n).1=((HT.sIx n 0 lo:Nat):Int)/\(sliceBounds lo hi none n).2.1=((HT.sIx n n hi:Nat):Int)/\(sliceBounds lo hi none n).2.2=1:=by
 refine⟨?_,?_,rfl⟩
 ·cases lo with
  |none=>simp[sliceBounds,HT.sIx]
  |some i=>
   simp only[sliceBounds,HT.sIx,Option.getD_none,show(1:Int) > 0 by decide,if_true];by_cases h:i<0
   ·simp only[h,if_true]<;>omega
   ·simp only[h,if_false]<;>omega
 ·cases hi with
  |none=>simp[sliceBounds,HT.sIx]
  |some i=>
   simp only[sliceBounds,HT.sIx,Option.getD_none,show(1:Int) > 0 by decide,if_true];by_cases h:i<0
   ·simp only[h,if_true]<;>omega
   ·simp only[h,if_false]<;>omega
theorem bU(its:List Value)(lo hi:Option Int):slicePick its.toArray lo hi none=((its.drop (HT.sIx its.length 0 lo)).take (HT.sIx its.length its.length hi-HT.sIx its.length 0 lo)).toArray:=by
 obtain⟨h1,h2,h3⟩:=gA lo hi its.toArray.size;unfold slicePick;rw[h1,h2,h3];simp only[sliceRange_one,pick_run,ak]<;>rfl
def zP8(K:Fg):V->Option Int->Option Int->Hp->VK->Prop:=λx lo hi H Q=>∃a xs,x=.ref a/\SqL K H a xs/\∀p,H p=none->Q (.ref p) (upd H p (.lst (zJL xs lo hi)))
theorem sl_list:SlR X (zP8 X.K):=by
 intro pZ s σ H x v vl vu lo hi sl Q I rx hs pl pu h;obtain⟨a,xs,rfl,hx,q⟩:=h;cases rx;obtain⟨its,r,ht,hz⟩:=I.list hx;have hlen:=r.length;refine⟨"list",_,rl.lookup,ht.isList.typeIs,?_⟩;refine ud ht.isList hs pl pu .none (by simp) ?_ (by rw[ak]<;>omega);rw[bU,<-hlen];refine⟨.ref s.heap.objs.size,_,I.laid (t':=s.toks) (o:=.lst (zJL xs lo hi)) (λb ob q=>ad _ q) (ah _) ?_,rfl,q _ (I.hok.fresh (ah _))⟩;exact⟨bq (bH xs lo hi) hz,_,0,(r.drop (HT.sIx xs.length 0 lo)).take (HT.sIx xs.length xs.length hi-HT.sIx xs.length 0 lo),ba _ rfl⟩
noncomputable def kX:V->Bool
 |.non=>true
 |.bl _=>true
 |.int _=>true
 |.str _=>true
 |_=>false
noncomputable def eqV:V->V->Bool
 |.non,.non=>true
 |.bl a,.bl b=>a == b
 |.bl a,.int b=>(if a then 1 else 0) == b
 |.int a,.bl b=>a == (if b then 1 else 0)
 |.int a,.int b=>a == b
 |.str a,.str b=>a == b
 |_,_=>false
theorem zHP(ry:RelV y u)(rx:RelV x v)(fy:kX y=true)(fx:kX x=true):SeqAt.EqAt A s u v (eqV y x):=by
 cases y with
 |non=>
  cases ry;cases x with
  |non=>cases rx;exact SeqAt.EqAt.same _
  |bl b=>cases rx;exact SeqAt.EqAt.none_bool b
  |int b=>obtain⟨t,rfl⟩:=rx;exact ww b t
  |str b=>obtain⟨t,rfl⟩:=rx;exact wv b t
  |_=>exact absurd (show false=true from fx) av
 |bl a=>
  cases ry;cases x with
  |non=>cases rx;exact SeqAt.EqAt.bool_none a
  |bl b=>cases rx;exact SeqAt.EqAt.bool_bool a b
  |int b=>obtain⟨t,rfl⟩:=rx;exact SeqAt.EqAt.bool_int a b t
  |str b=>obtain⟨t,rfl⟩:=rx;exact SeqAt.EqAt.bool_str a b t
  |_=>exact absurd (show false=true from fx) av
 |int a=>
  obtain⟨t',rfl⟩:=ry;cases x with
  |non=>cases rx;exact wz a t'
  |bl b=>cases rx;exact SeqAt.EqAt.int_bool a t' b
  |int b=>obtain⟨t,rfl⟩:=rx;exact SeqAt.EqAt.int_int a t' b t
  |str b=>obtain⟨t,rfl⟩:=rx;exact SeqAt.EqAt.int_str a t' b t
  |_=>exact absurd (show false=true from fx) av
 |str a=>
  obtain⟨t',rfl⟩:=ry;cases x with
  |non=>cases rx;exact wu a t'
  |bl b=>cases rx;exact SeqAt.EqAt.str_bool a t' b
  |int b=>obtain⟨t,rfl⟩:=rx;exact SeqAt.EqAt.str_int a t' b t
  |str b=>obtain⟨t,rfl⟩:=rx;exact SeqAt.EqAt.str_str a t' b t
  |_=>exact absurd (show false=true from fx) av
 |_=>exact absurd (show false=true from fy) av
noncomputable def eqU(x:V)(u:Value):Bool:=match u with
 |.none=>eqV .non x
 |.bool b=>eqV (.bl b) x
 |.int i _=>eqV (.int i) x
 |.str z _=>eqV (.str z) x
 |_=>false
theorem zHL(r:RelV y u)(f:kX y=true):eqU x u=eqV y x:=by
 cases y with
 |non=>cases r;rfl
 |bl b=>cases r;rfl
 |int i=>obtain⟨t,rfl⟩:=r;rfl
 |str z=>obtain⟨t,rfl⟩:=r;rfl
 |_=>exact absurd (show false=true from f) av
theorem dX:∀{xs:List V} {us:List Value},Vals xs us->xs.all kX=true->us.any (eqU x)=xs.any λy=>eqV y x
 |_,_,.nil,_=>rfl
 |y::xs,u::us,.cons r t,f=>by
  rw[jp,bw] at f;rw[jo,jo,zHL r f.1,dX t f.2]
theorem uT(rx:RelV x v)(fx:kX x=true):∀{xs:List V} {us:List Value},Vals xs us->xs.all kX=true->∀u∈us,SeqAt.EqAt A s u v (eqU x u)
 |_,_,.nil,_=>λu hu=>by cases hu
 |y::xs,u::us,.cons r t,f=>λu' hu=>by
  rw[jp,bw] at f;rcases bh.mp hu with rfl|hu
  ·rw[zHL r f.1];exact zHP r rx f.1 fx
  ·exact uT rx fx t f.2 u' hu
noncomputable def inV(x:V)(xs:List V):Bool:=xs.any λy=>eqV y x
noncomputable def rIn(K:Fg)(neg:Bool):R2:=λx y H Q=>∃p xs,y=.ref p/\(SqL K H p xs\/SqT K H p xs)/\kX x=true/\xs.all kX=true/\Q (.bl (if neg then !inV x xs else inV x xs)) H
theorem X2:OpR X (et .In) (rIn X.K false):=by
 intro pZ s σ H x y v u Q I rx ry h;obtain⟨p,xs,rfl,hq,fx,fs,q⟩:=h;cases ry;rcases hq with hq|hq
 ·obtain⟨its,r,pl,hz⟩:=I.list hq;refine SeqAt.in_listAt (eqU x) pl.isList (λw hw=>uT rx fx r fs w (by simpa using hw)) ⟨.bl _,H,I,rfl,?_⟩;rw[show its.toArray.any (eqU x)=its.any (eqU x) by simp,dX r fs];exact q
 ·obtain⟨its,r,pl,hz⟩:=I.tuple hq;refine SeqAt.in_tupleAt (eqU x) pl (λw hw=>uT rx fx r fs w (by simpa using hw)) ⟨.bl _,H,I,rfl,?_⟩;rw[show its.toArray.any (eqU x)=its.any (eqU x) by simp,dX r fs];exact q
theorem gG:OpR X (et .NotIn) (rIn X.K true):=by
 intro pZ s σ H x y v u Q I rx ry h;obtain⟨p,xs,rfl,hq,fx,fs,q⟩:=h;cases ry;rcases hq with hq|hq
 ·obtain⟨its,r,pl,hz⟩:=I.list hq;refine SeqAt.notIn_listAt (eqU x) pl.isList (λw hw=>uT rx fx r fs w (by simpa using hw)) ⟨.bl _,H,I,rfl,?_⟩;rw[show its.toArray.any (eqU x)=its.any (eqU x) by simp,dX r fs];exact q
 ·obtain⟨its,r,pl,hz⟩:=I.tuple hq;refine SeqAt.notIn_tupleAt (eqU x) pl (λw hw=>uT rx fx r fs w (by simpa using hw)) ⟨.bl _,H,I,rfl,?_⟩;rw[show its.toArray.any (eqU x)=its.any (eqU x) by simp,dX r fs];exact q
theorem call_len_seq:CallR X (.builtin "len") (λxs H Q=>∃p ys,xs=[.ref p]/\(SqL X.K H p ys\/SqT X.K H p ys)/\Q (.int ys.length) H):=by
 intro pZ s σ H xs us Q I r h;obtain⟨p,ys,rfl,hq,q⟩:=h;obtain⟨u,rfl,rx⟩:=rZ r;cases rx;have hn:=gN;rcases hq with hq|hq
 ·obtain⟨its,r',pl,hz⟩:=I.list hq;have hlen:=r'.length;exact Calls.call_len_list pl.isList (by simp only[ak]<;>omega) ⟨.int ys.length,H,I.tok _,⟨s.toks+1,by rw[ak,hlen]⟩,q⟩
 ·obtain⟨its,r',pl,hz⟩:=I.tuple hq;have hlen:=r'.length;exact len_tuple pl (by simp only[ak]<;>omega) ⟨.int ys.length,H,I.tok _,⟨s.toks+1,by rw[ak,hlen]⟩,q⟩
theorem gQ:CallR X (.builtin "len") (λxs H Q=>∃z,xs=[.str z]/\z.length<=af/\Q (.int z.length) H):=by
 intro pZ s σ H xs us Q I r h;obtain⟨z,rfl,hz,q⟩:=h;obtain⟨u,rfl,t,rfl⟩:=rZ r;have hn:=gN;exact len_str (by omega) ⟨.int z.length,H,I.tok _,⟨_,rfl⟩,q⟩
theorem CallR.or(h:CallR X f r)(h':CallR X f r'):CallR X f (λxs H Q=>r xs H Q\/r' xs H Q):=by
 intro pZ s σ H xs us Q I rs q;rcases q with q|q
 ·exact h pZ s σ H xs us Q I rs q
 ·exact h' pZ s σ H xs us Q I rs q
theorem cN:CallR X (.type "tuple") (λxs H Q=>∃p ys,xs=[.ref p]/\((SqL X.K H p ys/\∀l,H l=none->Q (.ref l) (upd H l (.tup ys)))\/(SqT X.K H p ys/\Q (.ref p) H))):=by
 intro pZ s σ H xs us Q I r h;obtain⟨p,ys,rfl,h⟩:=h;obtain⟨u,rfl,rx⟩:=rZ r;cases rx;rcases h with⟨hq,q⟩|⟨hq,q⟩
 ·obtain⟨its,r',pl,hz⟩:=I.list hq;have hlen:=r'.length;refine call_tuple_list pl.isList (λh' kp=>?_) (by simp only[ak]<;>omega);have I1:Inv X pZ σ H { s with heap:=h' }:=I.kept (t':=s.toks) kp;have I2:Inv X pZ σ (upd H h'.objs.size (.tup ys)) { s with heap:=h'.push { cls:=.type "tuple",data:=.seq its.toArray } }:=
   I1.laid (t':=s.toks) (λb o e=>ad _ e) (ah _) (show ObjOk X.prog X.w _ _ _ (.tup ys) from⟨hz,its,r',uw _ _⟩)
  exact⟨.ref h'.objs.size,_,I2,rfl,q _ (I1.hok.fresh (ah _))⟩
 ·obtain⟨its,r',pl,hz⟩:=I.tuple hq;exact call_tuple_same pl ⟨.ref p,H,I,rfl,q⟩
def tyV(K:Fg)(T:String)(x:V)(H:Hp):Prop:=match x with
 |.str _=>T = "str"
 |.int _=>T = "int"
 |.ref p=>(T = "list" /\ ∃xs,SqL K H p xs)\/(T = "tuple" /\ ∃o,K.lookup p=some o/\o.cls=.type "tuple" /\ o.dict=none) \/
   (T = "dict" /\ ((∃kvs,H p=some (.dK kvs))\/∃kvs,H p=some (.dT kvs)))\/(T = "set" /\ ∃S n,H p=some (.set S n))
 |_=>False
theorem zEL(I:Inv X pZ σ H s)(r:RelV x v)(ty:tyV X.K T x H):s.TypeIs v T/\∀a,v=.ref a->∃ob,s.heap.get? a=some ob/\ob.dict=none:=by
 cases x with
 |str z=>
  obtain⟨t,rfl⟩:=r;cases (show T = "str" from ty);exact⟨typeIs_str s z t,λ_ e=>nomatch e⟩
 |int i=>
  obtain⟨t,rfl⟩:=r;cases (show T = "int" from ty);exact⟨typeIs_int s i t,λ_ e=>nomatch e⟩
 |ref p=>
  cases r;rcases ty with⟨rfl,xs,hq⟩|⟨rfl,o,hk,hc,hd⟩|⟨rfl,hk⟩|⟨rfl,S,n,hk⟩
  ·obtain⟨its,_,pl,_⟩:=I.list hq;refine⟨pl.isList.typeIs,λa e=>?_⟩;cases e;obtain⟨o,n,e,c,hd,_⟩:=pl;exact⟨o,e,hd⟩
  ·refine⟨⟨o,I.kIn p o hk,hc⟩,λa e=>?_⟩;cases e;exact⟨o,I.kIn _ o hk,hd⟩
  ·have z:∃o,s.heap.get? p=some o/\o.ExactDict:=by
    rcases hk with⟨kvs,hk⟩|⟨kvs,hk⟩
    ·obtain⟨_,_,_,_,o,_,_,e,ex,_⟩:=I.hok p _ hk;exact⟨o,e,ex⟩
    ·obtain⟨_,_,_,_,o,_,_,e,ex,_⟩:=I.hok p _ hk;exact⟨o,e,ex⟩
   obtain⟨o,e,ex⟩:=z;refine⟨⟨o,e,ex.1⟩,λa e2=>?_⟩;cases e2;exact⟨o,e,ex.2.1⟩
  ·obtain⟨o,_,_,_,e,ex,_⟩:=I.hok p _ hk;refine⟨⟨o,e,ex.1⟩,λa e2=>?_⟩;cases e2;exact⟨o,e,ex.2.1⟩
 |_=>exact False.elim ty
noncomputable def zP4(K:Fg)(T:String)(r:V->List V->Hp->VK->Prop)(to:TE):TE:=λσ H Q=>to σ H λx H1=>tyV K T x H1/\r x [] H1 Q
noncomputable def tBM(K:Fg)(T:String)(r:V->List V->Hp->VK->Prop)(to:TE)(t:TA):TE:=λσ H Q=>to σ H λx H1=>tyV K T x H1/\t σ H1 λxs H2=>r x xs H2 Q
variable{id:String}
theorem XW(pa:PlainAttrs T)(slot:Slot T name id)(hty:typeOf (.builtin id)=pure (.type "method_descriptor"))(hm:MtR X id r)(ho:PE X o to)(hbase:bt o name X.env (eval o X.env)=eval o X.env:=by rfl)(hline:(apos.endLine == cpos.line)=true:=by rfl):PE X (.Call (.Attribute o name apos) [] [] cpos) (zP4 X.K T r to):=by
 intro pZ s σ H Q I h;refine wpAny_Call_method0_late hbase hline (thn (ho pZ s σ H _ I h) λv s1 ⟨x,H1,I1,r1,ty,q1⟩=>?_);obtain⟨h1,h2⟩:=zEL I1 r1 ty;exact⟨T,id,pa,slot,hty,h1,h2,lf rfl (PySem.evalArgs_none (hm pZ s1 σ H1 x [] v [] Q I1 r1 .nil q1))⟩
theorem XX(pa:PlainAttrs T)(slot:Slot T name id)(hty:typeOf (.builtin id)=pure (.type "method_descriptor"))(hm:MtR X id r)(ho:PE X o to)(ha:PA X (e::es) t)(hbase:bt o name X.env (eval o X.env)=eval o X.env:=by rfl)(hfew:((dl cpos (ae (e::es) X.env)).all (λx=>!x.1) && (ja cpos (gh [] X.env)).all (λx=>x.1.isSome)
   && decide ((e::es).length+([]:List Keyword).length+(if ([]:List Keyword).isEmpty then 0 else 1)<30))=true:=by rfl)(hline:(apos.endLine == cpos.line)=true:=by rfl)(hs:ae (e::es) X.env=(false,eval e X.env)::ae es X.env:=by rfl)(hplain:(dl cpos (ae es X.env)).any (·.1)=false:=by rfl):PE X (.Call (.Attribute o name apos) (e::es) [] cpos) (tBM X.K T r to t):=by
 intro pZ s σ H Q I h;refine wpAny_Call_method_late hbase hfew hline rfl (thn (ho pZ s σ H _ I h) λv s1 ⟨x,H1,I1,r1,ty,q1⟩=>?_);obtain⟨h1,h2⟩:=zEL I1 r1 ty;refine⟨T,id,pa,slot,hty,h1,h2,?_⟩;have hA:=ha cpos pZ s1 σ H1 _ I1 q1;rw[hs] at hA ⊢;refine lf (by show(false || (dl cpos (ae es X.env)).any (·.1))=false;rw[hplain]<;>rfl) (qt ?_);exact thn hA λus s2 ⟨vs,H2,I2,r2,q2⟩=>hm pZ s2 σ H2 x vs v us Q I2 r1 r2 q2
end
end L2
namespace L2
open PySem PySem.Spec PyProof.Rows
def MtM(X:Cx)(id:String)(r:V->List V->Hp->VK->Prop):Prop:=
 ∀(pZ:List (Addr×Obj)) (s:Shared) (σ:St) (H:Hp) (x:V) (xs:List V) (v:Value) (us:List Value) (Q:VK),Inv X pZ σ H s->RelV x v->Vals xs us->r x xs H Q ->
  wpAny (model X.prog X.w) X.A (call (.builtin id) (v::us)) (EP X pZ σ Q) X.xe s
theorem Vals.one:∀{x:V} {us:List Value},Vals [x] us->∃u,us=[u]/\RelV x u
 |_,_,.cons r .nil=>⟨_,rfl,r⟩
theorem Vals.two:∀{x y:V} {us:List Value},Vals [x,y] us->∃u v,us=[u,v]/\RelV x u/\RelV y v
 |_,_,_,.cons r (.cons q .nil)=>⟨_,_,rfl,r,q⟩
theorem Vals.zero:∀{us:List Value},Vals [] us->us=[]
 |_,.nil=>rfl
theorem Vals.dropLast(h:Vals xs us):Vals xs.dropLast us.dropLast:=by
 induction h with
 |nil=>exact .nil
 |cons r t ih=>
  cases t with
  |nil=>exact .nil
  |cons q t'=>exact .cons r ih
theorem Vals.eraseIdx:∀{xs:List V} {us:List Value} (i:Nat),Vals xs us->Vals (xs.eraseIdx i) (us.eraseIdx i)
 |_,_,_,.nil=>.nil
 |_,_,0,.cons _ t=>t
 |_,_,i+1,.cons r t=>.cons r (Vals.eraseIdx i t)
theorem Vals.reverse(h:Vals xs us):Vals xs.reverse us.reverse:=by
 induction h with
 |nil=>exact .nil
 |cons r t ih=>rw[je,je];exact Vals.append ih (.cons r .nil)
theorem rO(l:List α):l.eraseIdx (l.length-1)=l.dropLast:=by
 induction l with
 |nil=>rfl
 |cons a r ih=>
  cases r with
  |nil=>rfl
  |cons b r=>
   have e:(a::b::r).length-1=((b::r).length-1)+1:=by
    have h1:(a::b::r).length=r.length+2:=rfl;have h2:(b::r).length=r.length+1:=rfl;omega
   rw[e,List.eraseIdx_cons_succ,ih]
   all_goals rfl
theorem nS:∀(l:List α) (i:Nat),(l.eraseIdx i).length<=l.length
 |[],_=>ah _
 |_::_,0=>Nat.le_succ _
 |_::r,i+1=>oh (nS r i)
section
variable{X:Cx}{pZ:List (Addr×Obj)}{σ:St}{H:Hp}{s:Shared}{l b:Addr}{xs ys zs:List V}
theorem Inv.lset{its its':List Value}{n:Nat}{f:Array Value->Array Value}{t':Nat}(I:Inv X pZ σ H s)(hH:H l=some (.lst xs))(e:s.heap.get? l=some { cls:=.type "list",data:=.seq its.toArray n })(hf:f its.toArray=its'.toArray)(hv:Vals ys its')(hz:ys.length<=af):Inv X pZ σ (upd H l (.lst ys)) { s with heap:=s.heap.update l (Obj.mapSeq f),toks:=t' }:=by
 have q:=PySem.IsL.update e f;rw[hf] at q;refine I.write (x:=l) (e:=l) (by rw[hH];exact trivial) (.inl rfl) (λb' u hb hu=>(lc s.heap (Obj.mapSeq f) (lr hb)).trans hu) ⟨_,q⟩ ?_;exact⟨hz,its',_,hv,q⟩
theorem Inv.lnew(I:Inv X pZ σ H s)(hv:Vals ys its)(hz:ys.length<=af):Inv X pZ σ (upd H s.heap.objs.size (.lst ys)) { s with heap:=s.heap.push { cls:=.type "list",data:=.seq its.toArray },toks:=t' }:=
 I.laid (λ_ _ q=>ad _ q) (ah _) ⟨hz,its,0,hv,ba _ rfl⟩
theorem Inv.fresh(I:Inv X pZ σ H s):H s.heap.objs.size=none:=I.hok.fresh (ah _)
theorem Inv.lstM(I:Inv X pZ σ H s)(hH:H l=some (.lst xs)):xs.length<=af/\∃(its:List Value) (n:Nat),Vals xs its/\xs.length=its.length/\s.heap.get? l=some { cls:=.type "list",data:=.seq its.toArray n }:=by
 obtain⟨z,its,n,r,e⟩:=I.hok l _ hH;exact⟨z,its,n,r,r.length,e⟩
theorem zBW(h:n<=af):Builtin.List.listTooLong n=false:=by
 unfold Builtin.List.listTooLong;exact decide_eq_false (by omega)
end
section
variable{X:Cx}
def zE9:V->List V->Hp->VK->Prop:=λx vs H Q=>∃l xs y,x=.ref l/\vs=[y]/\H l=some (.lst xs)/\xs.length<af/\Q .non (upd H l (.lst (xs++[y])))
theorem kQ:MtM X "list.append" zE9:=by
 intro pZ s σ H x vs v us Q I rx rv h;obtain⟨l,xs,y,rfl,rfl,hH,hz,q⟩:=h;cases rx;obtain⟨u,rfl,ru⟩:=rv.one;obtain⟨z,its,n,r,hl,e⟩:=I.lstM hH;refine oy F.slot_list_append ⟨_,e,rfl⟩ F.entry_list_append (F.args_list_append_2 _ _) (PySem.list_append l its.toArray n u (by rw[ak];omega)) ⟨e,?_⟩;refine⟨.non,_,I.lset (its':=its++[u]) hH e (by simp) (r.append (.cons ru .nil)) ?_,rfl,q⟩;rw[bv,List.length_singleton];omega
def zP9:V->List V->Hp->VK->Prop:=λx vs H Q=>∃l xs y,x=.ref l/\vs=[]/\H l=some (.lst xs)/\xs[xs.length-1]?=some y/\Q y (upd H l (.lst xs.dropLast))
theorem WD:MtM X "list.pop" zP9:=by
 intro pZ s σ H x vs v us Q I rx rv h;obtain⟨l,xs,y,rfl,rfl,hH,hy,q⟩:=h;cases rx;have hus:=rv.zero;subst hus;obtain⟨z,its,n,r,hl,e⟩:=I.lstM hH;obtain⟨u,hu,ru⟩:=r.get hy;have hy':its.toArray[its.toArray.size-1]?=some u:=by
  show its.toArray[its.length-1]?=some u;rw[<-gv,<-hl];exact hu
 refine oy F.slot_list_pop ⟨_,e,rfl⟩ F.entry_list_pop (F.args_list_pop_1 _) (MeetsSeq.list_pop_last l its.toArray n u hy' (by rw[ak];omega)) ⟨e,?_⟩;refine⟨y,_,I.lset (its':=its.dropLast) hH e ?_ r.dropLast ?_,ru,q⟩
 ·show its.toArray.eraseIdxIfInBounds (its.toArray.size-1)=its.dropLast.toArray;rw[ak,rq,rO]
 ·rw[List.length_dropLast];omega
def zKD:V->List V->Hp->VK->Prop:=λx vs H Q=>∃l xs i k y,x=.ref l/\vs=[.int i]/\H l=some (.lst xs)/\-(2 ^ 63)<=i/\i<2 ^ 63/\seqIndex? i xs.length=some k/\xs[k]?=some y/\Q y (upd H l (.lst (xs.eraseIdx k)))
theorem zB0:MtM X "list.pop" zKD:=by
 intro pZ s σ H x vs v us Q I rx rv h;obtain⟨l,xs,i,k,y,rfl,rfl,hH,h1,h2,hk,hy,q⟩:=h;cases rx;obtain⟨u,rfl,ru⟩:=rv.one;obtain⟨t,rfl⟩:=ru;obtain⟨z,its,n,r,hl,e⟩:=I.lstM hH;obtain⟨w,hw,rw'⟩:=r.get hy;refine oy F.slot_list_pop ⟨_,e,rfl⟩ F.entry_list_pop (F.args_list_pop_2 _ _)
  (MeetsSeq.list_pop_at l its.toArray n i t k w (fitsIndex_both h1 h2) (by rw[ak,<-hl];exact hk) (by rw[<-gv];exact hw) (by rw[ak];omega)) ⟨e,?_⟩
 refine⟨y,_,I.lset (its':=its.eraseIdx k) hH e ?_ (r.eraseIdx k) ?_,rw',q⟩
 ·show its.toArray.eraseIdxIfInBounds k=(its.eraseIdx k).toArray;rw[rq]
 ·have:=nS xs k
  omega
end
end L2
namespace Att
open PySem PySem.W PySem.Calls PyProof.Rows
theorem uG:∀(ns:List Int) (vs:List Value),WellAll P h vs (ns.map WData.int)->IntsAre vs ns:=by
 intro ns
 induction ns with
 |nil=>
  intro vs w;rw[qd] at w;cases w;exact .nil
 |cons n ns ih=>
  intro vs w;rw[aq] at w;cases w with
  |cons a b=>
   cases a;exact .cons _ _ (ih _ b)
theorem XJ{l:OpenLaw}{n:Nat}(hn:l.most=some n){P:Params}{h:Heap}{args:List WData}{vals:List Value}(hpre:l.row.toRowW.claim.pre args=true)(hwl:WellAll P h vals args):∃a vs ns,vals=[Value.ref a]/\args=[WData.list (ns.map WData.int)]/\h.get? a=some { cls:=.type "list",data:=.seq vs.toArray }/\IntsAre vs ns/\ns.length<=n:=by
 have hsh:WShape.hasAll [] args [.list .int]=true:=(pre_splitW hpre).1;have hc:l.pre.holds [] { args:=args } = true:=(pre_splitW hpre).2;obtain⟨d,r,rfl,h1,h2⟩:=hasAllW_cons hsh;obtain rfl:=hasAllW_nil h2;obtain⟨xs,rfl,h3⟩:=hasW_list h1;obtain⟨ns,rfl⟩:=items_int h3;have hlen:ns.length<=n:=by
  unfold OpenLaw.pre at hc;have h4:(WTm.not (.lt (.lit (.int (n:Int))) (.len (.arg 0)))).holds [] { args:=[.list (ns.map .int)] } = true:=by
   have h4:=(holds_andW hc).1;rw[hn] at h4;exact h4
  have h5:=condW_of h4 (w_not (w_lt w_lit (w_len_list (w_arg rfl))));rw[ao] at h5;refine lp λq=>?_
  have q':(n:Int)<((ns.length:Nat):Int):=by omega
  first
   |(rw[decide_eq_true q'] at h5;exact absurd h5 (by decide))
   |(simp at h5;omega)
 cases hwl with
 |cons w1 w2=>
  cases w2;cases w1 with
  |list ho hall=>exact⟨_,_,ns,rfl,rfl,ho,uG ns _ hall,hlen⟩
theorem XT(l:OpenLaw)(args:List WData):l.row.toRowW.claim.post args (.bool true) args=true:=
 postW_of (r:=l.row.toRowW) (X:=(true == true))
  (show WShape.has [] (.bool true) .bool=true by first|rfl|decide|simp[WShape.has,WShape.arms,WShape.armsAll])
  (show(WTm.eq .res (.lit (.bool true))).value [] { args:=args,res:=some (.bool true),after:=args } = some (.bool (true == true)) from w_eq_bool (w_res rfl) w_lit) rfl
theorem attach_call{l:OpenLaw}{n:Nat}{q:Program}{loose:List Str}{XP:(Str->Option Value)->Heap->Prop}{YP:World->Heap->Prop}{d:DefRec}(hn:l.most=some n)(hdf:d.params.defaults=[])(call:∀(w:World) (s₀ s₁:Shared) (mg mb:Str->Option Value) (fa:Addr) (o:Obj) (pm cd doc:Value) (a:Addr) (vs:List Value) (ns:List Int),
   Ground q loose [] XP w s₀ mg mb s₁.heap->YP w s₁.heap ->
   s₁.heap.get? fa=some o->o.data=.func (docDef d.name d.params d.body d.scope pm cd doc)->s₁.heap.CodeRec cd d.name->mg d.name=some (.ref fa) ->
   s₁.heap.get? a=some { cls:=.type "list",data:=.seq vs.toArray }->IntsAre vs ns->ns.length<=n->s₁.gens = #[] ->
   codeAny (model l.prog w) callerA (.call (.ref fa) ⟨[.ref a],[]⟩) (λr s'=>r=.ok (.ret (.bool true))/\OldK s₁.heap s'.heap/\s'.os=s₁.os/\AllBare s'.gens) s₁):WalkO q loose XP YP l.row.toRowW d [] (λf vs=>PySem.call f vs):=by
 intro w s₀ s₁ mg mb G Y fa o pm cd doc dV kV ho hd hcd hD hmg hg args vals as hpre hlay hrd hwl hlo;obtain rfl:dV=.none:=Dflts.none hD hdf;obtain rfl:kV=.none:=Dflts.noKw hD;obtain⟨a,vs,ns,rfl,rfl,hobj,hints,hlen⟩:=XJ hn hpre hwl;refine enter_call (rm (call w s₀ s₁ mg mb fa o pm cd doc a vs ns G Y ho (fd_plain hd) hcd hmg hobj hints hlen hg) λr s' hq=>?_);obtain⟨rfl,h2,h3,h4⟩:=hq;exact⟨.inl ⟨.bool true,.bool true,[],rfl,λ_=>rfl,.bool true,XT l _,λ_=>⟨List.Pairwise.nil,λ_ hm=>(nomatch hm)⟩⟩,h2,h3,h4⟩
end Att
namespace L2
open PySem PySem.Spec PyProof.Rows
theorem mO:∀{vs:List Value} {ns:List Int},IntsAre vs ns->Vals (ns.map V.int) vs
 |_,_,.nil=>.nil
 |_,_,.cons n t h=>.cons ⟨t,rfl⟩ (mO h)
def zPG(H:Hp):Prop:=∀b,H b=none\/∃o xs,H b=some (.frz o (.lst xs))
theorem zB7{K:Fg}(KX:K.In s₁.heap)(hns:s₁.heap.Ns bc mg)(hb:s₁.heap.Ns builtinsNs mb)(hbb:∀x:Str,x ≠ "__name__" -> mb x=bootBuiltins x)(hlim:s₁.heap.NoLimit)(hg:s₁.gens = #[])(ha:s₁.heap.get? a=some { cls:=.type "list",data:=.seq vs.toArray })(hi:IntsAre vs ns)(hl:ns.length<=af)(hr:Room k callerA)(F:∀base:Heap,K.In base->base.Ns bc mg->FnOk P w K mg base CX k fa fd [x] sp)(hbind:∀(s:Shared) (u:Value),BindsTo s fd ⟨[u],[]⟩ [(x,u)])(hsp:∀H:Hp,zPG H->SqL K H a (ns.map V.int)->sp [.ref a] H (λv _=>v=.bl true) λ_ _ _=>False)(hCX:∀H e s',CX [] H s₁ (λ_ _ _=>False) e s'->False):codeAny (model P w) callerA (.call (.ref fa) ⟨[.ref a],[]⟩) (λr s'=>r=.ok (.ret (.bool true))/\OldK s₁.heap s'.heap/\s'.os=s₁.os/\AllBare s'.gens) s₁:=by
 have rv:=mO hi;have lenV:=hi.length;have core:∀H:Hp,zPG H->SqL K H a (ns.map V.int)->HOk P w H s₁.heap->(∀b,H b≠none->b=a)->(H a≠none->K.lookup a=none) ->
   codeAny (model P w) callerA (.call (.ref fa) ⟨[.ref a],[]⟩) (λr s'=>r=.ok (.ret (.bool true))/\OldK s₁.heap s'.heap/\s'.os=s₁.os/\AllBare s'.gens) s₁:=by
  intro H hO hS hok hA hK;have base_of:∀{b:Addr} {o:Obj},s₁.heap.get? b=some o->H b=none->(zIY s₁.heap H).get? b=some o:=λe n=>zCC e n
  have noA:∀{b:Addr} {o:Obj} {es:Array DictEntry} {ep:Nat},s₁.heap.get? b=some o->o.data=.dict es ep->H b=none:=λ{b o es ep} e d=>by
   cases q:H b with
   |none=>rfl
   |some u=>
    have e':b=a:=hA b (by rw[q];simp);subst e';rw[ha] at e;cases e;have d':Data.seq vs.toArray _=Data.dict es ep:=d;cases d'
  have nsK:∀{b:Addr} {m:Str->Option Value},s₁.heap.Ns b m->(zIY s₁.heap H).Ns b m:=λ{b m} ⟨o,es,ep,e,d,r⟩=>⟨o,es,ep,base_of e (noA e d),d,r⟩
  have hKb:K.In (zIY s₁.heap H):=λb o e=>base_of (KX b o e) (by
   cases q:H b with
   |none=>rfl
   |some u=>
    have e':b=a:=hA b (by rw[q];simp);subst e';rw[hK (by rw[q];simp)] at e;cases e)
  have hM:Mod K mg (zIY s₁.heap H):=⟨hKb,nsK hns,⟨mb,nsK hb,hbb⟩,let ⟨mc,h1,h2⟩:=hlim;⟨mc,nsK h1,h2⟩⟩;have e0:Env0 P w K mg (zIY s₁.heap H) callerA [] s₁ H:=⟨rfl,hM,λb o e=>zF8 e,mw (WW _ _),trivial,⟨λb hb=>absurd (show b∈([]:List Addr) from hb) (by simp),trivial⟩,hok,.of_eq hg⟩;refine rm ((F _ hKb (nsK hns)).run callerA [] s₁ H ⟨[.ref a],[]⟩ [.ref a] [.ref a] _ _ hr e0 (hbind s₁ (.ref a)) (.cons rfl .nil) (hsp H hO hS)) λr s' h=>?_
  cases r with
  |error e=>exact(hCX H e s' h).elim
  |ok fl=>
   cases fl with
   |next=>exact False.elim h
   |brk=>exact False.elim h
   |cont=>exact False.elim h
   |ret u=>
    obtain⟨v,H',os,bare,un,hok',r',q⟩:=h;have q':v=.bl true:=q;subst q';obtain rfl:u=Value.bool true:=r';refine⟨rfl,OldK.of_keep λb o e=>?_,os,bare⟩;cases q:H b with
    |none=>exact un.keep b o e q (by intro z;exact absurd (show b∈([]:List Addr) from z) (by simp)) (by simp)
    |some u=>
     rcases hO b with z|⟨ob,xs,z⟩
     ·rw[q] at z;cases z
     ·have z2:=un.frzs b ob _ z;obtain⟨e1,_⟩:=hok b _ z;obtain⟨e2,_⟩:=hok' b _ z2;rw[e] at e1;cases e1;exact e2
 cases hk:K.lookup a with
 |some o=>
  have e:=KX a o hk;rw[ha] at e;cases e;refine core (λ_=>none) (λ_=>.inl rfl) (.inr ⟨_,vs.toArray,_,hk,rfl,rfl,rfl,by rw[ak,lenV];exact hl,by simpa using rv⟩) (λb u z=>by have z':(none:Option HO)=some u:=z;cases z') (λb z=>absurd rfl z) λz=>absurd rfl z
 |none=>
  refine core (λb=>if b=a then some (.frz { cls:=.type "list",data:=.seq vs.toArray } (.lst (ns.map V.int))) else none) (λb=>?_) (.inl (.inr ⟨{ cls:=.type "list",data:=.seq vs.toArray },if_pos rfl⟩)) (λb u z=>?_) (λb z=>?_) λ_=>hk
  ·by_cases hb:b=a
   ·exact .inr ⟨_,_,if_pos hb⟩
   ·exact .inl (if_neg hb)
  ·by_cases hb:b=a
   ·have z':=(if_pos hb).symm.trans z;cases z';subst hb;exact⟨ha,by rw[ao];exact hl,vs,_,rv,ha⟩
   ·have z':=(if_neg hb).symm.trans z;cases z'
  ·by_cases hb:b=a
   ·exact hb
   ·exact absurd (if_neg hb) z
end L2
namespace L2
open PySem PySem.Spec PyProof.Rows
theorem zEA{l:PySem.W.OpenLaw}{n k:Nat}{q:Program}{loose:List Str}{XP:(Str->Option Value)->Heap->Prop}{YP:World->Heap->Prop}{d:DefRec}{K:Params->Fg}{CX:World->CXT}{sp:World->Sp}{x:Str}(hn:l.most=some n)(hn2:n<=af)(hdf:d.params.defaults=[])(hr:Room k callerA)(hY:∀(w:World) (h:Heap),YP w h->(K w.params).In h)(F:∀(w:World) (mg:Str->Option Value) (fa:Addr) (h:Heap),(K w.params).In h->h.Ns bc mg->mg d.name=some (.ref fa) ->
   ∃fd:FuncData,(∀(s:Shared) (u:Value),BindsTo s fd ⟨[u],[]⟩ [(x,u)]) /\
    ∀base:Heap,(K w.params).In base->base.Ns bc mg->FnOk l.prog w (K w.params) mg base (CX w) k fa fd [x] (sp w))(hsp:∀(w:World) (H:Hp) (a:Addr) (ns:List Int),ns.length<=n->zPG H->SqL (K w.params) H a (ns.map V.int)->sp w [.ref a] H (λv _=>v=.bl true) λ_ _ _=>False)(hCX:∀(w:World) (H:Hp) (s:Shared) (e:Value) (s':Shared),CX w [] H s (λ_ _ _=>False) e s'->False):PySem.W.WalkO q loose XP YP l.row.toRowW d [] (λf vs=>PySem.call f vs):=by
 refine Att.attach_call hn hdf λw s₀ s₁ mg mb fa o pm cd doc a vs ns G Y ho hd hcd hmg hobj hints hlen hg=>?_
 have KX:=hY w _ Y;obtain⟨fd,hb,hF⟩:=F w mg fa _ KX G.T.g hmg;exact zB7 KX G.T.g G.T.b G.T.builtins G.T.nolimit hg hobj hints (bq hlen hn2) hr hF hb (λH hO hS=>hsp w H a ns hlen hO hS) λH e s'=>hCX w H s₁ e s'
theorem walk_ofK{l:PySem.W.OpenLaw}{n k:Nat}{q:Program}{loose:List Str}{XP:(Str->Option Value)->Heap->Prop}{YP:World->Heap->Prop}{d:DefRec}{K:Params->Fg}{CX:CXT}{sp:Fg->Sp}{x:Str}(hn:l.most=some n)(hn2:n<=af)(hdf:d.params.defaults=[])(hr:Room k callerA)(hY:∀(w:World) (h:Heap),YP w h->(K w.params).In h)(F:∀(w:World) (mg:Str->Option Value) (fa:Addr) (h:Heap),(K w.params).In h->h.Ns bc mg->mg d.name=some (.ref fa) ->
   ∃fd:FuncData,(∀(s:Shared) (u:Value),BindsTo s fd ⟨[u],[]⟩ [(x,u)]) /\
    ∀base:Heap,(K w.params).In base->base.Ns bc mg->FnOk l.prog w (K w.params) mg base CX k fa fd [x] (sp (K w.params)))(hsp:∀(K:Fg) (H:Hp) (a:Addr) (ns:List Int),ns.length<=n->zPG H->SqL K H a (ns.map V.int)->sp K [.ref a] H (λv _=>v=.bl true) λ_ _ _=>False)(hCX:∀(H:Hp) (s:Shared) (e:Value) (s':Shared),CX [] H s (λ_ _ _=>False) e s'->False):PySem.W.WalkO q loose XP YP l.row.toRowW d [] (λf vs=>PySem.call f vs):=
 zEA (K:=K) (CX:=λ_=>CX) (sp:=λw=>sp (K w.params)) hn hn2 hdf hr hY F (λw H a ns h1 h2 h3=>hsp (K w.params) H a ns h1 h2 h3) λ_ H s e s'=>hCX H s e s'
end L2
namespace L2
open PySem PySem.Spec PyProof.Rows
noncomputable def vE(s:Stmt):Arguments:=match s with
 |.FunctionDef _ a _ _ _ _ _ _ _ _=>a
 |_=>{ posonlyargs:=[],args:=[],vararg:=none,kwonlyargs:=[],kw_defaults:=[],kwarg:=none,defaults:=[] }
noncomputable def qR(s:Stmt):List Stmt:=match s with
 |.FunctionDef _ _ b _ _ _ _ _ _ _=>b
 |_=>[]
noncomputable def zO(s:Stmt):Scope:=match s with
 |.FunctionDef _ _ _ _ _ _ sc _ _ _=>sc
 |_=>{ kind:=.function,names:=[],isGenerator:=false,isCoroutine:=false }
noncomputable abbrev CX0:CXT:=λ_ _ _ _ _ _=>False
noncomputable abbrev E0:XK:=λ_ _ _=>False
theorem dC:cO CX0 X E0:=λ_ _ _ _ _ _ _ h=>h.elim
structure Fun(K:Fg)(x qual:Str)(st:Stmt)(f:Addr)(fd:FuncData):Prop where
 ex:∃(oc:Value) (od:Option Addr) (kV doc pm:Value) (an:Option Addr) (cdv ct:Value) (osl:Array (Option Value)),
  fd=PySem.W.fnOf x qual (vE st) (qR st) (zO st) .none kV doc pm an cdv ct/\K.lookup f=some ⟨oc,od,.func fd,osl⟩/\PySem.W.codeIn K cdv qual=true
 kp:PySem.W.keepIn K (.ref f)=true
section
variable{K:Fg}
theorem Fun.ok{st:Stmt}(F:Fun K x qual st f fd)(S:FnScope N ps (zO st))(len:∀vs H Q E,sp vs H Q E->vs.length=ps.length)(hbody:∀(cdv:Value) (A:Around) (outer:List Env) (s:Shared) (H:Hp) (vs:List V) (Q:VK) (E:XK),Room k (A.deeper (envOfC qual (zO st) s.heap.objs.size f cdv))->sp vs H Q E ->
   ∃t,PSs (zIZ CX0 P w K mg base N qual (zO st) f cdv A outer s H E).nox (qR st) t/\t { nx:=λ_ H'=>Q .non H',rt:=Q } (start N vs) H):FnOk P w K mg base CX0 (k+1) f fd ps sp:=by
 obtain⟨oc,od,kV,doc,pm,an,cdv,ct,osl,rfl,lk,hcd⟩:=F.ex;refine zM6 lk hcd S len λA outer s H vs Q E hr hsp=>?_
 obtain⟨t,h,q⟩:=hbody cdv A outer s H vs Q E hr hsp;exact⟨t,h.nox,q⟩
theorem Fun.binds{st:Stmt}(F:Fun K x qual st f fd)(h:∀(kV doc pm:Value) (an:Option Addr) (cdv ct:Value) (us:List Value),us.length=ps.length->bindArgs (PySem.W.fnOf x qual (vE st) (qR st) (zO st) .none kV doc pm an cdv ct) ⟨us,[]⟩=pure (ps.zip us)):Binds K fd ps []:=by
 obtain⟨oc,od,kV,doc,pm,an,cdv,ct,osl,rfl,lk,hcd⟩:=F.ex;exact .all (h kV doc pm an cdv ct)
theorem WZ{st:Stmt}{kV:Value}(l:K.lookup f=some ⟨oc,od,.func (PySem.W.fnOf x qual (vE st) (qR st) (zO st) .none kV doc pm an cdv ct),osl⟩)(c:PySem.W.codeIn K cdv qual=true)(k:PySem.W.keepIn K (.ref f)=true):Fun K x qual st f (PySem.W.fnOf x qual (vE st) (qR st) (zO st) .none kV doc pm an cdv ct):=⟨⟨oc,od,kV,doc,pm,an,cdv,ct,osl,rfl,l,c⟩,k⟩
end
section
variable{X:Cx}
theorem pv(i:Nat)(hN:X.N[i]?=some x:=by rfl)(hv:Vis X.env.scope x:=by first|exact Or.inl rfl|exact Or.inr (Or.inl rfl)|exact Or.inr (Or.inr rfl))(hd:(x == ("__debug__" : Str))=false:=by decide)(hcd:(x == ("__classdict__" : Str))=false:=by decide):PE X (.Name x pos) (kN i):=zKN hN hv hd hcd
end
theorem zNI{A B:Prop}(h:B):if false=true then A else B:=by
 rw[if_neg av];exact h
theorem zNH{A B:Prop}(h:A):if true=true then A else B:=by
 rw[if_pos rfl];exact h
def Same(H H':Hp):Prop:=∀b o,H b=some o->H' b=some o
theorem Same.refl(H:Hp):Same H H:=λ_ _ h=>h
theorem Same.trans(a:Same H H1)(b:Same H1 H2):Same H H2:=λc o h=>b c o (a c o h)
theorem Same.free(e:Same H H')(h:H' l=Option.none):H l=Option.none:=by
 cases q:H l with
 |none=>rfl
 |some o=>
  rw[e l o q] at h;cases h
theorem Same.seq{K:Fg}(e:Same H H')(h:SqL K H a xs):SqL K H' a xs:=by
 rcases h with(h|⟨o,h⟩)|h
 ·exact .inl (.inl (e _ _ h))
 ·exact .inl (.inr ⟨o,e _ _ h⟩)
 ·exact .inr h
end L2
namespace DD
open PySem PySem.Spec PyProof.Rows L2
noncomputable abbrev St:=L2.St
inductive D where
 |non|bl (b:Bool)|int (i:Int)|str (s:List Nat)|tup (l:List D)|lst (l:List D)|ty (n:String)|ref (a:Addr)|dct (ks:List Key) (l:List D)
def LsAt(K:Fg)(O:Addr->Prop)(H:Hp)(a:Addr)(xs:List V):Prop:=
 (¬O a/\Rd H a (.lst xs))\/∃(o:Obj) (its:Array Value) (n:Nat),K.lookup a=some o/\o.cls=.type "list" /\ o.dict=none/\o.data=.seq its n/\its.size<=af/\Vals xs its.toList
theorem LsAt.sq{K:Fg}(h:LsAt K O H a xs):SqL K H a xs:=h.imp (·.2) id
mutual
def Is(K:Fg)(O:Addr->Prop)(H:Hp):D->V->Prop
 |.non,v=>v=.non
 |.bl b,v=>v=.bl b
 |.int i,v=>v=.int i
 |.str s,v=>v=.str ⟨s.toArray⟩
 |.ty n,v=>v=.ty n
 |.ref a,v=>v=.ref a
 |.tup l,v=>∃a xs,v=.ref a/\SqT K H a xs/\IsL K O H l xs
 |.lst l,v=>∃a xs,v=.ref a/\LsAt K O H a xs/\IsL K O H l xs
 |.dct ks l,v=>∃a kvs,v=.ref a/\¬O a/\Rd H a (.dK kvs)/\kvs.map (·.1)=ks/\IsL K O H l (kvs.map (·.2))
def IsL(K:Fg)(O:Addr->Prop)(H:Hp):List D->List V->Prop
 |[],vs=>vs=[]
 |d::l,vs=>∃v r,vs=v::r/\Is K O H d v/\IsL K O H l r
end
def Mb:HO->Prop
 |.lst _=>True
 |.dK _=>True
 |.frz _ (.dK _)=>True
 |.ins _ _ _=>True
 |_=>False
def jN(O:Addr->Prop)(H:Hp):Prop:=∀a,O a->∃o,H a=some o/\Mb o
def bL(O:Addr->Prop)(H H':Hp):Prop:=∀b o,H b=some o->¬O b->H' b=some o
theorem Rd.some(h:Rd H a u):∃o,H a=some o:=by
 rcases h with h|⟨o,h⟩
 ·exact⟨_,h⟩
 ·exact⟨_,h⟩
theorem SqT.keep{K:Fg}(k:bL O H H')(o:jN O H)(h:SqT K H a xs):SqT K H' a xs:=by
 rcases h with(h|⟨ob,h⟩)|h
 ·exact .inl (.inl (k _ _ h λz=>by obtain⟨ys,q,m⟩:=o a z;rw[h] at q;cases q;exact m))
 ·exact .inl (.inr ⟨ob,k _ _ h λz=>by obtain⟨ys,q,m⟩:=o a z;rw[h] at q;cases q;exact m⟩)
 ·exact .inr h
theorem Rd.keep(k:bL O H H')(n:¬O a)(h:Rd H a u):Rd H' a u:=by
 rcases h with h|⟨ob,h⟩
 ·exact .inl (k _ _ h n)
 ·exact .inr ⟨ob,k _ _ h n⟩
mutual
theorem Is.mono{K:Fg}(k:bL O H H')(ol:jN O H)(oo:∀a,O' a->H a≠none->O a):∀(d:D) (v:V),Is K O H d v->Is K O' H' d v
 |.non,v,h=>by unfold Is at h ⊢;exact h
 |.bl b,v,h=>by unfold Is at h ⊢;exact h
 |.int i,v,h=>by unfold Is at h ⊢;exact h
 |.str s,v,h=>by unfold Is at h ⊢;exact h
 |.ty n,v,h=>by unfold Is at h ⊢;exact h
 |.ref a,v,h=>by unfold Is at h ⊢;exact h
 |.tup l,v,h=>by
  unfold Is at h ⊢;obtain⟨a,xs,e,q,r⟩:=h;exact⟨a,xs,e,SqT.keep k ol q,IsL.mono k ol oo l xs r⟩
 |.lst l,v,h=>by
  unfold Is at h ⊢;obtain⟨a,xs,e,nq,r⟩:=h;refine⟨a,xs,e,?_,IsL.mono k ol oo l xs r⟩;rcases nq with⟨n,q⟩|q
  ·exact .inl ⟨λz=>n (oo a z (by obtain⟨o,q⟩:=Rd.some q;rw[q];simp)),Rd.keep k n q⟩
  ·exact .inr q
 |.dct ks l,v,h=>by
  unfold Is at h ⊢;obtain⟨a,kvs,e,n,q,e2,r⟩:=h;exact⟨a,kvs,e,λz=>n (oo a z (by obtain⟨o,q⟩:=Rd.some q;rw[q];simp)),Rd.keep k n q,e2,IsL.mono k ol oo l _ r⟩
theorem IsL.mono{K:Fg}(k:bL O H H')(ol:jN O H)(oo:∀a,O' a->H a≠none->O a):∀(l:List D) (vs:List V),IsL K O H l vs->IsL K O' H' l vs
 |[],vs,h=>by unfold IsL at h ⊢;exact h
 |d::l,vs,h=>by
  unfold IsL at h ⊢;obtain⟨v,r,e,h1,h2⟩:=h;exact⟨v,r,e,Is.mono k ol oo d v h1,IsL.mono k ol oo l r h2⟩
end
theorem Same.kp(s:Same H H')(O:Addr->Prop):bL O H H':=λb o e _=>s b o e
theorem Is.same{K:Fg}(s:Same H H')(ol:jN O H)(h:Is K O H d v):Is K O H' d v:=Is.mono (Same.kp s O) ol (λ_ z _=>z) d v h
theorem IsL.same{K:Fg}(s:Same H H')(ol:jN O H)(h:IsL K O H l vs):IsL K O H' l vs:=IsL.mono (Same.kp s O) ol (λ_ z _=>z) l vs h
section
variable{K:Fg}
theorem IsL.length:∀{l:List D} {vs:List V},IsL K O H l vs->l.length=vs.length
 |[],vs,h=>by unfold IsL at h;subst h;rfl
 |d::l,vs,h=>by unfold IsL at h;obtain⟨v,r,rfl,_,h2⟩:=h;simp[IsL.length h2]
theorem IsL.get:∀{l:List D} {vs:List V} {i:Nat} {d:D},IsL K O H l vs->l[i]?=some d->∃v,vs[i]?=some v/\Is K O H d v
 |[],_,_,_,_,e=>by simp at e
 |d::l,vs,0,d',h,e=>by
  unfold IsL at h;obtain⟨v,r,rfl,h1,h2⟩:=h;simp at e;subst e;exact⟨v,rfl,h1⟩
 |d::l,vs,i+1,d',h,e=>by
  unfold IsL at h;obtain⟨v,r,rfl,h1,h2⟩:=h;obtain⟨u,q1,q2⟩:=IsL.get (i:=i) h2 (by simpa using e);exact⟨u,by simpa using q1,q2⟩
theorem IsL.nil:IsL K O H [] []:=by unfold IsL;rfl
theorem IsL.cons(h:Is K O H d v)(t:IsL K O H l vs):IsL K O H (d::l) (v::vs):=by unfold IsL;exact⟨v,vs,rfl,h,t⟩
theorem IsL.append:∀{l m:List D} {vs us:List V},IsL K O H l vs->IsL K O H m us->IsL K O H (l++m) (vs++us)
 |[],_,_,_,h,t=>by unfold IsL at h;subst h;exact t
 |d::l,m,vs,us,h,t=>by unfold IsL at h;obtain⟨v,r,rfl,h1,h2⟩:=h;exact .cons h1 (IsL.append h2 t)
theorem IsL.take:∀{l:List D} {vs:List V} (n:Nat),IsL K O H l vs->IsL K O H (l.take n) (vs.take n)
 |_,_,0,_=>by simpa using IsL.nil
 |[],_,_+1,h=>by unfold IsL at h;subst h;simpa using IsL.nil
 |d::l,vs,n+1,h=>by unfold IsL at h;obtain⟨v,r,rfl,h1,h2⟩:=h;exact .cons h1 (IsL.take n h2)
theorem IsL.drop:∀{l:List D} {vs:List V} (n:Nat),IsL K O H l vs->IsL K O H (l.drop n) (vs.drop n)
 |_,_,0,h=>h
 |[],_,_+1,h=>by unfold IsL at h;subst h;simpa using IsL.nil
 |d::l,vs,n+1,h=>by unfold IsL at h;obtain⟨v,r,rfl,h1,h2⟩:=h;exact IsL.drop n h2
theorem IsL.reverse:∀{l:List D} {vs:List V},IsL K O H l vs->IsL K O H l.reverse vs.reverse
 |[],_,h=>by unfold IsL at h;subst h;exact IsL.nil
 |d::l,vs,h=>by
  unfold IsL at h;obtain⟨v,r,rfl,h1,h2⟩:=h;rw[je,je];exact(IsL.reverse h2).append (.cons h1 .nil)
theorem IsL.inv1(h:IsL K O H [d] vs):∃v,vs=[v]/\Is K O H d v:=by
 unfold IsL at h;obtain⟨v,r,rfl,h1,h2⟩:=h;unfold IsL at h2;subst h2;exact⟨v,rfl,h1⟩
theorem IsL.inv2(h:IsL K O H [d,e] vs):∃v u,vs=[v,u]/\Is K O H d v/\Is K O H e u:=by
 unfold IsL at h;obtain⟨v,r,rfl,h1,h2⟩:=h;obtain⟨u,rfl,h3⟩:=h2.inv1;exact⟨v,u,rfl,h1,h3⟩
theorem IsL.inv3(h:IsL K O H [d,e,f] vs):∃v u w,vs=[v,u,w]/\Is K O H d v/\Is K O H e u/\Is K O H f w:=by
 unfold IsL at h;obtain⟨v,r,rfl,h1,h2⟩:=h;obtain⟨u,w,rfl,h3,h4⟩:=h2.inv2;exact⟨v,u,w,rfl,h1,h3,h4⟩
theorem Is.int_iff:Is K O H (.int i) v↔v=.int i:=by unfold Is;exact qv
theorem Is.bl_iff:Is K O H (.bl b) v↔v=.bl b:=by unfold Is;exact qv
theorem Is.str_iff:Is K O H (.str s) v↔v=.str ⟨s.toArray⟩:=by unfold Is;exact qv
theorem Is.non_iff:Is K O H .non v↔v=.non:=by unfold Is;exact qv
theorem Is.ref_iff:Is K O H (.ref a) v↔v=.ref a:=by unfold Is;exact qv
theorem Is.tup_iff:Is K O H (.tup l) v↔∃a xs,v=.ref a/\SqT K H a xs/\IsL K O H l xs:=by unfold Is;exact qv
theorem Is.lst_iff:Is K O H (.lst l) v↔∃a xs,v=.ref a/\LsAt K O H a xs/\IsL K O H l xs:=by unfold Is;exact qv
theorem Is.dct_iff:Is K O H (.dct ks l) v↔∃a kvs,v=.ref a/\¬O a/\Rd H a (.dK kvs)/\kvs.map (·.1)=ks/\IsL K O H l (kvs.map (·.2)):=by unfold Is;exact qv
end
inductive Sl where
 |un|v (d:D)|o (l:List D)|p (l:List D)|z (l:List D)|d (b:Bool) (ks:List Key) (l:List D)
noncomputable abbrev En:=List Sl
noncomputable def Sl.own:Sl->Option (List D)
 |.o l=>some l
 |.p l=>some l
 |.z l=>some l
 |.d _ _ l=>some l
 |_=>none
noncomputable def Sl.mt:Sl->Option (List D)
 |.o l=>some l
 |.p l=>some l
 |.d _ _ l=>some l
 |_=>none
noncomputable def Sl.ls:Sl->Option (List D)
 |.o l=>some l
 |.p l=>some l
 |.z l=>some l
 |_=>none
noncomputable def Sl.ml:Sl->Option (List D)
 |.o l=>some l
 |.p l=>some l
 |_=>none
theorem zGH{x:Sl}{l:List D}(h:x.ml=some l):x.mt=some l/\x.ls=some l:=by
 cases x<;>first|(cases h;exact⟨rfl,rfl⟩)|cases h
theorem zK5{x:Option Sl}{l:List D}(h:x.bind Sl.ml=some l):x.bind Sl.mt=some l:=by
 cases x with
 |none=>cases h
 |some x=>exact(zGH (x:=x) h).1
theorem zLA{x:Sl}{l:List D}(h:x.ls=some l):x.own=some l:=by
 cases x<;>first|(cases h;rfl)|cases h
theorem jA{x:Option Sl}{l:List D}(h:x.bind Sl.ls=some l):x.bind Sl.own=some l:=by
 cases x with
 |none=>cases h
 |some x=>exact zLA (x:=x) h
theorem zF1(h:x.bind Sl.own=some l):x.bind Sl.ls=some l\/∃f ks,x=some (.d f ks l):=by
 cases x with
 |none=>cases h
 |some x=>cases x<;>first|(cases h;exact .inl rfl)|(cases h;exact .inr ⟨_,_,rfl⟩)|cases h
noncomputable def Sl.pk:Sl->Option Bool
 |.p _=>some false
 |.d true _ _=>some true
 |_=>none
theorem u5{x:Option Sl}{k:Bool}(h:x.bind Sl.pk=some k):∃l,x.bind Sl.own=some l:=by
 cases x with
 |none=>cases h
 |some x=>cases x<;>first|(cases h;done)|exact⟨_,rfl⟩
theorem zPU(h:x.bind Sl.pk=some false):∃l,x=some (.p l):=by
 cases x with
 |none=>cases h
 |some x=>cases x with
  |d f ks l=>cases f<;>cases h
  |p l=>exact⟨l,rfl⟩
  |_=>cases h
theorem zRD(h:x.bind Sl.pk=some true):∃ks l,x=some (.d true ks l):=by
 cases x with
 |none=>cases h
 |some x=>cases x with
  |d f ks l=>cases f<;>first|(cases h;done)|exact⟨ks,l,rfl⟩
  |_=>cases h
def AtS(q:Sl->Option (List D))(r:En)(σ:St)(a:Addr):Prop:=∃(i:Nat) (l:List D),(r[i]?).bind q=some l/\σ[i]?=some (some (.ref a))
noncomputable abbrev w8:=AtS Sl.own
noncomputable abbrev MutAt:=AtS Sl.mt
theorem uB{x:Sl}{l:List D}(h:x.mt=some l):x.own=some l:=by
 cases x<;>first|(cases h;rfl)|cases h
theorem MutAt.own(h:MutAt r σ a):w8 r σ a:=by
 obtain⟨i,l,e,q⟩:=h;obtain⟨x,e1,e2⟩:=og.mp e;exact⟨i,l,by rw[e1];exact uB e2,q⟩
def Ow(O0:Addr->Prop)(r:En)(σ:St):Addr->Prop:=λa=>O0 a\/w8 r σ a
structure R(K:Fg)(O0:Addr->Prop)(H:Hp)(r:En)(σ:St):Prop where
 len:r.length=σ.length
 val:∀(i:Nat) (d:D),r[i]?=some (.v d)->∃v,σ[i]?=some (some v)/\Is K (Ow O0 r σ) H d v
 own:∀(i:Nat) (l:List D),(r[i]?).bind Sl.ls=some l->∃a xs,σ[i]?=some (some (.ref a))/\H a=some (.lst xs)/\IsL K (Ow O0 r σ) H l xs
 apart:∀(i j:Nat) (a:Addr) (l m:List D),(r[i]?).bind Sl.own=some l->(r[j]?).bind Sl.own=some m->σ[i]?=some (some (.ref a))->σ[j]?=some (some (.ref a))->i=j
 o0:jN O0 H
 loc:∀(i:Nat) (l:List D) (a:Addr),(r[i]?=some (.o l)\/r[i]?=some (.z l)\/∃ks,r[i]?=some (.d false ks l))->σ[i]?=some (some (.ref a))->¬O0 a
 par:∀(i:Nat) (k:Bool) (a:Addr),(r[i]?).bind Sl.pk=some k->σ[i]?=some (some (.ref a))->O0 a
 dct:∀(i:Nat) (f:Bool) (ks:List Key) (l:List D),r[i]?=some (.d f ks l)->∃a kvs,σ[i]?=some (some (.ref a))/\H a=some (.dK kvs)/\kvs.map (·.1)=ks/\IsL K (Ow O0 r σ) H l (kvs.map (·.2))
theorem R.obj{K:Fg}{O0:Addr->Prop}{H:Hp}{r:En}{σ:St}(h:R K O0 H r σ){j:Nat}{m:List D}(e:(r[j]?).bind Sl.own=some m):∃a o,σ[j]?=some (some (.ref a))/\H a=some o/\Mb o:=by
 rcases zF1 e with e|⟨f,ks,e⟩
 ·obtain⟨a,xs,e1,e2,_⟩:=h.own j m e;exact⟨a,_,e1,e2,trivial⟩
 ·obtain⟨a,kvs,e1,e2,_⟩:=h.dct j f ks m e;exact⟨a,_,e1,e2,trivial⟩
theorem R.ol{K:Fg}(h:R K O0 H r σ):jN (Ow O0 r σ) H:=λa z=>by
 rcases z with z|⟨i,l,e,q⟩
 ·exact h.o0 a z
 ·rcases zF1 e with e|⟨f,ks,e⟩
  ·obtain⟨b,xs,e1,e2,_⟩:=h.own i l e;rw[q] at e1;cases e1;exact⟨.lst xs,e2,trivial⟩
  ·obtain⟨b,kvs,e1,e2,_⟩:=h.dct i f ks l e;rw[q] at e1;cases e1;exact⟨.dK kvs,e2,trivial⟩
theorem R.nofresh{K:Fg}(h:R K O0 H r σ)(n:H a=none):¬Ow O0 r σ a:=λz=>by
 obtain⟨o,e,_⟩:=h.ol a z;rw[n] at e;cases e
theorem R.same{K:Fg}(h:R K O0 H r σ)(s:Same H H'):R K O0 H' r σ where
 len:=h.len
 val:=λi d e=>by obtain⟨v,e1,q⟩:=h.val i d e;exact⟨v,e1,q.same s h.ol⟩
 own:=λi l e=>by obtain⟨a,xs,e1,e2,q⟩:=h.own i l e;exact⟨a,xs,e1,s _ _ e2,q.same s h.ol⟩
 dct:=λi f ks l e=>by obtain⟨a,kvs,e1,e2,e3,q⟩:=h.dct i f ks l e;exact⟨a,kvs,e1,s _ _ e2,e3,q.same s h.ol⟩
 apart:=h.apart
 o0:=λa z=>by obtain⟨xs,e,m⟩:=h.o0 a z;exact⟨xs,s _ _ e,m⟩
 loc:=h.loc
 par:=h.par
structure Kp(H:Hp)(r:En)(σ:St)(H':Hp)(r':En)(σ':St):Prop where
 keep:bL (MutAt r σ) H H'
 live:∀b,H' b=none->H b=none
 lst:∀b o,H b=some o->Mb o->∃o',H' b=some o'/\Mb o'
 new:∀b,w8 r' σ' b->w8 r σ b\/H b=none
 mnew:∀b,MutAt r' σ' b->MutAt r σ b\/H b=none
 par:∀(i:Nat) (k:Bool),(r[i]?).bind Sl.pk=some k->(r'[i]?).bind Sl.pk=some k/\σ'[i]?=σ[i]?
 fz:∀(i:Nat) (l:List D),r[i]?=some (.z l)->r'[i]?=some (.z l)/\σ'[i]?=σ[i]?
theorem Kp.of_same(r:En)(σ:St)(s:Same H H'):Kp H r σ H' r σ:=
 ⟨λb o e _=>s b o e,λb e=>s.free e,λb o e m=>⟨o,s _ _ e,m⟩,λb z=>.inl z,λb z=>.inl z,λi k e=>⟨e,rfl⟩,λi l e=>⟨e,rfl⟩⟩
theorem Kp.refl(H:Hp)(r:En)(σ:St):Kp H r σ H r σ:=.of_same r σ (Same.refl H)
theorem Kp.trans(a:Kp H r σ H1 r1 σ1)(b:Kp H1 r1 σ1 H2 r2 σ2):Kp H r σ H2 r2 σ2 where
 keep:=λc o e n=>b.keep c o (a.keep c o e n) λz=>(a.mnew c z).elim n λq=>by rw[e] at q;cases q
 live:=λc e=>a.live c (b.live c e)
 lst:=λc o e m=>by obtain⟨o1,q,m1⟩:=a.lst c o e m;exact b.lst c o1 q m1
 new:=λc z=>(b.new c z).elim (a.new c) λq=>.inr (a.live c q)
 mnew:=λc z=>(b.mnew c z).elim (a.mnew c) λq=>.inr (a.live c q)
 par:=λi k e=>by
  obtain⟨e1,q1⟩:=a.par i k e;obtain⟨e2,q2⟩:=b.par i k e1;exact⟨e2,q2.trans q1⟩
 fz:=λi l e=>by
  obtain⟨e1,q1⟩:=a.fz i l e;obtain⟨e2,q2⟩:=b.fz i l e1;exact⟨e2,q2.trans q1⟩
theorem PE.conseq(h:PE X e t)(i:∀σ H Q,t' σ H Q->t σ H Q):PE X e t':=λpZ s σ H Q I q=>h pZ s σ H Q I (i σ H Q q)
theorem PT.conseq(h:PT X e t)(i:∀σ H Q,t' σ H Q->t σ H Q):PT X e t':=λpZ s σ H Q I q=>h pZ s σ H Q I (i σ H Q q)
theorem PA.conseq(h:PA X e t)(i:∀σ H Q,t' σ H Q->t σ H Q):PA X e t':=λpos pZ s σ H Q I q=>h pos pZ s σ H Q I (i σ H Q q)
theorem PS.conseq{st:Stmt}(h:PS X st t)(i:∀D σ H,t' D σ H->t D σ H):PS X st t':=λpZ s σ H D I q=>h pZ s σ H D I (i D σ H q)
theorem PSs.conseq{st:List Stmt}(h:PSs X st t)(i:∀D σ H,t' D σ H->t D σ H):PSs X st t':=λpZ s σ H D I q=>h pZ s σ H D I (i D σ H q)
noncomputable abbrev ME:=En->Option D
noncomputable abbrev ML:=En->Option (List D)
noncomputable abbrev MB:=En->Option Bool
noncomputable def lE(K:Fg)(f:ME):TE:=λσ H Q=>∃O0 r d,R K O0 H r σ/\f r=some d/\∀v H',Same H H'->Is K (Ow O0 r σ) H' d v->Q v H'
noncomputable def lT(K:Fg)(f:MB):TT:=λσ H Q=>∃O0 r b,R K O0 H r σ/\f r=some b/\∀H',Same H H'->Q b H'
noncomputable def lA(K:Fg)(f:ML):TA:=λσ H Q=>∃O0 r l,R K O0 H r σ/\f r=some l/\∀vs H',Same H H'->IsL K (Ow O0 r σ) H' l vs->Q vs H'
noncomputable def lF(K:Fg)(f:ML):TE:=λσ H Q=>∃O0 r l,R K O0 H r σ/\f r=some l/\∀a xs H',Same H H'->H a=none->H' a=some (.lst xs)->IsL K (λb=>Ow O0 r σ b\/b=a) H' l xs->Q (.ref a) H'
noncomputable def lB(K:Fg)(f:ML):TE:=λσ H Q=>∃O0 r l,R K O0 H r σ/\f r=some l/\∀a xs H',Same H H'->SqL K H' a xs->IsL K (Ow O0 r σ) H' l xs->Q (.ref a) H'
noncomputable def lX(K:Fg)(f:En->Option (D×En)):TE:=λσ H Q=>∃O0 r d r',R K O0 H r σ/\f r=some (d,r')/\∀v H',R K O0 H' r' σ->Kp H r σ H' r' σ->Is K (Ow O0 r' σ) H' d v->Q v H'
def DE(X:Cx)(e:Expr)(f:ME):Prop:=PE X e (lE X.K f)
def DT(X:Cx)(e:Expr)(f:MB):Prop:=PT X e (lT X.K f)
def DA(X:Cx)(es:List Expr)(f:ML):Prop:=PA X es (lA X.K f)
def DF(X:Cx)(e:Expr)(f:ML):Prop:=PE X e (lF X.K f)
def DB(X:Cx)(e:Expr)(f:ML):Prop:=PE X e (lB X.K f)
def DX(X:Cx)(e:Expr)(f:En->Option (D×En)):Prop:=PE X e (lX X.K f)
inductive Fl where
 |nx (r:En)|bk (r:En)|ct (r:En)|rt (d:D) (r:En)|rf (l:List D) (r:En)|rg (ks:List Key) (l:List D) (r:En)
noncomputable abbrev MS:=En->Option Fl
def FrA(H:Hp)(r:En)(σ:St)(a:Addr):Prop:=H a=none\/∃(i:Nat) (l:List D),(r[i]?=some (.o l)\/∃ks,r[i]?=some (.d false ks l))/\σ[i]?=some (some (.ref a))
def PostS(K:Fg)(O0:Addr->Prop)(H:Hp)(r:En)(σ:St)(Dn:Ends):Fl->Prop
 |.nx r'=>∀σ' H',R K O0 H' r' σ'->Kp H r σ H' r' σ'->Dn.nx σ' H'
 |.bk r'=>∀σ' H',R K O0 H' r' σ'->Kp H r σ H' r' σ'->Dn.bk σ' H'
 |.ct r'=>∀σ' H',R K O0 H' r' σ'->Kp H r σ H' r' σ'->Dn.ct σ' H'
 |.rt d r'=>∀v σ' H',R K O0 H' r' σ'->Kp H r σ H' r' σ'->Is K O0 H' d v->Dn.rt v H'
 |.rf l r'=>∀a xs σ' H',R K O0 H' r' σ'->Kp H r σ H' r' σ'->FrA H r σ a->¬O0 a->H' a=some (.lst xs)->IsL K (λb=>O0 b\/b=a) H' l xs->Dn.rt (.ref a) H'
 |.rg ks l r'=>∀a kvs σ' H',R K O0 H' r' σ'->Kp H r σ H' r' σ'->FrA H r σ a->¬O0 a->H' a=some (.dK kvs)->kvs.map (·.1)=ks->IsL K (λb=>O0 b\/b=a) H' l (kvs.map (·.2))->Dn.rt (.ref a) H'
noncomputable def lS(K:Fg)(g:MS):TS:=λDn σ H=>∃O0 r fl,R K O0 H r σ/\g r=some fl/\PostS K O0 H r σ Dn fl
def DS(X:Cx)(st:Stmt)(g:MS):Prop:=PS X st (lS X.K g)
def DSs(X:Cx)(st:List Stmt)(g:MS):Prop:=PSs X st (lS X.K g)
theorem PostS.before{K:Fg}{O0:Addr->Prop}{H H1:Hp}{r r1:En}{σ σ1:St}{Dn:Ends}{fl:Fl}(R1:R K O0 H1 r1 σ1)(k:Kp H r σ H1 r1 σ1)(h:PostS K O0 H r σ Dn fl):PostS K O0 H1 r1 σ1 Dn fl:=by
 have fra:∀a,FrA H1 r1 σ1 a->FrA H r σ a:=λa z=>by
  rcases z with z|⟨i,l,e,q⟩
  ·exact .inl (k.live a z)
  ·have eo:(r1[i]?).bind Sl.own=some l:=by rcases e with e|⟨ks,e⟩<;>rw[e]<;>rfl
   have np:∀k2,(r1[i]?).bind Sl.pk≠some k2:=λk2 z=>by rcases e with e|⟨ks,e⟩<;>rw[e] at z<;>cases z
   have nz:∀l2,r1[i]?≠some (.z l2):=λl2 z=>by rcases e with e|⟨ks,e⟩<;>rw[e] at z<;>cases z
   rcases k.new a ⟨i,l,eo,q⟩ with⟨j,m,e2,q2⟩|z
   ·cases ej:r[j]? with
    |none=>rw[ej] at e2;cases e2
    |some x=>
     rw[ej] at e2;cases x with
     |un=>cases e2
     |v d=>cases e2
     |o l'=>exact .inr ⟨j,l',.inl ej,q2⟩
     |p l'=>
      obtain⟨e3,q3⟩:=k.par j false (by rw[ej];rfl);obtain⟨l2,e4⟩:=u5 e3
      have:=R1.apart i j a l l2 eo e4 q (q3.trans q2)
      subst this;exact absurd e3 (np _)
     |z l'=>
      obtain⟨e3,q3⟩:=k.fz j l' ej
      have:=R1.apart i j a l l' eo (by rw[e3];rfl) q (q3.trans q2)
      subst this;exact absurd e3 (nz _)
     |d f ks l'=>
      cases f with
      |false=>exact .inr ⟨j,l',.inr ⟨ks,ej⟩,q2⟩
      |true=>
       obtain⟨e3,q3⟩:=k.par j true (by rw[ej];rfl);obtain⟨l2,e4⟩:=u5 e3
       have:=R1.apart i j a l l2 eo e4 q (q3.trans q2)
       subst this;exact absurd e3 (np _)
   ·exact .inl z
 cases fl with
 |nx r'=>exact λσ' H' h1 h2=>h σ' H' h1 (k.trans h2)
 |bk r'=>exact λσ' H' h1 h2=>h σ' H' h1 (k.trans h2)
 |ct r'=>exact λσ' H' h1 h2=>h σ' H' h1 (k.trans h2)
 |rt d r'=>exact λv σ' H' h1 h2 h3=>h v σ' H' h1 (k.trans h2) h3
 |rf l r'=>exact λa xs σ' H' h1 h2 h3 h4 h5 h6=>h a xs σ' H' h1 (k.trans h2) (fra a h3) h4 h5 h6
 |rg ks l r'=>exact λa xs σ' H' h1 h2 h3 h4 h5 h6 h7=>h a xs σ' H' h1 (k.trans h2) (fra a h3) h4 h5 h6 h7
noncomputable def mC(d:D):ME:=λ_=>some d
noncomputable def zF(i:Nat):ME:=λr=>match r[i]? with
 |some (.v d)=>some d
 |_=>none
noncomputable def o7(i:Nat):ML:=λr=>(r[i]?).bind Sl.ls
noncomputable def zJ(m:D->D->Option D)(f g:ME):ME:=λr=>(f r).bind λx=>(g r).bind λy=>m x y
noncomputable def mUn(m:D->Option D)(f:ME):ME:=λr=>(f r).bind m
noncomputable def zT:ML:=λ_=>some []
noncomputable def zA(f:ME)(g:ML):ML:=λr=>(f r).bind λx=>(g r).bind λl=>some (x::l)
noncomputable def yY(f:ML):ME:=λr=>(f r).bind λl=>if l.length<=af then some (.tup l) else none
noncomputable def wD(f:ML):ML:=λr=>(f r).bind λl=>if l.length<=af then some l else none
noncomputable def qN(f:ML):ME:=λr=>(f r).map .lst
noncomputable def zIX(f:ME):ML:=λr=>(f r).bind λd=>match d with
 |.lst l=>some l
 |_=>none
noncomputable def zGU(f g:ME):ME:=λr=>(f r).bind λd=>match d with
 |.bl true=>g r
 |.bl false=>some (.bl false)
 |_=>none
noncomputable def zQJ:D->Option D
 |.bl b=>some (.bl !b)
 |_=>none
noncomputable def nR(f g:MB):MB:=λr=>(f r).bind λb=>if b=true then g r else some false
noncomputable def zJE(f g:MB):MB:=λr=>(f r).bind λb=>if b=true then some true else g r
noncomputable def pD(f:MB):MB:=λr=>(f r).map (!·)
noncomputable def mIf(c:MB)(f g:ME):ME:=λr=>(c r).bind λb=>if b=true then f r else g r
noncomputable def blD:D->Option Bool
 |.bl b=>some b
 |_=>none
noncomputable def mBl(f:ME):MB:=λr=>(f r).bind blD
noncomputable def zPK:D->Option Bool
 |.non=>some false
 |.bl b=>some b
 |.int i=>some (i != 0)
 |.str s=>if s.length<=af then some (!s.isEmpty) else none
 |.tup l=>some (!l.isEmpty)
 |.lst l=>some (!l.isEmpty)
 |_=>none
noncomputable def ZN(fl:ML):MB:=λr=>(fl r).map λl=>!l.isEmpty
noncomputable def kS(f:ME):MB:=λr=>(f r).bind zPK
section
variable{X:Cx}{pos:Pos}{a b c:Expr}{f g:ME}
theorem bnS(e:o.bind h=some y):∃x,o=some x/\h x=some y:=by
 cases o with
 |none=>cases e
 |some x=>exact⟨x,rfl,e⟩
theorem zNB(h:PE X a t)(i:∀O0 σ H r d Q,R X.K O0 H r σ->f r=some d->(∀v H',Same H H'->Is X.K (Ow O0 r σ) H' d v->Q v H')->t σ H Q):DE X a f:=
 PE.conseq h λσ H Q ⟨O0,r,d,hR,e,q⟩=>i O0 σ H r d Q hR e q
theorem zC(i:Nat)(h:PE X (.Name x pos) (kN i)):DE X (.Name x pos) (zF i):=
 zNB h λO0 σ H r d Q hR e q=>by
  unfold zF at e;have e':r[i]?=some (.v d):=by
   split at e
   ·rename_i d' h;cases e;exact h
   ·cases e
  obtain⟨v,e1,q1⟩:=hR.val i d e';exact⟨v,e1,q v H (Same.refl H) q1⟩
theorem gP(i:Nat)(h:PE X (.Name x pos) (kN i)):DB X (.Name x pos) (o7 i):=
 PE.conseq h λσ H Q ⟨O0,r,l,hR,e,q⟩=>by
  obtain⟨a,xs,e1,e2,q1⟩:=hR.own i l e;exact⟨.ref a,e1,q a xs H (Same.refl H) (SqL.of e2) q1⟩
theorem oM(h:PE X a (tC v))(hd:∀O H,Is X.K O H d v):DE X a (mC d):=
 zNB h λO0 σ H r d' Q hR e q=>by
  unfold mC at e;cases e;exact q v H (Same.refl H) (hd _ _)
theorem zG{i j}:DE X (.Constant (.int i) j pos) (mC (.int i)):=oM pX λO H=>by unfold Is;rfl
theorem oO{i j}:DE X (.Constant (.bool i) j pos) (mC (.bl i)):=oM zOH λO H=>by unfold Is;rfl
theorem zIB{j}:DE X (.Constant .none j pos) (mC .non):=oM zFU λO H=>by unfold Is;rfl
theorem zW{j}(e:x.cps.toList=s:=by rfl):DE X (.Constant (.str x) j pos) (mC (.str s)):=oM zKO λO H=>by
 unfold Is;subst e;simp
def OpD(K:Fg)(r2:R2)(m:D->D->Option D):Prop:=∀(O:Addr->Prop) (H:Hp) (dx dy d:D) (vx vy:V) (Q:VK),jN O H->Is K O H dx vx->Is K O H dy vy->m dx dy=some d->(∀v H',Same H H'->Is K O H' d v->Q v H')->r2 vx vy H Q
theorem two{ta tb:TE}{r2:R2}{m:D->D->Option D}(hd:OpD X.K r2 m){σ:St}{H:Hp}{Q:VK}(h:lE X.K (zJ m f g) σ H Q):tOp r2 (lE X.K f) (lE X.K g) σ H Q:=by
 obtain⟨O0,r,d,hR,e,q⟩:=h;obtain⟨x,e1,e⟩:=bnS e;obtain⟨y,e2,e⟩:=bnS e;refine⟨O0,r,x,hR,e1,λv1 H1 s1 i1=>⟨O0,r,y,hR.same s1,e2,λv2 H2 s2 i2=>?_⟩⟩;exact hd (Ow O0 r σ) H2 x y d v1 v2 Q (hR.same (s1.trans s2)).ol (i1.same s2 (hR.same s1).ol) i2 e λv H' s' i'=>q v H' ((s1.trans s2).trans s') i'
theorem zU{op:Operator}{r2:R2}{m:D->D->Option D}(ho:OpR X (binaryOp op) r2)(hd:OpD X.K r2 m)(ha:DE X a f)(hb:DE X b g):DE X (.BinOp a op b pos) (zJ m f g):=
 PE.conseq (zMP ho ha hb) λσ H Q h=>two (ta:=lE X.K f) (tb:=lE X.K g) hd h
theorem oN{op:CmpOp}{r2:R2}{m:D->D->Option D}(ho:OpR X (et op) r2)(hd:OpD X.K r2 m)(ha:DE X a f)(hb:DE X b g)(hm:dh op b=false):DE X (.Compare a [op] [b] pos) (zJ m f g):=
 PE.conseq (zFY ho ha hb hm) λσ H Q h=>two (ta:=lE X.K f) (tb:=lE X.K g) hd h
theorem wG{op:CmpOp}{r2:R2}{m:D->D->Option D}(ho:OpR X (et op) r2)(hd:OpD X.K r2 m)(ha:DE X a f)(hb:DE X b g)(hm:dh op b=false):DT X (.Compare a [op] [b] pos) (mBl (zJ m f g)):=by
 refine PT.conseq (dB ho ha hb hm) λσ H Q h=>?_
 obtain⟨O0,r,k,hR,e,q⟩:=h;obtain⟨d,e1,e⟩:=bnS e;refine two (ta:=lE X.K f) (tb:=lE X.K g) (m:=m) hd ⟨O0,r,d,hR,e1,λv H' s' i'=>?_⟩;cases d<;>first|cases e|skip
 rw[Is.bl_iff] at i';exact⟨_,i',q H' s'⟩
theorem zO5(ho:UnR X (unaryOp op) r1)(hd:∀(O:Addr->Prop) (H:Hp) (dx d:D) (vx:V) (Q:VK),Is X.K O H dx vx->m dx=some d->(∀v,Is X.K O H d v->Q v H)->r1 vx H Q)(ha:DE X a f):DE X (.UnaryOp op a pos) (mUn m f):=by
 refine PE.conseq (zMO ho ha) λσ H Q h=>?_
 obtain⟨O0,r,d,hR,e,q⟩:=h;obtain⟨x,e1,e⟩:=bnS e;exact⟨O0,r,x,hR,e1,λv1 H1 s1 i1=>hd _ H1 x d v1 Q i1 e λv i=>q v H1 s1 i⟩
theorem W6{op}(h:DE X a f):DE X (.BoolOp op [a] pos) f:=zKP h
theorem rR{rest:List Expr}(ha:DE X a f)(hb:DE X (.BoolOp .And (b::rest) pos) g):DE X (.BoolOp .And (a::b::rest) pos) (zGU f g):=by
 refine PE.conseq (zKR ha hb) λσ H Q h=>?_
 obtain⟨O0,r,d,hR,e,q⟩:=h;obtain⟨x,e1,e⟩:=bnS e;refine⟨O0,r,x,hR,e1,λv1 H1 s1 i1=>?_⟩;cases x with
 |bl k=>
  rw[Is.bl_iff] at i1;refine⟨k,i1,?_⟩;cases k with
  |true=>
   rw[if_pos rfl];exact⟨O0,r,d,hR.same s1,e,λv H' s' i'=>q v H' (s1.trans s') i'⟩
  |false=>
   rw[if_neg av];cases e;exact q _ H1 s1 (by rw[Is.bl_iff])
 |_=>cases e
theorem zL3(ha:DE X a f):DE X (.UnaryOp .Not a pos) (mUn zQJ f):=by
 refine PE.conseq (zKQ ha) λσ H Q h=>?_
 obtain⟨O0,r,d,hR,e,q⟩:=h;obtain⟨x,e1,e⟩:=bnS e;refine⟨O0,r,x,hR,e1,λv1 H1 s1 i1=>?_⟩;cases x with
 |bl k=>
  rw[Is.bl_iff] at i1;cases e;exact⟨k,i1,q _ H1 s1 (by rw[Is.bl_iff])⟩
 |_=>cases e
theorem YB(ha:DT X a tf):PW X (.BoolOp .And [a] pos) (lT X.K tf):=Q2 ha
theorem W0(ha:DT X a tf):PW X (.BoolOp .Or [a] pos) (lT X.K tf):=zKG ha
theorem PW.conseq(h:PW X e t)(i:∀σ H Q,t' σ H Q->t σ H Q):PW X e t':=λwh pZ s σ H Q I q=>h wh pZ s σ H Q I (i σ H Q q)
theorem zCQ{rest:List Expr}(ha:DT X a tf)(hb:PW X (.BoolOp .And (b::rest) pos) (lT X.K tg)):PW X (.BoolOp .And (a::b::rest) pos) (lT X.K (nR tf tg)):=by
 refine PW.conseq (zFA ha hb) λσ H Q h=>?_
 obtain⟨O0,r,d,hR,e,q⟩:=h;obtain⟨x,e1,e⟩:=bnS e;refine⟨O0,r,x,hR,e1,λH1 s1=>?_⟩;cases x with
 |true=>
  rw[if_pos rfl];exact⟨O0,r,d,hR.same s1,e,λH' s'=>q H' (s1.trans s')⟩
 |false=>
  rw[if_neg av];cases e;exact q H1 s1
theorem zHT{rest:List Expr}(ha:DT X a tf)(hb:PW X (.BoolOp .Or (b::rest) pos) (lT X.K tg)):PW X (.BoolOp .Or (a::b::rest) pos) (lT X.K (zJE tf tg)):=by
 refine PW.conseq (zOD ha hb) λσ H Q h=>?_
 obtain⟨O0,r,d,hR,e,q⟩:=h;obtain⟨x,e1,e⟩:=bnS e;refine⟨O0,r,x,hR,e1,λH1 s1=>?_⟩;cases x with
 |true=>
  rw[if_pos rfl];cases e;exact q H1 s1
 |false=>
  rw[if_neg av];exact⟨O0,r,d,hR.same s1,e,λH' s'=>q H' (s1.trans s')⟩
theorem zLY(h:PW X a (lT X.K tf)):DT X a tf:=h.pt
theorem zCR(ha:DT X a tf):DT X (.UnaryOp .Not a pos) (pD tf):=by
 refine PT.conseq (zKJ ha) λσ H Q h=>?_
 obtain⟨O0,r,d,hR,e,q⟩:=h;unfold pD at e;cases e1:tf r with
 |none=>rw[e1] at e;cases e
 |some k=>
  rw[e1] at e;cases e;exact⟨O0,r,k,hR,e1,λH1 s1=>q H1 s1⟩
theorem zEO{K:Fg}(h:Is K O H d v)(e:zPK d=some k):zP0 K v H k:=by
 cases d with
 |dct ks l=>cases e
 |non=>rw[Is.non_iff] at h;subst h;cases e;rfl
 |bl b=>rw[Is.bl_iff] at h;subst h;cases e;rfl
 |int i=>rw[Is.int_iff] at h;subst h;cases e;rfl
 |str s=>
  rw[Is.str_iff] at h;subst h;simp only[zPK] at e;split at e
  ·rename_i hl;cases e;refine⟨by simpa [Str.length] using hl,?_⟩;cases s with
   |nil=>rfl
   |cons c r=>
    have:((r.length:Int)+1)≠0:=by omega
    simpa [Str.length] using this
  ·cases e
 |tup l=>
  rw[Is.tup_iff] at h;obtain⟨a,xs,rfl,hs,hl⟩:=h;cases e;refine .inr (.inl ⟨xs,hs,?_⟩)
  have:=hl.length
  cases l<;>cases xs<;>simp_all
 |lst l=>
  rw[Is.lst_iff] at h;obtain⟨a,xs,rfl,hs,hl⟩:=h;cases e;refine .inl ⟨xs,hs.sq,?_⟩
  have:=hl.length
  cases l<;>cases xs<;>simp_all
 |ty n=>cases e
 |ref a=>cases e
theorem jY(ha:DE X a f)(he:∀whole,isTrue a X.env whole=(do let v <- whole;standAt a.pos;holding [v] (truthy v)):=by intro _;rfl):DT X a (kS f):=by
 refine PT.conseq (g9 ha he) λσ H Q h=>?_
 obtain⟨O0,r,d,hR,e,q⟩:=h;obtain⟨x,e1,e⟩:=bnS e;exact⟨O0,r,x,hR,e1,λv1 H1 s1 i1=>⟨d,zEO i1 e,q H1 s1⟩⟩
theorem JW(ha:DB X a fl)(he:∀whole,isTrue a X.env whole=(do let v <- whole;standAt a.pos;holding [v] (truthy v)):=by intro _;rfl):DT X a (ZN fl):=by
 refine PT.conseq (g9 ha he) λσ H Q h=>?_
 obtain⟨O0,r,d,hR,e,q⟩:=h;unfold ZN at e;cases e1:fl r with
 |none=>rw[e1] at e;cases e
 |some l=>
  rw[e1] at e;cases e;refine⟨O0,r,l,hR,e1,λa xs H1 s1 i1 i2=>⟨_,.inl ⟨xs,i1,?_⟩,q H1 s1⟩⟩
  have:=i2.length
  cases l<;>cases xs<;>simp_all
theorem zO6(hc:DT X c tf)(ha:DE X a f)(hb:DE X b g):DE X (.IfExp c a b pos) (mIf tf f g):=by
 refine PE.conseq (zBI hc ha hb) λσ H Q h=>?_
 obtain⟨O0,r,d,hR,e,q⟩:=h;obtain⟨x,e1,e⟩:=bnS e;refine⟨O0,r,x,hR,e1,λH1 s1=>?_⟩;cases x with
 |true=>rw[if_pos rfl];exact⟨O0,r,d,hR.same s1,e,λv H' s' i'=>q v H' (s1.trans s') i'⟩
 |false=>rw[if_neg av];exact⟨O0,r,d,hR.same s1,e,λv H' s' i'=>q v H' (s1.trans s') i'⟩
theorem zL:DA X [] zT:=PA.conseq xF λσ H Q ⟨O0,r,l,hR,e,q⟩=>by
 unfold zT at e;cases e;exact q [] H (Same.refl H) .nil
theorem zB(ha:DE X a f)(hr:DA X es fs)(hs:ae (a::es) X.env=(false,eval a X.env)::ae es X.env:=by rfl):DA X (a::es) (zA f fs):=by
 refine PA.conseq (yC ha hr hs) λσ H Q h=>?_
 obtain⟨O0,r,d,hR,e,q⟩:=h;obtain⟨x,e1,e⟩:=bnS e;obtain⟨l,e2,e⟩:=bnS e;cases e;exact⟨O0,r,x,hR,e1,λv1 H1 s1 i1=>⟨O0,r,l,hR.same s1,e2,λvs H2 s2 i2=>q _ H2 (s1.trans s2) (.cons (i1.same s2 (hR.same s1).ol) i2)⟩⟩
theorem yA(n:H p=none):Same H (upd H p o):=λb u e=>by rw[zN (xV e n)];exact e
theorem zY{x1}(h:DA X es fs):DE X (.Tuple es x1 pos) (yY fs):=by
 refine PE.conseq (zFS h) λσ H Q h=>?_
 obtain⟨O0,r,d,hR,e,q⟩:=h;obtain⟨l,e1,e⟩:=bnS e;split at e
 ·rename_i hl;cases e;refine⟨O0,r,l,hR,e1,λvs H1 s1 i1=>⟨by rw[<-i1.length];exact hl,λp hp=>q _ _ (s1.trans (yA hp)) ?_⟩⟩;rw[Is.tup_iff];exact⟨p,vs,rfl,SqT.of zQ,i1.same (yA hp) (hR.same s1).ol⟩
 ·cases e
theorem qK(h:DA X es fs):DF X (.List es pos) (wD fs):=by
 refine PE.conseq (zBH h) λσ H Q h=>?_
 obtain⟨O0,r,l',hR,e,q⟩:=h;obtain⟨l,e1,e⟩:=bnS e;split at e
 ·rename_i hl;have e':l=l':=bg e;subst e';refine⟨O0,r,l,hR,e1,λvs H1 s1 i1=>⟨by rw[<-i1.length];exact hl,λp hp=>q _ _ _ (s1.trans (yA hp)) (s1.free hp) zQ ?_⟩⟩;refine IsL.mono (Same.kp (yA hp) _) (hR.same s1).ol (λa z n=>?_) _ vs i1;rcases z with z|z
  ·exact z
  ·subst z;exact absurd hp n
 ·cases e
theorem J8(h:DF X a fl):DE X a (qN fl):=by
 refine PE.conseq h λσ H Q h=>?_
 obtain⟨O0,r,d,hR,e,q⟩:=h;unfold qN at e;cases e1:fl r with
 |none=>rw[e1] at e;cases e
 |some l=>
  rw[e1] at e;cases e;refine⟨O0,r,l,hR,e1,λp xs H1 s1 n1 e2 i1=>q _ H1 s1 ?_⟩;rw[Is.lst_iff];have ol:jN (λb=>Ow O0 r σ b\/b=p) H1:=λb z=>z.elim (λz=>(hR.same s1).ol b z) λz=>by subst z;exact⟨.lst xs,e2,trivial⟩
  exact⟨p,xs,rfl,.inl ⟨hR.nofresh n1,.inl e2⟩,IsL.mono (Same.kp (Same.refl H1) _) ol (λa z _=>.inl z) l xs i1⟩
theorem zPY(h:DE X a f):DB X a (zIX f):=by
 refine PE.conseq h λσ H Q h=>?_
 obtain⟨O0,r,l,hR,e,q⟩:=h;obtain⟨d,e1,e⟩:=bnS e;refine⟨O0,r,d,hR,e1,λv H1 s1 i1=>?_⟩;cases d with
 |lst l'=>
  cases e;rw[Is.lst_iff] at i1;obtain⟨p,xs,rfl,rd,il⟩:=i1;exact q p xs H1 s1 rd.sq il
 |_=>cases e
end
noncomputable def wB:MS:=λr=>some (.nx r)
noncomputable def yL(g h:MS):MS:=λr=>(g r).bind λfl=>match fl with
 |.nx r'=>h r'
 |x=>some x
noncomputable def yV(i:Nat)(d:D)(r:En):Option En:=match r[i]? with
 |some (.p _)=>none
 |some (.z _)=>none
 |some (.d true _ _)=>none
 |some _=>some (r.set i (.v d))
 |none=>none
noncomputable def zPP(i:Nat)(l:List D)(r:En):Option En:=match r[i]? with
 |some (.p _)=>none
 |some (.z _)=>none
 |some (.d true _ _)=>none
 |some _=>some (r.set i (.o l))
 |none=>none
noncomputable def qH(i:Nat)(f:ME):MS:=λr=>(f r).bind λd=>(yV i d r).map .nx
noncomputable def zDC(i:Nat)(f:ML):MS:=λr=>(f r).bind λl=>(zPP i l r).map .nx
noncomputable def jD(f:ME):MS:=λr=>(f r).map λd=>.rt d r
noncomputable def mW(i:Nat):MS:=λr=>match r[i]? with
 |some (.o l)=>some (.rf l r)
 |_=>none
noncomputable def sIf(c:MB)(g h:MS):MS:=λr=>(c r).bind λb=>if b=true then g r else h r
noncomputable def sX(f:En->Option (D×En)):MS:=λr=>(f r).map λp=>.nx p.2
noncomputable def zDB(i:Nat)(f:En->Option (D×En)):MS:=λr=>(f r).bind λp=>(yV i p.1 p.2).map .nx
noncomputable def j4:Nat->MB->MS->MS
 |0,_,_=>λ_=>none
 |n+1,c,g=>λr=>(c r).bind λb=>if b=true then (g r).bind λfl=>match fl with
   |.nx r'=>j4 n c g r'
   |.ct r'=>j4 n c g r'
   |.bk r'=>some (.nx r')
   |x=>some x
  else some (.nx r)
noncomputable def rM(bd:D->En->Option En)(g:MS):List D->MS
 |[],r=>some (.nx r)
 |d::l,r=>(bd d r).bind λr1=>(g r1).bind λfl=>match fl with
   |.nx r'=>rM bd g l r'
   |.ct r'=>rM bd g l r'
   |.bk r'=>some (.nx r')
   |x=>some x
noncomputable def o9(bd:D->En->Option En)(it:ML)(g:MS):MS:=λr=>(it r).bind λl=>rM bd g l r
theorem zD{α:Type}{l:List α}{i j:Nat}{x:α}(h:i≠j):(l.set i x)[j]?=l[j]?:=by rw[List.getElem?_set];simp[h]
theorem zI{α:Type}{l:List α}{i:Nat}{x:α}(h:i<l.length):(l.set i x)[i]?=some x:=by rw[List.getElem?_set];simp[h]
section
variable{K:Fg}{O0:Addr->Prop}{H H1:Hp}{r:En}{σ:St}{i:Nat}{d:D}{v:V}
theorem hE{q:Sl->Option (List D)}(hq:∀d,q (.v d)=none){a:Addr}{x:Option V}(h:AtS q (r.set i (.v d)) (σ.set i x) a):AtS q r σ a:=by
 obtain⟨j,l,e,q'⟩:=h;by_cases hj:i=j
 ·subst hj;by_cases hl:i<r.length
  ·rw[zI hl] at e;have e':q (.v d)=some l:=e;rw[hq] at e';cases e'
  ·rw[lh (by simpa using hl)] at e;cases e
 ·rw[zD hj] at e q';exact⟨j,l,e,q'⟩
theorem R.setv(h:R K O0 H r σ)(hi:i<r.length)(np:∀l,(r[i]?).bind Sl.pk=none/\r[i]?≠some (.z l))(hv:Is K (Ow O0 r σ) H d v):R K O0 H (r.set i (.v d)) (σ.set i (some v))/\Kp H r σ H (r.set i (.v d)) (σ.set i (some v)):=by
 have his:i<σ.length:=by rw[<-h.len];exact hi
 have sub:∀a,Ow O0 (r.set i (.v d)) (σ.set i (some v)) a->H a≠none->Ow O0 r σ a:=λa z _=>z.elim .inl λz=>.inr (hE (λ_=>rfl) z)
 have ne:∀(j:Nat) (l:List D),((r.set i (.v d))[j]?).bind Sl.own=some l->i≠j:=λj l e z=>by subst z;rw[zI hi] at e;cases e
 refine⟨⟨by simp[h.len],λj d' e=>?_,λj l e=>?_,λj k a l m e1 e2 q1 q2=>?_,h.o0,λj l a e q=>?_,λj l a e q=>?_,λj f ks l e=>?_⟩,⟨λb o e _=>e,λb e=>e,λb o e m=>⟨o,e,m⟩,λb z=>.inl (hE (λ_=>rfl) z),λb z=>.inl (hE (λ_=>rfl) z),λj l e=>?_,λj l e=>?_⟩⟩
 ·by_cases hj:i=j
  ·subst hj;rw[zI hi] at e;cases e;exact⟨v,zI his,Is.mono (Same.kp (Same.refl H) _) h.ol sub _ _ hv⟩
  ·rw[zD hj] at e;obtain⟨u,e1,q⟩:=h.val j d' e;exact⟨u,by rw[zD hj];exact e1,Is.mono (Same.kp (Same.refl H) _) h.ol sub _ _ q⟩
 ·have hj:=ne j l (jA e);rw[zD hj] at e;obtain⟨a,xs,e1,e2,q⟩:=h.own j l e;exact⟨a,xs,by rw[zD hj];exact e1,e2,IsL.mono (Same.kp (Same.refl H) _) h.ol sub _ _ q⟩
 ·have hj:=ne j l e1;have hk:=ne k m e2;rw[zD hj] at e1 q1;rw[zD hk] at e2 q2;exact h.apart j k a l m e1 e2 q1 q2
 ·have hj:i≠j:=ne j l (by rcases e with e|e|⟨ks,e⟩<;>rw[e]<;>rfl);rw[zD hj] at e q;exact h.loc j l a e q
 ·have hj:i≠j:=ne j _ (u5 e).choose_spec;rw[zD hj] at e q;exact h.par j l a e q
 ·have hj:=ne j l (by rw[e];rfl);rw[zD hj] at e;obtain⟨a,kvs,e1,e2,e3,q⟩:=h.dct j f ks l e;exact⟨a,kvs,by rw[zD hj];exact e1,e2,e3,IsL.mono (Same.kp (Same.refl H) _) h.ol sub _ _ q⟩
 ·have hj:i≠j:=λz=>by subst z;rw[(np []).1] at e;cases e
  exact⟨by rw[zD hj];exact e,zD hj⟩
 ·have hj:i≠j:=λz=>by subst z;exact(np l).2 e
  exact⟨by rw[zD hj];exact e,zD hj⟩
theorem R.seto{l:List D}{xs:List V}{p:Addr}(h:R K O0 H r σ)(s:Same H H1)(n:H p=none)(e:H1 p=some (.lst xs))(hl:IsL K (λb=>Ow O0 r σ b\/b=p) H1 l xs)(hi:i<r.length)(np:∀l,(r[i]?).bind Sl.pk=none/\r[i]?≠some (.z l)):R K O0 H1 (r.set i (.o l)) (σ.set i (some (.ref p)))/\Kp H r σ H1 (r.set i (.o l)) (σ.set i (some (.ref p))):=by
 have his:i<σ.length:=by rw[<-h.len];exact hi
 have ow:∀{q:Sl->Option (List D)} a,AtS q (r.set i (.o l)) (σ.set i (some (.ref p))) a->AtS q r σ a\/a=p:=λ{q} a z=>by
  obtain⟨j,m,e1,q1⟩:=z;by_cases hj:i=j
  ·subst hj;rw[zI his] at q1;cases q1;exact .inr rfl
  ·rw[zD hj] at e1 q1;exact .inl ⟨j,m,e1,q1⟩
 have sub:∀a,Ow O0 (r.set i (.o l)) (σ.set i (some (.ref p))) a->H a≠none->Ow O0 r σ a:=λa z nn=>z.elim .inl λz=>(ow a z).elim .inr λz=>by subst z;exact absurd n nn
 have olp:jN (λb=>Ow O0 r σ b\/b=p) H1:=λb z=>z.elim (λz=>(h.same s).ol b z) λz=>by subst z;exact⟨.lst xs,e,trivial⟩
 refine⟨⟨by simp[h.len],λj d' e1=>?_,λj m e1=>?_,λj k a l1 m e1 e2 q1 q2=>?_,(h.same s).o0,λj m a e1 q=>?_,λj m a e1 q=>?_,λj f ks m e1=>?_⟩,⟨λb o e1 _=>s b o e1,λb e1=>s.free e1,λb o e1 mb=>⟨o,s _ _ e1,mb⟩,λb z=>(ow b z).imp id λz=>by subst z;exact n,λb z=>(ow b z).imp id λz=>by subst z;exact n,λj m e1=>?_,λj m e1=>?_⟩⟩
 ·have hj:i≠j:=λz=>by subst z;rw[zI hi] at e1;cases e1
  rw[zD hj] at e1;obtain⟨u,e2,q⟩:=h.val j d' e1;exact⟨u,by rw[zD hj];exact e2,Is.mono (Same.kp s _) h.ol sub _ _ q⟩
 ·by_cases hj:i=j
  ·subst hj;rw[zI hi] at e1;cases e1;refine⟨p,xs,zI his,e,IsL.mono (Same.kp (Same.refl H1) _) olp (λa z _=>z.elim (λz=>.inl (.inl z)) λz=>(ow a z).imp .inr id) _ _ hl⟩
  ·rw[zD hj] at e1;obtain⟨a,ys,e2,e3,q⟩:=h.own j m e1;exact⟨a,ys,by rw[zD hj];exact e2,s _ _ e3,IsL.mono (Same.kp s _) h.ol sub _ _ q⟩
 ·have out:∀(j:Nat) (m:List D) (a:Addr),i≠j->((r.set i (.o l))[j]?).bind Sl.own=some m->(σ.set i (some (.ref p)))[j]?=some (some (.ref a))->a≠p:=λj m a hj e1 q1 z=>by
   rw[zD hj] at e1 q1;obtain⟨b,ys,e2,e3,_⟩:=h.obj e1;rw[q1] at e2;cases e2;subst z;rw[n] at e3;cases e3
  by_cases hj:i=j
  ·by_cases hk:i=k
   ·exact hj.symm.trans hk
   ·subst hj;rw[zI his] at q1;cases q1;exact absurd rfl (out k m p hk e2 q2)
  ·by_cases hk:i=k
   ·subst hk;rw[zI his] at q2;cases q2;exact absurd rfl (out j l1 p hj e1 q1)
   ·rw[zD hj] at e1 q1;rw[zD hk] at e2 q2;exact h.apart j k a l1 m e1 e2 q1 q2
 ·by_cases hj:i=j
  ·subst hj;rw[zI his] at q;cases q;exact λz=>by obtain⟨ys,e3,_⟩:=h.o0 p z;rw[n] at e3;cases e3
  ·rw[zD hj] at e1 q;exact h.loc j m a e1 q
 ·have hj:i≠j:=λz=>by subst z;rw[zI hi] at e1;cases e1
  rw[zD hj] at e1 q;exact h.par j m a e1 q
 ·have hj:i≠j:=λz=>by subst z;rw[zI hi] at e1;cases e1
  rw[zD hj] at e1;obtain⟨a,kvs,e2,e3,e4,q⟩:=h.dct j f ks m e1;exact⟨a,kvs,by rw[zD hj];exact e2,s _ _ e3,e4,IsL.mono (Same.kp s _) h.ol sub _ _ q⟩
 ·have hj:i≠j:=λz=>by subst z;rw[(np []).1] at e1;cases e1
  exact⟨by rw[zD hj];exact e1,zD hj⟩
 ·have hj:i≠j:=λz=>by subst z;exact(np m).2 e1
  exact⟨by rw[zD hj];exact e1,zD hj⟩
theorem qX{r':En}(e:yV i d r=some r'):i<r.length/\(∀l,(r[i]?).bind Sl.pk=none/\r[i]?≠some (.z l))/\r'=r.set i (.v d):=by
 unfold yV at e;cases e1:r[i]? with
 |none=>rw[e1] at e;cases e
 |some x=>
  have hi:i<r.length:=(ar.mp e1).1;rw[e1] at e;cases x with
  |p l=>cases e
  |z l=>cases e
  |d f ks l=>cases f<;>first|(cases e;done)|(cases e;exact⟨hi,λl=>⟨rfl,(λz=>by cases z)⟩,rfl⟩)
  |_=>cases e;exact⟨hi,λl=>⟨rfl,(λz=>by cases z)⟩,rfl⟩
theorem XH{r':En}{l:List D}(e:zPP i l r=some r'):i<r.length/\(∀l,(r[i]?).bind Sl.pk=none/\r[i]?≠some (.z l))/\r'=r.set i (.o l):=by
 unfold zPP at e;cases e1:r[i]? with
 |none=>rw[e1] at e;cases e
 |some x=>
  have hi:i<r.length:=(ar.mp e1).1;rw[e1] at e;cases x with
  |p l=>cases e
  |z l=>cases e
  |d f ks l=>cases f<;>first|(cases e;done)|(cases e;exact⟨hi,λl=>⟨rfl,(λz=>by cases z)⟩,rfl⟩)
  |_=>cases e;exact⟨hi,λl=>⟨rfl,(λz=>by cases z)⟩,rfl⟩
theorem mpS{α β:Type}{o:Option α}{h:α->β}{y:β}(e:o.map h=some y):∃x,o=some x/\h x=y:=by
 cases o with
 |none=>cases e
 |some x=>exact⟨x,rfl,bg e⟩
theorem Is.less{O:Addr->Prop}(h:R K O0 H r σ)(hi:Is K (Ow O0 r σ) H1 d v)(s:Same H H1):Is K O0 H1 d v:=Is.mono (Same.kp (Same.refl H1) _) (h.same s).ol (λ_ z _=>.inl z) _ _ hi
end
section
variable{X:Cx}{pos:Pos}{e:Expr}{f:ME}{fl:ML}{g h:MS}{st:Stmt}{rest:List Stmt}
theorem wH:DSs X [] wB:=PSs.conseq Q4 λDn σ H ⟨O0,r,f',hR,e,q⟩=>by
 unfold wB at e;cases e;exact q σ H hR (Kp.refl H r σ)
theorem zK(h1:DS X st g)(h2:DSs X rest h):DSs X (st::rest) (yL g h):=by
 refine PSs.conseq (jE h1 h2) λDn σ H hq=>?_
 obtain⟨O0,r,fl,hR,e,q⟩:=hq;obtain⟨f1,e1,e2⟩:=bnS e;cases f1 with
 |nx r1=>exact⟨O0,r,.nx r1,hR,e1,λσ' H' R' k=>⟨O0,r1,fl,R',e2,q.before R' k⟩⟩
 |bk r1=>cases e2;exact⟨O0,r,_,hR,e1,q⟩
 |ct r1=>cases e2;exact⟨O0,r,_,hR,e1,q⟩
 |rt d r1=>cases e2;exact⟨O0,r,_,hR,e1,q⟩
 |rf l r1=>cases e2;exact⟨O0,r,_,hR,e1,q⟩
 |rg ks l r1=>cases e2;exact⟨O0,r,_,hR,e1,q⟩
theorem yB(h1:DS X st g):DSs X [st] g:=m9 h1
theorem xA(i:Nat){x:Str}{pos':Pos}(he:DE X e f)(hN:X.N.Nodup)(hi:X.N[i]?=some x:=by rfl)(hx:Loc X.env.scope x:=by first|exact Or.inl rfl|exact Or.inr rfl)(hs:gy e (some (.Name x pos')) pos.line X.env=pure false:=by rfl)(hf:X.fn x=true\/X.env.scope.names.lookup x=some .local:=by first|exact .inl rfl|exact .inr rfl):DS X (.Assign [.Name x pos'] e pos) (qH i f):=by
 refine PS.conseq (nA hN hi hx he hs hf) λDn σ H hq=>?_
 obtain⟨O0,r,fl,hR,e,q⟩:=hq;obtain⟨d,e1,e2⟩:=bnS e;obtain⟨r',e3,rfl⟩:=mpS e2;obtain⟨hl,np,rfl⟩:=qX e3;refine⟨O0,r,d,hR,e1,λv H1 s1 i1=>?_⟩;obtain⟨R1,k1⟩:=(hR.same s1).setv hl np i1;exact q _ H1 R1 ((Kp.of_same r σ s1).trans k1)
theorem bA(i:Nat){x:Str}{pos':Pos}(he:DF X e fl)(hN:X.N.Nodup)(hi:X.N[i]?=some x:=by rfl)(hx:Loc X.env.scope x:=by first|exact Or.inl rfl|exact Or.inr rfl)(hs:gy e (some (.Name x pos')) pos.line X.env=pure false:=by rfl)(hf:X.fn x=true\/X.env.scope.names.lookup x=some .local:=by first|exact .inl rfl|exact .inr rfl):DS X (.Assign [.Name x pos'] e pos) (zDC i fl):=by
 refine PS.conseq (nA hN hi hx he hs hf) λDn σ H hq=>?_
 obtain⟨O0,r,fl',hR,e,q⟩:=hq;obtain⟨l,e1,e2⟩:=bnS e;obtain⟨r',e4,rfl⟩:=mpS e2;obtain⟨hl,np,rfl⟩:=XH e4;refine⟨O0,r,l,hR,e1,λp xs H1 s1 n1 e3 i1=>?_⟩;obtain⟨R1,k1⟩:=hR.seto s1 n1 e3 i1 hl np;exact q _ H1 R1 k1
theorem yS(he:DE X e f):DS X (.Return (some e) pos) (jD f):=by
 refine PS.conseq (XR he) λDn σ H hq=>?_
 obtain⟨O0,r,fl,hR,e,q⟩:=hq;obtain⟨d,e1,rfl⟩:=mpS e;exact⟨O0,r,d,hR,e1,λv H1 s1 i1=>q v σ H1 (hR.same s1) (Kp.of_same r σ s1) (Is.less (O:=O0) hR i1 s1)⟩
theorem oE(i:Nat){x:Str}{pos':Pos}(h:PE X (.Name x pos') (kN i)):DS X (.Return (some (.Name x pos')) pos) (mW i):=by
 refine PS.conseq (XR h) λDn σ H hq=>?_
 obtain⟨O0,r,fl',hR,e,q⟩:=hq;unfold mW at e;have⟨l,e1,e2⟩:∃l,r[i]?=some (.o l)/\fl'=.rf l r:=by
  split at e
  ·rename_i l h;cases e;exact⟨l,h,rfl⟩
  ·cases e
 subst e2;obtain⟨a,xs,q1,q2,q3⟩:=hR.own i l (by rw[e1];rfl);refine⟨.ref a,q1,q a xs σ H hR (Kp.refl H r σ) (.inr ⟨i,l,.inl e1,q1⟩) (hR.loc i l a (.inl e1) q1) q2 ?_⟩;exact IsL.mono (Same.kp (Same.refl H) _) hR.ol (λb z _=>z.elim .inl λz=>by subst z;exact .inr ⟨i,l,by rw[e1];rfl,q1⟩) _ _ q3
theorem jM{c:Expr}{sa sb:List Stmt}{tc:MB}(hc:DT X c tc)(ha:DSs X sa g)(hb:DSs X sb h):DS X (.If c sa sb pos) (sIf tc g h):=by
 refine PS.conseq (zMM hc ha hb) λDn σ H hq=>?_
 obtain⟨O0,r,fl',hR,e,q⟩:=hq;obtain⟨k,e1,e2⟩:=bnS e;refine⟨O0,r,k,hR,e1,λH1 s1=>?_⟩;have R1:=hR.same s1;have q1:=PostS.before R1 (Kp.of_same r σ s1) q;cases k with
 |true=>rw[if_pos rfl] at e2;exact zNH ⟨O0,r,fl',R1,e2,q1⟩
 |false=>rw[if_neg av] at e2;exact zNI ⟨O0,r,fl',R1,e2,q1⟩
theorem zDQ{fx:En->Option (D×En)}(he:DX X e fx)(hs:gy e none pos.line X.env=pure false:=by rfl):DS X (.Expr e pos) (sX fx):=by
 refine PS.conseq (ZB he hs) λDn σ H hq=>?_
 obtain⟨O0,r,fl',hR,e,q⟩:=hq;obtain⟨⟨d,r'⟩,e1,rfl⟩:=mpS e;exact⟨O0,r,d,r',hR,e1,λv H1 R1 k1 i1=>q σ H1 R1 k1⟩
theorem zHZ(i:Nat){x:Str}{pos':Pos}{fx:En->Option (D×En)}(he:DX X e fx)(hN:X.N.Nodup)(hi:X.N[i]?=some x:=by rfl)(hx:Loc X.env.scope x:=by first|exact Or.inl rfl|exact Or.inr rfl)(hs:gy e (some (.Name x pos')) pos.line X.env=pure false:=by rfl)(hf:X.fn x=true\/X.env.scope.names.lookup x=some .local:=by first|exact .inl rfl|exact .inr rfl):DS X (.Assign [.Name x pos'] e pos) (zDB i fx):=by
 refine PS.conseq (nA hN hi hx he hs hf) λDn σ H hq=>?_
 obtain⟨O0,r,fl,hR,e,q⟩:=hq;obtain⟨⟨d,r1⟩,e1,e2⟩:=bnS e;obtain⟨r',e3,rfl⟩:=mpS e2;obtain⟨hl,np,rfl⟩:=qX e3;refine⟨O0,r,d,r1,hR,e1,λv H1 R1 k1 i1=>?_⟩;obtain⟨R2,k2⟩:=R1.setv hl np i1;exact q _ H1 R2 (k1.trans k2)
theorem YD(n:Nat){c:Expr}{body:List Stmt}{tc:MB}(hp:PassesOwn (model X.prog X.w) X.A X.env X.xe)(hc:DT X c tc)(hb:DSs X body g):DS X (.While c body [] pos) (j4 n tc g):=by
 refine PS.conseq (tY hp hc hb) λDn σ H hq=>?_
 obtain⟨O0,r,fl,hR,e,q⟩:=hq;refine⟨λm σ1 H1=>∃r1,R X.K O0 H1 r1 σ1/\Kp H r σ H1 r1 σ1/\j4 m tc g r1=some fl,⟨n,r,hR,Kp.refl H r σ,e⟩,?_⟩;rintro m σ1 H1 ⟨r1,R1,k1,e1⟩;cases m with
 |zero=>cases e1
 |succ m=>
  obtain⟨b,e2,e3⟩:=bnS e1;refine⟨O0,r1,b,R1,e2,λH2 s2=>?_⟩;have R2:=R1.same s2;have k2:=k1.trans (Kp.of_same r1 σ1 s2);cases b with
  |false=>
   rw[if_neg av] at e3;cases e3;exact zNI (q σ1 H2 R2 k2)
  |true=>
   rw[if_pos rfl] at e3;obtain⟨f1,e4,e5⟩:=bnS e3;refine zNH ⟨λσ3 H3=>∃r3,R X.K O0 H3 r3 σ3/\Kp H r σ H3 r3 σ3/\j4 m tc g r3=some fl,λσ3 H3 z=>⟨m,om m,z⟩,O0,r1,f1,R2,e4,?_⟩;cases f1 with
   |nx r3=>exact λσ3 H3 R3 k3=>⟨r3,R3,k2.trans k3,e5⟩
   |ct r3=>exact λσ3 H3 R3 k3=>⟨r3,R3,k2.trans k3,e5⟩
   |bk r3=>cases e5;exact λσ3 H3 R3 k3=>q σ3 H3 R3 (k2.trans k3)
   |rt d r3=>cases e5;exact PostS.before R2 k2 q
   |rf l r3=>cases e5;exact PostS.before R2 k2 q
   |rg ks l r3=>cases e5;exact PostS.before R2 k2 q
end
noncomputable def lG(K:Fg)(bd:D->En->Option En):TG:=λv σ H Q=>∃O0 r d r',R K O0 H r σ/\Is K (Ow O0 r σ) H d v/\bd d r=some r'/\∀σ',R K O0 H r' σ'->Kp H r σ H r' σ'->Q σ' H
def DG(X:Cx)(tg:Expr)(bd:D->En->Option En):Prop:=PG X tg (lG X.K bd)
def zJO(K:Fg)(O M:Addr->Prop)(H0:Hp)(J:It)(l:List D):Prop:=∀(i:Nat) (H:Hp) (O':Addr->Prop),bL M H0 H->(∀a,O' a->H0 a≠none->O a) ->
 (i<l.length->J.go i H/\∀x H',J.yld i H x H'->Same H H'/\∀d,l[i]?=some d->Is K O' H' d x)/\(i=l.length->J.stop i H)
noncomputable def lI(K:Fg)(it:ML):TI:=λσ H Rr=>∃O0 r l,R K O0 H r σ/\it r=some l/\∀J H',Same H H'->zJO K (Ow O0 r σ) (MutAt r σ) H' J l->Rr J H'
def DI(X:Cx)(tg iter:Expr)(it:ML):Prop:=PI X tg iter (lI X.K it)
theorem PG.conseq{X:Cx}{e:Expr}{t t':TG}(h:PG X e t)(i:∀v σ H Q,t' v σ H Q->t v σ H Q):PG X e t':=λpZ s σ H v u Q I r q=>h pZ s σ H v u Q I r (i v σ H Q q)
theorem PI.conseq{X:Cx}{tg e:Expr}{t t':TI}(h:PI X tg e t)(i:∀σ H Q,t' σ H Q->t σ H Q):PI X tg e t':=λpZ s σ H Q I q=>h pZ s σ H Q I (i σ H Q q)
theorem uH{α:Type}{l:List α}{i:Nat}{d:α}(h:l[i]?=some d):l.drop i=d::l.drop (i+1):=by
 obtain⟨lt,eq⟩:=ar.mp h;rw[<-eq,ub lt]
section
variable{X:Cx}{pos:Pos}{tg iter:Expr}{bd:D->En->Option En}{it:ML}{g:MS}{body:List Stmt}
theorem oG(hp:PassesOwn (model X.prog X.w) X.A X.env X.xe)(hc:X.calm=true)(hi:DI X tg iter it)(hg:DG X tg bd)(hb:DSs X body g)(hs:∀x,gc iter X.env x=pure x:=by intro _;rfl):DS X (.For tg iter body [] pos) (o9 bd it g):=by
 refine PS.conseq (zFE hp hc hi hg hb hs) λDn σ H hq=>?_
 obtain⟨O0,r,fl,hR,e,q⟩:=hq;obtain⟨l,e1,e2⟩:=bnS e;refine⟨O0,r,l,hR,e1,λJ H0 s0 yl=>?_⟩;have R0:=hR.same s0;refine⟨λi m σ1 H1=>m=l.length-i/\i<=l.length/\∃r1,R X.K O0 H1 r1 σ1/\Kp H0 r σ H1 r1 σ1/\rM bd g (l.drop i) r1=some fl,⟨l.length,by simp,ck _,r,R0,Kp.refl H0 r σ,by simpa using e2⟩,?_⟩;rintro i m σ1 H1 ⟨rfl,hil,r1,R1,k1,e3⟩;have k0:=(Kp.of_same r σ s0).trans k1;obtain⟨y1,y2⟩:=yl i H1 (Ow O0 r1 σ1) k1.keep λa z n=>z.elim .inl λz=>(k1.new a z).elim .inr λz=>absurd z n
 by_cases hlt:i<l.length
 ·obtain⟨go,yd⟩:=y1 hlt;have hd:l[i]?=some l[i]:=by simp[hlt]
  rw[uH hd] at e3;obtain⟨r2,e4,e5⟩:=bnS e3;obtain⟨f1,e6,e7⟩:=bnS e5;refine .inr ⟨go,λσ3 H3=>∃r3,R X.K O0 H3 r3 σ3/\Kp H0 r σ H3 r3 σ3/\rM bd g (l.drop (i+1)) r3=some fl,λσ3 H3 z=>⟨l.length-(i+1),by omega,rfl,hlt,z⟩,λx H2 yx=>?_⟩;obtain⟨s2,ix⟩:=yd x H2 yx;have R2:=R1.same s2;refine⟨O0,r1,l[i],r2,R2,ix _ hd,e4,λσ2 R2' k2=>⟨O0,r2,f1,R2',e6,?_⟩⟩;have k3:=(k1.trans (Kp.of_same r1 σ1 s2)).trans k2;have k4:=(k0.trans (Kp.of_same r1 σ1 s2)).trans k2;cases f1 with
  |nx r3=>exact λσ3 H3 R3 kk=>⟨r3,R3,k3.trans kk,e7⟩
  |ct r3=>exact λσ3 H3 R3 kk=>⟨r3,R3,k3.trans kk,e7⟩
  |bk r3=>cases e7;exact λσ3 H3 R3 kk=>q σ3 H3 R3 (k4.trans kk)
  |rt d r3=>cases e7;exact PostS.before R2' k4 q
  |rf l' r3=>cases e7;exact PostS.before R2' k4 q
  |rg ks l' r3=>cases e7;exact PostS.before R2' k4 q
 ·have hl:l.drop i=[]:=ku (by omega);rw[hl] at e3;cases e3;exact .inl ⟨y2 (by omega),q σ1 H1 R1 k0⟩
theorem yZ(i:Nat){x:Str}(hN:X.N.Nodup)(hi:X.N[i]?=some x:=by rfl)(hx:Loc X.env.scope x:=by first|exact Or.inl rfl|exact Or.inr rfl)(hf:X.fn x=true\/X.env.scope.names.lookup x=some .local:=by first|exact .inl rfl|exact .inr rfl):DG X (.Name x pos) (yV i):=by
 refine PG.conseq (ZG hN hi hx hf) λv σ H Q h=>?_
 obtain⟨O0,r,d,r',hR,iv,e,q⟩:=h;obtain⟨hl,np,rfl⟩:=qX e;obtain⟨R1,k1⟩:=hR.setv hl np iv;exact q _ R1 k1
noncomputable def qZ:List D->En->Option En:=λl r=>if l.isEmpty then some r else none
noncomputable def yE(b:D->En->Option En)(bs:List D->En->Option En):List D->En->Option En:=λl r=>match l with
 |[]=>none
 |d::t=>(b d r).bind λr1=>bs t r1
noncomputable def lGs(K:Fg)(bs:List D->En->Option En):TGs:=λvs σ H Q=>∃O0 r l r',R K O0 H r σ/\IsL K (Ow O0 r σ) H l vs/\bs l r=some r'/\∀σ',R K O0 H r' σ'->Kp H r σ H r' σ'->Q σ' H
def DGs(X:Cx)(ts:List Expr)(bs:List D->En->Option En):Prop:=PGs X ts (lGs X.K bs)
theorem PGs.conseq{e:List Expr}{t t':TGs}(h:PGs X e t)(i:∀v σ H Q,t' v σ H Q->t v σ H Q):PGs X e t':=λpZ s σ H v u Q I r q=>h pZ s σ H v u Q I r (i v σ H Q q)
theorem uI:DGs X [] qZ:=by
 refine PGs.conseq zFR λvs σ H Q h=>?_
 obtain⟨O0,r,l,r',hR,il,e,q⟩:=h;unfold qZ at e;cases l with
 |nil=>
  unfold IsL at il;cases e;exact⟨il,q σ hR (Kp.refl H r σ)⟩
 |cons d l=>cases e
theorem x2{e:Expr}{es:List Expr}{bs:List D->En->Option En}(h1:DG X e bd)(h2:DGs X es bs)(hs:(ib (e::es) X.env).map (·.2)=assign e X.env::(ib es X.env).map (·.2):=by rfl):DGs X (e::es) (yE bd bs):=by
 refine PGs.conseq (zBE h1 h2 hs) λvs σ H Q h=>?_
 obtain⟨O0,r,l,r',hR,il,e,q⟩:=h;cases l with
 |nil=>cases e
 |cons d t=>
  unfold IsL at il;obtain⟨v,us,rfl,i1,i2⟩:=il;obtain⟨r1,e1,e2⟩:=bnS e;refine⟨v,us,rfl,O0,r,d,r1,hR,i1,e1,λσ1 R1 k1=>⟨O0,r1,t,r',R1,?_,e2,λσ2 R2 k2=>q σ2 R2 (k1.trans k2)⟩⟩;exact IsL.mono (Same.kp (Same.refl H) _) hR.ol (λa z n=>z.elim .inl λz=>(k1.new a z).elim .inr λz=>absurd z n) _ _ i2
end
inductive Rs where
 |v (d:D)|f (l:List D)|g (ks:List Key) (l:List D)
noncomputable abbrev MF:=List Sl->Option (Rs×List Sl)
structure PostF(K:Fg)(O0:Addr->Prop)(H:Hp)(as:List Sl)(vs:List V)(H':Hp)(as':List Sl):Prop where
 keep:bL (MutAt as (vs.map some)) H H'
 live:∀b,H' b=none->H b=none
 lst:∀b o,H b=some o->Mb o->∃o',H' b=some o'/\Mb o'
 par:∀(i:Nat) (l:List D),as[i]?=some (.p l)->∃l' a xs,as'[i]?=some (.p l')/\vs[i]?=some (.ref a)/\H' a=some (.lst xs)/\IsL K O0 H' l' xs
 pad:∀(i:Nat) (ks:List Key) (l:List D),as[i]?=some (.d true ks l)->∃ks' l' a kvs,as'[i]?=some (.d true ks' l')/\vs[i]?=some (.ref a)/\H' a=some (.dK kvs)/\kvs.map (·.1)=ks'/\IsL K O0 H' l' (kvs.map (·.2))
def RsP(K:Fg)(O0:Addr->Prop)(H:Hp)(as:List Sl)(vs:List V)(as':List Sl)(Q:VK):Rs->Prop
 |.v d=>∀v H',PostF K O0 H as vs H' as'->Is K O0 H' d v->Q v H'
 |.f l=>∀a xs H',PostF K O0 H as vs H' as'->H a=none->H' a=some (.lst xs)->IsL K (λb=>O0 b\/b=a) H' l xs->Q (.ref a) H'
 |.g ks l=>∀a kvs H',PostF K O0 H as vs H' as'->H a=none->H' a=some (.dK kvs)->kvs.map (·.1)=ks->IsL K (λb=>O0 b\/b=a) H' l (kvs.map (·.2))->Q (.ref a) H'
noncomputable def spD(K:Fg)(n:Nat)(m:MF):Sp:=λvs H Q _=>∃O0 as rs as',as.length=n/\R K O0 H as (vs.map some)/\(∀(i:Nat) (l:List D),as[i]?≠some (.o l)/\as[i]?≠some (.z l)/\∀ks,as[i]?≠some (.d false ks l))/\m as=some (rs,as')/\RsP K O0 H as vs as' Q rs
noncomputable def mkF(n N:Nat)(g:MS):MF:=λas=>(g (as++List.replicate (N-n) .un)).bind λfl=>match fl with
 |.rt d r'=>some (.v d,r'.take n)
 |.rf l r'=>some (.f l,r'.take n)
 |.rg ks l r'=>some (.g ks l,r'.take n)
 |.nx r'=>some (.v .non,r'.take n)
 |_=>none
section
variable{K:Fg}
theorem nE{q:Sl->Option (List D)}(hq:q .un=none){as:List Sl}{vs:List V}{k n:Nat}{a:Addr}(hl:as.length=vs.length):AtS q (as++List.replicate k .un) (vs.map some++List.replicate n none) a↔AtS q as (vs.map some) a:=by
 constructor
 ·rintro ⟨i,l,e,q'⟩;by_cases hi:i<as.length
  ·rw[ax hi] at e;rw[ax (by simp;omega)] at q';exact⟨i,l,e,q'⟩
  ·rw[bf (by omega),cf] at e;split at e
   ·have e':q .un=some l:=e;rw[hq] at e';cases e'
   ·cases e
 ·rintro ⟨i,l,e,q'⟩;have hi:i<as.length:=by
   cases e1:as[i]? with
   |none=>rw[e1] at e;cases e
   |some x=>exact(ar.mp e1).1
  exact⟨i,l,by rw[ax hi];exact e,by rw[ax (by simp;omega)];exact q'⟩
theorem R.start{O0:Addr->Prop}{H:Hp}{as:List Sl}{vs:List V}{k:Nat}(h:R K O0 H as (vs.map some)):R K O0 H (as++List.replicate k .un) (vs.map some++List.replicate k none):=by
 have hl:as.length=vs.length:=by simpa using h.len
 have own:∀a,Ow O0 (as++List.replicate k .un) (vs.map some++List.replicate k none) a->H a≠none->Ow O0 as (vs.map some) a:=λa z _=>z.imp id (nE rfl hl).mp
 have pre:∀(i:Nat) (x:Sl),(as++List.replicate k .un)[i]?=some x->x≠.un->as[i]?=some x/\(vs.map some++List.replicate k none)[i]?=(vs.map some)[i]?:=λi x e n=>by
  by_cases hi:i<as.length
  ·rw[ax hi] at e;exact⟨e,ax (by simp;omega)⟩
  ·rw[bf (by omega),cf] at e;split at e
   ·cases e;exact absurd rfl n
   ·cases e
 have preO:∀{q:Sl->Option (List D)} (hq:q .un=none) (i:Nat) (l:List D),((as++List.replicate k .un)[i]?).bind q=some l->(as[i]?).bind q=some l/\(vs.map some++List.replicate k none)[i]?=(vs.map some)[i]?:=λ{q} hq i l e=>by
  cases e1:(as++List.replicate k .un)[i]? with
  |none=>rw[e1] at e;cases e
  |some x=>
   obtain⟨q1,q2⟩:=pre i x e1 (by rintro rfl;rw[e1] at e;have e':q .un=some l:=e;rw[hq] at e';cases e');rw[e1] at e;exact⟨by rw[q1];exact e,q2⟩
 refine⟨by simp[hl],λi d e=>?_,λi l e=>?_,λi j a l m e1 e2 q1 q2=>?_,h.o0,λi l a e q=>?_,λi l a e q=>?_,λi f ks l e=>?_⟩
 ·obtain⟨q1,q2⟩:=pre i _ e (by intro z;cases z);obtain⟨v,e3,q3⟩:=h.val i d q1;exact⟨v,q2.trans e3,Is.mono (Same.kp (Same.refl H) _) h.ol own _ _ q3⟩
 ·obtain⟨q1,q2⟩:=preO (q:=Sl.ls) rfl i l e;obtain⟨a,xs,e3,e4,q3⟩:=h.own i l q1;exact⟨a,xs,q2.trans e3,e4,IsL.mono (Same.kp (Same.refl H) _) h.ol own _ _ q3⟩
 ·obtain⟨p1,p2⟩:=preO (q:=Sl.own) rfl i l e1;obtain⟨p3,p4⟩:=preO (q:=Sl.own) rfl j m e2;exact h.apart i j a l m p1 p3 (p2 ▸ q1) (p4 ▸ q2)
 ·rcases e with e|e|⟨ks,e⟩
  ·obtain⟨p1,p2⟩:=pre i _ e (by intro z;cases z);exact h.loc i l a (.inl p1) (p2 ▸ q)
  ·obtain⟨p1,p2⟩:=pre i _ e (by intro z;cases z);exact h.loc i l a (.inr (.inl p1)) (p2 ▸ q)
  ·obtain⟨p1,p2⟩:=pre i _ e (by intro z;cases z);exact h.loc i l a (.inr (.inr ⟨ks,p1⟩)) (p2 ▸ q)
 ·obtain⟨x,p0,e0⟩:=og.mp e;obtain⟨p1,p2⟩:=pre i _ p0 (by rintro rfl;cases e0);exact h.par i l a (by rw[p1];exact e0) (p2 ▸ q)
 ·obtain⟨p1,p2⟩:=pre i _ e (by intro z;cases z);obtain⟨a,kvs,e3,e4,e5,q3⟩:=h.dct i f ks l p1;exact⟨a,kvs,p2.trans e3,e4,e5,IsL.mono (Same.kp (Same.refl H) _) h.ol own _ _ q3⟩
theorem zOY{st:Stmt}(F:Fun K x qual st f fd)(S:FnScope N ps (zO st))(n:Nat)(nN:Nat)(hn:ps.length=n:=by rfl)(hN:N.length=nN:=by rfl)(hb:∀(cdv:Value),fd.code=cdv->∀(A:Around) (outer:List Env) (s:Shared) (H:Hp) (E:XK),Room k (A.deeper (envOfC qual (zO st) s.heap.objs.size f cdv)) ->
   DSs (zIZ CX0 P w K mg base N qual (zO st) f cdv A outer s H E).nox (qR st) g):FnOk P w K mg base CX0 (k+1) f fd ps (spD K n (mkF n nN g)):=by
 subst hn hN;obtain⟨oc,od,kV,doc,pm,an,cdv,ct,osl,rfl,lk,hcd⟩:=F.ex;refine zM6 lk hcd S (λvs H Q E h=>?_) (λA outer s H vs Q E hr h=>?_)
 ·obtain⟨O0,as,rs,as',hl,hR,_⟩:=h
  have:=hR.len
  simp at this;omega
 ·obtain⟨O0,as,rs,as',hl,hR,no,e,q⟩:=h;have hlv:as.length=vs.length:=by simpa using hR.len
  refine⟨_,PSs.nox (hb cdv rfl A outer s H E hr),?_⟩;obtain⟨fl,e1,e2⟩:=bnS e;have hst:L2.start N vs=vs.map some++List.replicate (N.length-ps.length) none:=by unfold L2.start;rw[<-hlv,hl]
  rw[hst];have R0:=R.start (k:=N.length-ps.length) hR;have fin:∀(σ':St) (H':Hp) (r':En),R K O0 H' r' σ'->Kp H (as++List.replicate (N.length-ps.length) .un) (vs.map some++List.replicate (N.length-ps.length) none) H' r' σ'->PostF K O0 H as vs H' (r'.take ps.length):=λσ' H' r' R' k'=>by
   refine⟨λb o eb nb=>k'.keep b o eb λz=>nb ((nE rfl hlv).mp z),k'.live,k'.lst,λi l ei=>?_,λi ks l ei=>?_⟩
   rotate_left
   ·have hi:i<as.length:=(ar.mp ei).1;obtain⟨e3,e4⟩:=k'.par i true (by rw[ax hi,ei];rfl);obtain⟨ks',l',e3⟩:=zRD e3;rw[ax (by simp;omega)] at e4;obtain⟨a,kvs,e5,e6,e7,e8⟩:=R'.dct i true ks' l' e3;rw[e4] at e5;have ev:vs[i]?=some (.ref a):=by
     rw[ay] at e5;cases e8:vs[i]? with
     |none=>rw[e8] at e5;cases e5
     |some y=>rw[e8] at e5;cases e5;rfl
    exact⟨ks',l',a,kvs,by rw[nu (by omega)];exact e3,ev,e6,e7,IsL.mono (Same.kp (Same.refl H') _) R'.ol (λ_ z _=>.inl z) _ _ e8⟩
   have hi:i<as.length:=(ar.mp ei).1;obtain⟨e3,e4⟩:=k'.par i false (by rw[ax hi,ei];rfl);obtain⟨l',e3⟩:=zPU e3;rw[ax (by simp;omega)] at e4;obtain⟨a,xs,e5,e6,e7⟩:=R'.own i l' (by rw[e3];rfl);rw[e4] at e5;have ev:vs[i]?=some (.ref a):=by
    rw[ay] at e5;cases e8:vs[i]? with
    |none=>rw[e8] at e5;cases e5
    |some y=>rw[e8] at e5;cases e5;rfl
   exact⟨l',a,xs,by rw[nu (by omega)];exact e3,ev,e6,IsL.mono (Same.kp (Same.refl H') _) R'.ol (λ_ z _=>.inl z) _ _ e7⟩
  refine⟨O0,_,fl,R0,e1,?_⟩;cases fl with
  |nx r'=>cases e2;exact λσ' H' R' k'=>q .non H' (fin σ' H' r' R' k') (by rw[Is.non_iff])
  |bk r'=>cases e2
  |ct r'=>cases e2
  |rt d r'=>cases e2;exact λv σ' H' R' k' i'=>q v H' (fin σ' H' r' R' k') i'
  |rf l r'=>
   cases e2;refine λa xs σ' H' R' k' fr no0 ea il=>q a xs H' (fin σ' H' r' R' k') ?_ ea il
   rcases fr with z|⟨i,m,ei,_⟩
   ·exact z
   ·exfalso;by_cases hi:i<as.length
    ·rw[ax hi] at ei;rcases ei with ei|⟨ks,ei⟩
     ·exact(no i m).1 ei
     ·exact(no i m).2.2 ks ei
    ·rw[bf (by omega),cf] at ei;rcases ei with ei|⟨ks,ei⟩<;>split at ei<;>cases ei
  |rg ks l r'=>
   cases e2;refine λa kvs σ' H' R' k' fr no0 ea ek il=>q a kvs H' (fin σ' H' r' R' k') ?_ ea ek il
   rcases fr with z|⟨i,m,ei,_⟩
   ·exact z
   ·exfalso;by_cases hi:i<as.length
    ·rw[ax hi] at ei;rcases ei with ei|⟨ks',ei⟩
     ·exact(no i m).1 ei
     ·exact(no i m).2.2 ks' ei
    ·rw[bf (by omega),cf] at ei;rcases ei with ei|⟨ks',ei⟩<;>split at ei<;>cases ei
theorem n8{st:Stmt}(F:Fun K x qual st f fd)(S:FnScope N ps (zO st))(n:Nat)(nN:Nat)(hn:ps.length=n:=by rfl)(hN:N.length=nN:=by rfl)(hb:∀(cdv:Value) (A:Around) (outer:List Env) (s:Shared) (H:Hp) (E:XK),Room k (A.deeper (envOfC qual (zO st) s.heap.objs.size f cdv)) ->
   DSs (zIZ CX0 P w K mg base N qual (zO st) f cdv A outer s H E).nox (qR st) g):FnOk P w K mg base CX0 (k+1) f fd ps (spD K n (mkF n nN g)):=zOY F S n nN hn hN λcdv _=>hb cdv
theorem zQO(n:Nat):FnOk P w K mg base CX0 k f fd ps (spD K n λ_=>none):=
 ⟨(λvs H Q E h=>by obtain⟨_,_,_,_,_,_,_,e,_⟩:=h;cases e),(λA outer s H args us vs Q E _ _ _ _ h=>by obtain⟨_,_,_,_,_,_,_,e,_⟩:=h;cases e)⟩
end
noncomputable def rsD:Rs->D
 |.v d=>d
 |.f l=>.lst l
 |.g ks l=>.dct ks l
noncomputable def yD(n:Nat)(m:MF)(fs:ML):ME:=λr=>(fs r).bind λds=>if ds.length=n then (m (ds.map .v)).map λp=>rsD p.1 else none
noncomputable def cC(n:Nat)(m:MF)(fs:ML):ML:=λr=>(fs r).bind λds=>if ds.length=n then (m (ds.map .v)).bind λp=>match p.1 with
 |.f l=>some l
 |_=>none
 else none
section
variable{K:Fg}
theorem R.args(ol:jN O H)(h:IsL K O H ds vs):R K O H (ds.map .v) (vs.map some):=by
 have no:∀(i:Nat) (l:List D),((ds.map Sl.v)[i]?).bind Sl.own≠some l:=λi l e=>by
  rw[ay] at e;cases e1:ds[i]? with
  |none=>rw[e1] at e;cases e
  |some x=>rw[e1] at e;cases e
 refine⟨by simp[h.length],λi d e=>?_,λi l e=>absurd (jA e) (no i l),λi j a l m e1=>absurd e1 (no i l),ol,λi l a e=>absurd (show((ds.map Sl.v)[i]?).bind Sl.own=some l by rcases e with e|e|⟨_,e⟩<;>rw[e]<;>rfl) (no i l),λi l a e=>absurd (u5 e).choose_spec (no i _),λi _ ks l e=>absurd (show((ds.map Sl.v)[i]?).bind Sl.own=some l by rw[e];rfl) (no i l)⟩;rw[ay] at e;cases e1:ds[i]? with
 |none=>rw[e1] at e;cases e
 |some x=>
  rw[e1] at e;cases e;obtain⟨v,e2,q⟩:=h.get e1;exact⟨v,by rw[ay,e2];rfl,Is.mono (Same.kp (Same.refl H) _) ol (λa z _=>z.elim id λ⟨j,l,ej,_⟩=>absurd ej (no j l)) _ _ q⟩
theorem zBM{ds:List D}{σ:St}{a:Addr}:¬MutAt (ds.map .v) σ a:=λ⟨i,l,e,_⟩=>by
 rw[ay] at e;cases e1:ds[i]? with
 |none=>rw[e1] at e;cases e
 |some x=>rw[e1] at e;cases e
theorem PostF.same{O0:Addr->Prop}{H H':Hp}{ds:List D}{vs:List V}{as':List Sl}(h:PostF K O0 H (ds.map .v) vs H' as'):Same H H':=λb o e=>h.keep b o e zBM
end
section
variable{X:Cx}{k n:Nat}{f:Addr}{fd:FuncData}{ps:List Str}{m:MF}{x:Str}{p pos:Pos}{e:Expr}{es:List Expr}{fs:ML}
theorem c5{O0:Addr->Prop}{r:En}{σ:St}{H H1:Hp}{ds:List D}{vs:List V}{rs:Rs}{as':List Sl}{Q:VK}{E:XK}(hR:R X.K O0 H r σ)(s1:Same H H1)(il:IsL X.K (Ow O0 r σ) H1 ds vs)(hl:ds.length=n)(em:m (ds.map .v)=some (rs,as'))(q:RsP X.K (Ow O0 r σ) H1 (ds.map .v) vs as' Q rs):spD X.K n m (vs++[]) H1 Q E:=by
 rw[gn];refine⟨Ow O0 r σ,ds.map .v,rs,as',by simpa using hl,R.args (hR.same s1).ol il,λi l=>?_,em,q⟩;rw[ay];cases e1:ds[i]? with
 |none=>exact⟨(λz=>by cases z),(λz=>by cases z),(λ_ z=>by cases z)⟩
 |some y=>exact⟨(λz=>by cases z),(λz=>by cases z),(λ_ z=>by cases z)⟩
theorem yJ(F:FnOk X.prog X.w X.K X.mg X.base CX0 k f fd ps (spD X.K n m))(hr:Room k X.A)(hg:Gl X x)(hm:X.mg x=some (.ref f))(hk:PySem.W.keepIn X.K (.ref f)=true)(hb:Binds X.K fd ps [])(ha:DA X (e::es) fs)(hdb:(x == ("__debug__" : Str))=false:=by decide)(he:ae (e::es) X.env=(false,eval e X.env)::ae es X.env:=by rfl)(hpl:(dl pos (ae es X.env)).any (·.1)=false:=by rfl):DE X (.Call (.Name x p) (e::es) [] pos) (yD n m fs):=by
 refine PE.conseq (v6 (E:=λ_ _ _=>False) (dvs:=[]) F hr hg hm hk hb .nil dC ha hdb he hpl) λσ H Q h=>?_
 obtain⟨O0,r,d,hR,e,q⟩:=h;obtain⟨ds,e1,e2⟩:=bnS e;split at e2
 ·rename_i hl;obtain⟨⟨rs,as'⟩,e3,rfl⟩:=mpS e2;refine⟨O0,r,ds,hR,e1,λvs H1 s1 il=>c5 hR s1 il hl e3 ?_⟩;cases rs with
  |v d=>exact λv H2 pf iv=>q v H2 (s1.trans pf.same) iv
  |f l=>
   refine λa xs H2 pf na ea il2=>q _ H2 (s1.trans pf.same) ?_
   have R1:=hR.same s1;have olp:jN (λb=>Ow O0 r σ b\/b=a) H2:=λb z=>z.elim (λz=>(R1.same pf.same).ol b z) λz=>by subst z;exact⟨.lst xs,ea,trivial⟩
   show Is X.K (Ow O0 r σ) H2 (.lst l) (.ref a);rw[Is.lst_iff];exact⟨a,xs,rfl,.inl ⟨R1.nofresh na,.inl ea⟩,IsL.mono (Same.kp (Same.refl H2) _) olp (λ_ z _=>.inl z) _ _ il2⟩
  |g ks l=>
   refine λa kvs H2 pf na ea ek il2=>q _ H2 (s1.trans pf.same) ?_
   have olp:jN (λb=>Ow O0 r σ b\/b=a) H2:=λb z=>z.elim (λz=>((hR.same s1).same pf.same).ol b z) λz=>by subst z;exact⟨.dK kvs,ea,trivial⟩
   show Is X.K (Ow O0 r σ) H2 (.dct ks l) (.ref a);rw[Is.dct_iff];exact⟨a,kvs,rfl,(hR.same s1).nofresh na,.inl ea,ek,IsL.mono (Same.kp (Same.refl H2) _) olp (λ_ z _=>.inl z) _ _ il2⟩
 ·cases e2
theorem JY(F:FnOk X.prog X.w X.K X.mg X.base CX0 k f fd ps (spD X.K n m))(hr:Room k X.A)(hg:Gl X x)(hm:X.mg x=some (.ref f))(hk:PySem.W.keepIn X.K (.ref f)=true)(hb:Binds X.K fd ps [])(ha:DA X (e::es) fs)(hdb:(x == ("__debug__" : Str))=false:=by decide)(he:ae (e::es) X.env=(false,eval e X.env)::ae es X.env:=by rfl)(hpl:(dl pos (ae es X.env)).any (·.1)=false:=by rfl):DF X (.Call (.Name x p) (e::es) [] pos) (cC n m fs):=by
 refine PE.conseq (v6 (E:=λ_ _ _=>False) (dvs:=[]) F hr hg hm hk hb .nil dC ha hdb he hpl) λσ H Q h=>?_
 obtain⟨O0,r,l,hR,e,q⟩:=h;obtain⟨ds,e1,e2⟩:=bnS e;split at e2
 ·rename_i hl;obtain⟨⟨rs,as'⟩,e3,e4⟩:=bnS e2;refine⟨O0,r,ds,hR,e1,λvs H1 s1 il=>c5 hR s1 il hl e3 ?_⟩;cases rs with
  |v d=>cases e4
  |f l'=>cases e4;exact λa xs H2 pf na ea il2=>q a xs H2 (s1.trans pf.same) (s1.free na) ea il2
  |g ks l'=>cases e4
 ·cases e2
end
noncomputable def zG9:D->Option (List D)
 |.lst l=>some l
 |.tup l=>some l
 |_=>none
noncomputable def mIt(f:ME):ML:=λr=>(f r).bind zG9
theorem jX{l:List D}{i:Nat}(h:i<l.length):∃d,l[i]?=some d:=⟨l[i],by simp[h]⟩
theorem zD8{K:Fg}{O M:Addr->Prop}(mo:∀a,M a->O a){H:Hp}{a:Addr}{xs:List V}{ds:List D}(ol:jN O H)(rd:∀H1,bL M H H1->SqL K H1 a xs)(il:IsL K O H ds xs):zJO K O M H (Itl K a) ds:=by
 intro i H1 O' kp oo;have kp':bL O H H1:=λb o e n=>kp b o e λz=>n (mo b z)
 have rd1:SqL K H1 a xs:=rd H1 kp;refine⟨λhi=>⟨?_,λx H' y=>?_⟩,λhi=>⟨xs,rd1,by rw[<-il.length];exact mw hi.symm⟩⟩
 ·obtain⟨d,e⟩:=jX hi;obtain⟨v,e1,_⟩:=il.get e;exact⟨xs,v,rd1,e1⟩
 ·obtain⟨rfl,y⟩:=y;refine⟨Same.refl _,λd e=>?_⟩;obtain⟨v,e1,q⟩:=il.get e
  have:=y xs rd1
  rw[e1] at this;cases this;exact Is.mono kp' ol oo _ _ q
theorem zD7{K:Fg}{O M:Addr->Prop}(mo:∀a,M a->O a){H:Hp}{a:Addr}{xs:List V}{ds:List D}(ol:jN O H)(rd:SqT K H a xs)(il:IsL K O H ds xs):zJO K O M H (Itt K a) ds:=by
 intro i H1 O' kp oo;have kp':bL O H H1:=λb o e n=>kp b o e λz=>n (mo b z)
 have rd1:SqT K H1 a xs:=SqT.keep kp' ol rd;refine⟨λhi=>⟨?_,λx H' y=>?_⟩,λhi=>⟨xs,rd1,by rw[<-il.length];exact mw hi.symm⟩⟩
 ·obtain⟨d,e⟩:=jX hi;obtain⟨v,e1,_⟩:=il.get e;exact⟨xs,v,rd1,e1⟩
 ·obtain⟨rfl,y⟩:=y;refine⟨Same.refl _,λd e=>?_⟩;obtain⟨v,e1,q⟩:=il.get e
  have:=y xs rd1
  rw[e1] at this;cases this;exact Is.mono kp' ol oo _ _ q
theorem zFO(hl:PE X l tl):PI X tg l (λσ H Rr=>tl σ H λx H1=>∃a,x=.ref a/\(((∃xs,SqL X.K H1 a xs)/\Rr (Itl X.K a) H1)\/((∃xs,SqT X.K H1 a xs)/\Rr (Itt X.K a) H1))):=by
 intro pZ s σ H R I h;refine thn (hl pZ s σ H _ I h) λv s1 ⟨x,H1,I1,r1,q1⟩=>?_
 obtain⟨a,e,q⟩:=q1;subst e;cases r1;rcases q with⟨⟨xs,hq⟩,q⟩|⟨⟨xs,hq⟩,q⟩
 ·obtain⟨its,rv,p,hz⟩:=I1.list hq;refine rj p.isList ?_;refine⟨s1.heap.objs.size,[s1.heap.objs.size],_,_,H1,rfl,I1.kept (t':=s1.toks) λb o e=>ad _ e,XB a _,⟨_,ba _ rfl,rfl,rfl⟩,λb hb=>?_,q⟩;have e:b=s1.heap.objs.size:=by simpa using hb
  subst e;exact I1.fpOk (ah _) (I1.hok.fresh (ah _))
 ·obtain⟨its,rv,p,hz⟩:=I1.tuple hq;refine rh (show s1.heap.IsTuple a its.toArray from p) ?_;refine⟨s1.heap.objs.size,[s1.heap.objs.size],_,_,H1,rfl,I1.kept (t':=s1.toks) λb o e=>ad _ e,pJ a _,⟨_,ba _ rfl,rfl,rfl⟩,λb hb=>?_,q⟩;have e:b=s1.heap.objs.size:=by simpa using hb
  subst e;exact I1.fpOk (ah _) (I1.hok.fresh (ah _))
theorem cJ(hl:DE X l f):DI X tg l (mIt f):=by
 refine PI.conseq (zFO hl) λσ H Rr h=>?_
 obtain⟨O0,r,ds,hR,e,q⟩:=h;obtain⟨d,e1,e2⟩:=bnS e;refine⟨O0,r,d,hR,e1,λv H1 s1 i1=>?_⟩;have ol:=(hR.same s1).ol;cases d with
 |lst l'=>
  cases e2;rw[Is.lst_iff] at i1;obtain⟨a,xs,rfl,rd,il⟩:=i1;exact⟨a,rfl,.inl ⟨⟨xs,rd.sq⟩,q _ H1 s1 (zD8 (λa z=>.inr z.own) ol (λH2 k2=>rd.imp (λz=>Rd.keep k2 (λy=>z.1 (.inr y.own)) z.2) id) il)⟩⟩
 |tup l'=>
  cases e2;rw[Is.tup_iff] at i1;obtain⟨a,xs,rfl,rd,il⟩:=i1;exact⟨a,rfl,.inr ⟨⟨xs,rd⟩,q _ H1 s1 (zD7 (λa z=>.inr z.own) ol rd il)⟩⟩
 |_=>cases e2
noncomputable def zMG(lo:Int)(n:Nat):List D:=(List.range n).map λi=>.int (lo+(i:Nat))
theorem zJS{K:Fg}(lo:Int)(n:Nat):zJO K O M H (Itr lo n) (zMG lo n):=by
 intro i H1 O' kp oo;have hl:(zMG lo n).length=n:=by simp[zMG]
 refine⟨λhi=>⟨by rw[hl] at hi;exact hi,λx H' y=>?_⟩,λhi=>by rw[hl] at hi;exact mw hi.symm⟩;obtain⟨rfl,rfl⟩:=y;refine⟨Same.refl _,λd e=>?_⟩;rw[hl] at hi;unfold zMG at e;rw[ay,xg hi] at e;cases e;rw[Is.int_iff]
noncomputable def intD:D->Option Int
 |.int i=>some i
 |_=>none
noncomputable def ZO(f:ME):ML:=λr=>(f r).bind λd=>(intD d).bind λj=>if -(2 ^ 62)<=j/\j<2 ^ 62 then some (zMG 0 j.toNat) else none
theorem cE(e:intD d=some i):d=.int i:=by
 cases d<;>first|cases e;rfl|cases e
theorem YG(hg:Gl X "range")(hm:X.mg "range" = none)(ha:DE X l f)(hs:ae [l] X.env=[(false,eval l X.env)]:=by rfl):DI X tg (.Call (.Name "range" p) [l] [] pos) (ZO f):=by
 refine PI.conseq (XV hg hm (yC ha xF hs) hs) λσ H Rr h=>?_
 obtain⟨O0,r,ds,hR,e,q⟩:=h;obtain⟨d,e1,e2⟩:=bnS e;obtain⟨j,e3,e4⟩:=bnS e2;cases cE e3;split at e4
 ·rename_i hj;cases e4;refine⟨O0,r,_,hR,e1,λv H1 s1 i1=>?_⟩;rw[Is.int_iff] at i1;exact⟨j,by rw[i1],hj.1,hj.2,q _ H1 s1 (zJS 0 _)⟩
 ·cases e4
noncomputable def QA(env:Env):List (Str×NameKind)->List (Str×Addr)->List (Str×Addr)
 |[],acc=>acc
 |(n,k)::r,acc=>if k=.free then QA env r ((n,(env.cells.lookup n).getD 0)::acc) else QA env r acc
theorem uZ:∀(names:List (Str×NameKind)) (acc:List (Str×Addr)),(∀y∈names,y.2=.free->∃c,env.cells.lookup y.1=some c) ->
  (forIn names acc (λ(x:Str×NameKind) (cs:List (Str×Addr))=>match x with
   |(name,kind)=>if (kind == NameKind.free)=true then do let a <- cellOf env name;pure (ForInStep.yield ((name,a)::cs)) else pure (ForInStep.yield cs)):Sem (List (Str×Addr)))=pure (QA env names acc)
 |[],acc,_=>rfl
 |(n,k)::r,acc,h=>by
  rw[ma];by_cases hk:k=.free
  ·obtain⟨c,hc⟩:=h (n,k) jk hk;have ih:=uZ r ((n,c)::acc) λy hy=>h y (bx _ hy)
   subst hk;show((do let a <- cellOf env n;pure (ForInStep.yield ((n,a)::acc))) >>= _:Sem _)=_;unfold cellOf;rw[hc];unfold QA;rw[if_pos rfl,hc];exact ih
  ·have hb:(k == NameKind.free)=false:=by simpa using hk
   have ih:=uZ r acc λy hy=>h y (bx _ hy)
   unfold QA;rw[if_neg hk];simp only[hb];exact ih
theorem vF(h:∀y∈scope.names,y.2=.free->∃c,env.cells.lookup y.1=some c):closureFor scope env=pure (QA env scope.names []):=by
 unfold closureFor
 have:=uZ (env:=env) scope.names [] h
 first
  |exact this
  |(simp only[bind_pure];exact this)
  |(rw[<-this];rfl)
theorem mJ:∀(names:List (Str×NameKind)) (acc:List (Str×Addr)),(∀y∈names,y.2=.free->∃c,env.cells.lookup y.1=some c)->(∀c,acc.lookup x=some c->env.cells.lookup x=some c) ->
  (QA env names acc).lookup x=some c->env.cells.lookup x=some c
 |[],acc,_,ha,e=>ha c e
 |(n,k)::r,acc,h,ha,e=>by
  unfold QA at e;split at e
  ·rename_i hk;refine mJ r _ (λy hy=>h y (bx _ hy)) (λc' e'=>?_) e;rw[gj] at e';split at e'
   ·rename_i hx;have hx':x=n:=by simpa using hx
    subst hx';obtain⟨c2,q⟩:=h (x,k) jk hk;rw[q] at e' ⊢;simpa using e'
   ·exact ha c' e'
  ·exact mJ r _ (λy hy=>h y (bx _ hy)) ha e
theorem mK:∀(names:List (Str×NameKind)) (acc:List (Str×Addr)),(∃c,acc.lookup x=some c)->∃c,(QA env names acc).lookup x=some c
 |[],acc,h=>h
 |(n,k)::r,acc,h=>by
  unfold QA;split
  ·refine mK r _ ?_;rw[gj];split
   ·exact⟨_,rfl⟩
   ·exact h
  ·exact mK r _ h
theorem cM:∀(names:List (Str×NameKind)) (acc:List (Str×Addr)),(x,NameKind.free)∈names->∃c,(QA env names acc).lookup x=some c
 |[],_,h=>nomatch h
 |(n,k)::r,acc,h=>by
  unfold QA;rcases bh.mp h with z|z
  ·cases z;rw[if_pos rfl];refine mK r _ ?_;rw[gj];simp
  ·split
   ·exact cM r _ z
   ·exact cM r _ z
theorem jU{env:Env}:∀{names:List (Str×NameKind)} {x:Str} {k:NameKind},(names.map λ(n,k)=>if (k == NameKind.free && env.scope.kind == .function && env.kindOf n == some .cell) then (n,NameKind.cell) else (n,k)).lookup x=some k ->
  ∃k',names.lookup x=some k'/\(k=k'\/(k'=.free/\k=.cell))
 |[],_,_,h=>by simp at h
 |(n,k0)::r,x,k,h=>by
  have h':List.lookup x ((if (k0 == NameKind.free && env.scope.kind == .function && env.kindOf n == some .cell)=true then (n,NameKind.cell) else (n,k0))::(r.map λ(n,k)=>if (k == NameKind.free && env.scope.kind == .function && env.kindOf n == some .cell) then (n,NameKind.cell) else (n,k)))=some k:=h;rw[gj];by_cases hc:(k0 == NameKind.free && env.scope.kind == .function && env.kindOf n == some .cell)=true
  ·rw[if_pos hc,gj] at h';split at h'
   ·rename_i hx;cases h';refine⟨k0,rfl,.inr ⟨?_,rfl⟩⟩;simp only[bw,beq_iff_eq] at hc;exact hc.1.1
   ·rename_i hx;exact jU h'
  ·rw[if_neg hc,gj] at h';split at h'
   ·rename_i hx;cases h';exact⟨k0,rfl,.inl rfl⟩
   ·rename_i hx;exact jU h'
theorem vY{env:Env}:∀{names:List (Str×NameKind)} {x:Str},names.lookup x=some .free ->
  let l:=(names.map λ(n,k)=>if (k == NameKind.free && env.scope.kind == .function && env.kindOf n == some .cell) then (n,NameKind.cell) else (n,k));l.lookup x=some .cell\/l.lookup x=some .free
 |[],_,h=>by simp at h
 |(n,k0)::r,x,h=>by
  show List.lookup x ((if (k0 == NameKind.free && env.scope.kind == .function && env.kindOf n == some .cell)=true then (n,NameKind.cell) else (n,k0))::_)=_\/List.lookup x ((if (k0 == NameKind.free && env.scope.kind == .function && env.kindOf n == some .cell)=true then (n,NameKind.cell) else (n,k0))::_)=_;rw[gj] at h;cases hx:x == n with
  |true=>
   rw[hx] at h;cases h;split
   ·left;rw[gj,hx]
   ·right;rw[gj,hx]
  |false=>
   rw[hx] at h;have ih:=vY (env:=env) h;split
   ·rw[gj,hx];exact ih
   ·rw[gj,hx];exact ih
noncomputable def cxC(X:Cx)(N':List Str)(scope:Scope)(C:Addr)(fp:List Addr)(s:Shared)(H:Hp):Cx where
 prog:=X.prog
 w:=X.w
 K:=X.K
 mg:=X.mg
 base:=X.base
 A:=X.A
 N:=N'
 s₀:=s
 H₀:=H
 env:=compEnvC scope (QA X.env scope.names []) C X.env
 outer:=X.stack
 stack:=X.stack
 ex:=fp
 fn:=λ_=>false
 calm:=X.calm
 pn:=[]
 xe:=λ_ _=>False
structure CmpOk(X:Cx)(N':List Str)(cap:List Nat)(scope:Scope):Prop where
 kind:scope.kind=.function
 nc:∀y∈scope.names,y.2≠.cell
 nm:∀y∈scope.names,y.2=.local->scope.names.lookup y.1=some .local
 fr:∀y∈scope.names,y.2=.free->X.env.kindOf y.1=some .cell\/X.env.kindOf y.1=some .free
 capt:∀(i j:Nat),cap[i]?=some j->∃x,N'[i]?=some x/\X.N[j]?=some x/\scope.names.lookup x=some .free
 len:cap.length<=N'.length
noncomputable def zD0(cap:List Nat)(n:Nat)(σ:St):St:=(cap.map λj=>(σ[j]?).getD none)++List.replicate (n-cap.length) none
theorem CmpOk.hasc(o:CmpOk X N' cap scope)(ok:X.Ok):∀y∈scope.names,y.2=.free->∃c,X.env.cells.lookup y.1=some c:=λy hy e=>ok.has y.1 (o.fr y hy e)
theorem CmpOk.sub(o:CmpOk X N' cap scope)(ok:X.Ok)(e:(QA X.env scope.names []).lookup x=some c):X.env.cells.lookup x=some c:=mJ scope.names [] (o.hasc ok) (λ_ z=>by simp at z) e
theorem zCA(o:CmpOk X N' cap scope)(I:Inv X pZ σ H s)(hfp:∀b∈fp,o8 X pZ H b)(hlt:∀b∈fp,b<s.heap.objs.size){h':Heap}{t':Nat}(ns:h'.Ns s.heap.objs.size (λ_=>none))(kp:∀b u,s.heap.get? b=some u->h'.get? b=some u):Inv (cxC X N' scope s.heap.objs.size fp s H) [] (zD0 cap N'.length σ) H { s with heap:=h',toks:=t' }:=by
 have hf:H s.heap.objs.size=none:=I.hok.fresh (ah _);have nofp:∀b∈fp,b∉frs X.stack:=λb hb z=>by
  obtain⟨f0,f1,f2,f3,f4,f5⟩:=hfp b hb;rcases bh.mp (I.stkSub b z) with q|q
  ·exact f1 q
  ·exact f2 q
 have ok':(cxC X N' scope s.heap.objs.size fp s H).Ok:=by
  refine⟨I.ok.mod,o.kind,I.ok.glob,I.ok.blt,ah _,λx y c e1 e2=>I.ok.inj x y c (o.sub I.ok e1) (o.sub I.ok e2),λx hx=>?_,λx c z=>(by cases z),I.ok.hd,I.ok.frames,.inl rfl,λb hb=>⟨be (hlt b hb),λx c e=>(hfp b hb).2.2.2.2.1 x c (o.sub I.ok e)⟩,
   λb ob e=>I.bs b ob e,bq I.ok.bsz I.sz,λb ob e hb=>?_,nofp,I.stack,⟨I.stkFree,I.tabIn⟩⟩
  ·have key:scope.names.lookup x=some .free:=by
    rcases hx with hx|hx
    ·obtain⟨k',e1,e2⟩:=jU (env:=X.env) (names:=scope.names) (x:=x) (k:=.cell) hx;rcases e2 with e2|e2
     ·subst e2;exact absurd rfl (o.nc _ (gk e1))
     ·rw[e2.1] at e1;exact e1
    ·obtain⟨k',e1,e2⟩:=jU (env:=X.env) (names:=scope.names) (x:=x) (k:=.free) hx;rcases e2 with e2|e2
     ·subst e2;exact e1
     ·exact absurd e2.2 (by decide)
   exact cM scope.names [] (gk key)
  ·rcases(hfp b hb).2.2.2.1 with z|z
   ·exact I.ok.noex b ob e z
   ·exact absurd (bb (bb (am e) I.ok.bsz) z) (io _)
 refine⟨ok',rfl,I.bare,Un.kept kp,⟨λ_=>none,ns,λi x v hN hs hv=>?_⟩,λx c e=>?_,hf,λx c e=>I.freeC x c (o.sub I.ok e),λp hp=>?_,I.hok.kept kp,?_⟩
 ·have hN:N'[i]?=some x:=hN;by_cases hi:i<cap.length
  ·unfold zD0 at hs;rw[ax (by simpa using hi),ay] at hs;obtain⟨j,hj⟩:∃j,cap[i]?=some j:=⟨cap[i],by simp[hi]⟩;rw[hj] at hs;have hs':σ[j]?=some (some v):=by
    have hs'':(σ[j]?).getD none=some v:=bg hs;cases e:σ[j]? with
    |none=>rw[e] at hs'';cases hs''
    |some y=>rw[e] at hs'';have:y=some v:=hs'';rw[this]
   obtain⟨x',e1,e2,e3⟩:=o.capt i j hj;rw[hN] at e1;cases e1;have hk:=o.fr (x,.free) (gk e3) rfl;obtain⟨m,hn,hl⟩:=I.loc;have hvis:Vis X.env.scope x:=hk.elim (λz=>.inr (.inl z)) λz=>.inr (.inr z)
   obtain⟨u,r,lk⟩:=hl j x v e2 hs' hvis;refine⟨u,r,.inr ⟨vY (env:=X.env) e3,?_⟩⟩;rcases lk with⟨z,_⟩|⟨_,c,hc,hcell⟩
   ·have z':X.env.kindOf x=some .local:=z;rw[z'] at hk;rcases hk with hk|hk<;>cases hk
   ·obtain⟨c',hc'⟩:=cM (env:=X.env) scope.names [] (gk e3);have hcc:=o.sub I.ok hc';rw[hc] at hcc;cases hcc;obtain⟨ob,q1,q2⟩:=hcell;exact⟨c,hc',ob,kp _ _ q1,q2⟩
  ·unfold zD0 at hs;rw[bf (by simpa using lp hi),cf] at hs;split at hs<;>cases hs
 ·obtain⟨v,ob,q1,q2⟩:=I.cell x c (o.sub I.ok e);exact⟨v,ob,kp _ _ q1,q2⟩
 ·exact absurd (show p∈([]:List (Addr×Obj)) from hp) (by simp)
 ·unfold zD0;show _=N'.length;rw[bv,ao,vt]
  have:=o.len
  omega
theorem uF(I:Inv X pZ σ H s)(hfp:∀b∈fp,o8 X pZ H b)(J:Inv (cxC X N' scope s.heap.objs.size fp s H) [] σ2 H2 s2)(sb:Heap.SameBut s.heap.objs.size s2.heap h'):Inv X pZ σ H2 { s2 with heap:=h' }:=by
 have hb:Un (frs X.stack) fp H H2 s.heap s2.heap:=J.base;have ne:∀b o,s.heap.get? b=some o->b≠s.heap.objs.size:=λb o e=>be (am e)
 have fr:H2 s.heap.objs.size=none:=J.free;refine I.call' (s':={ s2 with heap:=h' }) (ch:=fp) J.os ?_ ?_ J.bare λb hb=>⟨(hfp b hb).2.2.2.1,(hfp b hb).2.1,(hfp b hb).2.2.2.2.1,(hfp b hb).2.2.2.2.2⟩
 ·refine⟨λb o e n h1 h2=>?_,λb o e n h1 h2=>?_,λb o e n h2=>hb.free b o e n h2,λb o e h2=>?_,hb.tups,hb.frzs,hb.tbls⟩
  ·exact sb.extBut b o (ne b o e) (hb.keep b o e n h1 h2)
  ·obtain⟨sl,q⟩:=hb.slot b o e n h1 h2;exact⟨sl,sb.extBut b _ (ne b o e) q⟩
  ·obtain⟨o',q⟩:=hb.there b o e h2;exact⟨o',sb.extBut b _ (ne b o e) q⟩
 ·intro b u e;have nb:∀c w,H2 c=some w->c≠s.heap.objs.size:=λc w q z=>by rw[z,fr] at q;cases q
  refine(J.hok b u e).stay (λc v hc q=>sb.extBut c v ?_ q) (λ_ q=>q) (λ_ _ q=>q) λ_ _ _ q=>q
  rcases hc with z|z
  ·rw[z];exact nb b u e
  ·exact nb c _ z
def zAR(tc:Option TT)(te:TE)(K1:V->Hp->Prop)(K0:Hp->Prop):St->Hp->Prop:=λσ H=>match tc with
 |none=>te σ H K1
 |some c=>c σ H λb H1=>if b=true then te σ H1 K1 else K0 H1
noncomputable def zEU(cap:List Nat)(n:Nat)(wi:TI)(g:TG)(tc:Option TT)(te:TE):TE:=λσ H Q=>wi σ H λJ H1=>∀p,H1 p=none->∃W:Nat->Nat->List V->St->Hp->Prop,(∃m,W 0 m [] (zD0 cap n σ) (upd H1 p (.lst [])))/\∀i m ys σ2 H2,W i m ys σ2 H2->H2 p=some (.lst ys)/\ys.length<af /\
 ((J.stop i H2/\Q (.ref p) H2)\/(J.go i H2/\∀x H3,J.yld i H2 x H3->g x σ2 H3 λσ4 H4=>zAR tc te (λy H5=>H5 p=some (.lst ys)/\∃m',m'<m/\W (i+1) m' (ys++[y]) σ4 (upd H5 p (.lst (ys++[y])))) (λH5=>∃m',m'<m/\W (i+1) m' ys σ4 H5) σ4 H4))
theorem oR(W:Nat->Shared->Prop)(each:∀k t,W k t->wpAny (model prog w) A (pyNext it) (λgot t1=>match got with
   |none=>Z (.ok .next) t1
   |some y=>wpAny (model prog w) A (letOwnedTupleGo tgt it y) (λ_ t2=>wpAny (model prog w) A (assign tgt env y) (λ_ t3=>
     wpAny (model prog w) A (forIn tests true λc b=>if b=true then do let ok <- isTrue c env (eval c env);pure (ForInStep.yield ok) else pure (ForInStep.yield b)) (λgood t4=>
      if good=true then wpAny (model prog w) A (eval elt env) (λx t5=>
       wpAny (model prog w) A (call (.builtin "list.append") [out,x]) (λ_ t6=>∃j,j<k/\W j t6) (λ_ _=>False) t5) (λ_ _=>False) t4
      else ∃j,j<k/\W j t4) (λ_ _=>False) t3) (λ_ _=>False) t2) (λ_ _=>False) t1) (λ_ _=>False) t)(k:Nat)(h0:W k t0):codeAny (model prog w) A (.compLoop (.ListComp elt [⟨tgt,src,tests,0⟩] scope pos) 0 it out env) Z t0:=by
 refine codeAny_loop rfl W (λk t hW=>?_) k h0;show wpAny _ A ((compTurn (.ListComp elt [⟨tgt,src,tests,0⟩] scope pos) 0 it out env).onRaise (λx=>do noteFrame x env;theTreesLotGoes x)) _ _ t;refine wpAny_noted ?_;rw[compTurn_list];refine ac (uc (ac (gx (each k t hW) (λgot t1 g1=>?_) λ_ _ no=>no.elim)));cases got with
 |none=>exact ag g1
 |some y=>
  refine ac (gx g1 (λ_ t2 g2=>ac (gx g2 (λ_ t3 g3=>ac (gx g3 (λgood t4 g4=>?_) λ_ _ no=>no.elim)) λ_ _ no=>no.elim)) λ_ _ no=>no.elim);cases good with
  |false=>exact ag ⟨rfl,g4⟩
  |true=>
   exact ac (ac (gx g4 (λx t5 g5=>ac (gx g5 (λ_ t6 g6=>ag (ag ⟨rfl,g6⟩)) λ_ _ no=>no.elim)) λ_ _ no=>no.elim))
theorem oQ{elt tg iter:Expr}{ifs:List Expr}{pos:Pos}{g:TG}{tc:Option TT}{te:TE}{J:It}{it:Addr}{tn:Nat->Heap->Prop}{Q:VK}{RR:Value->Addr->Result->Shared->Prop}(hc:X.calm=true)(o:CmpOk X N' cap scope)(hg:∀C fp s H,PG (cxC X N' scope C fp s H) tg g)(ht:match (generalizing:=false) tc with|none=>ifs=[]|some c=>∃e,ifs=[e]/\∀C fp s H,PT (cxC X N' scope C fp s H) e c)(he:∀C fp s H,PE (cxC X N' scope C fp s H) elt te)(I:Inv X pZ σ H s)(T:Turn X.prog X.w X.K tg J fp it tn)(st:tn 0 s.heap)(hfp:∀b∈fp,o8 X pZ H b)(hw:∀p,H p=none->∃W:Nat->Nat->List V->St->Hp->Prop,(∃m,W 0 m [] (zD0 cap N'.length σ) (upd H p (.lst [])))/\∀i m ys σ2 H2,W i m ys σ2 H2->H2 p=some (.lst ys)/\ys.length<af /\
   ((J.stop i H2/\Q (.ref p) H2)\/(J.go i H2/\∀x H3,J.yld i H2 x H3->g x σ2 H3 λσ4 H4=>zAR tc te (λy H5=>H5 p=some (.lst ys)/\∃m',m'<m/\W (i+1) m' (ys++[y]) σ4 (upd H5 p (.lst (ys++[y])))) (λH5=>∃m',m'<m/\W (i+1) m' ys σ4 H5) σ4 H4)))(hRR:∀(p:Addr) (s3 s':Shared) (H3 H2:Hp) (σ2:St),Inv X pZ σ H3 s3->(∀b∈fp,o8 X pZ H3 b)->Inv (cxC X N' scope s3.heap.objs.size fp s3 H3) [] σ2 H2 s'->Q (.ref p) H2->RR (.ref p) s3.heap.objs.size (.ok .next) s'):wpAny (model X.prog X.w) X.A (newList []) (λacc s₃=>wpAny (model X.prog X.w) X.A (newFunctionEnv scope X.env.globals (QA X.env scope.names []) [] X.env.qual none .none (some X.env)) (λcenv s₄=>
   codeAny (model X.prog X.w) X.A (.compStart (.ListComp elt [⟨tg,iter,ifs,0⟩] scope pos) 0 (.ref it) acc { cenv with scope:=relabel scope X.env }) (RR acc cenv.locals) s₄) X.xe s₃) X.xe s:=by
 refine cn ?_;obtain⟨W,⟨m0,w0⟩,turn⟩:=hw s.heap.objs.size (I.hok.fresh (ah _));have nfp:∀b∈fp,b<s.heap.objs.size:=λb hb=>by
  obtain⟨ob,e,_⟩:=T.obj 0 _ st b hb;exact am e
 have I3:=I.lnew (its:=[]) (ys:=[]) (t':=s.toks) .nil (ck _);generalize hs3:({ s with heap:=s.heap.push { cls:=.type "list",data:=.seq ([]:List Value).toArray },toks:=s.toks }:Shared)=s3 at I3;have hs3':({ s with heap:=s.heap.push { cls:=.type "list",dict:=none,data:=.seq ([]:List Value).toArray } }:Shared)=s3:=hs3;have hf3:∀b∈fp,o8 X pZ (upd H s.heap.objs.size (.lst [])) b:=λb hb=>⟨by rw[zN (be (nfp b hb))];exact(hfp b hb).1,(hfp b hb).2⟩
 have st3:tn 0 s3.heap:=T.keep 0 _ _ st λb _ ob e=>by rw[<-hs3];exact ad _ e
 have nfp3:∀b∈fp,b<s3.heap.objs.size:=λb hb=>by
  obtain⟨ob,e,_⟩:=T.obj 0 _ st3 b hb;exact am e
 refine wpAny_newFunctionEnv o.nc (by intro y hy;simp at hy) (λh₁ hns₁ hsb₁=>?_) o.kind;have old:∀b ob,s3.heap.get? b=some ob->h₁.get? b=some ob:=λb ob e=>hsb₁.extBut b ob (be (am e)) (ad _ e)
 have I4:=zCA (t':=s3.toks+([]:List (Str×Value)).length) o I3 hf3 nfp3 (by simpa using hns₁) old;have st4:tn 0 h₁:=T.keep 0 _ _ st3 λb _ ob e=>old b ob e
 have fpC:∀H',(∀b∈fp,H' b=none)->∀b∈fp,o8 (cxC X N' scope s3.heap.objs.size fp s3 (upd H s.heap.objs.size (.lst []))) [] H' b:=λH' hn b hb=>by
  refine⟨hn b hb,be (nfp3 b hb),I4.ok.exfs b hb,.inl hb,(I4.ok.exf b hb).2,λp hp=>absurd (show p∈([]:List (Addr×Obj)) from hp) (by simp)⟩
 have loop:codeAny (model X.prog X.w) X.A (.compLoop (.ListComp elt [⟨tg,iter,ifs,0⟩] scope pos) 0 (.ref it) (.ref s.heap.objs.size) (compEnvC scope (QA X.env scope.names []) s3.heap.objs.size X.env)) (RR (.ref s.heap.objs.size) s3.heap.objs.size) { s3 with heap:=h₁,toks:=s3.toks+([]:List (Str×Value)).length }:=by
  refine oR (λn s'=>∃i ys σ' H',Inv (cxC X N' scope s3.heap.objs.size fp s3 (upd H s.heap.objs.size (.lst []))) [] σ' H' s'/\tn i s'.heap/\(∀b∈fp,H' b=none)/\W i n ys σ' H') ?_ m0 ⟨0,[],_,_,I4,st4,λb hb=>(hf3 b hb).1,w0⟩;rintro n s5 ⟨i,ys,σ5,H5,I5,st5,fr5,w5⟩;obtain⟨hp5,hz5,br⟩:=turn i n ys σ5 H5 w5;rcases br with⟨stop,q⟩|⟨go,step⟩
  ·refine thn (T.done (cxC X N' scope s3.heap.objs.size fp s3 (upd H s.heap.objs.size (.lst []))) rfl rfl rfl hc i [] s5 _ H5 (λ_ _=>False) I5 (fpC H5 fr5) st5 stop) λr s6 ⟨hr,I6⟩=>?_
   subst hr;exact hRR _ s3 s6 _ H5 _ I3 hf3 I6 q
  ·refine thn (T.item (cxC X N' scope s3.heap.objs.size fp s3 (upd H s.heap.objs.size (.lst []))) rfl rfl rfl hc i [] s5 _ H5 (λ_ _=>False) I5 (fpC H5 fr5) st5 go) λr s6 ⟨u,hr,h6⟩=>?_
   subst hr;refine thn h6 λ_ s7 ⟨x,H7,I7,r7,y7,st7,fr7⟩=>?_
   have I7':=I7.pinned (fpC H7 fr7) (T.obj _ _ st7);refine thn (hg _ _ _ _ _ s7 _ H7 x u _ I7' r7 (step x H7 y7)) λ_ s8 ⟨σ8,H8,I8,q8⟩=>?_
   have again:∀{H9:Hp} {σ9:St} {s9:Shared} {ys':List V},Inv (cxC X N' scope s3.heap.objs.size fp s3 (upd H s.heap.objs.size (.lst []))) ([]++nB fp s7.heap) σ9 H9 s9->(∃m',m'<n/\W (i+1) m' ys' σ9 H9) ->
     ∃m,m<n/\∃i ys σ' H',Inv (cxC X N' scope s3.heap.objs.size fp s3 (upd H s.heap.objs.size (.lst []))) [] σ' H' s9/\tn i s9.heap/\(∀b∈fp,H' b=none)/\W i m ys σ' H':=λ{H9 σ9 s9 ys'} I9 z=>by
    obtain⟨m',hm,w9⟩:=z;refine⟨m',hm,i+1,ys',σ9,H9,I9.unpinned,T.keep _ _ _ st7 λb hb ob e=>(I9.pin (b,ob) (dw _ (dw _ (kR hb e)))).1,λb hb=>?_,w9⟩;obtain⟨ob,e,d⟩:=T.obj _ _ st7 b hb;exact(I9.pin (b,ob) (dw _ (dw _ (kR hb e)))).2.1
   have app:∀{s9:Shared} {H9:Hp} {y:V} {u9:Value},Inv (cxC X N' scope s3.heap.objs.size fp s3 (upd H s.heap.objs.size (.lst []))) ([]++nB fp s7.heap) σ8 H9 s9->RelV y u9->(H9 s.heap.objs.size=some (.lst ys)/\∃m',m'<n/\W (i+1) m' (ys++[y]) σ8 (upd H9 s.heap.objs.size (.lst (ys++[y])))) ->
     wpAny (model X.prog X.w) X.A (call (.builtin "list.append") [.ref s.heap.objs.size,u9]) (λ_ s₅=>∃m,m<n/\∃i ys σ' H',Inv (cxC X N' scope s3.heap.objs.size fp s3 (upd H s.heap.objs.size (.lst []))) [] σ' H' s₅/\tn i s₅.heap/\(∀b∈fp,H' b=none)/\W i m ys σ' H') (λ_ _=>False) s9:=λ{s9 H9 y u9} I9 r9 z9=>by
    refine thn (kQ (X:=cxC X N' scope s3.heap.objs.size fp s3 (upd H s.heap.objs.size (.lst []))) _ s9 σ8 H9 (.ref s.heap.objs.size) [y] (.ref s.heap.objs.size) [u9] (λ_ H'=>∃m',m'<n/\W (i+1) m' (ys++[y]) σ8 H') I9 rfl (.cons r9 .nil) ⟨_,ys,y,rfl,rfl,z9.1,hz5,z9.2⟩) λ_ s10 ⟨_,H10,I10,_,z10⟩=>?_
    exact again I10 z10
   cases tc with
   |none=>
    have hi:ifs=[]:=ht;subst hi;refine wpAny_tests_nil ?_;rw[if_pos rfl];exact thn (he _ _ _ _ _ s8 σ8 H8 _ I8 q8) λu9 s9 ⟨y,H9,I9,r9,z9⟩=>app I9 r9 z9
   |some c=>
    obtain⟨e,he1,hce⟩:=ht;subst he1;refine wpAny_tests_one (thn (hce _ _ _ _ _ s8 σ8 H8 _ I8 q8) λb s9 ⟨H9,I9,q9⟩=>?_);cases b with
    |false=>
     rw[if_neg av] at q9 ⊢;exact again I9 q9
    |true=>
     rw[if_pos rfl] at q9 ⊢;exact thn (he _ _ _ _ _ s9 σ8 H9 _ I9 q9) λu10 s10 ⟨y,H10,I10,r10,z10⟩=>app I10 r10 z10
 exact codeAny_compStart_list loop (T.self X.A 0 _ _ _ st4 loop)
theorem bY(hc:X.calm=true)(o:CmpOk X N' cap scope)(hi:PI X tg iter wi)(hg:∀C fp s H,PG (cxC X N' scope C fp s H) tg g)(ht:match (generalizing:=false) tc with|none=>ifs=[]|some c=>∃e,ifs=[e]/\∀C fp s H,PT (cxC X N' scope C fp s H) e c)(he:∀C fp s H,PE (cxC X N' scope C fp s H) elt te)(hs:∀x,gc iter X.env x=pure x:=by intro _;rfl):PE X (.ListComp elt [⟨tg,iter,ifs,0⟩] scope pos) (zEU cap N'.length wi g tc te):=by
 intro pZ s σ H Q I h;rw[eval_ListComp];refine ue (use:=none) rfl hs (vF (o.hasc I.ok)) o.kind o.nm (thn (hi pZ s σ H _ I h) λxv s1 h1=>thn h1 λitv s2 h2=>?_);obtain⟨it,fp,tn,J,H2,rfl,I2,T,st2,f2,hw⟩:=h2;refine oQ (Q:=Q) hc o hg ht he I2 T st2 f2 hw ?_;intro p s3 s' H3 H4 σ4 I3 f3 J4 q;obtain⟨m,hn,_⟩:=J4.loc;exact⟨m,hn,λh' sb=>⟨.ref p,H4,uF I3 f3 J4 sb,rfl,q⟩⟩
theorem t9(hc:X.calm=true)(o:CmpOk X N' cap scope)(hi:PI X tg iter wi)(hg:∀C fp s H,PG (cxC X N' scope C fp s H) tg g)(ht:match (generalizing:=false) tc with|none=>ifs=[]|some c=>∃e,ifs=[e]/\∀C fp s H,PT (cxC X N' scope C fp s H) e c)(he:∀C fp s H,PE (cxC X N' scope C fp s H) elt te)(hN:X.N.Nodup)(hy:X.N[i]?=some y)(hx:Loc X.env.scope y)(hf:X.fn y=true\/X.env.scope.names.lookup y=some .local)(hsw:gy (.ListComp elt [⟨tg,iter,ifs,0⟩] scope pos) (some (.Name y py)) spos.line X.env=pure true)(hs:∀x,gc iter X.env x=pure x:=by intro _;rfl):PS X (.Assign [.Name y py] (.ListComp elt [⟨tg,iter,ifs,0⟩] scope pos) spos) (zPM (zEU cap N'.length wi g tc te) (WY i)):=by
 intro pZ s σ H D I h;rw[exec_Assign_Name_used _ _ _ _ hsw];refine ac (uc (ac ?_));show wpAny _ X.A (do let _ <- comprehension (.ListComp elt [⟨tg,iter,ifs,0⟩] scope pos) scope X.env _ (newList []) false (eval iter X.env) (some (assign (.Name y py) X.env))) _ _ s;refine ac (gx (ue (use:=some (assign (.Name y py) X.env)) (Q:=λ_ s'=>SP X pZ D .next s') rfl hs (vF (o.hasc I.ok)) o.kind o.nm
  (thn (hi pZ s σ H _ I h) λxv s1 h1=>thn h1 λitv s2 h2=>?_)) (λ_ s' hq=>ag (ag hq)) λ_ _ e=>e)
 obtain⟨it,fp,tn,J,H2,rfl,I2,T,st2,f2,hw⟩:=h2;refine oQ (Q:=λv H1=>WY i v σ H1 D.nx) hc o hg ht he I2 T st2 f2 hw ?_;intro p s3 s' H3 H4 σ4 I3 f3 J4 q;obtain⟨m,hn,_⟩:=J4.loc;have I5:Inv X pZ σ H4 s':=uF I3 f3 J4 (rp _ _);have fc:o8 X pZ H4 s3.heap.objs.size:=I3.fpOk (ah _) J4.free;show wpAny _ X.A (assign (.Name y py) X.env (.ref p)) _ _ _;refine wpAny_assign_Name (mR (v:=.ref p) I5 hN hy hx rfl (λs6 I6 ⟨a,sb,ha⟩=>?_) hf);have hne:s3.heap.objs.size≠a:=by
  rcases ha with ha|ha
  ·rw[ha];exact fc.2.1
  ·exact λz=>fc.2.2.2.2.1 y a ha z.symm
 refine⟨m,hn.sameBut sb hne,λh' sb'=>⟨_,H4,?_,q⟩⟩;exact I6.turned (t':=s6.toks) (it:=s3.heap.objs.size) (λb ob hb e=>sb'.extBut b ob hb e) fc.1 fc.2.1 fc.2.2.2.1 fc.2.2.2.2.1 fc.2.2.2.2.2
noncomputable def kZ:D->D->Option D
 |.int i,.int j=>some (.int (i+j))
 |.str s,.str t=>if s.length+t.length<=af then some (.str (s++t)) else none
 |.lst l,.lst m=>if l.length+m.length<=af then some (.lst (l++m)) else none
 |.tup l,.tup m=>if l.length+m.length<=af/\l.isEmpty=false/\m.isEmpty=false then some (.tup (l++m)) else none
 |_,_=>none
noncomputable def zIV:D->D->Option D
 |.int i,.int j=>some (.int (i-j))
 |_,_=>none
noncomputable def hI:D->D->Option D
 |.int i,.int j=>if (-(2 ^ 64)<i/\i<2 ^ 64)\/(-(2 ^ 64)<j/\j<2 ^ 64) then some (.int (i*j)) else none
 |_,_=>none
noncomputable def xY:D->D->Option D
 |.int i,.int j=>if 0<j/\j<1073741824 then some (.int (i / j)) else none
 |_,_=>none
noncomputable def jI:D->D->Option D
 |.int i,.int j=>if 0<j then some (.int (i % j)) else none
 |_,_=>none
noncomputable def zNG:D->D->Option D
 |.int i,.int j=>if 0<=j/\j<=1000000/\i.natAbs<2 ^ 64 then some (.int (i ^ j.toNat)) else none
 |_,_=>none
noncomputable def zKZ:D->Option D
 |.int i=>some (.int (-i))
 |_=>none
noncomputable def gtD:D->D->Option D
 |.int i,.int j=>some (.bl (decide (j<i)))
 |_,_=>none
noncomputable def eqS:D->D->Option Bool
 |.int i,.int j=>some (decide (i=j))
 |.str s,.str t=>some (decide (s=t))
 |.bl a,.bl b=>some (decide (a=b))
 |.non,.non=>some true
 |.non,.int _=>some false
 |.int _,.non=>some false
 |.non,.str _=>some false
 |.str _,.non=>some false
 |.int _,.str _=>some false
 |.str _,.int _=>some false
 |_,_=>none
noncomputable def eqD(x y:D):Option D:=(eqS x y).map .bl
noncomputable def neD(x y:D):Option D:=(eqS x y).map λb=>.bl !b
noncomputable def zML(K:Fg):R2:=λx y H Q=>∃l b xs zs,x=.ref l/\y=.ref b/\SqL K H l xs/\SqL K H b zs/\xs.length+zs.length<=af/\∀p,H p=none->Q (.ref p) (upd H p (.lst (xs++zs)))
theorem op_catR:OpR X (binaryOp .Add) (zML X.K):=by
 intro pZ s σ H x y v u Q I rx ry h;obtain⟨l,b,xs,zs,rfl,rfl,hH,hB,hz,q⟩:=h;cases rx;cases ry;obtain⟨its,r,⟨⟨cls,dd,data,sl⟩,n,e,hc,hd0,hd⟩,z⟩:=I.list hH;obtain⟨its2,r2,⟨⟨cls2,dd2,data2,sl2⟩,n2,e2,hc2,hd02,hd2⟩,z2⟩:=I.list hB;have hl:=r.length;have hl2:=r2.length;cases (show cls=_ from hc);cases (show dd=_ from hd0);cases (show data=_ from hd);cases (show cls2=_ from hc2);cases (show dd2=_ from hd02);cases (show data2=_ from hd2);refine vb ⟨_,e,rfl⟩ ⟨_,e2,rfl⟩ noFill_list_add seq_list_add PySem.F.slot_list_add PySem.F.entry_list_add (PySem.F.args_list_add_2 _ _) (list_addW l b its.toArray its2.toArray n n2 none none sl sl2 (by rw[ak,ak];omega)) ⟨e,e2,?_⟩;have ea:its.toArray++its2.toArray=(its++its2).toArray:=by simp
 rw[ea];exact⟨.ref _,_,I.lnew (t':=s.toks) (r.append r2) (by rw[bv];omega),rfl,q _ I.fresh⟩
noncomputable def zMJ(K:Fg):R2:=λx y H Q=>rI0 (λi j=>.int (i+j)) x y H Q\/(∃i j,x=.str i/\y=.str j/\i.length+j.length<=af/\Q (.str (i++j)) H)\/zML K x y H Q\/zMK K x y H Q
theorem xL:OpR X (binaryOp .Add) (zMJ X.K):=op_add.or (op_add_str.or (op_catR.or zF5))
theorem tJ(s t:List Nat):((⟨s.toArray⟩:Str)++(⟨t.toArray⟩:Str))=(⟨(s++t).toArray⟩:Str):=by
 show(⟨s.toArray++t.toArray⟩:Str)=_;simp
theorem kA(s:List Nat):(⟨s.toArray⟩:Str).length=s.length:=by simp[Str.length]
theorem xM{K:Fg}:OpD K (zMJ K) kZ:=by
 intro O H dx dy d vx vy Q ol ix iy e q;unfold kZ at e;split at e
 ·have e:=bg e;subst e;rw[Is.int_iff] at ix iy;exact .inl ⟨_,_,ix,iy,q _ H (Same.refl H) (by rw[Is.int_iff])⟩
 ·rename_i s t;split at e
  ·rename_i hl;cases e;rw[Is.str_iff] at ix iy;refine .inr (.inl ⟨_,_,ix,iy,by rw[kA,kA];exact hl,q _ H (Same.refl H) ?_⟩);rw[Is.str_iff,tJ]
  ·cases e
 ·rename_i l m;split at e
  ·rename_i hl;cases e;rw[Is.lst_iff] at ix iy;obtain⟨a,xs,rfl,hs,il⟩:=ix;obtain⟨b,ys,rfl,hs2,il2⟩:=iy;have e1:=il.length;have e2:=il2.length;refine .inr (.inr (.inl ⟨a,b,xs,ys,rfl,rfl,hs.sq,hs2.sq,by omega,λp hp=>q _ _ (yA hp) ?_⟩));rw[Is.lst_iff];refine⟨p,_,rfl,.inl ⟨λz=>?_,.inl zQ⟩,(il.append il2).same (yA hp) ol⟩;obtain⟨zs,ez,_⟩:=ol p z;rw[hp] at ez;cases ez
  ·cases e
 ·rename_i l m;split at e
  ·rename_i hl;cases e;rw[Is.tup_iff] at ix iy;obtain⟨a,xs,rfl,hs,il⟩:=ix;obtain⟨b,ys,rfl,hs2,il2⟩:=iy;have e1:=il.length;have e2:=il2.length;refine .inr (.inr (.inr ⟨a,b,xs,ys,rfl,rfl,hs,hs2,?_,by omega,λz=>?_,λ_ p hp=>q _ _ (yA hp) ?_⟩))
   ·rintro rfl
    have:l=[]:=by simpa using e1
    subst this;simp at hl
   ·subst z
    have:m=[]:=by simpa using e2
    subst this;simp at hl
   ·rw[Is.tup_iff];exact⟨p,_,rfl,SqT.of zQ,(il.append il2).same (yA hp) ol⟩
  ·cases e
 ·cases e
theorem zON{K:Fg}(h:∀dx dy d,m dx dy=some d->∃i j,dx=.int i/\dy=.int j/\C i j/\∀O H,Is K O H d (g i j)):OpD K (rI C g) m:=by
 intro O H dx dy d vx vy Q ol ix iy e q;obtain⟨i,j,rfl,rfl,hc,hd⟩:=h dx dy d e;rw[Is.int_iff] at ix iy;exact⟨i,j,ix,iy,hc,q _ H (Same.refl H) (hd O H)⟩
theorem zMV{K:Fg}(h:∀dx dy d,m dx dy=some d->∃i j,dx=.int i/\dy=.int j/\∀O H,Is K O H d (g i j)):OpD K (rI0 g) m:=by
 intro O H dx dy d vx vy Q ol ix iy e q;obtain⟨i,j,rfl,rfl,hd⟩:=h dx dy d e;rw[Is.int_iff] at ix iy;exact⟨i,j,ix,iy,q _ H (Same.refl H) (hd O H)⟩
theorem WA{K:Fg}:OpD K (rI0 λi j=>.int (i-j)) zIV:=zMV λdx dy d e=>by
 unfold zIV at e;split at e
 ·cases e;exact⟨_,_,rfl,rfl,λO H=>by rw[Is.int_iff]⟩
 ·cases e
theorem gL{K:Fg}:OpD K (rI CMul λi j=>.int (i*j)) hI:=zON λdx dy d e=>by
 unfold hI at e;split at e
 ·split at e
  ·rename_i hc;cases e;exact⟨_,_,rfl,rfl,hc,λO H=>by rw[Is.int_iff]⟩
  ·cases e
 ·cases e
theorem wR{K:Fg}:OpD K (rI zQV λi j=>.int (i / j)) xY:=zON λdx dy d e=>by
 unfold xY at e;split at e
 ·split at e
  ·rename_i hc;cases e;exact⟨_,_,rfl,rfl,hc,λO H=>by rw[Is.int_iff]⟩
  ·cases e
 ·cases e
theorem wP{K:Fg}:OpD K (rI (λ_ j=>0<j) λi j=>.int (i % j)) jI:=zON λdx dy d e=>by
 unfold jI at e;split at e
 ·split at e
  ·rename_i hc;cases e;exact⟨_,_,rfl,rfl,hc,λO H=>by rw[Is.int_iff]⟩
  ·cases e
 ·cases e
theorem zKX{K:Fg}:OpD K (rI zQU λi j=>.int (i ^ j.toNat)) zNG:=zON λdx dy d e=>by
 unfold zNG at e;split at e
 ·split at e
  ·rename_i hc;cases e;exact⟨_,_,rfl,rfl,hc,λO H=>by rw[Is.int_iff]⟩
  ·cases e
 ·cases e
theorem zMU{K:Fg}:OpD K (rI0 λi j=>.bl (decide (j<i))) gtD:=zMV λdx dy d e=>by
 unfold gtD at e;split at e
 ·cases e;exact⟨_,_,rfl,rfl,λO H=>by rw[Is.bl_iff]⟩
 ·cases e
theorem zHM{K:Fg}(ix:Is K O H dx vx)(iy:Is K O H dy vy)(e:eqS dx dy=some b):zPR vx vy=true/\decide (vx=vy)=b:=by
 cases dx<;>cases dy<;>first|(simp only[eqS,reduceCtorEq] at e;done)|skip
 all_goals simp only[eqS,eh] at e
 all_goals subst e
 all_goals first|rw[Is.int_iff] at ix|rw[Is.str_iff] at ix|rw[Is.bl_iff] at ix|rw[Is.non_iff] at ix
 all_goals first|rw[Is.int_iff] at iy|rw[Is.str_iff] at iy|rw[Is.bl_iff] at iy|rw[Is.non_iff] at iy
 all_goals subst ix iy
 all_goals refine⟨rfl,?_⟩
 all_goals simp
theorem zOM{K:Fg}:OpD K rEq eqD:=by
 intro O H dx dy d vx vy Q ol ix iy e q;obtain⟨b,e1,rfl⟩:=mpS e;obtain⟨h1,h2⟩:=zHM ix iy e1;exact⟨h1,q _ H (Same.refl H) (by rw[Is.bl_iff,h2])⟩
theorem zOL{K:Fg}:OpD K rNe neD:=by
 intro O H dx dy d vx vy Q ol ix iy e q;obtain⟨b,e1,rfl⟩:=mpS e;obtain⟨h1,h2⟩:=zHM ix iy e1;exact⟨h1,q _ H (Same.refl H) (by rw[Is.bl_iff,h2])⟩
noncomputable def jJ:D->Bool
 |.int _=>true
 |.str _=>true
 |_=>false
noncomputable def eqF:D->D->Bool
 |.int i,.int j=>decide (i=j)
 |.str s,.str t=>decide (s=t)
 |_,_=>false
noncomputable def inD(neg:Bool)(x y:D):Option D:=match y with
 |.lst l=>if jJ x=true/\l.all jJ=true then some (.bl (if neg then !(l.any λz=>eqF z x) else l.any λz=>eqF z x)) else none
 |.tup l=>if jJ x=true/\l.all jJ=true then some (.bl (if neg then !(l.any λz=>eqF z x) else l.any λz=>eqF z x)) else none
 |_=>none
theorem oA{K:Fg}(h:Is K O H d v)(f:jJ d=true):kX v=true:=by
 cases d<;>first|(cases f;done)|skip
 ·rw[Is.int_iff] at h;subst h;rfl
 ·rw[Is.str_iff] at h;subst h;rfl
theorem zHO{K:Fg}(h:Is K O H d v)(f:jJ d=true)(h':Is K O H e u)(f':jJ e=true):eqV v u=eqF d e:=by
 cases d<;>first|(cases f;done)|skip
 all_goals cases e<;>first|(cases f';done)|skip
 all_goals first|rw[Is.int_iff] at h|rw[Is.str_iff] at h
 all_goals first|rw[Is.int_iff] at h'|rw[Is.str_iff] at h'
 all_goals subst h h'
 ·simp[eqV,eqF];rw[Bool.beq_eq_decide_eq]
 ·rfl
 ·rfl
 ·rename_i s t;simp only[eqV,eqF];by_cases z:s=t
  ·subst z;simp
  ·rw[decide_eq_false z,beq_eq_false_iff_ne];intro z'
   have:s.toArray=t.toArray:=by injection z'
   exact z (by simpa using this)
theorem zJI{K:Fg}(h:Is K O H d v)(f:jJ d=true):∀{l:List D} {xs:List V},IsL K O H l xs->l.all jJ=true->xs.all kX=true/\inV v xs=l.any λz=>eqF z d
 |[],xs,il,_=>by unfold IsL at il;subst il;exact⟨rfl,rfl⟩
 |e::l,xs,il,fa=>by
  unfold IsL at il;obtain⟨u,r,rfl,i1,i2⟩:=il;rw[jp,bw] at fa;obtain⟨q1,q2⟩:=zJI h f i2 fa.2;refine⟨by rw[jp,oA i1 fa.1,q1];rfl,?_⟩;unfold inV at q2 ⊢;rw[jo,jo,q2,zHO i1 fa.1 h f]
theorem zMT{K:Fg}(neg:Bool):OpD K (rIn K neg) (inD neg):=by
 intro O H dx dy d vx vy Q ol ix iy e q;unfold inD at e;cases dy<;>first|(cases e;done)|skip
 ·rename_i l;simp only at e;split at e
  ·rename_i hl;cases e;rw[Is.tup_iff] at iy;obtain⟨a,xs,rfl,hs,il⟩:=iy;obtain⟨q1,q2⟩:=zJI ix hl.1 il hl.2;exact⟨a,xs,rfl,.inr hs,oA ix hl.1,q1,q _ H (Same.refl H) (by rw[Is.bl_iff,q2])⟩
  ·cases e
 ·rename_i l;simp only at e;split at e
  ·rename_i hl;cases e;rw[Is.lst_iff] at iy;obtain⟨a,xs,rfl,hs,il⟩:=iy;obtain⟨q1,q2⟩:=zJI ix hl.1 il hl.2;exact⟨a,xs,rfl,.inl hs.sq,oA ix hl.1,q1,q _ H (Same.refl H) (by rw[Is.bl_iff,q2])⟩
  ·cases e
noncomputable def ixD:D->D->Option D
 |.lst l,.int i=>atI l i
 |.tup l,.int i=>atI l i
 |.str s,.int i=>if s.length<=af then (atI s i).map λc=>.str [c] else none
 |_,_=>none
theorem YS(hl:l.length=m.length)(e:atI l i=some x):∃j:Nat,l[j]?=some x/\∀y,m[j]?=some y->atI m i=some y:=by
 unfold atI at e ⊢;obtain⟨j,e1,e2⟩:=bnS e;exact⟨j,e2,λy ey=>by rw[<-hl,e1];exact ey⟩
noncomputable def zMY(fl:ML)(g:ME):ME:=λr=>(fl r).bind λl=>(g r).bind λd=>(intD d).bind λi=>atI l i
noncomputable def zGS(fl:ML):ME:=λr=>(fl r).map λl=>.int l.length
theorem zMS{K:Fg}:OpD K (rIx K) ixD:=by
 intro O H dx dy d vx vy Q ol ix iy e q;unfold ixD at e;split at e
 ·rename_i l i;rw[Is.lst_iff] at ix;rw[Is.int_iff] at iy;obtain⟨p,xs,rfl,hs,il⟩:=ix;obtain⟨j,e1,e2⟩:=YS il.length e;obtain⟨v,e3,iv⟩:=il.get e1;exact .inl ⟨p,xs,i,v,rfl,iy,hs.sq,e2 v e3,q _ H (Same.refl H) iv⟩
 ·rename_i l i;rw[Is.tup_iff] at ix;rw[Is.int_iff] at iy;obtain⟨p,xs,rfl,hs,il⟩:=ix;obtain⟨j,e1,e2⟩:=YS il.length e;obtain⟨v,e3,iv⟩:=il.get e1;exact .inr (.inl ⟨p,xs,i,v,rfl,iy,hs,e2 v e3,q _ H (Same.refl H) iv⟩)
 ·rename_i s i;split at e
  ·rename_i hl;obtain⟨c,e1,rfl⟩:=mpS e;rw[Is.str_iff] at ix;rw[Is.int_iff] at iy;exact .inr (.inr ⟨_,i,c,ix,iy,by rw[kA];exact hl,by simpa using e1,q _ H (Same.refl H) (by rw[Is.str_iff])⟩)
  ·cases e
 ·cases e
theorem yH(ha:DE X a f)(hb:DE X b g)(hs:bJ b:=by intro _ _;rfl):DE X (.Subscript a b pos) (zJ ixD f g):=
 PE.conseq (zFX zG4 ha hb hs) λσ H Q h=>two (ta:=lE X.K f) (tb:=lE X.K g) zMS h
theorem zIE(ha:DB X a fl)(hb:DE X b g)(hs:bJ b:=by intro _ _;rfl):DE X (.Subscript a b pos) (zMY fl g):=by
 refine PE.conseq (zFX ix_list ha hb hs) λσ H Q h=>?_
 obtain⟨O0,r,d,hR,e,q⟩:=h;obtain⟨l,e1,e⟩:=bnS e;obtain⟨d',e2,e⟩:=bnS e;obtain⟨i,e3,e⟩:=bnS e;cases cE e3;refine⟨O0,r,l,hR,e1,λp xs H1 s1 rd il=>⟨O0,r,_,hR.same s1,e2,λv2 H2 s2 i2=>?_⟩⟩;rw[Is.int_iff] at i2;obtain⟨j,e4,e5⟩:=YS il.length e;obtain⟨v,e6,iv⟩:=il.get e4;exact⟨p,xs,i,v,rfl,i2,s2.seq rd,e5 v e6,q v H2 (s1.trans s2) (iv.same s2 (hR.same s1).ol)⟩
noncomputable def gW:D->Option D
 |.lst l=>some (.int l.length)
 |.tup l=>some (.int l.length)
 |.str s=>if s.length<=af then some (.int s.length) else none
 |_=>none
theorem oS:CallR X (.builtin "len") (λxs H Q=>(∃p ys,xs=[.ref p]/\(SqL X.K H p ys\/SqT X.K H p ys)/\Q (.int ys.length) H)\/(∃z,xs=[.str z]/\z.length<=af/\Q (.int z.length) H)):=call_len_seq.or gQ
theorem zG0{K:Fg}{O:Addr->Prop}{H:Hp}{x d:D}{v:V}{Q:VK}(i1:Is K O H x v)(e:gW x=some d)(q:∀v,Is K O H d v->Q v H):(∃p ys,[v]=[.ref p]/\(SqL K H p ys\/SqT K H p ys)/\Q (.int ys.length) H)\/(∃z,[v]=[.str z]/\z.length<=af/\Q (.int z.length) H):=by
 cases x<;>first|(simp only[gW,reduceCtorEq] at e;done)|skip
 ·simp only[gW] at e;split at e
  ·rename_i hl;cases e;rw[Is.str_iff] at i1;subst i1;exact .inr ⟨_,rfl,by rw[kA];exact hl,q _ (by rw[Is.int_iff,kA])⟩
  ·cases e
 ·simp only[gW,eh] at e;subst e;rw[Is.tup_iff] at i1;obtain⟨p,ys,rfl,hs,il⟩:=i1;exact .inl ⟨p,ys,rfl,.inr hs,q _ (by rw[Is.int_iff,il.length])⟩
 ·simp only[gW,eh] at e;subst e;rw[Is.lst_iff] at i1;obtain⟨p,ys,rfl,hs,il⟩:=i1;exact .inl ⟨p,ys,rfl,.inl hs.sq,q _ (by rw[Is.int_iff,il.length])⟩
theorem cK(hg:Gl X "len")(hm:X.mg "len" = none)(ha:DE X a f)(hs:ae [a] X.env=(false,eval a X.env)::ae [] X.env:=by rfl):DE X (.Call (.Name "len" p') [a] [] pos) (mUn gW f):=by
 refine PE.conseq (j5 oS hg hm sy (yC ha xF hs) (he:=hs)) λσ H Q h=>?_
 obtain⟨O0,r,d,hR,e,q⟩:=h;obtain⟨x,e1,e2⟩:=bnS e;exact⟨O0,r,x,hR,e1,λv H1 s1 i1=>zG0 i1 e2 λv' iv=>q v' H1 s1 iv⟩
theorem zIC(hg:Gl X "len")(hm:X.mg "len" = none)(ha:DB X a fl)(hs:ae [a] X.env=(false,eval a X.env)::ae [] X.env:=by rfl):DE X (.Call (.Name "len" p') [a] [] pos) (zGS fl):=by
 refine PE.conseq (j5 oS hg hm sy (yC ha xF hs) (he:=hs)) λσ H Q h=>?_
 obtain⟨O0,r,d,hR,e,q⟩:=h;obtain⟨l,e1,rfl⟩:=mpS e;exact⟨O0,r,l,hR,e1,λp xs H1 s1 rd il=>.inl ⟨p,xs,rfl,.inl rd,q _ H1 s1 (by rw[Is.int_iff,il.length])⟩⟩
noncomputable def tyN:D->Option String
 |.non=>some "NoneType"
 |.bl _=>some "bool"
 |.int _=>some "int"
 |.str _=>some "str"
 |.tup _=>some "tuple"
 |.lst _=>some "list"
 |_=>none
noncomputable def subN:List (String×String×Bool):=[("bool", "int",true),("NoneType", "int",false),("NoneType", "str",false),("NoneType", "bool",false),("NoneType", "tuple",false),("NoneType", "list",false),
 ("bool", "str",false),("bool", "tuple",false),("bool", "list",false),("int", "bool",false),("int", "str",false),("int", "tuple",false),("int", "list",false),
 ("str", "int",false),("str", "bool",false),("str", "tuple",false),("str", "list",false),("tuple", "int",false),("tuple", "bool",false),("tuple", "str",false),("tuple", "list",false),
 ("list", "int",false),("list", "bool",false),("list", "str",false),("list", "tuple",false)]
noncomputable def zHB(t T:String):Option Bool:=if t=T then some true else (subN.find? λx=>x.1 == t && x.2.1 == T).map (·.2.2)
noncomputable def jW(T:String)(d:D):Option D:=(tyN d).bind λt=>(zHB t T).map .bl
theorem zEW(K:Fg):∀p∈subN,PySem.W.kitOne K (.type p.1) (.type p.2.1)=some p.2.2:=by
 unfold subN
 repeat (first|exact xh _|refine wg.mpr ⟨rfl,?_⟩)
theorem zLC(K:Fg)(e:zHB t T=some b):PySem.W.kitOne K (.type t) (.type T)=some b:=by
 unfold zHB at e;split at e
 ·rename_i h;subst h;cases e;unfold PySem.W.kitOne;rw[if_pos (by simp)]
 ·obtain⟨⟨x,y,c⟩,e1,e2⟩:=mpS e;have hm:=tz e1;have hp:=List.find?_some e1;simp only[bw,beq_iff_eq] at hp;obtain⟨rfl,rfl⟩:=hp;subst e2;exact(zEW K _ hm).trans rfl
def TyA(K:Fg)(H:Hp)(x:V)(t:String):Prop:=match x with
 |.non=>t = "NoneType"
 |.bl _=>t = "bool"
 |.int _=>t = "int"
 |.str _=>t = "str"
 |.ref a=>(t = "list" /\ ∃xs,SqL K H a xs)\/(t = "tuple" /\ ∃xs,SqT K H a xs)
 |_=>False
theorem oU:CallR X (.builtin "isinstance") (λxs H Q=>∃x t T b,xs=[x,.ty T]/\TyA X.K H x t/\zHB t T=some b/\Q (.bl b) H):=by
 intro pZ s σ H xs us Q I r h;obtain⟨x,t,T,b,rfl,ht,e,q⟩:=h;obtain⟨u,v,rfl,r1,r2⟩:=Vals.two r;cases (show v=Value.type T from r2);have e':=zLC X.K e;have fin:∀tk,EP X pZ σ Q (.bool b) { s with toks:=tk }:=λtk=>⟨.bl b,H,I.tok tk,rfl,q⟩
 cases x with
 |non=>cases (show t=_ from ht);exact uE I r1 (.non) e' fin
 |bl y=>cases (show t=_ from ht);exact uE I r1 (.bl y) e' fin
 |int i=>cases (show t=_ from ht);exact uE I r1 (.int i) e' fin
 |str y=>cases (show t=_ from ht);exact uE I r1 (.str y) e' fin
 |ref a=>
  cases (show u=Value.ref a from r1);rcases(show(t = "list" /\ ∃xs,SqL X.K H a xs)\/(t = "tuple" /\ ∃xs,SqT X.K H a xs) from ht) with⟨rfl,xs,hs⟩|⟨rfl,xs,hs⟩
  ·obtain⟨its,_,⟨o,n,h1,h2,_⟩,_⟩:=I.list hs;exact fi rn I.kIn ⟨o,h1,h2⟩ e' (λz=>nomatch z) fin
  ·obtain⟨its,_,⟨o,h1,h2,_⟩,_⟩:=I.tuple hs;exact fi PySem.W.kitx_tuple I.kIn ⟨o,h1,h2⟩ e' (λz=>nomatch z) fin
 |_=>exact False.elim ht
theorem zJW{K:Fg}(h:Is K O H d v)(e:tyN d=some t):TyA K H v t:=by
 cases d<;>first|(simp only[tyN,reduceCtorEq] at e;done)|skip
 all_goals simp only[tyN,eh] at e
 all_goals subst e
 ·rw[Is.non_iff] at h;subst h;rfl
 ·rw[Is.bl_iff] at h;subst h;rfl
 ·rw[Is.int_iff] at h;subst h;rfl
 ·rw[Is.str_iff] at h;subst h;rfl
 ·rw[Is.tup_iff] at h;obtain⟨a,xs,rfl,hs,_⟩:=h;exact .inr ⟨rfl,xs,hs⟩
 ·rw[Is.lst_iff] at h;obtain⟨a,xs,rfl,hs,_⟩:=h;exact .inl ⟨rfl,xs,hs.sq⟩
theorem xQ(hg:Gl X "isinstance")(hm:X.mg "isinstance" = none)(ha:DE X a f)(hT:PE X (.Name x pt) (tC (.ty T)))(hs:ae [a,.Name x pt] X.env=(false,eval a X.env)::ae [.Name x pt] X.env:=by rfl)(hs2:ae [.Name x pt] X.env=(false,eval (.Name x pt) X.env)::ae [] X.env:=by rfl):DE X (.Call (.Name "isinstance" p') [a,.Name x pt] [] pos) (mUn (jW T) f):=by
 refine PE.conseq (j5 oU hg hm PyProof.Rows.boot_isinstance (yC ha (yC hT xF hs2) hs) (he:=hs)) λσ H Q h=>?_
 obtain⟨O0,r,d,hR,e,q⟩:=h;obtain⟨x,e1,e2⟩:=bnS e;obtain⟨t,e3,e4⟩:=bnS e2;obtain⟨b,e5,rfl⟩:=mpS e4;exact⟨O0,r,x,hR,e1,λv H1 s1 i1=>⟨v,t,T,b,rfl,zJW i1 e3,e5,q _ H1 s1 (by rw[Is.bl_iff])⟩⟩
noncomputable def zGF(r:En)(i:Nat):Option (List D):=(r[i]?).bind Sl.ml
noncomputable def zA8(i:Nat)(l:List D)(r:En):Option En:=match r[i]? with
 |some (.o _)=>some (r.set i (.o l))
 |some (.p _)=>some (r.set i (.p l))
 |_=>none
section
variable{K:Fg}
theorem bX(e:zA8 i l' r=some r'):∃x y,r[i]?=some x/\r'=r.set i y/\y.own=some l'/\y.mt=some l'/\(∃l,x.mt=some l)/\(∀m,y=.p m↔m=l'/\∃n,x=.p n)/\(∀m,y=.o m↔m=l'/\∃n,x=.o n)/\(∀m,y≠.z m)/\y.ls=some l'/\(∀f ks m,y≠.d f ks m)/\y.pk=x.pk:=by
 unfold zA8 at e;cases e1:r[i]? with
 |none=>rw[e1] at e;cases e
 |some x=>
  rw[e1] at e;cases x with
  |o n=>cases e;exact⟨.o n,.o l',rfl,rfl,rfl,rfl,⟨n,rfl⟩,λm=>⟨(λz=>by cases z),(λ⟨_,_,z⟩=>by cases z)⟩,λm=>⟨(λz=>by cases z;exact⟨rfl,n,rfl⟩),(λ⟨z,_⟩=>by subst z;rfl)⟩,(λm z=>by cases z),rfl,(λf ks m z=>by cases z),rfl⟩
  |p n=>cases e;exact⟨.p n,.p l',rfl,rfl,rfl,rfl,⟨n,rfl⟩,λm=>⟨(λz=>by cases z;exact⟨rfl,n,rfl⟩),(λ⟨z,_⟩=>by subst z;rfl)⟩,λm=>⟨(λz=>by cases z),(λ⟨_,_,z⟩=>by cases z)⟩,(λm z=>by cases z),rfl,(λf ks m z=>by cases z),rfl⟩
  |_=>cases e
theorem R.put(h:R K O0 H r σ)(e:zA8 i l' r=some r')(ha:σ[i]?=some (some (.ref a)))(kp:∀b o,b≠a->H b=some o->H' b=some o)(lv:∀b,b≠a->H' b=none->H b=none)(e':H' a=some (.lst xs'))(il:IsL K (Ow O0 r σ) H' l' xs'):R K O0 H' r' σ/\Kp H r σ H' r' σ:=by
 obtain⟨x,y,ex,rfl,yo,ym,⟨l0,xm⟩,yp,yoo,yz,yl,yd,ypk⟩:=bX e;have hi:i<r.length:=(ar.mp ex).1;have own_i:w8 r σ a:=⟨i,l0,by rw[ex];exact uB xm,ha⟩;have mut_i:MutAt r σ a:=⟨i,l0,by rw[ex];exact xm,ha⟩;have atO:∀b,w8 (r.set i y) σ b->w8 r σ b:=λb ⟨j,m,e1,q1⟩=>by
  by_cases hj:i=j
  ·subst hj;rw[ha] at q1;cases q1;exact own_i
  ·rw[zD hj] at e1;exact⟨j,m,e1,q1⟩
 have atM:∀b,MutAt (r.set i y) σ b->MutAt r σ b:=λb ⟨j,m,e1,q1⟩=>by
  by_cases hj:i=j
  ·subst hj;rw[ha] at q1;cases q1;exact mut_i
  ·rw[zD hj] at e1;exact⟨j,m,e1,q1⟩
 have sub:∀b,Ow O0 (r.set i y) σ b->H b≠none->Ow O0 r σ b:=λb z _=>z.imp id (atO b)
 have sub':∀b,Ow O0 (r.set i y) σ b->H' b≠none->Ow O0 r σ b:=λb z _=>z.imp id (atO b)
 have keep:bL (Ow O0 r σ) H H':=λb o e1 n=>kp b o (λz=>n (by subst z;exact .inr own_i)) e1
 have lst:∀b o,H b=some o->Mb o->∃o',H' b=some o'/\Mb o':=λb o e1 mb=>by
  by_cases hb:b=a
  ·subst hb;exact⟨.lst xs',e',trivial⟩
  ·exact⟨o,kp b _ hb e1,mb⟩
 have ol':jN (Ow O0 r σ) H':=λb z=>by obtain⟨o,q,mb⟩:=h.ol b z;exact lst b o q mb
 refine⟨⟨by simp[h.len],λj d e1=>?_,λj m e1=>?_,λj k b m n e1 e2 q1 q2=>?_,λb z=>?_,λj m b e1 q1=>?_,λj m b e1 q1=>?_,λj f ks m e1=>?_⟩,⟨λb o e1 n=>kp b o (λz=>n (by subst z;exact mut_i)) e1,λb e1=>?_,lst,λb z=>.inl (atO b z),λb z=>.inl (atM b z),λj m e1=>?_,λj m e1=>?_⟩⟩
 ·have hj:i≠j:=λz=>by subst z;rw[zI hi] at e1;cases e1;cases yo
  rw[zD hj] at e1;obtain⟨v,q1,q2⟩:=h.val j d e1;exact⟨v,q1,Is.mono keep h.ol sub _ _ q2⟩
 ·by_cases hj:i=j
  ·subst hj;rw[zI hi] at e1
   have:l'=m:=by have e1':y.ls=some m:=e1;rw[yl] at e1';exact bg e1'
   subst this;exact⟨a,xs',ha,e',IsL.mono (Same.kp (Same.refl H') _) ol' sub' _ _ il⟩
  ·rw[zD hj] at e1;obtain⟨b,ys,q1,q2,q3⟩:=h.own j m e1;have hb:b≠a:=λz=>by
    subst z;exact hj (h.apart i j b l0 m (by rw[ex];exact uB xm) (jA e1) ha q1)
   exact⟨b,ys,q1,kp b _ hb q2,IsL.mono keep h.ol sub _ _ q3⟩
 ·have get:∀(j:Nat) (m:List D),((r.set i y)[j]?).bind Sl.own=some m->∃m',(r[j]?).bind Sl.own=some m':=λj m e1=>by
   by_cases hj:i=j
   ·subst hj;exact⟨l0,by rw[ex];exact uB xm⟩
   ·rw[zD hj] at e1;exact⟨m,e1⟩
  obtain⟨m',z1⟩:=get j m e1;obtain⟨n',z2⟩:=get k n e2;exact h.apart j k b m' n' z1 z2 q1 q2
 ·obtain⟨o,q,mb⟩:=h.o0 b z;exact lst b o q mb
 ·by_cases hj:i=j
  ·subst hj;rw[zI hi] at e1;rcases e1 with e1|e1|⟨ks,e1⟩
   ·obtain⟨_,n,z⟩:=(yoo m).mp (bg e1);exact h.loc i n b (.inl (by rw[ex,z])) q1
   ·exact absurd (bg e1) (yz m)
   ·exact absurd (bg e1) (yd _ ks m)
  ·rw[zD hj] at e1;exact h.loc j m b e1 q1
 ·by_cases hj:i=j
  ·subst hj;rw[zI hi] at e1;exact h.par i m b (by rw[ex];exact ypk.symm.trans e1) q1
  ·rw[zD hj] at e1;exact h.par j m b e1 q1
 ·have hj:i≠j:=λz=>by subst z;rw[zI hi] at e1;exact yd _ ks m (bg e1)
  rw[zD hj] at e1;obtain⟨b,kvs,q1,q2,q4,q3⟩:=h.dct j f ks m e1;have hb:b≠a:=λz=>by
   subst z;exact hj (h.apart i j b l0 m (by rw[ex];exact uB xm) (by rw[e1];rfl) ha q1)
  exact⟨b,kvs,q1,kp b _ hb q2,q4,IsL.mono keep h.ol sub _ _ q3⟩
 ·by_cases hb:b=a
  ·subst hb;rw[e'] at e1;cases e1
  ·exact lv b hb e1
 ·by_cases hj:i=j
  ·subst hj;rw[ex] at e1;exact⟨by rw[zI hi];exact ypk.trans e1,rfl⟩
  ·exact⟨by rw[zD hj];exact e1,rfl⟩
 ·have hj:i≠j:=λz=>by subst z;rw[ex] at e1;cases e1;cases xm
  exact⟨by rw[zD hj];exact e1,rfl⟩
theorem R.upd(h:R K O0 H r σ)(e:zA8 i l' r=some r')(ha:σ[i]?=some (some (.ref a)))(hx:H a=some (.lst xs))(il:IsL K (Ow O0 r σ) H l' xs'):R K O0 (upd H a (.lst xs')) r' σ/\Kp H r σ (upd H a (.lst xs')) r' σ:=by
 have own_a:Ow O0 r σ a:=by
  obtain⟨x,y,ex,_,_,_,⟨l0,xm⟩,_⟩:=bX e;exact .inr ⟨i,l0,by rw[ex];exact uB xm,ha⟩
 refine h.put e ha (λb o hb e1=>by rw[zN hb];exact e1) (λb hb e1=>by rw[zN hb] at e1;exact e1) zQ ?_;exact IsL.mono (λb o e1 n=>by rw[zN (λz=>n (by subst z;exact own_a))];exact e1) h.ol (λ_ z _=>z) _ _ il
end
noncomputable def QL(i:Nat)(f:ME):En->Option (D×En):=λr=>(f r).bind λd=>(zGF r i).bind λl=>if l.length<af then (zA8 i (l++[d]) r).map λr'=>(.non,r') else none
noncomputable def gV(i:Nat)(f:En->Option (D×En)):En->Option (D×En):=λr0=>(f r0).bind λp=>(zGF r0 i).bind λ_=>(zGF p.2 i).bind λl=>if l.length<af then (zA8 i (l++[p.1]) p.2).map λr'=>(.non,r') else none
noncomputable def pC(i:Nat):En->Option (D×En):=λr=>(zGF r i).bind λl=>(l[l.length-1]?).bind λd=>(zA8 i l.dropLast r).map λr'=>(d,r')
noncomputable def zK6(i:Nat)(f:ME):En->Option (D×En):=λr=>(f r).bind λd=>(zG9 d).bind λm=>(zGF r i).bind λl=>if l.length+m.length<=af then (zA8 i (l++m) r).map λr'=>(.non,r') else none
theorem IsL.dropLast{K:Fg}(h:IsL K O H l vs):IsL K O H l.dropLast vs.dropLast:=by
 rw[js,js,h.length];exact h.take _
theorem WE{K:Fg}(h:R K O0 H r σ)(e:zGF r i=some l):∃a xs,σ[i]?=some (some (.ref a))/\H a=some (.lst xs)/\IsL K (Ow O0 r σ) H l xs:=by
 obtain⟨y,e1,e2⟩:=bnS e;exact h.own i l (by rw[e1];exact(zGH e2).2)
theorem kY(i:Nat)(h:PE X (.Name x pn) (kN i))(he:DE X e f)(hline:(apos.endLine == cpos.line)=true:=by rfl)(hbase:bt (.Name x pn) "append" X.env (eval (.Name x pn) X.env)=eval (.Name x pn) X.env:=by rfl)(hfew:((dl cpos (ae [e] X.env)).all (λx=>!x.1) && (ja cpos (gh [] X.env)).all (λx=>x.1.isSome) && decide ([e].length+([]:List Keyword).length+(if ([]:List Keyword).isEmpty then 0 else 1)<30))=true:=by rfl)(hs:ae [e] X.env=(false,eval e X.env)::ae [] X.env:=by rfl):DX X (.Call (.Attribute (.Name x pn) "append" apos) [e] [] cpos) (QL i f):=by
 refine PE.conseq (XX cz ke kb kQ h (yC he xF hs) hbase hfew hline hs) λσ H Q hq=>?_
 obtain⟨O0,r,d',r',hR,e,q⟩:=hq;obtain⟨d,e1,e⟩:=bnS e;obtain⟨l,e2,e⟩:=bnS e;split at e
 ·rename_i hl;obtain⟨r2,e3,e4⟩:=mpS e;cases e4;obtain⟨a,xs,q1,q2,q3⟩:=WE hR e2;refine⟨.ref a,q1,.inl ⟨rfl,xs,SqL.of q2⟩,O0,r,d,hR,e1,λv H1 s1 i1=>?_⟩;have R1:=hR.same s1;obtain⟨R2,k2⟩:=R1.upd (xs':=xs++[v]) e3 q1 (s1 _ _ q2) ((q3.same s1 hR.ol).append (.cons i1 .nil));exact⟨a,xs,v,rfl,rfl,s1 _ _ q2,by rw[<-q3.length];exact hl,q _ _ R2 ((Kp.of_same r σ s1).trans k2) (by rw[Is.non_iff])⟩
 ·cases e
theorem uY(i:Nat)(h:PE X (.Name x pn) (kN i))(he:DX X e fx)(hline:(apos.endLine == cpos.line)=true:=by rfl)(hbase:bt (.Name x pn) "append" X.env (eval (.Name x pn) X.env)=eval (.Name x pn) X.env:=by rfl)(hfew:((dl cpos (ae [e] X.env)).all (λx=>!x.1) && (ja cpos (gh [] X.env)).all (λx=>x.1.isSome) && decide ([e].length+([]:List Keyword).length+(if ([]:List Keyword).isEmpty then 0 else 1)<30))=true:=by rfl)(hs:ae [e] X.env=(false,eval e X.env)::ae [] X.env:=by rfl):DX X (.Call (.Attribute (.Name x pn) "append" apos) [e] [] cpos) (gV i fx):=by
 refine PE.conseq (XX cz ke kb kQ h (yC he xF hs) hbase hfew hline hs) λσ H Q hq=>?_
 obtain⟨O0,r,d',r',hR,e,q⟩:=hq;obtain⟨⟨d,r1⟩,e1,e⟩:=bnS e;obtain⟨l0,e0,e⟩:=bnS e;obtain⟨l,e2,e⟩:=bnS e;split at e
 ·rename_i hl;obtain⟨r2,e3,e4⟩:=mpS e;cases e4;obtain⟨a0,xs0,p1,p2,p3⟩:=WE hR e0;refine⟨.ref a0,p1,.inl ⟨rfl,xs0,SqL.of p2⟩,O0,r,d,r1,hR,e1,λv H1 R1 k1 i1=>?_⟩;obtain⟨a,xs,q1,q2,q3⟩:=WE R1 e2;rw[p1] at q1;cases q1;obtain⟨R2,k2⟩:=R1.upd (xs':=xs++[v]) e3 p1 q2 (q3.append (.cons i1 .nil));exact⟨_,xs,v,rfl,rfl,q2,by rw[<-q3.length];exact hl,q _ _ R2 (k1.trans k2) (by rw[Is.non_iff])⟩
 ·cases e
theorem zCN(i:Nat)(h:PE X (.Name x pn) (kN i))(hbase:bt (.Name x pn) "pop" X.env (eval (.Name x pn) X.env)=eval (.Name x pn) X.env:=by rfl)(hline:(apos.endLine == cpos.line)=true:=by rfl):DX X (.Call (.Attribute (.Name x pn) "pop" apos) [] [] cpos) (pC i):=by
 refine PE.conseq (XW cz jr jq WD h hbase hline) λσ H Q hq=>?_
 obtain⟨O0,r,d',r',hR,e,q⟩:=hq;obtain⟨l,e2,e⟩:=bnS e;obtain⟨d,e1,e⟩:=bnS e;obtain⟨r2,e3,e4⟩:=mpS e;have e5:d=d':=congrArg Prod.fst e4;have e6:r2=r':=congrArg Prod.snd e4;subst e5 e6;obtain⟨a,xs,q1,q2,q3⟩:=WE hR e2;obtain⟨v,ev,iv⟩:=q3.get e1;obtain⟨R2,k2⟩:=hR.upd (xs':=xs.dropLast) e3 q1 q2 q3.dropLast;refine⟨.ref a,q1,.inl ⟨rfl,xs,SqL.of q2⟩,a,xs,v,rfl,rfl,q2,by rw[<-q3.length];exact ev,q _ _ R2 k2 ?_⟩;have own_a:Ow O0 r σ a:=by
  obtain⟨y,z1,z2⟩:=bnS e2;exact .inr ⟨i,l,by rw[z1];exact uB (zGH z2).1,q1⟩
 have ow2:∀b,Ow O0 r2 σ b->H b≠none->Ow O0 r σ b:=λb z n=>z.imp id λz=>(k2.new b z).elim id λz=>absurd z n
 exact Is.mono (λb o e1 n=>by rw[zN (λz=>n (by subst z;exact own_a))];exact e1) hR.ol ow2 _ _ iv
noncomputable def zNL:Option Sl->Sl
 |some (.v d)=>.v d
 |_=>.un
noncomputable def Y0(cap:List Nat)(n:Nat)(r:En):En:=(cap.map λj=>zNL r[j]?)++List.replicate (n-cap.length) .un
noncomputable def kI(bd:D->En->Option En)(c:MB)(x:ME):List D->En->Option (List D)
 |[],_=>some []
 |d::t,r=>(bd d r).bind λr1=>(c r1).bind λb=>if b=true then (x r1).bind λy=>(kI bd c x t r1).map (y::·) else kI bd c x t r1
noncomputable def gU:MB:=λ_=>some true
noncomputable def wS(cap:List Nat)(n:Nat)(it:ML)(bd:D->En->Option En)(c:MB)(x:ME):ML:=λr=>(it r).bind λl=>if l.length<af then kI bd c x l (Y0 cap n r) else none
noncomputable def vR(cap:List Nat)(n:Nat)(it:ML)(bd:D->En->Option En)(x:ME):ML:=wS cap n it bd gU x
theorem R.cap{K:Fg}{O0:Addr->Prop}{H H2:Hp}{r:En}{σ:St}{cap:List Nat}{n:Nat}{p:Addr}{ys:List V}(h:R K O0 H r σ)(s:Same H H2)(hp:H p=none)(ep:H2 p=some (.lst ys)):R K (λb=>Ow O0 r σ b\/b=p) H2 (Y0 cap n r) (zD0 cap n σ):=by
 have noO:∀(i:Nat) (l:List D),((Y0 cap n r)[i]?).bind Sl.own≠some l:=λi l e=>by
  unfold Y0 at e;by_cases hi:i<cap.length
  ·rw[ax (by simpa using hi),ay] at e;obtain⟨j,hj⟩:∃j,cap[i]?=some j:=⟨cap[i],by simp[hi]⟩;rw[hj] at e;have e':(zNL r[j]?).own=some l:=e;cases ej:r[j]? with
   |none=>rw[ej] at e';cases e'
   |some y=>rw[ej] at e';cases y<;>cases e'
  ·rw[bf (by simpa using lp hi),cf] at e;split at e<;>cases e
 have ol:jN (λb=>Ow O0 r σ b\/b=p) H2:=λb z=>z.elim (λz=>(h.same s).ol b z) λz=>by subst z;exact⟨.lst ys,ep,trivial⟩
 refine⟨by simp[Y0,zD0],λi d e=>?_,λi l e=>absurd (jA e) (noO i l),λi j a l m e1=>absurd e1 (noO i l),ol,λi l a e=>absurd (show((Y0 cap n r)[i]?).bind Sl.own=some l by rcases e with e|e|⟨_,e⟩<;>rw[e]<;>rfl) (noO i l),λi l a e=>absurd (u5 e).choose_spec (noO i _),λi _ ks l e=>absurd (show((Y0 cap n r)[i]?).bind Sl.own=some l by rw[e];rfl) (noO i l)⟩;unfold Y0 at e;by_cases hi:i<cap.length
 ·rw[ax (by simpa using hi),ay] at e;obtain⟨j,hj⟩:∃j,cap[i]?=some j:=⟨cap[i],by simp[hi]⟩;rw[hj] at e;have e':zNL r[j]?=.v d:=bg e;have ej:r[j]?=some (.v d):=by
   cases ej:r[j]? with
   |none=>rw[ej] at e';cases e'
   |some y=>rw[ej] at e';cases y<;>cases e';rfl
  obtain⟨v,e1,q⟩:=h.val j d ej;refine⟨v,?_,?_⟩
  ·unfold zD0;rw[ax (by simpa using hi),ay,hj];show some ((σ[j]?).getD none)=_;rw[e1];rfl
  ·refine Is.mono (Same.kp s _) h.ol (λa z nn=>?_) _ _ q;rcases z with(z|z)|⟨k,l,ek,_⟩
   ·exact z
   ·subst z;exact absurd hp nn
   ·exact absurd ek (noO k l)
 ·rw[bf (by simpa using lp hi),cf] at e;split at e<;>cases e
section
variable{X:Cx}{N':List Str}{cap:List Nat}{scope:Scope}{elt tg iter:Expr}{ifs:List Expr}{pos:Pos}{it:ML}{bd:D->En->Option En}{c:MB}{x:ME}
theorem uJ{tc:Option TT}(htc:∀{σ:St} {H:Hp} {K1:V->Hp->Prop} {K0:Hp->Prop} {te:TE},(lT X.K c σ H λb H1=>if b=true then te σ H1 K1 else K0 H1)->zAR tc te K1 K0 σ H)(n:Nat){σ:St}{H:Hp}{Q:VK}(h:lF X.K (wS cap n it bd c x) σ H Q):zEU cap n (lI X.K it) (lG X.K bd) tc (lE X.K x) σ H Q:=by
 obtain⟨O0,r,out,hR,e,q⟩:=h;obtain⟨l,e1,e2⟩:=bnS e;split at e2
 ·rename_i hlen;refine⟨O0,r,l,hR,e1,λJ H1 s1 yl p hp=>?_⟩;have hpH:H p=none:=s1.free hp;refine⟨λi m ys σ2 H2=>m=l.length-i/\i<=l.length/\ys.length<=i/\H2 p=some (.lst ys)/\Same H1 H2/\∃r2 dn rest,R X.K (λb=>Ow O0 r σ b\/b=p) H2 r2 σ2/\(∀a,¬w8 r2 σ2 a)/\IsL X.K (λb=>Ow O0 r σ b\/b=p) H2 dn ys/\kI bd c x (l.drop i) r2=some rest/\dn++rest=out,
   ⟨l.length,by simp,ck _,ah _,zQ,yA hp,Y0 cap n r,[],out,?_,?_,.nil,by simpa using e2,rfl⟩,?_⟩
  ·exact R.cap hR (s1.trans (yA hp)) hpH zQ
  ·rintro a ⟨i,l',e',_⟩;unfold Y0 at e';by_cases hi:i<cap.length
   ·rw[ax (by simpa using hi),ay] at e';obtain⟨j,hj⟩:∃j,cap[i]?=some j:=⟨cap[i],by simp[hi]⟩;rw[hj] at e';have e'':(zNL r[j]?).own=some l':=e';cases ej:r[j]? with
    |none=>rw[ej] at e'';cases e''
    |some y=>rw[ej] at e'';cases y<;>cases e''
   ·rw[bf (by simpa using lp hi),cf] at e';split at e'<;>cases e'
  ·rintro i m ys σ2 H2 ⟨rfl,hil,hyl,hp2,s2,r2,dn,rest,R2,no2,il2,e3,eo⟩;refine⟨hp2,by omega,?_⟩;obtain⟨y1,y2⟩:=yl i H2 (λb=>Ow O0 r σ b\/b=p) (Same.kp s2 _) λa z nn=>z.elim id λz=>by subst z;exact absurd hp nn
   by_cases hlt:i<l.length
   ·obtain⟨go,yd⟩:=y1 hlt;have hd:l[i]?=some l[i]:=by simp[hlt]
    rw[uH hd] at e3;obtain⟨r3,e4,e5⟩:=bnS e3;obtain⟨b,e6,e7⟩:=bnS e5;refine .inr ⟨go,λv H3 yv=>?_⟩;obtain⟨s3,iv⟩:=yd v H3 yv;have R3:=R2.same s3;have ow2:∀a,Ow (λb=>Ow O0 r σ b\/b=p) r2 σ2 a->Ow O0 r σ a\/a=p:=λa z=>z.elim id λz=>absurd z (no2 a)
    refine⟨_,r2,l[i],r3,R3,?_,e4,λσ4 R4 k4=>?_⟩
    ·exact Is.mono (Same.kp (Same.refl H3) _) R3.o0 (λa z _=>ow2 a z) _ _ (iv _ hd)
    have no4:∀a,¬w8 r3 σ4 a:=λa z=>by
     rcases k4.new a z with z'|z'
     ·exact no2 a z'
     ·obtain⟨xs,ex,_⟩:=R4.ol a (.inr z);rw[z'] at ex;cases ex
    have ow4:∀a,Ow (λb=>Ow O0 r σ b\/b=p) r3 σ4 a->Ow O0 r σ a\/a=p:=λa z=>z.elim id λz=>absurd z (no4 a)
    refine htc ⟨_,r3,b,R4,e6,λH5 s5=>?_⟩;have R5:=R4.same s5;cases b with
    |false=>
     rw[if_neg av] at e7;refine zNI ⟨l.length-(i+1),by omega,rfl,hlt,by omega,(s3.trans s5) _ _ hp2,s2.trans (s3.trans s5),r3,dn,rest,R5,no4,?_,e7,eo⟩;exact il2.same (s3.trans s5) R2.o0
    |true=>
     rw[if_pos rfl] at e7;obtain⟨y,e8,e9⟩:=bnS e7;obtain⟨rest',e10,e11⟩:=mpS e9;refine zNH ⟨_,r3,y,R5,e8,λu H6 s6 iu=>?_⟩;have s26:=s3.trans (s5.trans s6);have hp6:=s26 _ _ hp2;have R6:=R5.same s6;have kk:bL (λb=>Ow O0 r σ b\/b=p) H6 (upd H6 p (.lst (ys++[u]))):=λb' o e' nn=>by rw[zN (λz=>nn (.inr z))];exact e'
     refine⟨hp6,l.length-(i+1),by omega,rfl,hlt,by simp;omega,zQ,?_,r3,dn++[y],rest',?_,no4,?_,e10,?_⟩
     ·intro b' o e';have hb:b'≠p:=λz=>by subst z;rw[hp] at e';cases e'
      rw[zN hb];exact s26 _ _ (s2 _ _ e')
     ·refine⟨R6.len,λj d ej=>?_,λj m ej=>?_,R6.apart,λb' z=>?_,R6.loc,R6.par,λj f ks m ej=>?_⟩
      ·obtain⟨w,q1,q2⟩:=R6.val j d ej;exact⟨w,q1,Is.mono (λb' o e' nn=>kk b' o e' λz=>nn (.inl z)) R6.ol (λ_ z _=>z) _ _ q2⟩
      ·obtain⟨a',xs',q1,q2,_⟩:=R6.own j m ej;exact absurd ⟨j,m,jA ej,q1⟩ (no4 a')
      ·rcases z with z|z
       ·by_cases hb:b'=p
        ·subst hb;exact⟨_,zQ,trivial⟩
        ·rw[zN hb];exact R6.o0 b' (.inl z)
       ·subst z;exact⟨_,zQ,trivial⟩
      ·obtain⟨a',kvs,q1,q2,_⟩:=R6.dct j f ks m ej;exact absurd ⟨j,m,by rw[ej];rfl,q1⟩ (no4 a')
     ·have i1:=il2.same s26 R2.o0;have i2:Is X.K (λb=>Ow O0 r σ b\/b=p) H6 y u:=Is.mono (Same.kp (Same.refl H6) _) R6.ol (λa z _=>.inl z) _ _ iu;exact IsL.mono kk R6.o0 (λ_ z _=>z) _ _ (i1.append (.cons i2 .nil))
     ·rw[<-eo,<-e11];simp
   ·have hl:l.drop i=[]:=ku (by omega);rw[hl] at e3;have e3':some []=some rest:=e3;cases e3';rw[gn] at eo;subst eo;exact .inl ⟨y2 (by omega),q p ys H2 (s1.trans s2) hpH hp2 il2⟩
 ·cases e2
theorem oJ(hc:X.calm=true)(o:CmpOk X N' cap scope)(hi:DI X tg iter it)(hg:∀C fp s H,DG (cxC X N' scope C fp s H) tg bd)(he:∀C fp s H,DE (cxC X N' scope C fp s H) elt x)(n:Nat)(hn:N'.length=n:=by rfl)(hs:∀x,gc iter X.env x=pure x:=by intro _;rfl):DF X (.ListComp elt [⟨tg,iter,[],0⟩] scope pos) (vR cap n it bd x):=by
 subst hn;exact PE.conseq (bY (g:=lG X.K bd) (te:=lE X.K x) (tc:=none) hc o hi hg rfl he hs) λσ H Q h=>uJ (tc:=none) (λ{σ H K1 K0 te} z=>by
  obtain⟨O0,r,b,hR,e,q⟩:=z;unfold gU at e;cases e;have z1:(if true=true then te σ H K1 else K0 H):=q H (Same.refl H);rw[if_pos rfl] at z1;exact z1) N'.length h
theorem W4(hc:X.calm=true)(o:CmpOk X N' cap scope)(hi:DI X tg iter it)(hg:∀C fp s H,DG (cxC X N' scope C fp s H) tg bd)(ht:∀C fp s H,DT (cxC X N' scope C fp s H) ce c)(he:∀C fp s H,DE (cxC X N' scope C fp s H) elt x)(n:Nat)(hn:N'.length=n:=by rfl)(hs:∀x,gc iter X.env x=pure x:=by intro _;rfl):DF X (.ListComp elt [⟨tg,iter,[ce],0⟩] scope pos) (wS cap n it bd c x):=by
 subst hn;exact PE.conseq (bY (g:=lG X.K bd) (te:=lE X.K x) (tc:=some (lT X.K c)) hc o hi hg ⟨ce,rfl,ht⟩ he hs) λσ H Q h=>uJ (tc:=some (lT X.K c)) (λz=>z) N'.length h
end
def CapOk(X:Cx)(scope:Scope):List Nat->List Str->Prop
 |[],_=>True
 |j::t,x::r=>X.N[j]?=some x/\scope.names.lookup x=some .free/\CapOk X scope t r
 |_::_,[]=>False
theorem CapOk.get:∀{cap:List Nat} {N':List Str},CapOk X scope cap N'->∀(i j:Nat),cap[i]?=some j->∃x,N'[i]?=some x/\X.N[j]?=some x/\scope.names.lookup x=some .free
 |[],_,_,i,j,e=>by simp at e
 |k::t,[],h,_,_,_=>False.elim h
 |k::t,x::r,h,0,j,e=>by
  have e':k=j:=by simpa using e
  subst e';exact⟨x,rfl,h.1,h.2.1⟩
 |k::t,x::r,h,i+1,j,e=>by
  obtain⟨y,q1,q2⟩:=CapOk.get h.2.2 i j (by simpa using e);exact⟨y,by simpa using q1,q2⟩
theorem CapOk.len:∀{cap:List Nat} {N':List Str},CapOk X scope cap N'->cap.length<=N'.length
 |[],_,_=>ck _
 |k::t,[],h=>False.elim h
 |k::t,x::r,h=>oh (CapOk.len h.2.2)
theorem bB(kind:scope.kind=.function:=by rfl)(nc:∀y∈scope.names,y.2≠.cell:=by decide +kernel)(nm:∀y∈scope.names,y.2=.local->scope.names.lookup y.1=some .local:=by decide +kernel)(fr:∀y∈scope.names,y.2=.free->X.env.kindOf y.1=some .cell\/X.env.kindOf y.1=some .free:=by repeat (first|exact xh _|refine wg.mpr ⟨λe=>(by first|exact absurd e (by decide)|exact .inl rfl|exact .inr rfl),?_⟩))(capt:CapOk X scope cap N':=by repeat (first|exact trivial|refine⟨rfl,rfl,?_⟩)):CmpOk X N' cap scope:=⟨kind,nc,nm,fr,capt.get,capt.len⟩
end DD
namespace ZZ
open PySem
theorem zNX(h1:s.heap.IsTupleIter ti tu k)(h2:s.heap.IsTuple tu ys)(h3:ys[k]?=some y)(h4:∀g,g.IsTupleIter ti tu (k+1)->Heap.SameBut ti s.heap g->Q y { s with heap:=g }):wpAny (model prog w) A (Builtin.SmallTypes.nextOf (.ref ti)) Q E s:=by
 obtain⟨a,ha,ca,da⟩:=id h1;obtain⟨b,hb,_,nb,db⟩:=h2;unfold Builtin.SmallTypes.nextOf;refine ac (cy (name:=Str.ofString "__next__") h1.typeIs jv (dz jv h1.typeIs sr (?_) (so _)));show wpAny _ _ (field (.ref ti) 0 >>= _) _ _ s;refine ac (bu ha da (x:=.ref tu) rfl (?_));show wpAny _ _ (if (Value.ref tu == Value.none)=true then _ else _) _ _ s;rw[if_neg (show ¬((Value.ref tu == Value.none)=true) from av)];show wpAny _ _ (field (.ref ti) 1 >>= _) _ _ s;refine ac (bu ha da (x:=.int k 0) rfl (?_));show wpAny _ _ (seqItems? (.ref tu) >>= _) _ _ s;refine ac (gq hb db (?_));simp only[kz,h3];refine ac (mx ha da (by simp) (ag ⟨y,rfl,ag (h4 _ (?_) (jw ..))⟩));refine⟨_,jb _ ha (qh (jj da _)),(Obj.cls_mapFields ..).trans ca,?_⟩;rw[jj da];simp[rawInt]
theorem zQ0(hh:A.handled=none)(h1:s.heap.IsTupleIter ti tu k)(h2:s.heap.IsTuple tu ys)(h3:ys[k]?=none)(h4:∀g e,Heap.ExtBut ti s.heap g->(∃o,g.get? e=some o/\o.cls=.type "StopIteration")->E (.ref e) { s with heap:=g }):wpAny (model prog w) A (Builtin.SmallTypes.nextOf (.ref ti)) Q E s:=by
 obtain⟨a,ha,ca,da⟩:=id h1;obtain⟨b,hb,_,nb,db⟩:=h2;unfold Builtin.SmallTypes.nextOf;refine ac (cy (name:=Str.ofString "__next__") h1.typeIs jv (dz jv h1.typeIs sr (?_) (so _)));show wpAny _ _ (field (.ref ti) 0 >>= _) _ _ s;refine ac (bu ha da (x:=.ref tu) rfl (?_));show wpAny _ _ (if (Value.ref tu == Value.none)=true then _ else _) _ _ s;rw[if_neg (show ¬((Value.ref tu == Value.none)=true) from av)];show wpAny _ _ (field (.ref ti) 1 >>= _) _ _ s;refine ac (bu ha da (x:=.int k 0) rfl (?_));show wpAny _ _ (seqItems? (.ref tu) >>= _) _ _ s;refine ac (gq hb db (?_));simp only[kz,h3];refine ac (my (ac (mx ha da (by simp) (?_))));show wpAny _ _ (newExc (.type "StopIteration") [] >>= _) _ _ _;refine ac (?_);simp only[newExc,newTuple];refine ac (cn (?_) (by size_fits));refine ac (m:=firstArgMember _ _) (gp (a:=Value.none) (by first|rfl|(simp only[firstArgMember];rfl)) (?_));refine cn (?_) (by size_fits);simp only[raiseNew];refine ac (wpAny_handled (?_));first|rw[show A.in1.handled=none from hh]|rw[hh]
 refine ac (ag (wpAny_throw (?_)));exact h4 _ _ (((jw ..).extBut.push _).push _) ⟨_,ba _ rfl,rfl⟩
theorem drawsT(hh:A.handled=none)(ti tu:Addr)(ne:tu≠ti)(ys:Array Value):Draws prog w A ti [ti,tu] ys.size (λi v=>ys[i]?=some v) (λi h=>h.IsTupleIter ti tu i/\h.IsTuple tu ys) where
 live:=λ_ _ st=>let ⟨o,e,_⟩:=st.1;⟨o,e⟩
 frame:=λ_ _ _ st k=>⟨st.1.at λo e=>k ti (by simp) o e,st.2.at λo e=>k tu (by simp) o e⟩
 item:=λi s Q E hi st q=>zNX st.1 st.2 (y:=ys[i]) (by simp[hi]) λg a b=>q _ g s.toks (by simp[hi]) ⟨a,st.2.at λo e=>b.extBut _ _ ne e⟩ b
 done:=λs Q E st q=>zQ0 hh st.1 st.2 (by simp) q
structure Ap(z a b i j:Addr)(f g:List Addr):Prop where
 az:a≠z
 bz:b≠z
 iz:i≠z
 jz:j≠z
 ab:a≠b
 ai:a≠i
 aj:a≠j
 bi:b≠i
 bj:b≠j
 ij:i≠j
 fz:z∉f
 fb:b∉f
 fj:j∉f
 gz:z∉g
 gb:b∉g
 gi:i∉g
section
variable{R:Nat->Value->Prop}
theorem zNN{Q:Value->Shared->Prop}(D:Draws prog w A i f n P S)(C:Draws prog w A j g m R U)(ap:Ap z a b i j f g)(hz:IsZip s.heap z a b .none)(ha:IsPair s.heap a (.ref i) (.ref j))(hb:IsPair s.heap b p q)(hS:S k s.heap)(hU:U k s.heap)(hn:k<n)(hm:k<m)(h:∀x y g' tk,P k x->R k y->IsZip g' z a b (rawInt s.heap.objs.size)->IsPair g' b x y->S (k+1) g'->U (k+1) g'->IsPair g' s.heap.objs.size x y->g'.objs.size=s.heap.objs.size+1 ->
   (∀c o,c≠z->c≠b->c≠i->c≠j->s.heap.get? c=some o->g'.get? c=some o)->Q (.ref s.heap.objs.size) { s with heap:=g',toks:=tk }):wpAny (model prog w) A (Builtin.«zip.__next__» ⟨[.ref z],[]⟩) (λr s'=>∃y,r=.done (.ret y)/\Q y s') E s:=by
 show wpAny _ _ (field (.ref z) 2 >>= _) _ _ _;refine ac (bu hz rfl (x:=.bool false) rfl (?_));show wpAny _ _ (field (.ref z) 3 >>= _) _ _ _;refine ac (bu hz rfl (x:=.ref a) rfl (ac (gq ha rfl (?_))));show wpAny _ _ (Builtin.SmallTypes.ownedTupleIsFree (.ref z) >>= _) _ _ _;refine ac (?_);unfold Builtin.SmallTypes.ownedTupleIsFree;refine ac (bu hz rfl (x:=.none) rfl (ag (?_)));simp only[if_true];refine ac (my (ac (bu hz rfl (x:=.ref b) rfl (?_))));refine ac (iw hz (by simp) λg1 z1 t1=>?_)
 replace z1:IsZip g1 z a b .ellipsis:=z1
 have keep1:∀{c:Addr} {o:Obj},c≠z->s.heap.get? c=some o->g1.get? c=some o:=λn e=>t1.extBut _ _ n e
 refine ac (?_);simp only[sf,List.zipIdx_nil,ma,qr];refine ac (ac (qy (?_)));show wpAny _ _ (Builtin.SmallTypes.nextOf (.ref i) >>= _) _ _ _;refine ac (D.item k _ _ _ hn (D.frame _ _ _ hS λc hc o e=>keep1 (λw'=>ap.fz (w' ▸ hc)) e) λx g2 tk2 Px S2 t2=>ag (?_));have b2:IsPair g2 b p q:=t2.extBut _ _ ap.bi (keep1 ap.bz hb);refine ac (gq b2 rfl (ac (ql b2 λg3 b3 t3=>?_)))
 replace b3:IsPair g3 b x q:=b3
 refine ac (wb (ag (?_)));refine ac (ac (qy (?_)));show wpAny _ _ (Builtin.SmallTypes.nextOf (.ref j) >>= _) _ _ _;have U3:U k g3:=C.frame _ _ _ hU λc hc o e=>t3.extBut _ _ (λw'=>ap.gb (w' ▸ hc)) (t2.extBut _ _ (λw'=>ap.gi (w' ▸ hc)) (keep1 (λw'=>ap.gz (w' ▸ hc)) e))
 refine ac (C.item k _ _ _ hm U3 λy g4 tk4 Ry U4 t4=>ag (?_));have b4:IsPair g4 b x q:=t4.extBut _ _ ap.bj b3;refine ac (gq b4 rfl (ac (ql b4 λg5 b5 t5=>?_)))
 replace b5:IsPair g5 b x y:=b5
 refine ac (wb (ag (ag (?_))));refine ac (gq b5 rfl (ac (wpAny_newTuple (?_))));have sz:g5.objs.size=s.heap.objs.size:=by rw[t5.1,t4.1,t3.1,t2.1,t1.1]
 have z5:IsZip g5 z a b .ellipsis:=t5.extBut _ _ ap.bz.symm (t4.extBut _ _ ap.jz.symm (t3.extBut _ _ ap.bz.symm (t2.extBut _ _ ap.iz.symm z1)));have k5:∀c o,c≠z->c≠b->c≠i->c≠j->s.heap.get? c=some o->g5.get? c=some o:=λc o c1 c2 c3 c4 e=>t5.extBut _ _ c2 (t4.extBut _ _ c4 (t3.extBut _ _ c2 (t2.extBut _ _ c3 (keep1 c1 e))))
 have S5:S (k+1) g5:=D.frame _ _ _ S2 λc hc o e=>t5.extBut _ _ (λw'=>ap.fb (w' ▸ hc)) (t4.extBut _ _ (λw'=>ap.fj (w' ▸ hc)) (t3.extBut _ _ (λw'=>ap.fb (w' ▸ hc)) e))
 have U5:U (k+1) g5:=C.frame _ _ _ U4 λc hc o e=>t5.extBut _ _ (λw'=>ap.gb (w' ▸ hc)) e
 have zl:z<g5.objs.size:=am z5;show wpAny _ _ (Builtin.SmallTypes.ownedTupleHandOut (.ref z) (.ref g5.objs.size) >>= _) _ _ _;refine ac (?_);unfold Builtin.SmallTypes.ownedTupleHandOut;have z6:IsZip (g5.push { cls:=.type "tuple",data:=.seq #[x,y] }) z a b .ellipsis:=ad _ z5;refine ac (iw z6 (by simp) λg7 z7 t7=>?_)
 replace z7:IsZip g7 z a b (rawInt g5.objs.size):=z7
 refine iw z7 (by simp) λg8 z8 t8=>?_
 replace z8:IsZip g8 z a b (rawInt g5.objs.size):=z8
 have up:∀c o,c≠z->g5.get? c=some o->g8.get? c=some o:=λc o c1 e=>t8.extBut _ _ c1 (t7.extBut _ _ c1 (ad _ e))
 have p8:IsPair g8 g5.objs.size x y:=t8.extBut _ _ (ge zl) (t7.extBut _ _ (ge zl) (ba _ rfl));have s8:g8.objs.size=g5.objs.size+1:=by rw[t8.1,t7.1,ji]
 rw[sz] at z8 p8 s8;refine ag ⟨_,rfl,(?_)⟩;show Q (.ref g5.objs.size) _;rw[sz];exact h x y g8 _ Px Ry z8 (up _ _ ap.bz b5) (D.frame _ _ _ S5 λc hc o e=>up c o (λw'=>ap.fz (w' ▸ hc)) e) (C.frame _ _ _ U5 λc hc o e=>up c o (λw'=>ap.gz (w' ▸ hc)) e) p8 s8 λc o c1 c2 c3 c4 e=>up c o c1 (k5 c o c1 c2 c3 c4 e)
theorem zQY(D:Draws prog w A i f n P S)(C:Draws prog w A j g m R U)(ap:Ap z a b i j f g)(hz:IsZip s.heap z a b .none)(ha:IsPair s.heap a (.ref i) (.ref j))(hb:IsPair s.heap b p q)(hS:S k s.heap)(hU:U k s.heap)(hk:(k=n)\/(k<n/\k=m))(h:∀g' e,(∀c o,c≠z->c≠b->c≠i->c≠j->s.heap.get? c=some o->g'.get? c=some o)->(∃o,g'.get? e=some o/\o.cls=.type "StopIteration")->∀tk,E (.ref e) { s with heap:=g',toks:=tk }):wpAny (model prog w) A (PySem.Builtin.«zip.__next__» ⟨[.ref z],[]⟩) Q E s:=by
 show wpAny _ _ (field (.ref z) 2 >>= _) _ _ _;refine ac (bu hz rfl (x:=.bool false) rfl (?_));show wpAny _ _ (field (.ref z) 3 >>= _) _ _ _;refine ac (bu hz rfl (x:=.ref a) rfl (ac (gq ha rfl (?_))));show wpAny _ _ (Builtin.SmallTypes.ownedTupleIsFree (.ref z) >>= _) _ _ _;refine ac (?_);unfold Builtin.SmallTypes.ownedTupleIsFree;refine ac (bu hz rfl (x:=.none) rfl (ag (?_)));simp only[if_true];refine ac (my (ac (bu hz rfl (x:=.ref b) rfl (?_))));refine ac (iw hz (by simp) λg1 z1 t1=>?_)
 replace z1:IsZip g1 z a b .ellipsis:=z1
 have keep1:∀{c:Addr} {o:Obj},c≠z->s.heap.get? c=some o->g1.get? c=some o:=λn e=>t1.extBut _ _ n e
 refine ac (?_);simp only[sf,List.zipIdx_nil,ma,qr];refine ac (ac (qy (?_)));show wpAny _ _ (Builtin.SmallTypes.nextOf (.ref i) >>= _) _ _ _;have S1:S k g1:=D.frame _ _ _ hS λc hc o e=>keep1 (λw'=>ap.fz (w' ▸ hc)) e
 rcases hk with hk|⟨hn,hk⟩
 ·subst hk;refine ac (D.done _ _ _ S1 λg2 e t2 he=>?_);obtain⟨oe,ho,ce⟩:=he;have z2:IsZip g2 z a b .ellipsis:=t2 _ _ ap.iz.symm z1;have ez:e≠z:=λx=>by subst x;rw[z2] at ho;cases ho;simp at ce
  exact iw z2 (by simp) λg3 _ t3=>h g3 e (λc o c1 _ c3 _ x=>t3.extBut _ _ c1 (t2 _ _ c3 (keep1 c1 x))) ⟨oe,t3.extBut _ _ ez ho,ce⟩ _
 ·subst hk;refine ac (D.item k _ _ _ hn S1 λx g2 tk2 Px S2 t2=>ag (?_));have b2:IsPair g2 b p q:=t2.extBut _ _ ap.bi (keep1 ap.bz hb);refine ac (gq b2 rfl (ac (ql b2 λg3 b3 t3=>?_)));refine ac (wb (ag (?_)));refine ac (ac (qy (?_)));show wpAny _ _ (Builtin.SmallTypes.nextOf (.ref j) >>= _) _ _ _;have U3:U k g3:=C.frame _ _ _ hU λc hc o e=>t3.extBut _ _ (λw'=>ap.gb (w' ▸ hc)) (t2.extBut _ _ (λw'=>ap.gi (w' ▸ hc)) (keep1 (λw'=>ap.gz (w' ▸ hc)) e))
  refine ac (C.done _ _ _ U3 λg4 e t4 he=>?_);obtain⟨oe,ho,ce⟩:=he;have z4:IsZip g4 z a b .ellipsis:=t4 _ _ ap.jz.symm (t3.extBut _ _ ap.bz.symm (t2.extBut _ _ ap.iz.symm z1));have ez:e≠z:=λx=>by subst x;rw[z4] at ho;cases ho;simp at ce
  exact iw z4 (by simp) λg5 _ t5=>h g5 e (λc o c1 c2 c3 c4 x=>t5.extBut _ _ c1 (t4 _ _ c4 (t3.extBut _ _ c2 (t2.extBut _ _ c3 (keep1 c1 x))))) ⟨oe,t5.extBut _ _ ez ho,ce⟩ _
end
open PySem
noncomputable abbrev tI(t:Addr):Obj:={ cls:=.type "tuple_iterator",data:=.fields #[.ref t,.int 0 0] }
noncomputable abbrev tP(u v:Value):Obj:={ cls:=.type "tuple",data:=.seq #[u,v] }
noncomputable abbrev tZ(a b:Addr):Obj:={ cls:=.type "zip",data:=.fields #[.none,.bool false,.bool false,.ref a,.ref b] }
noncomputable abbrev zH(h:Heap)(t u:Addr):Heap:=((((h.push (tI t)).push (tI u)).push (tP (.ref h.objs.size) (.ref (h.push (tI t)).objs.size))).push (tP .none .none)).push (tZ ((h.push (tI t)).push (tI u)).objs.size (((h.push (tI t)).push (tI u)).push (tP (.ref h.objs.size) (.ref (h.push (tI t)).objs.size))).objs.size)
theorem zQW(t u:Addr)(xs ys:Array Value):Meets (Builtin.«zip.__new__» ⟨[.type "zip",.ref t,.ref u],[]⟩) (λ_ R s=>s.heap.IsTuple t xs/\s.heap.IsTuple u ys/\R (.ok (.ret (.ref ((((s.heap.push (tI t)).push (tI u)).push (tP (.ref s.heap.objs.size) (.ref (s.heap.push (tI t)).objs.size))).push (tP .none .none)).objs.size))) { s with heap:=zH s.heap t u }):=
 .of_wp λprog w A R s h=>by
  obtain⟨hp,g,d,tk,os⟩:=s;obtain⟨h1,h2,h⟩:=h;have hsub:=sub_zip;have L1:Heap.IsTuple (Shared.heap ⟨hp,g,d,tk,os⟩) t xs:=h1;have L2:Heap.IsTuple (Shared.heap ⟨hp.push (tI t),g,d,tk,os⟩) u ys:=h2.at λo e=>ad _ e
  wp_walk using rh L1,rh L2
  exact⟨_,rfl,h⟩
theorem zcall(h1:s.heap.IsTuple t xs)(h2:s.heap.IsTuple u ys)(h:∀g,IsZip g (s.heap.objs.size+4) (s.heap.objs.size+2) (s.heap.objs.size+3) .none->IsPair g (s.heap.objs.size+2) (.ref s.heap.objs.size) (.ref (s.heap.objs.size+1))->IsPair g (s.heap.objs.size+3) .none .none ->
   g.IsTupleIter s.heap.objs.size t 0->g.IsTupleIter (s.heap.objs.size+1) u 0->(∀c o,s.heap.get? c=some o->g.get? c=some o)->Q (.ref (s.heap.objs.size+4)) { s with heap:=g }):wpAny (model prog w) A (call (.type "zip") [.ref t,.ref u]) Q E s:=by
 refine callType_new F.called_zip (by decide) (F.typeCall_zip_2 _ _) (F.newCall_zip_2 _ _) (λobj=>F.args_object_init_3 obj _ _) F.entry_zip_new (zQW t u xs ys) ⟨h1,h2,?_⟩;have z1:(s.heap.push (tI t)).objs.size=s.heap.objs.size+1:=ji ..;have z2:((s.heap.push (tI t)).push (tI u)).objs.size=s.heap.objs.size+2:=by rw[ji,z1]
 have z3:(((s.heap.push (tI t)).push (tI u)).push (tP (.ref s.heap.objs.size) (.ref (s.heap.push (tI t)).objs.size))).objs.size=s.heap.objs.size+3:=by rw[ji,z2]
 have z4:((((s.heap.push (tI t)).push (tI u)).push (tP (.ref s.heap.objs.size) (.ref (s.heap.push (tI t)).objs.size))).push (tP .none .none)).objs.size=s.heap.objs.size+4:=by rw[ji,z3]
 have kp:∀c o,s.heap.get? c=some o->(zH s.heap t u).get? c=some o:=λc o x=>ad _ (ad _ (ad _ (ad _ (ad _ x))))
 have g1:(zH s.heap t u).get? s.heap.objs.size=some (tI t):=ad _ (ad _ (ad _ (ad _ (ba _ rfl))));have g2:(zH s.heap t u).get? (s.heap.push (tI t)).objs.size=some (tI u):=ad _ (ad _ (ad _ (ba _ rfl)));have g3:(zH s.heap t u).get? ((s.heap.push (tI t)).push (tI u)).objs.size=some (tP (.ref s.heap.objs.size) (.ref (s.heap.push (tI t)).objs.size)):=ad _ (ad _ (ba _ rfl));have g4:(zH s.heap t u).get? (((s.heap.push (tI t)).push (tI u)).push (tP (.ref s.heap.objs.size) (.ref (s.heap.push (tI t)).objs.size))).objs.size=some (tP .none .none):=ad _ (ba _ rfl);have g5:(zH s.heap t u).get? ((((s.heap.push (tI t)).push (tI u)).push (tP (.ref s.heap.objs.size) (.ref (s.heap.push (tI t)).objs.size))).push (tP .none .none)).objs.size=some (tZ ((s.heap.push (tI t)).push (tI u)).objs.size (((s.heap.push (tI t)).push (tI u)).push (tP (.ref s.heap.objs.size) (.ref (s.heap.push (tI t)).objs.size))).objs.size):=ba _ rfl;rw[z4] at g5 ⊢;rw[z3] at g4 g5;rw[z2] at g3 g5;rw[z1] at g2 g3;exact⟨⟨_,g5,rfl⟩,h _ g5 g3 g4 ⟨_,g1,rfl,rfl⟩ ⟨_,g2,rfl,rfl⟩ kp⟩
theorem znextI{R:Nat->Value->Prop}(D:Draws prog w A.in1 i f n P S)(C:Draws prog w A.in1 j g m R U)(ap:Ap z a b i j f g)(hz:IsZip s.heap z a b .none)(ha:IsPair s.heap a (.ref i) (.ref j))(hb:IsPair s.heap b p q)(hS:S k s.heap)(hU:U k s.heap)(hn:k<n)(hm:k<m)(h:∀x y g' tk,P k x->R k y->IsZip g' z a b (rawInt s.heap.objs.size)->IsPair g' b x y->S (k+1) g'->U (k+1) g'->IsPair g' s.heap.objs.size x y->g'.objs.size=s.heap.objs.size+1 ->
   (∀c o,c≠z->c≠b->c≠i->c≠j->s.heap.get? c=some o->g'.get? c=some o)->Q (some (.ref s.heap.objs.size)) { s with heap:=g',toks:=tk }):wpAny (model prog w) A (pyNext (.ref z)) Q E s:=by
 have hT:s.TypeIs (.ref z) "zip" := ⟨_,hz,rfl⟩;unfold pyNext;refine ac (jy (cy (name:=Str.ofString "__next__") hT jd (dz jd hT oq (?_) (nj _))));refine gx (zNN (Q:=λv s'=>Q (some v) s') D C ap hz ha hb hS hU hn hm h) (λfin s' hq=>?_) λ_ _ x=>x
 obtain⟨v,e,hq⟩:=hq;exact⟨v,e,ag hq⟩
theorem znextE{R:Nat->Value->Prop}(D:Draws prog w A.in1 i f n P S)(C:Draws prog w A.in1 j g m R U)(ap:Ap z a b i j f g)(hz:IsZip s.heap z a b .none)(ha:IsPair s.heap a (.ref i) (.ref j))(hb:IsPair s.heap b p q)(hS:S k s.heap)(hU:U k s.heap)(hk:(k=n)\/(k<n/\k=m))(h:∀g' tk,(∀c o,c≠z->c≠b->c≠i->c≠j->s.heap.get? c=some o->g'.get? c=some o)->Q none { s with heap:=g',toks:=tk }):wpAny (model prog w) A (pyNext (.ref z)) Q E s:=by
 have hT:s.TypeIs (.ref z) "zip" := ⟨_,hz,rfl⟩;unfold pyNext;refine ac (jy (cy (name:=Str.ofString "__next__") hT jd (dz jd hT oq (zQY D C ap hz ha hb hS hU hk λg' e kp he tk=>?_) (nj _))));obtain⟨o,ho,hc⟩:=he;refine ac (nw (T:="StopIteration") (b:=true) ⟨o,ho,hc⟩ su (?_));exact ag (h _ _ kp)
end ZZ
namespace DD
open PySem PySem.Spec PyProof.Rows L2
theorem ZX{ch:List Addr}(I:Inv X pZ σ H s)(hch:∀b∈ch,o8 X pZ H b)(hT:s.heap.objs.size<=T)(kp:∀b o,b∉ch->s.heap.get? b=some o->h'.get? b=some o)(hz:vs.length<=af)(hv:Vals vs its)(ht:IsTup h' T its.toArray):Inv X pZ σ (upd H T (.tup vs)) { s with heap:=h',toks:=t' }:=by
 have hn:H T=none:=I.hok.fresh hT;have old:∀{b:Addr} {o:Obj},s.heap.get? b=some o->b≠T:=λe=>be (bb (am e) hT)
 have tr:∀{b:Addr} {u:HO},H b=some u->b≠T:=λe=>xV e hn
 have trc:∀{b:Addr} {u:HO},H b=some u->b∉ch:=λ{b u} e z=>by rw[(hch b z).1] at e;cases e
 refine I.step (g':=s.gens) (d':=s.drawn) (ch:=ch) (λb hb=>⟨(hch b hb).2.2.2.1,(hch b hb).2.1,(hch b hb).2.2.2.2.1,(hch b hb).2.2.2.2.2⟩) (λb o _ _ hc e _=>kp b o hc e) (λb o _ _ hc e _=>⟨o.slots,kp b o hc e⟩)
  (λb o _ e n=>by rw[zN (old e)];exact n) (λb o hc e=>⟨o,kp b o hc e⟩) (λb xs e=>by rw[zN (tr e)];exact e) (λb o u e=>by rw[zN (tr e)];exact e) (λb ps e=>⟨#[],by rw[zN (tr e),e];simp⟩) (λm hm=>?_) (λb u e=>?_) I.bare
 ·obtain⟨o,es,ep,ho,r⟩:=hm;exact⟨o,es,ep,kp _ o (λz=>(hch _ z).2.1 rfl) ho,r⟩
 ·by_cases hb:b=T
  ·subst hb;rw[zQ] at e;cases e;exact⟨hz,its,hv,ht⟩
  ·rw[zN hb] at e;refine(I.hok b u e).stay (λc v hc q=>kp c v ?_ q) (λc q=>by rw[zN (tr q)];exact q) (λc xs q=>by rw[zN (tr q)];exact q) λc o u q=>by rw[zN (tr q)];exact q
   rcases hc with z|z
   ·rw[z];exact trc e
   ·exact trc z
theorem nY{ch:List Addr}(I:Inv X pZ σ H s)(hch:∀b∈ch,o8 X pZ H b)(kp:∀b o,b∉ch->s.heap.get? b=some o->h'.get? b=some o):Inv X pZ σ H { s with heap:=h',toks:=t' }:=by
 have trc:∀{b:Addr} {u:HO},H b=some u->b∉ch:=λ{b u} e z=>by rw[(hch b z).1] at e;cases e
 refine I.step (g':=s.gens) (d':=s.drawn) (ch:=ch) (λb hb=>⟨(hch b hb).2.2.2.1,(hch b hb).2.1,(hch b hb).2.2.2.2.1,(hch b hb).2.2.2.2.2⟩) (λb o _ _ hc e _=>kp b o hc e) (λb o _ _ hc e _=>⟨o.slots,kp b o hc e⟩)
  (λb o _ e n=>n) (λb o hc e=>⟨o,kp b o hc e⟩) (λb xs e=>e) (λb o u e=>e) (λb ps e=>⟨#[],by rw[e];simp⟩) (λm hm=>?_) (λb u e=>?_) I.bare
 ·obtain⟨o,es,ep,ho,r⟩:=hm;exact⟨o,es,ep,kp _ o (λz=>(hch _ z).2.1 rfl) ho,r⟩
 ·refine(I.hok b u e).stay (λc v hc q=>kp c v ?_ q) (λ_ q=>q) (λ_ _ q=>q) λ_ _ _ q=>q
  rcases hc with z|z
  ·rw[z];exact trc e
  ·exact trc z
theorem W9{h:Heap}{a b:Addr}{o o':Obj}{n m:String}(e:h.get? a=some o)(c:o.cls=.type n)(e':h.get? b=some o')(c':o'.cls=.type m)(d:n≠m):a≠b:=by
 rintro rfl;rw[e] at e';cases e';rw[c] at c';injection c' with q;exact d q
noncomputable def ItE(K:Fg)(a:Addr):It:=
 ⟨λi H=>∃xs x,SqL K H a xs/\xs[i]?=some x,λi H x H'=>∃T y,x=.ref T/\H T=none/\H'=upd H T (.tup [.int i,y])/\∀xs,SqL K H a xs->xs[i]?=some y,λi H=>∃xs,SqL K H a xs/\xs.length=i⟩
theorem XC{P:Program}{w:World}{K:Fg}{elts:List Expr}{k:Nat}{tp:Pos}(a e it:Addr)(hei:e≠it):Turn P w K (.Tuple elts k tp) (ItE K a) [e,it] e (λi h=>(∃old,IsEnum h e it i old)/\h.IsListIter it a i) where
 mem:=by simp
 obj:=λi h st b hb=>by
  obtain⟨⟨old,h1⟩,o,h2,h3,h4⟩:=st;have hb':b=e\/b=it:=by simpa using hb
  rcases hb' with rfl|rfl
  ·exact⟨_,h1,λv z=>by cases z⟩
  ·exact⟨o,h2,λv z=>by rw[h4] at z;cases z⟩
 keep:=λi h g st kp=>⟨let ⟨old,h1⟩:=st.1;⟨old,kp e (by simp) _ h1⟩,st.2.at λo q=>kp it (by simp) o q⟩
 item:=by
  intro X hP hw hK hc i pZ s σ H E I hf st hg;subst hP hw hK;obtain⟨xs,x,hq,hx⟩:=hg;obtain⟨its,rv,p,hz⟩:=I.list hq;obtain⟨u,hu,ru⟩:=rv.get hx;obtain⟨oa,na,ea,ca,_⟩:=id p;obtain⟨⟨old,h1⟩,oi,h2,h3,h4⟩:=id st;have hae:a≠e:=W9 ea ca h1 rfl (by decide);have hai:a≠it:=W9 ea ca h2 h3 (by decide);have W:=WalksT.enumerate (prog:=X.prog) (w:=X.w) (A:=X.A) (I.ok.hd hc) e it a hei hae hai its.toArray;have hi:i<its.toArray.size:=by
   obtain⟨q,_⟩:=ar.mp hu;simpa using q
  refine W.item i s _ _ hi ⟨st.1,st.2,p.isList⟩ λT vals g tk pt hT isT mid kp=>⟨_,rfl,W.go elts k tp i T _ _ _ mid λg2 st2 kp2=>?_⟩
  obtain⟨t,y,hy,rfl⟩:=pt;have hy':y=u:=by
   have:its[i]?=some y:=by simpa using hy
   rw[hu] at this;exact(bg this).symm
  subst hy';have isT2:IsTup g2 T #[.int i t,y]:=by
   obtain⟨o,q1,q2⟩:=isT;exact⟨o,kp2 T o (W.apart i T _ mid) q1,q2⟩
  refine⟨.ref T,upd H T (.tup [.int i,x]),ZX (s:=s) (t':=tk) I (its:=[.int i t,y]) (ch:=[e,it]) hf hT (λb o hb q=>kp2 b o hb (kp b o hb q)) (by show 2<=af;decide) (.cons ⟨t,rfl⟩ (.cons ru .nil)) isT2,rfl,⟨T,x,rfl,I.hok.fresh hT,rfl,λys hys=>by rw[I.list_inj hys hq];exact hx⟩,⟨st2.1,st2.2.1⟩,λb hb=>?_⟩;have hbT:b≠T:=by
   have hb':b=e\/b=it:=by simpa using hb
   rcases hb' with rfl|rfl
   ·exact be (bb (am h1) hT)
   ·exact be (bb (am h2) hT)
  rw[zN hbT];exact(hf b hb).1
 done:=by
  intro X hP hw hK hc i pZ s σ H E I hf st hg;subst hP hw hK;obtain⟨xs,hq,hx⟩:=hg;obtain⟨its,rv,p,hz⟩:=I.list hq;obtain⟨oa,na,ea,ca,_⟩:=id p;obtain⟨⟨old,h1⟩,oi,h2,h3,h4⟩:=id st;have hae:a≠e:=W9 ea ca h1 rfl (by decide);have hai:a≠it:=W9 ea ca h2 h3 (by decide);have W:=WalksT.enumerate (prog:=X.prog) (w:=X.w) (A:=X.A) (I.ok.hd hc) e it a hei hae hai its.toArray;have hl:its.toArray.size=i:=by rw[ak,<-rv.length];exact hx
  exact W.done s _ _ (by rw[hl];exact⟨st.1,st.2,p.isList⟩) λg tk kp=>⟨rfl,nY I hf kp⟩
 self:=λ_ _ _ _ _ st h=>let ⟨⟨_,h1⟩,_⟩:=st;wpAny_pyIter_enum h1 h
noncomputable def ItZ(sq:Hp->Addr->List V->Prop)(a b:Addr):It:=
 ⟨λi H=>∃xs ys x y,sq H a xs/\sq H b ys/\xs[i]?=some x/\ys[i]?=some y,λi H x H'=>∃T u v,x=.ref T/\H T=none/\H'=upd H T (.tup [u,v])/\(∀xs,sq H a xs->xs[i]?=some u)/\∀ys,sq H b ys->ys[i]?=some v,λi H=>∃xs ys,sq H a xs/\sq H b ys/\(xs.length=i\/(i<xs.length/\ys.length=i))⟩
theorem zM5(I:Inv X pZ σ H s)(h:X.K.lookup a=some o)(f:o8 X pZ H b):a≠b:=by
 rintro rfl;have e:=I.ok.mod.kin a o h;rcases f.2.2.2.1 with z|z
 ·exact I.ok.noex a o e z
 ·exact absurd (bb (bb (am e) I.ok.bsz) z) (io _)
theorem zM4(h:Rd H a u)(f:o8 X pZ H b):a≠b:=by
 rintro rfl;obtain⟨o,e⟩:=Rd.some h;rw[f.1] at e;cases e
structure Dw(K:Fg)(sq:Hp->Addr->List V->Prop)(isI:Heap->Addr->Addr->Nat->Prop)(nm:String):Prop where
 get:∀{X:Cx} {pZ σ H s a xs},X.K=K->Inv X pZ σ H s->sq H a xs->∃its:List Value,Vals xs its/\xs.length<=af/\∃o,s.heap.get? a=some o/\o.cls=.type nm/\∃n,o.data=.seq its.toArray n
 inj:∀{X:Cx} {pZ σ H s a xs ys},X.K=K->Inv X pZ σ H s->sq H a xs->sq H a ys->xs=ys
 ne:∀{X:Cx} {pZ σ H s a xs b},X.K=K->Inv X pZ σ H s->sq H a xs->o8 X pZ H b->a≠b
 it:∀{h i a k},isI h i a k->∃o,h.get? i=some o/\∃vs,o.data=.fields vs
 at_:∀{h h':Heap} {i a k},isI h i a k->(∀o,h.get? i=some o->h'.get? i=some o)->isI h' i a k
 dr:∀{prog w A} (_:A.handled=none) (i a:Addr) (_:a≠i) (ys:Array Value),Draws prog w A i [i,a] ys.size (λk v=>ys[k]?=some v) (λk h=>isI h i a k/\∃o,h.get? a=some o/\o.cls=.type nm/\∃n,o.data=.seq ys n)
theorem dw_list(K:Fg):Dw K (SqL K) Heap.IsListIter "list" where
 get:=λ{X pZ σ H s a xs} hK I h=>by
  subst hK;obtain⟨its,r,⟨o,n,e,c,_,d⟩,z⟩:=I.list h;exact⟨its,r,z,o,e,c,n,d⟩
 inj:=λ{X pZ σ H s a xs ys} hK I h g=>by subst hK;exact I.list_inj h g
 ne:=λ{X pZ σ H s a xs b} hK I h f=>by
  subst hK;rcases h with h|⟨o,_,_,hk,_⟩
  ·exact zM4 h f
  ·exact zM5 I hk f
 it:=λ{h i a k} ⟨o,e,c,d⟩=>⟨o,e,_,d⟩
 at_:=λh k=>h.at k
 dr:=λhh i a ne ys=>Draws.list hh i a ne ys
theorem zLW(K:Fg):Dw K (SqT K) Heap.IsTupleIter "tuple" where
 get:=λ{X pZ σ H s a xs} hK I h=>by
  subst hK;obtain⟨its,r,⟨o,e,c,n,d⟩,z⟩:=I.tuple h;exact⟨its,r,z,o,e,c,n,d⟩
 inj:=λ{X pZ σ H s a xs ys} hK I h g=>by subst hK;exact I.tuple_inj h g
 ne:=λ{X pZ σ H s a xs b} hK I h f=>by
  subst hK;rcases h with h|⟨o,_,_,hk,_⟩
  ·exact zM4 h f
  ·exact zM5 I hk f
 it:=λ{h i a k} ⟨o,e,c,d⟩=>⟨o,e,_,d⟩
 at_:=λh k=>h.at k
 dr:=λhh i a ne ys=>ZZ.drawsT hh i a ne ys
structure ZA(z p q i j:Addr):Prop where
 pz:p≠z
 qz:q≠z
 iz:i≠z
 jz:j≠z
 pq:p≠q
 pi:p≠i
 pj:p≠j
 qi:q≠i
 qj:q≠j
 ij:i≠j
theorem zAQ{K:Fg}(W:Dw K sq isI nm)(a b z p q i j:Addr)(ap:ZA z p q i j):Turn P w K (.Tuple elts k tp) (ItZ sq a b) [z,p,q,i,j] z (λn h=>IsZip h z p q .none/\IsPair h p (.ref i) (.ref j)/\(∃u v,IsPair h q u v)/\isI h i a n/\isI h j b n) where
 mem:=by simp
 obj:=λn h st c hc=>by
  obtain⟨h1,h2,⟨u,v,h3⟩,h4,h5⟩:=st;obtain⟨oi,ei,vi,di⟩:=W.it h4;obtain⟨oj,ej,vj,dj⟩:=W.it h5;have hc':c=z\/c=p\/c=q\/c=i\/c=j:=by simpa using hc
  rcases hc' with rfl|rfl|rfl|rfl|rfl
  ·exact⟨_,h1,λv z=>by cases z⟩
  ·exact⟨_,h2,λv z=>by cases z⟩
  ·exact⟨_,h3,λv z=>by cases z⟩
  ·exact⟨_,ei,λv z=>by rw[di] at z;cases z⟩
  ·exact⟨_,ej,λv z=>by rw[dj] at z;cases z⟩
 keep:=λn h g st kp=>by
  obtain⟨h1,h2,⟨u,v,h3⟩,h4,h5⟩:=st;exact⟨kp z (by simp) _ h1,kp p (by simp) _ h2,⟨u,v,kp q (by simp) _ h3⟩,W.at_ h4 λo e=>kp i (by simp) o e,W.at_ h5 λo e=>kp j (by simp) o e⟩
 item:=by
  intro X hP hw hK hc n pZ s σ H E I hf st hg;subst hP hw;obtain⟨xs,ys,x,y,hx,hy,ex,ey⟩:=hg;obtain⟨its,rv,hzx,oa,ea,ca,na,da⟩:=W.get hK I hx;obtain⟨its2,rv2,hzy,ob,eb,cb,nb,db⟩:=W.get hK I hy;obtain⟨u,hu,ru⟩:=rv.get ex;obtain⟨v,hv,rw'⟩:=rv2.get ey;obtain⟨h1,h2,⟨u0,v0,h3⟩,h4,h5⟩:=st;have fa:∀c∈[z,p,q,i,j],a≠c:=λc hc=>W.ne hK I hx (hf c hc)
  have fb:∀c∈[z,p,q,i,j],b≠c:=λc hc=>W.ne hK I hy (hf c hc)
  have hn:n<its.toArray.size:=by obtain⟨q',_⟩:=ar.mp hu;simpa using q'
  have hm:n<its2.toArray.size:=by obtain⟨q',_⟩:=ar.mp hv;simpa using q'
  have ap':ZZ.Ap z p q i j [i,a] [j,b]:=⟨ap.pz,ap.qz,ap.iz,ap.jz,ap.pq,ap.pi,ap.pj,ap.qi,ap.qj,ap.ij,
   by simp;exact⟨ap.iz.symm,(fa z (by simp)).symm⟩,by simp;exact⟨ap.qi,(fa q (by simp)).symm⟩,by simp;exact⟨ap.ij.symm,(fa j (by simp)).symm⟩,by simp;exact⟨ap.jz.symm,(fb z (by simp)).symm⟩,by simp;exact⟨ap.qj,(fb q (by simp)).symm⟩,by simp;exact⟨ap.ij,(fb i (by simp)).symm⟩⟩
  refine ZZ.znextI (W.dr (A:=X.A.in1) (I.ok.hd hc) i a (fa i (by simp)) its.toArray) (W.dr (A:=X.A.in1) (I.ok.hd hc) j b (fb j (by simp)) its2.toArray) ap' h1 h2 h3 ⟨h4,oa,ea,ca,na,da⟩ ⟨h5,ob,eb,cb,nb,db⟩ hn hm λx' y' g tk px py z1 q1 s1 u1 t1 sz kp=>⟨_,rfl,?_⟩
  refine wpAny_letOwnedTupleGo_zip z1 λg2 z2 sb=>?_
  have hx':x'=u:=by
   have:its[n]?=some x':=by simpa using px
   rw[hu] at this;exact(bg this).symm
  have hy':y'=v:=by
   have:its2[n]?=some y':=by simpa using py
   rw[hv] at this;exact(bg this).symm
  subst hx' hy';have zl:z<s.heap.objs.size:=am h1;have kp2:∀c o,c∉[z,q,i,j]->s.heap.get? c=some o->g2.get? c=some o:=λc o hc e=>by
   simp at hc;exact sb.extBut _ _ hc.1 (kp c o hc.1 hc.2.1 hc.2.2.1 hc.2.2.2 e)
  have isT:IsTup g2 s.heap.objs.size #[x',y']:=⟨_,sb.extBut _ _ (ge zl) t1,rfl,_,rfl⟩;have hf':∀c∈[z,q,i,j],o8 X pZ H c:=λc hc=>hf c (by simp at hc ⊢;rcases hc with h|h|h|h<;>simp[h])
  refine⟨.ref s.heap.objs.size,upd H s.heap.objs.size (.tup [x,y]),ZX (s:=s) (t':=tk) I (its:=[x',y']) (ch:=[z,q,i,j]) hf' (ah _) kp2 (by show 2<=af;decide) (.cons ru (.cons rw' .nil)) isT,rfl,⟨_,x,y,rfl,I.hok.fresh (ah _),rfl,λzs hzs=>by rw[W.inj hK I hzs hx];exact ex,λzs hzs=>by rw[W.inj hK I hzs hy];exact ey⟩,?_,λc hc=>?_⟩
  ·refine⟨z2,sb.extBut _ _ ap.pz (kp p _ ap.pz ap.pq ap.pi ap.pj h2),⟨_,_,sb.extBut _ _ ap.qz q1⟩,W.at_ s1.1 λo e=>sb.extBut _ _ ap.iz e,W.at_ u1.1 λo e=>sb.extBut _ _ ap.jz e⟩
  ·have hlt:c<s.heap.objs.size:=by
    obtain⟨oi,ei,_⟩:=W.it h4;obtain⟨oj,ej,_⟩:=W.it h5;simp at hc;rcases hc with rfl|rfl|rfl|rfl|rfl
    ·exact zl
    ·exact am h2
    ·exact am h3
    ·exact am ei
    ·exact am ej
   rw[zN (be hlt)];exact(hf c hc).1
 done:=by
  intro X hP hw hK hc n pZ s σ H E I hf st hg;subst hP hw;obtain⟨xs,ys,hx,hy,hl⟩:=hg;obtain⟨its,rv,hzx,oa,ea,ca,na,da⟩:=W.get hK I hx;obtain⟨its2,rv2,hzy,ob,eb,cb,nb,db⟩:=W.get hK I hy;obtain⟨h1,h2,⟨u0,v0,h3⟩,h4,h5⟩:=st;have fa:∀c∈[z,p,q,i,j],a≠c:=λc hc=>W.ne hK I hx (hf c hc)
  have fb:∀c∈[z,p,q,i,j],b≠c:=λc hc=>W.ne hK I hy (hf c hc)
  have e1:=rv.length;have e2:=rv2.length;have ap':ZZ.Ap z p q i j [i,a] [j,b]:=⟨ap.pz,ap.qz,ap.iz,ap.jz,ap.pq,ap.pi,ap.pj,ap.qi,ap.qj,ap.ij,
   by simp;exact⟨ap.iz.symm,(fa z (by simp)).symm⟩,by simp;exact⟨ap.qi,(fa q (by simp)).symm⟩,by simp;exact⟨ap.ij.symm,(fa j (by simp)).symm⟩,by simp;exact⟨ap.jz.symm,(fb z (by simp)).symm⟩,by simp;exact⟨ap.qj,(fb q (by simp)).symm⟩,by simp;exact⟨ap.ij,(fb i (by simp)).symm⟩⟩
  have hf':∀c∈[z,q,i,j],o8 X pZ H c:=λc hc=>hf c (by simp at hc ⊢;rcases hc with h|h|h|h<;>simp[h])
  refine ZZ.znextE (W.dr (A:=X.A.in1) (I.ok.hd hc) i a (fa i (by simp)) its.toArray) (W.dr (A:=X.A.in1) (I.ok.hd hc) j b (fb j (by simp)) its2.toArray) ap' h1 h2 h3 ⟨h4,oa,ea,ca,na,da⟩ ⟨h5,ob,eb,cb,nb,db⟩ ?_ λg tk kp=>⟨rfl,nY I hf' λc o hc e=>?_⟩
  ·simp only[ak];rcases hl with h|⟨h,h'⟩
   ·left;omega
   ·right;omega
  ·simp at hc;exact kp c o hc.1 hc.2.1 hc.2.2.1 hc.2.2.2 e
 self:=λ_ _ _ _ _ st h=>se st.1 h
section
variable{X:Cx}{pos:Pos}{a b c:Expr}{f g h:ME}
theorem zL4(ha:DE X a f):DE X (.UnaryOp .USub a pos) (mUn zKZ f):=zO5 zEH (λO H dx d vx Q i e q=>by
 cases dx<;>first|(simp only[zKZ,reduceCtorEq] at e;done)|skip
 simp only[zKZ,eh] at e;subst e;rw[Is.int_iff] at i;exact⟨_,i,q _ (by rw[Is.int_iff])⟩) ha
noncomputable def zOR(fs:ML):ME:=λr=>(fs r).bind λl=>match l with
 |[.int i,.int j]=>some (.int (if j > i then j else i))
 |[.int i,.int j,.int k]=>some (.int (if j > i then (if k > j then k else j) else (if k > i then k else i)))
 |_=>none
theorem QD(hc:X.calm=true):CallR X (.builtin "max") (λxs H Q=>∃i j k,xs=[.int i,.int j,.int k]/\Q (.int (if j > i then (if k > j then k else j) else (if k > i then k else i))) H):=by
 intro pZ s σ H xs us Q I r hq;obtain⟨i,j,k,rfl,q⟩:=hq;cases r with
 |cons r1 r=>
  obtain⟨u2,u3,rfl,⟨t2,rfl⟩,⟨t3,rfl⟩⟩:=Vals.two r;obtain⟨t1,rfl⟩:=r1;refine max_three_ints (I.ok.hd hc) λh' tk kp=>⟨_,H,I.kept kp,?_,q⟩
  split<;>split<;>exact⟨_,rfl⟩
theorem zL5(hc:X.calm=true)(hg:Gl X "max")(hm:X.mg "max" = none)(ha:DA X (a::es) fs)(hs:ae (a::es) X.env=(false,eval a X.env)::ae es X.env:=by rfl)(hpl:(dl pos (ae es X.env)).any (·.1)=false:=by rfl):DE X (.Call (.Name "max" p') (a::es) [] pos) (zOR fs):=by
 refine PE.conseq (j5 ((QE hc).or (QD hc)) hg hm PyProof.Rows.boot_max ha (he:=hs) (hpl:=hpl)) λσ H Q hq=>?_
 obtain⟨O0,r,d,hR,e,q⟩:=hq;obtain⟨l,e1,e2⟩:=bnS e;refine⟨O0,r,l,hR,e1,λvs H1 s1 il=>?_⟩;split at e2
 ·cases e2;obtain⟨v,u,rfl,i1,i2⟩:=il.inv2;rw[Is.int_iff] at i1 i2;exact .inl ⟨_,_,by rw[i1,i2],q _ H1 s1 (by rw[Is.int_iff])⟩
 ·cases e2;obtain⟨v,u,w,rfl,i1,i2,i3⟩:=il.inv3;rw[Is.int_iff] at i1 i2 i3;exact .inr ⟨_,_,_,by rw[i1,i2,i3],q _ H1 s1 (by rw[Is.int_iff])⟩
 ·cases e2
noncomputable def gM(fl:ML):ME:=λr=>(fl r).map .tup
theorem dS(hg:Gl X "tuple")(hm:X.mg "tuple" = none)(ha:DB X a fl)(hs:ae [a] X.env=(false,eval a X.env)::ae [] X.env:=by rfl):DE X (.Call (.Name "tuple" p') [a] [] pos) (gM fl):=by
 refine PE.conseq (v5 cN hg hm ur (yC ha xF hs) (he:=hs)) λσ H Q hq=>?_
 obtain⟨O0,r,d,hR,e,q⟩:=hq;obtain⟨l,e1,rfl⟩:=mpS e;refine⟨O0,r,l,hR,e1,λp xs H1 s1 sq il=>⟨p,xs,rfl,.inl ⟨sq,λt ht=>q _ _ (s1.trans (yA ht)) ?_⟩⟩⟩;rw[Is.tup_iff];exact⟨t,xs,rfl,SqT.of zQ,il.same (yA ht) (hR.same s1).ol⟩
theorem zL6(h:DF X a fl):DB X a fl:=by
 refine PE.conseq h λσ H Q hq=>?_
 obtain⟨O0,r,l,hR,e,q⟩:=hq;refine⟨O0,r,l,hR,e,λp xs H1 s1 n1 e1 il=>q p xs H1 s1 (SqL.of e1) ?_⟩;have ol:jN (λb=>Ow O0 r σ b\/b=p) H1:=λb z=>z.elim (λz=>(hR.same s1).ol b z) λz=>by subst z;exact⟨.lst xs,e1,trivial⟩
 exact IsL.mono (Same.kp (Same.refl H1) _) ol (λa z _=>.inl z) l xs il
end
noncomputable def zIW(f:ME)(bd:D->En->Option En):MS:=λr=>(f r).bind λd=>(bd d r).map .nx
theorem zCU(he:DE X e f)(hg:DG X tg bd)(hs:swapsWithSole [tg] e pos.line X.env=pure false:=by rfl)(hw:swappedStores [tg] e X.env=pure none:=by rfl)(h1:(ib [tg] X.env).map (·.2)=[assign tg X.env]:=by rfl):DS X (.Assign [tg] e pos) (zIW f bd):=by
 refine PS.conseq (zFG he hg hs hw h1) λDn σ H hq=>?_
 obtain⟨O0,r,fl,hR,e,q⟩:=hq;obtain⟨d,e1,e2⟩:=bnS e;obtain⟨r',e3,rfl⟩:=mpS e2;refine⟨O0,r,d,hR,e1,λv H1 s1 i1=>⟨O0,r,d,r',hR.same s1,i1,e3,λσ' R' k'=>q σ' H1 R' ((Kp.of_same r σ s1).trans k')⟩⟩
open PySem PySem.Spec PyProof.Rows L2 PySem.StrLaws
noncomputable def rS(xs:List α)(lo hi:Option Int):List α:=(xs.drop (HT.sIx xs.length 0 lo)).take (HT.sIx xs.length xs.length hi-HT.sIx xs.length 0 lo)
theorem tS(n d:Nat)(hd:d<=n)(o:Option Int):HT.sIx n d o<=n:=HT.sIx_le n d hd o
theorem mT(lo hi:Option Int)(n:Nat):Builtin.Str.strSliceIndices lo hi 1 n=Builtin.Str.strSliceIndices (some ((HT.sIx n 0 lo:Nat):Int)) (some ((HT.sIx n n hi:Nat):Int)) 1 n:=by
 have key:∀(v:Option Int) (d:Nat),d<=n->(match v with|none=>(d:Int)|some i=>max 0 (min (if i<0 then i+(n:Int) else i) (n:Int)))=max 0 (min (if ((HT.sIx n d v:Nat):Int)<0 then ((HT.sIx n d v:Nat):Int)+(n:Int) else ((HT.sIx n d v:Nat):Int)) (n:Int)):=by
  intro v d hd;have hle:=tS n d hd v;have h0:¬(((HT.sIx n d v:Nat):Int)<0):=by omega
  rw[if_neg h0];cases v with
  |none=>
   have e:HT.sIx n d none=d:=rfl;rw[e];show(d:Int)=_;omega
  |some i=>
   have e:HT.sIx n d (some i)=if i<0 then (i+(n:Int)).toNat else min i.toNat n:=rfl
   show max 0 (min (if i<0 then i+(n:Int) else i) (n:Int))=_;rw[e] at hle ⊢
   split<;>split at hle<;>omega
 have e1:(1:Int) > 0:=by omega
 unfold PySem.Builtin.Str.strSliceIndices;simp only[e1,if_true];have k1:=key lo 0 (ck _);have k2:=key hi n (ah _);cases lo<;>cases hi<;>simp only at k1 k2 ⊢<;>rw[<-k1,<-k2]<;>rfl
theorem vV(x:Str)(lo hi:Option Int):sliceText x lo hi=⟨(rS x.cps.toList lo hi).toArray⟩:=by
 have hl:x.cps.toList.length=x.length:=by simp[Str.length]
 unfold rS;rw[hl];have ha:=tS x.length 0 (ck _) lo;have hb:=tS x.length x.length (ah _) hi;have e:sliceText x lo hi=sliceText x (some ((HT.sIx x.length 0 lo:Nat):Int)) (some ((HT.sIx x.length x.length hi:Nat):Int)):=by
  unfold sliceText;rw[mT lo hi x.length]
 rw[e];by_cases hab:HT.sIx x.length 0 lo<=HT.sIx x.length x.length hi
 ·exact sliceText_nat x hab hb
 ·have z:HT.sIx x.length x.length hi-HT.sIx x.length 0 lo=0:=by omega
  rw[z,List.take_zero];have em:Builtin.Str.strSliceIndices (some ((HT.sIx x.length 0 lo:Nat):Int)) (some ((HT.sIx x.length x.length hi:Nat):Int)) 1 x.length=[]:=by
   have e1:(1:Int) > 0:=by omega
   unfold PySem.Builtin.Str.strSliceIndices;simp only[e1,if_true];have h0:¬(((HT.sIx x.length 0 lo:Nat):Int)<0):=by omega
   have h1:¬(((HT.sIx x.length x.length hi:Nat):Int)<0):=by omega
   rw[if_neg h0,if_neg h1];unfold PySem.sliceRange;simp only[e1,if_true];split
   ·omega
   ·rfl
  unfold sliceText;rw[em];split
  ·rename_i q;have q':x.length=0:=by
                  have:0=x.length:=by simpa using q
                  exact this.symm
   apply Str.ext'
   have:x.cps.size=0:=q'
   exact Array.eq_empty_of_size_eq_zero this
  ·rfl
def zP7:V->Option Int->Option Int->Hp->VK->Prop:=λx lo hi H Q=>∃z,x=.str z/\z.length<=af/\Q (.str ⟨(rS z.cps.toList lo hi).toArray⟩) H
theorem zC2(xs:List α)(lo hi:Option Int):(rS xs lo hi).length<=xs.length:=by
 unfold rS;rw[ir,jh];omega
theorem mU:SlR X zP7:=by
 intro pZ s σ H x v vl vu lo hi sl Q I rx hs pl pu hq;obtain⟨z,rfl,hz,q⟩:=hq;obtain⟨t,rfl⟩:=rx;refine⟨"str",_,PySem.F.slot_str_getitem.lookup,typeIs_str _ _ _,?_⟩;have main:∀(l u:Option (Int×Tok)),l.map (·.1)=lo->u.map (·.1)=hi->s.heap.IsSlice sl l u none->wpAny (model X.prog X.w) X.A (getItem (.str z t) (.ref sl)) (EP X pZ σ Q) X.xe s:=by
  intro l u hl hu hsl;refine wpAny_getItem_str_slice hsl rfl ?_;have e:∀t' k,EP X pZ σ Q (.str (sliceText z lo hi) t') { s with toks:=k }:=λt' k=>⟨.str _,H,I.tok k,⟨t',rfl⟩,by rw[vV];exact q⟩
  have hle:(sliceText z lo hi).length<=af:=by
   rw[vV,kA]
   have:=zC2 z.cps.toList lo hi
   have h2:z.cps.toList.length=z.length:=by simp[Str.length]
   omega
  unfold sliceMade slicePicked;rw[hl,hu];exact post_val_or_str ⟨hle,e⟩
 obtain⟨o,h1,h2,h3⟩:=hs;cases pl with
 |none=>cases pu with
  |none=>exact main none none rfl rfl ⟨o,h1,h2,h3⟩
  |int j tj=>exact main none (some (j,tj)) rfl rfl ⟨o,h1,h2,h3⟩
 |int i ti=>cases pu with
  |none=>exact main (some (i,ti)) none rfl rfl ⟨o,h1,h2,h3⟩
  |int j tj=>exact main (some (i,ti)) (some (j,tj)) rfl rfl ⟨o,h1,h2,h3⟩
noncomputable abbrev MO:=En->Option (Option Int)
noncomputable def ZJ:MO:=λ_=>some none
noncomputable def jZ(f:ME):MO:=λr=>(f r).bind λd=>(intD d).map some
noncomputable def lO(K:Fg)(f:MO):TO:=λσ H Q=>∃O0 r o,R K O0 H r σ/\f r=some o/\∀H',Same H H'->Q o H'
def DO(X:Cx)(e:Option Expr)(f:MO):Prop:=PO X e (lO X.K f)
theorem PO.conseq(h:PO X e t)(i:∀σ H Q,t' σ H Q->t σ H Q):PO X e t':=λpZ s σ H Q I q=>h pZ s σ H Q I (i σ H Q q)
theorem oH:DO X none ZJ:=PO.conseq zFK λσ H Q ⟨O0,r,o,hR,e,q⟩=>by
 unfold ZJ at e;cases e;exact q H (Same.refl H)
theorem vD(ha:DE X a f):DO X (some a) (jZ f):=PO.conseq (zFJ ha) λσ H Q ⟨O0,r,o,hR,e,q⟩=>by
 obtain⟨d,e1,e2⟩:=bnS e;obtain⟨i,e3,rfl⟩:=mpS e2;cases cE e3;exact⟨O0,r,_,hR,e1,λv H1 s1 i1=>⟨i,by rw[Is.int_iff] at i1;exact i1,q H1 s1⟩⟩
noncomputable def slD(d:D)(lo hi:Option Int):Option D:=match d with
 |.lst l=>some (.lst (rS l lo hi))
 |.tup l=>if HT.sIx l.length 0 lo=0/\HT.sIx l.length l.length hi=l.length then none else some (.tup (rS l lo hi))
 |.str s=>if s.length<=af then some (.str (rS s lo hi)) else none
 |_=>none
noncomputable def mSl(f:ME)(lo hi:MO):ME:=λr=>(f r).bind λd=>(lo r).bind λi=>(hi r).bind λj=>slD d i j
def zRA(K:Fg):V->Option Int->Option Int->Hp->VK->Prop:=λx lo hi H Q=>zP8 K x lo hi H Q\/zP6 K x lo hi H Q\/zP7 x lo hi H Q
theorem IsL.cut{K:Fg}(h:IsL K O H l xs)(lo hi:Option Int):IsL K O H (rS l lo hi) (zJL xs lo hi):=by
 unfold rS zJL;rw[h.length];exact(h.drop _).take _
theorem J3{lo:Option Expr}(ha:DE X a f)(hl:DO X lo fl)(hh:DO X hi fh):DE X (.Subscript a (.Slice lo hi none p2) pos) (mSl f fl fh):=by
 refine PE.conseq (zBF (r:=zRA X.K) (sl_list.or (sl_tup.or mU)) ha hl hh) λσ H Q hq=>?_
 obtain⟨O0,r,d,hR,e,q⟩:=hq;obtain⟨x,e1,e⟩:=bnS e;obtain⟨i,e2,e⟩:=bnS e;obtain⟨j,e3,e⟩:=bnS e;refine⟨O0,r,x,hR,e1,λv H1 s1 i1=>⟨O0,r,i,hR.same s1,e2,λH2 s2=>⟨O0,r,j,hR.same (s1.trans s2),e3,λH3 s3=>?_⟩⟩⟩;have s13:=(s1.trans s2).trans s3;have R3:=hR.same s13;have i3:=i1.same (s2.trans s3) (hR.same s1).ol;cases x<;>first|(simp only[slD,reduceCtorEq] at e;done)|skip
 ·simp only[slD] at e;split at e
  ·rename_i hl';cases e;rw[Is.str_iff] at i3;refine .inr (.inr ⟨_,i3,by rw[kA];exact hl',q _ H3 s13 (by rw[Is.str_iff])⟩)
  ·cases e
 ·simp only[slD] at e;split at e
  ·cases e
  ·rename_i hw;cases e;rw[Is.tup_iff] at i3;obtain⟨p,xs,rfl,hs,il⟩:=i3;refine .inr (.inl ⟨p,xs,rfl,hs,by rw[<-il.length];exact hw,λt ht=>q _ _ (s13.trans (yA ht)) ?_⟩);rw[Is.tup_iff];exact⟨t,_,rfl,SqT.of zQ,(il.cut i j).same (yA ht) R3.ol⟩
 ·simp only[slD,eh] at e;subst e;rw[Is.lst_iff] at i3;obtain⟨p,xs,rfl,hs,il⟩:=i3;refine .inl ⟨p,xs,rfl,hs.sq,λt ht=>q _ _ (s13.trans (yA ht)) ?_⟩;rw[Is.lst_iff];exact⟨t,_,rfl,.inl ⟨R3.nofresh ht,.inl zQ⟩,(il.cut i j).same (yA ht) R3.ol⟩
open PySem PySem.Spec PyProof.Rows L2 PySem.StrLaws
theorem zKC(n:Nat):Builtin.Slice.sliceAdjust none none (-1) (n:Int)=((n:Int)-1,-1):=by
 unfold Builtin.Slice.sliceAdjust;simp
theorem zKA(n:Nat):Builtin.Slice.slicePlaces ((n:Int)-1) (-1) (-1)=n:=by
 unfold Builtin.Slice.slicePlaces;have h1:¬((-1:Int) > 0):=by omega
 simp only[h1,if_false];split
 ·have : -(-1:Int)=1:=by omega
  rw[this,Int.ediv_one];omega
 ·omega
theorem zKB{sl:Addr}{t:Tok}{n:Nat}{Q:Int×Int×Nat->Shared->Prop}(hs:s.heap.IsSliceOf sl .none .none (.int (-1) t))(h:Q ((n:Int)-1,-1,n) s):wpAny (model prog w) A (Builtin.Slice.sliceApplied (.ref sl) (pure (n:Int))) Q E s:=by
 obtain⟨os,ho,hc,hd⟩:=id hs;unfold Builtin.Slice.sliceApplied Builtin.Slice.sliceFields;refine ac (ac (bu ho hd (x:=.none) rfl (ac (bu ho hd (x:=.none) rfl (ac (bu ho hd (x:=.int (-1) t) rfl (ag (?_))))))));refine ac (slicePart_int (?_));show wpAny _ _ (if ((-1:Int) == 0)=true then _ else _) _ _ s;rw[if_neg (by decide)];refine ac (qm (ac (qm (ac (ag (?_))))));show wpAny _ _ (match Builtin.Slice.sliceAdjust none none (-1) (n:Int) with|(lo,hi)=>pure (lo,(-1:Int),Builtin.Slice.slicePlaces lo hi (-1))) _ _ s;rw[zKC n];show wpAny _ _ (pure ((n:Int)-1,(-1:Int),Builtin.Slice.slicePlaces ((n:Int)-1) (-1) (-1))) _ _ s;rw[zKA];exact ag h
theorem zHH:∀(l:List α),(∀m∈l,F m=some (G m))->l.filterMap F=l.map G
 |[],_=>rfl
 |a::l,h=>by
  rw[gs,h a jk,aq,zHH l λm hm=>h m (bx _ hm)]
theorem zA6(xs:Array Value):((List.range xs.size).filterMap λ(m:Nat)=>xs[((xs.size:Int)-1+(m:Int)*(-1)).toNat]?).toArray=xs.toList.reverse.toArray:=by
 congr 1
 apply List.ext_getElem?;intro k;have e:∀m,m<xs.size->xs[((xs.size:Int)-1+(m:Int)*(-1)).toNat]?=some (xs.toList.reverse.getD m .none):=by
  intro m hm;have h1:((xs.size:Int)-1+(m:Int)*(-1)).toNat=xs.size-1-m:=by omega
  rw[h1,tt,lg (by simpa using hm)];have h2:xs.size-1-m<xs.size:=by omega
  simp[h2]
 have e2:(List.range xs.size).filterMap (λ(m:Nat)=>xs[((xs.size:Int)-1+(m:Int)*(-1)).toNat]?)=(List.range xs.size).map λm=>xs.toList.reverse.getD m .none:=by
  exact zHH _ λm hm=>e m (kr.mp hm)
 rw[e2,ay];by_cases hk:k<xs.size
 ·rw[xg hk,bn (by simpa using hk)];simp[tt,hk]
 ·rw[lh (by simpa using hk),lh (by simpa using hk)];rfl
theorem zE7(ht:IsTup s.heap t its)(hs:s.heap.IsSliceOf sl .none .none (.int (-1) tk))(hsz:its.size<=af)(h:Q (.ref s.heap.objs.size) { s with heap:=s.heap.push { cls:=.type "tuple",data:=.seq its.toList.reverse.toArray } }):wpAny (model prog w) A (getItem (.ref t) (.ref sl)) Q E s:=by
 have hz:sizeOk (.seq its.toList.reverse.toArray):=by show its.toList.reverse.toArray.size<=af;simpa using hsz
 obtain⟨os,ho,hc,hd⟩:=id hs;have hT:s.TypeIs (.ref sl) "slice" := ⟨os,ho,hc⟩;unfold getItem
 try with_reducible refine fu ?_
 first|refine ac (ag ?_)|skip
 refine ac (wpAny_sequenceKey ht.typeIs (by decide) ?_);refine ac (cy (name:=Str.ofString "__getitem__") ht.typeIs gf (dz gf ht.typeIs wr (?_) (args_tuple_getitem _ _)));show wpAny _ _ (Builtin.Tuple.tupleItemsOf (.ref t) >>= _) _ _ s;refine ac (tupleItemsOf_ ht (ac (mq hT (?_))));rw[if_pos (by decide)];refine ac (zKB hs (?_));show wpAny _ _ (if (((its.size:Int)-1) == 0 && (-1:Int) == 1 && its.size == its.size)=true then _ else _) _ _ s;rw[if_neg (by simp),zA6]
 first
  |exact ac (m:=Builtin.Tuple.tupleExact _) (cn (ag ⟨_,rfl,ag h⟩) hz)
  |exact ac (m:=Builtin.Tuple.tupleExact _) (cn (ac (ag (ag ⟨_,rfl,ag h⟩))) hz)
  |exact ac (ac (m:=Builtin.Tuple.tupleExact _) (cn (ag (ag ⟨_,rfl,ag h⟩)) hz))
  |exact ac (ac (m:=Builtin.Tuple.tupleExact _) (cn (ag ⟨_,rfl,ag h⟩) hz))
noncomputable def zQ2(K:Fg)(ta:TE):TE:=λσ H Q=>ta σ H λx H1=>(∃p xs,x=.ref p/\SqL K H1 p xs/\∀q,H1 q=none->Q (.ref q) (upd H1 q (.lst xs.reverse)))\/(∃p xs,x=.ref p/\SqT K H1 p xs/\∀q,H1 q=none->Q (.ref q) (upd H1 q (.tup xs.reverse)))
theorem zFT(he:PE X a ta):PE X (.Subscript a (.Slice none none (some (.UnaryOp .USub (.Constant (.int 1) j p3) pos)) p2) pn) (zQ2 X.K ta):=by
 intro pZ s σ H Q I h;refine sw (thn (he pZ s σ H _ I h) λv s1 ⟨x,H1,I1,r1,q1⟩=>?_);refine wpAny_Slice ?_;rw[uf];refine ag (ag ?_);rw[evalPart_some];have hst:PE X (.UnaryOp .USub (.Constant (.int 1) j p3) pos) (tUn (rU λi=>.int (-i)) (tC (.int 1))):=zMO zEH pX;refine thn (hst pZ s1 σ H1 (λw H'=>w=.int (-1)/\H'=H1) I1 ⟨1,rfl,rfl,rfl⟩) λu s2 ⟨y,H2,I2,r2,q2,eH⟩=>?_
 subst eH q2;obtain⟨t,rfl⟩:=r2;have I4:Inv X pZ σ H2 { s2 with heap:=s2.heap.push { cls:=.type "slice",data:=.fields #[.none,.none,.int (-1) t] } }:=I2.kept (t':=s2.toks) λb ob q=>ad _ q
 have hsl:({ s2 with heap:=s2.heap.push { cls:=.type "slice",data:=.fields #[.none,.none,.int (-1) t] } }:Shared).heap.IsSliceOf s2.heap.objs.size .none .none (.int (-1) t):=Heap.IsSliceOf.new ..;rcases q1 with⟨p,xs,rfl,hx,q⟩|⟨p,xs,rfl,hx,q⟩
 ·cases r1;obtain⟨its,r,pl,hz⟩:=I4.list hx;have hlen:=r.length;refine tail_any (ops:=[.ref p,.ref s2.heap.objs.size]) pl.isList.typeIs rl.lookup (ud pl.isList hsl .none .none (.int (-1) t) (by simp) ?_ (by simp only[ak];omega)) (by with_unfolding_all rfl);rw[PySem.W.krv_pick];exact⟨.ref _,_,I4.lnew (t':=s2.toks) r.reverse (by rw[fw];exact hz),rfl,q _ I4.fresh⟩
 ·cases r1;obtain⟨its,r,pl,hz⟩:=I4.tuple hx;have hlen:=r.length;refine tail_any (ops:=[.ref p,.ref s2.heap.objs.size]) pl.typeIs gf.lookup (zE7 pl hsl (by simp only[ak];omega) ?_) (by with_unfolding_all rfl);refine⟨.ref _,_,I4.laid (t':=s2.toks) (o:=.tup xs.reverse) (λb ob q=>ad _ q) (ah _) ?_,rfl,q _ (I4.hok.fresh (ah _))⟩;exact⟨by rw[fw];exact hz,_,r.reverse,uw _ _⟩
noncomputable def zI6:D->Option D
 |.lst l=>some (.lst l.reverse)
 |.tup l=>some (.tup l.reverse)
 |_=>none
theorem zIA(ha:DE X a f):DE X (.Subscript a (.Slice none none (some (.UnaryOp .USub (.Constant (.int 1) j p3) pos)) p2) pn) (mUn zI6 f):=by
 refine PE.conseq (zFT ha) λσ H Q hq=>?_
 obtain⟨O0,r,d,hR,e,q⟩:=hq;obtain⟨x,e1,e2⟩:=bnS e;refine⟨O0,r,x,hR,e1,λv H1 s1 i1=>?_⟩;have R1:=hR.same s1;cases x<;>first|(simp only[zI6,reduceCtorEq] at e2;done)|skip
 ·simp only[zI6,eh] at e2;subst e2;rw[Is.tup_iff] at i1;obtain⟨p,xs,rfl,hs,il⟩:=i1;refine .inr ⟨p,xs,rfl,hs,λt ht=>q _ _ (s1.trans (yA ht)) ?_⟩;rw[Is.tup_iff];exact⟨t,_,rfl,SqT.of zQ,il.reverse.same (yA ht) R1.ol⟩
 ·simp only[zI6,eh] at e2;subst e2;rw[Is.lst_iff] at i1;obtain⟨p,xs,rfl,hs,il⟩:=i1;refine .inl ⟨p,xs,rfl,hs.sq,λt ht=>q _ _ (s1.trans (yA ht)) ?_⟩;rw[Is.lst_iff];exact⟨t,_,rfl,.inl ⟨R1.nofresh ht,.inl zQ⟩,il.reverse.same (yA ht) R1.ol⟩
noncomputable def XG:List D->Option (List (List Nat))
 |[]=>some []
 |.str s::r=>(XG r).map (s::·)
 |_=>none
noncomputable def JM(sep:List Nat):List (List Nat)->List Nat
 |[]=>[]
 |[s]=>s
 |s::r=>s++sep++JM sep r
theorem tH{K:Fg}:∀{l:List D} {ss:List (List Nat)} {vs:List V},XG l=some ss->IsL K O H l vs->vs=ss.map λs=>V.str ⟨s.toArray⟩
 |[],ss,vs,e,il=>by cases e;unfold IsL at il;subst il;rfl
 |d::l,ss,vs,e,il=>by
  unfold IsL at il;obtain⟨v,r,rfl,i1,i2⟩:=il;cases d<;>first|(simp only[XG,reduceCtorEq] at e;done)|skip
  simp only[XG] at e;obtain⟨ms,e1,rfl⟩:=mpS e;rw[Is.str_iff] at i1;rw[i1,tH e1 i2];rfl
theorem cX:∀{ss:List (List Nat)} {us:List Value},Vals (ss.map λs=>V.str ⟨s.toArray⟩) us->StrsAre us (ss.map λs=>(⟨s.toArray⟩:Str))
 |[],us,r=>by rw[qd] at r;cases r;exact .nil
 |s::ss,us,r=>by
  rw[aq] at r;cases r with
  |cons r1 r2=>
   obtain⟨t,e⟩:=r1;subst e;exact .cons _ t (cX r2)
theorem JL(sep:List Nat):∀ss:List (List Nat),Str.join (⟨sep.toArray⟩:Str) (ss.map λs=>(⟨s.toArray⟩:Str))=⟨(JM sep ss).toArray⟩
 |[]=>rfl
 |[s]=>rfl
 |s::t::r=>by
  have ih:=JL sep (t::r);show(⟨s.toArray⟩:Str)++⟨sep.toArray⟩++Str.join _ ((t::r).map λs=>(⟨s.toArray⟩:Str))=_;rw[ih,tJ,tJ];rfl
def zOA(K:Fg):V->List V->Hp->VK->Prop:=λx vs H Q=>∃sep p ss,x=.str ⟨sep.toArray⟩/\vs=[.ref p]/\SqL K H p (ss.map λs=>V.str ⟨s.toArray⟩)/\(ss.map List.length).sum+ss.length*sep.length<=16777216/\Q (.str ⟨(JM sep ss).toArray⟩) H
theorem zGC:MtR X "str.join" (zOA X.K):=by
 intro pZ s σ H x vs v us Q I rx rv hq;obtain⟨sep,p,ss,rfl,rfl,hs,hl,q⟩:=hq;obtain⟨t,rfl⟩:=rx;obtain⟨u,rfl,ru⟩:=Vals.one rv;cases ru;obtain⟨its,r,pl,hz⟩:=I.list hs;refine join_list pl.isList (ys:=ss.map λs=>(⟨s.toArray⟩:Str)) (by simpa using cX r) ?_ λt' k=>⟨.str _,H,I.tok k,⟨t',rfl⟩,?_⟩
 ·have e:(ss.map λs=>(⟨s.toArray⟩:Str)).map (·.length)=ss.map List.length:=by rw[jf];exact xf λs _=>kA s
  rw[e,ao,kA];exact hl
 ·show Q (.str (Txt.join _ _)) H;unfold Txt.join;rw[glued_eq_join,JL];exact q
noncomputable def zJF(f:ME)(fl:ML):ME:=λr=>(f r).bind λd=>match d with
 |.str sep=>(fl r).bind λl=>(XG l).bind λss=>if (ss.map List.length).sum+ss.length*sep.length<=16777216 then some (.str (JM sep ss)) else none
 |_=>none
theorem zID(ho:DE X a f)(ha:DB X b fl)(hbase:bt a "join" X.env (eval a X.env)=eval a X.env:=by rfl)(hline:(apos.endLine == cpos.line)=true:=by rfl)(hfew:((dl cpos (ae [b] X.env)).all (λx=>!x.1) && (ja cpos (gh [] X.env)).all (λx=>x.1.isSome) && decide ([b].length+([]:List Keyword).length+(if ([]:List Keyword).isEmpty then 0 else 1)<30))=true:=by rfl)(hs:ae [b] X.env=(false,eval b X.env)::ae [] X.env:=by rfl):DE X (.Call (.Attribute a "join" apos) [b] [] cpos) (zJF f fl):=by
 refine PE.conseq (XX PySem.F.plainAttrs_str PySem.F.slot_str_join PySem.F.type_str_join zGC ho (yC ha xF hs) hbase hfew hline hs) λσ H Q hq=>?_
 obtain⟨O0,r,d,hR,e,q⟩:=hq;obtain⟨x,e1,e2⟩:=bnS e;refine⟨O0,r,x,hR,e1,λv H1 s1 i1=>?_⟩;cases x<;>first|(simp only[reduceCtorEq] at e2;done)|skip
 simp only at e2;obtain⟨l,e3,e4⟩:=bnS e2;obtain⟨ss,e5,e6⟩:=bnS e4;rw[Is.str_iff] at i1;subst i1;split at e6
 ·rename_i hl;cases e6;refine⟨rfl,O0,r,l,hR.same s1,e3,λp xs H2 s2 sq il=>?_⟩;have ex:=tH e5 il;subst ex;exact⟨_,p,ss,rfl,rfl,sq,hl,q _ H2 (s1.trans s2) (by rw[Is.str_iff])⟩
 ·cases e6
open PySem PySem.Spec PyProof.Rows L2 PySem.StrLaws PySem.Builtin.Str
def z2(F:V->V->Hp->Prop):List V->Hp->Prop
 |[x,y],H=>F x y H
 |_,_=>False
theorem zD6:∀{vs:List V} {H:Hp},z2 F vs H->∃x y,vs=[x,y]/\F x y H
 |[x,y],_,h=>⟨x,y,rfl,h⟩
 |[],_,h=>h.elim
 |[_],_,h=>h.elim
 |_::_::_::_,_,h=>h.elim
def z1(F:V->Hp->Prop):List V->Hp->Prop
 |[x],H=>F x H
 |_,_=>False
theorem zAI:∀{vs:List V} {H:Hp},z1 F vs H->∃x,vs=[x]/\F x H
 |[x],_,h=>⟨x,rfl,h⟩
 |[],_,h=>h.elim
 |_::_::_,_,h=>h.elim
theorem adn(n:Nat)(h:i≠j):@Ne Addr (n+i:Nat) (n+j:Nat):=λe=>h (xb (show n+i=n+j from e))
theorem zNM(n:Nat)(h:0≠j):@Ne Addr (n:Nat) (n+j:Nat):=λe=>h (xb (show n+0=n+j from e))
theorem za5(n:Nat):ZA (n+4) (n+2) (n+3) n (n+1):=⟨adn n (by decide),adn n (by decide),zNM n (by decide),adn n (by decide),adn n (by decide),(zNM n (by decide)).symm,adn n (by decide),(zNM n (by decide)).symm,adn n (by decide),zNM n (by decide)⟩
noncomputable def Y4(l m:List D):List D:=List.zipWith (λx y=>.tup [x,y]) l m
theorem QO{l m:List D}{i:Nat}{d:D}(h:(Y4 l m)[i]?=some d):∃x y,l[i]?=some x/\m[i]?=some y/\d=.tup [x,y]:=by
 unfold Y4 at h;rw[qk] at h;cases e1:l[i]? with
 |none=>rw[e1] at h;cases h
 |some x=>
  cases e2:m[i]? with
  |none=>rw[e1,e2] at h;cases h
  |some y=>rw[e1,e2] at h;cases h;exact⟨x,y,rfl,rfl,rfl⟩
theorem zJR{K:Fg}{O M:Addr->Prop}{sq:Hp->Addr->List V->Prop}(mo:∀a,M a->O a){H:Hp}{u v:Addr}{xs ys:List V}{l m:List D}(ol:jN O H)(kx:∀H1,bL M H H1->sq H1 u xs)(ky:∀H1,bL M H H1->sq H1 v ys)(il:IsL K O H l xs)(im:IsL K O H m ys):zJO K O M H (ItZ sq u v) (Y4 l m):=by
 intro i H1 O' kp oo;have kp':bL O H H1:=λb o e n=>kp b o e λz=>n (mo b z)
 have hlen:(Y4 l m).length=min l.length m.length:=by simp[Y4]
 refine⟨λhi=>⟨?_,λx H' y=>?_⟩,λhi=>⟨xs,ys,kx H1 kp,ky H1 kp,?_⟩⟩
 ·obtain⟨d,e⟩:=jX hi;obtain⟨dx,dy,e1,e2,_⟩:=QO e;obtain⟨vx,q1,_⟩:=il.get e1;obtain⟨vy,q2,_⟩:=im.get e2;exact⟨xs,ys,vx,vy,kx H1 kp,ky H1 kp,q1,q2⟩
 ·obtain⟨T,p,q,rfl,nT,rfl,h1,h2⟩:=y;refine⟨yA nT,λd e=>?_⟩;obtain⟨dx,dy,e1,e2,rfl⟩:=QO e;obtain⟨vx,q1,i1⟩:=il.get e1;obtain⟨vy,q2,i2⟩:=im.get e2;have p1:=h1 xs (kx H1 kp);have p2:=h2 ys (ky H1 kp);rw[q1] at p1;rw[q2] at p2;cases p1;cases p2;have kk:bL O H (upd H1 T (.tup [p,q])):=λb o e' n=>by
   have:=kp' b o e' n
   rw[zN (xV this nT)];exact this
  rw[Is.tup_iff];exact⟨T,_,rfl,SqT.of zQ,.cons (Is.mono kk ol oo _ _ i1) (.cons (Is.mono kk ol oo _ _ i2) .nil)⟩
 ·have e1:=il.length;have e2:=im.length;rw[hlen] at hi;omega
theorem zOT{K:Fg}(mo:∀a,M a->O a)(h:LsAt K O H a xs):∀H1,bL M H H1->SqL K H1 a xs:=λH1 k=>h.imp (λz=>Rd.keep k (λy=>z.1 (mo _ y)) z.2) id
theorem zM2{K:Fg}(mo:∀a,M a->O a)(ol:jN O H)(h:SqT K H a xs):∀H1,bL M H H1->SqT K H1 a xs:=λH1 k=>SqT.keep (λb o e n=>k b o e λz=>n (mo b z)) ol h
theorem zFP(hg:Gl X "enumerate")(hm:X.mg "enumerate" = none)(ha:PE X a ta)(hs:ae [a] X.env=[(false,eval a X.env)]:=by rfl):PI X (.Tuple elts k tp) (.Call (.Name "enumerate" p) [a] [] pos) (λσ H R=>ta σ H λx H1=>∃u,x=.ref u/\(∃xs,SqL X.K H1 u xs)/\R (ItE X.K u) H1):=by
 intro pZ s σ H R I h;have hA:PA X [a] (mQ ta zET):=yC ha xF (by rw[hs];rfl);refine Call_ (uD I hg hm PyProof.Rows.boot_enumerate (dq (thn (hA pos pZ s σ H (z1 λx H1=>∃u,x=.ref u/\(∃xs,SqL X.K H1 u xs)/\R (ItE X.K u) H1) I h) λus s1 ⟨vs,H1,I1,r1,q1⟩=>?_) hs rfl));obtain⟨_,rfl,u,rfl,⟨xs,hx⟩,q⟩:=zAI q1;obtain⟨uu,rfl,ru⟩:=Vals.one r1;cases ru;obtain⟨its,_,pl,_⟩:=I1.list hx;refine call_enumerate_list pl.isList λh' z1 z2 _ kp=>wpAny_pyIter_enum z1 ?_
 refine⟨_,[s1.heap.objs.size+1,s1.heap.objs.size],_,_,H1,rfl,I1.kept (t':=s1.toks) kp,XC u _ _ (zNM _ (by decide)).symm,⟨⟨_,z1⟩,z2⟩,λb hb=>?_,q⟩;have hle:s1.heap.objs.size<=b:=by
  simp only[eg,bh,or_false] at hb;rcases hb with h|h
  ·rw[h];exact iq _ _
  ·rw[h];exact ah _
 exact I1.fpOk hle (I1.hok.fresh hle)
noncomputable def JU(l:List D):List D:=l.zipIdx.map λp=>.tup [.int (p.2:Nat),p.1]
noncomputable def JF(f:ME):ML:=λr=>(f r).bind λd=>match d with
 |.lst l=>some (JU l)
 |_=>none
theorem Z8{l:List D}{i:Nat}{d:D}(h:(JU l)[i]?=some d):∃x,l[i]?=some x/\d=.tup [.int i,x]:=by
 unfold JU at h;rw[ay,List.getElem?_zipIdx] at h;cases e1:l[i]? with
 |none=>rw[e1] at h;cases h
 |some x=>rw[e1] at h;simp at h;exact⟨x,rfl,h.symm⟩
theorem zH8(hg:Gl X "enumerate")(hm:X.mg "enumerate" = none)(ha:DE X a f)(hs:ae [a] X.env=[(false,eval a X.env)]:=by rfl):DI X (.Tuple elts k tp) (.Call (.Name "enumerate" p) [a] [] pos) (JF f):=by
 refine PI.conseq (zFP hg hm ha hs) λσ H Rr hq=>?_
 obtain⟨O0,r,ds,hR,e,q⟩:=hq;obtain⟨x,e1,e⟩:=bnS e;refine⟨O0,r,x,hR,e1,λv1 H1 s1 i1=>?_⟩;have R1:=hR.same s1;cases x<;>first|(simp only[reduceCtorEq] at e;done)|skip
 rename_i l;simp only[eh] at e;subst e;rw[Is.lst_iff] at i1;obtain⟨u,xs,rfl,hx,il⟩:=i1;refine⟨u,rfl,⟨xs,hx.sq⟩,q _ H1 s1 ?_⟩;intro i H2 O' kp oo;have kp':bL (Ow O0 r σ) H1 H2:=λb o e n=>kp b o e λz=>n (.inr z.own)
 have sq2:=zOT (M:=MutAt r σ) (λa z=>.inr z.own) hx H2 kp;have hlen:(JU l).length=l.length:=by simp[JU]
 refine⟨λhi=>⟨?_,λy H' yy=>?_⟩,λhi=>⟨xs,sq2,by rw[<-il.length,<-hlen];exact hi.symm⟩⟩
 ·obtain⟨d,ed⟩:=jX hi;obtain⟨dx,ex,_⟩:=Z8 ed;obtain⟨vx,q1,_⟩:=il.get ex;exact⟨xs,vx,sq2,q1⟩
 ·obtain⟨T,w,rfl,nT,rfl,h1⟩:=yy;refine⟨yA nT,λd ed=>?_⟩;obtain⟨dx,ex,rfl⟩:=Z8 ed;obtain⟨vx,q1,i1⟩:=il.get ex;have p1:=h1 xs sq2;rw[q1] at p1;cases p1;have kk:bL (Ow O0 r σ) H1 (upd H2 T (.tup [.int i,w])):=λb o e' n=>by
   have:=kp' b o e' n
   rw[zN (xV this nT)];exact this
  rw[Is.tup_iff];exact⟨T,_,rfl,SqT.of zQ,.cons (by rw[Is.int_iff]) (.cons (Is.mono kk R1.ol oo _ _ i1) .nil)⟩
noncomputable def zPS(i:Nat)(g:MS):MS:=λr=>match r[i]? with
 |some (.o l)=>g (r.set i (.v (.lst l)))
 |_=>none
theorem R.rel{K:Fg}(h:R K O0 H r σ)(e:r[i]?=some (.o l)):R K O0 H (r.set i (.v (.lst l))) σ/\Kp H r σ H (r.set i (.v (.lst l))) σ:=by
 have hi:i<r.length:=(ar.mp e).1;obtain⟨a,xs,e1,e2,e3⟩:=h.own i l (by rw[e];rfl);have sub:∀{q:Sl->Option (List D)} (_:∀d,q (.v d)=none) b,AtS q (r.set i (.v (.lst l))) σ b->AtS q r σ b:=λ{q} hq b ⟨j,m,ej,qj⟩=>by
  by_cases hj:i=j
  ·subst hj;rw[zI hi] at ej;have ej':q (.v (.lst l))=some m:=ej;rw[hq] at ej';cases ej'
  ·rw[zD hj] at ej;exact⟨j,m,ej,qj⟩
 have subO:∀b,Ow O0 (r.set i (.v (.lst l))) σ b->H b≠none->Ow O0 r σ b:=λb z _=>z.imp id (sub (λ_=>rfl) b)
 have na:¬Ow O0 (r.set i (.v (.lst l))) σ a:=λz=>by
  rcases z with z|⟨j,m,ej,qj⟩
  ·exact h.loc i l a (.inl e) e1 z
  ·have hj:i≠j:=λz=>by subst z;rw[zI hi] at ej;cases ej
   rw[zD hj] at ej;exact hj (h.apart i j a l m (by rw[e];rfl) ej e1 qj)
 have ne:∀(j:Nat) (m:List D),((r.set i (.v (.lst l)))[j]?).bind Sl.own=some m->i≠j:=λj m ej z=>by subst z;rw[zI hi] at ej;cases ej
 refine⟨⟨by simp[h.len],λj d ej=>?_,λj m ej=>?_,λj k b m n e4 e5 q1 q2=>?_,h.o0,λj m b ej q=>?_,λj m b ej q=>?_,λj f ks m ej=>?_⟩,⟨λb o eb _=>eb,λb eb=>eb,λb o eb mb=>⟨o,eb,mb⟩,λb z=>.inl (sub (λ_=>rfl) b z),λb z=>.inl (sub (λ_=>rfl) b z),λj m ej=>?_,λj m ej=>?_⟩⟩
 ·by_cases hj:i=j
  ·subst hj;rw[zI hi] at ej;cases ej;refine⟨.ref a,e1,?_⟩;rw[Is.lst_iff];exact⟨a,xs,rfl,.inl ⟨na,.inl e2⟩,IsL.mono (Same.kp (Same.refl H) _) h.ol subO _ _ e3⟩
  ·rw[zD hj] at ej;obtain⟨v,q1,q2⟩:=h.val j d ej;exact⟨v,q1,Is.mono (Same.kp (Same.refl H) _) h.ol subO _ _ q2⟩
 ·have hj:=ne j m (jA ej);rw[zD hj] at ej;obtain⟨b,ys,q1,q2,q3⟩:=h.own j m ej;exact⟨b,ys,q1,q2,IsL.mono (Same.kp (Same.refl H) _) h.ol subO _ _ q3⟩
 ·have hj:=ne j m e4;have hk:=ne k n e5;rw[zD hj] at e4;rw[zD hk] at e5;exact h.apart j k b m n e4 e5 q1 q2
 ·have hj:i≠j:=ne j m (by rcases ej with ej|ej|⟨_,ej⟩<;>rw[ej]<;>rfl);rw[zD hj] at ej;exact h.loc j m b ej q
 ·have hj:i≠j:=ne j _ (u5 ej).choose_spec;rw[zD hj] at ej;exact h.par j m b ej q
 ·have hj:=ne j m (by rw[ej];rfl);rw[zD hj] at ej;obtain⟨b,kvs,q1,q2,q4,q3⟩:=h.dct j f ks m ej;exact⟨b,kvs,q1,q2,q4,IsL.mono (Same.kp (Same.refl H) _) h.ol subO _ _ q3⟩
 ·have hj:i≠j:=λz=>by subst z;rw[e] at ej;cases ej
  exact⟨by rw[zD hj];exact ej,rfl⟩
 ·have hj:i≠j:=λz=>by subst z;rw[e] at ej;cases ej
  exact⟨by rw[zD hj];exact ej,rfl⟩
theorem zL0(i:Nat)(h:DSs X sts g):DSs X sts (zPS i g):=by
 refine PSs.conseq h λDn σ H hq=>?_
 obtain⟨O0,r,fl,hR,e,q⟩:=hq;unfold zPS at e;have⟨l,e1,e2⟩:∃l,r[i]?=some (.o l)/\g (r.set i (.v (.lst l)))=some fl:=by
  split at e
  ·rename_i l h;exact⟨l,h,e⟩
  ·cases e
 obtain⟨R1,k1⟩:=hR.rel e1;exact⟨O0,_,fl,R1,e2,PostS.before R1 k1 q⟩
noncomputable def frZ(i:Nat)(r:En):Option En:=match r[i]? with
 |some (.o l)=>some (r.set i (.z l))
 |_=>none
noncomputable def unZ(i:Nat)(r:En):Option En:=match r[i]? with
 |some (.z l)=>some (r.set i (.o l))
 |_=>none
noncomputable def unF(i:Nat):Fl->Option Fl
 |.nx r=>(unZ i r).map .nx
 |.bk r=>(unZ i r).map .bk
 |.ct r=>(unZ i r).map .ct
 |.rt d r=>(unZ i r).map (.rt d)
 |.rf _ _=>none
 |.rg _ _ _=>none
noncomputable def sZ(i:Nat)(g:MS):MS:=λr=>(frZ i r).bind λr1=>(g r1).bind (unF i)
theorem R.swap{K:Fg}(h:R K O0 H r σ)(hy:(r[i]?=some (.o l)/\y=.z l)\/(r[i]?=some (.z l)/\y=.o l)):R K O0 H (r.set i y) σ/\∀b,w8 (r.set i y) σ b↔w8 r σ b:=by
 have eo:(r[i]?).bind Sl.own=some l:=by rcases hy with⟨e,_⟩|⟨e,_⟩<;>rw[e]<;>rfl
 have yo:y.own=some l:=by rcases hy with⟨_,e⟩|⟨_,e⟩<;>rw[e]<;>rfl
 have hi:i<r.length:=by
  rcases hy with⟨e,_⟩|⟨e,_⟩<;>exact(ar.mp e).1
 have own:∀j,((r.set i y)[j]?).bind Sl.own=(r[j]?).bind Sl.own:=λj=>by
  by_cases hj:i=j
  ·subst hj;rw[zI hi,eo];exact yo
  ·rw[zD hj]
 have lss:∀j,((r.set i y)[j]?).bind Sl.ls=(r[j]?).bind Sl.ls:=λj=>by
  by_cases hj:i=j
  ·subst hj;rw[zI hi];rcases hy with⟨e,e2⟩|⟨e,e2⟩<;>rw[e,e2]<;>rfl
  ·rw[zD hj]
 have at_:∀b,w8 (r.set i y) σ b↔w8 r σ b:=λb=>⟨λ⟨j,m,e,q⟩=>⟨j,m,by rw[<-own j];exact e,q⟩,λ⟨j,m,e,q⟩=>⟨j,m,by rw[own j];exact e,q⟩⟩
 have ow:∀b,Ow O0 (r.set i y) σ b->H b≠none->Ow O0 r σ b:=λb z _=>z.imp id (at_ b).mp
 refine⟨⟨by simp[h.len],λj d ej=>?_,λj m ej=>?_,λj k b m n e4 e5=>?_,h.o0,λj m b ej q=>?_,λj m b ej q=>?_,λj f ks m ej=>?_⟩,at_⟩
 ·have hj:i≠j:=λz=>by subst z;rw[zI hi] at ej;cases ej;cases yo
  rw[zD hj] at ej;obtain⟨v,q1,q2⟩:=h.val j d ej;exact⟨v,q1,Is.mono (Same.kp (Same.refl H) _) h.ol ow _ _ q2⟩
 ·rw[lss j] at ej;obtain⟨b,ys,q1,q2,q3⟩:=h.own j m ej;exact⟨b,ys,q1,q2,IsL.mono (Same.kp (Same.refl H) _) h.ol ow _ _ q3⟩
 ·rw[own j] at e4;rw[own k] at e5;exact h.apart j k b m n e4 e5
 ·by_cases hj:i=j
  ·subst hj;rcases hy with⟨e,_⟩|⟨e,_⟩
   ·exact h.loc i l b (.inl e) q
   ·exact h.loc i l b (.inr (.inl e)) q
  ·rw[zD hj] at ej;exact h.loc j m b ej q
 ·by_cases hj:i=j
  ·subst hj;rw[zI hi] at ej;rcases hy with⟨_,e⟩|⟨_,e⟩<;>rw[e] at ej<;>cases ej
  ·rw[zD hj] at ej;exact h.par j m b ej q
 ·have hj:i≠j:=λz=>by
   subst z;rw[zI hi] at ej;rcases hy with⟨_,e⟩|⟨_,e⟩<;>rw[e] at ej<;>cases ej
  rw[zD hj] at ej;obtain⟨b,kvs,q1,q2,q4,q3⟩:=h.dct j f ks m ej;exact⟨b,kvs,q1,q2,q4,IsL.mono (Same.kp (Same.refl H) _) h.ol ow _ _ q3⟩
theorem Z2(e:frZ i r=some r1):∃l,r[i]?=some (.o l)/\r1=r.set i (.z l):=by
 unfold frZ at e;split at e
 ·rename_i l h;cases e;exact⟨l,h,rfl⟩
 ·cases e
theorem zAO(e:unZ i r=some r1):∃l,r[i]?=some (.z l)/\r1=r.set i (.o l):=by
 unfold unZ at e;split at e
 ·rename_i l h;cases e;exact⟨l,h,rfl⟩
 ·cases e
theorem Kp.froze{K:Fg}(hR:R K O0 H r σ)(e:frZ i r=some r1)(k:Kp H r1 σ H' r2 σ2)(R2:R K O0 H' r2 σ2)(e':unZ i r2=some r3):R K O0 H' r3 σ2/\Kp H r σ H' r3 σ2:=by
 obtain⟨l,el,rfl⟩:=Z2 e;obtain⟨l2,el2,rfl⟩:=zAO e';have hi:i<r.length:=(ar.mp el).1;have hi2:i<r2.length:=(ar.mp el2).1;obtain⟨R1,at1⟩:=hR.swap (y:=.z l) (.inl ⟨el,rfl⟩);obtain⟨R3,at3⟩:=R2.swap (y:=.o l2) (.inr ⟨el2,rfl⟩);obtain⟨q1,q2⟩:=k.fz i l (zI hi);have m1:∀b,MutAt (r.set i (.z l)) σ b->MutAt r σ b:=λb ⟨j,m,ej,qj⟩=>by
  have hj:i≠j:=λz=>by subst z;rw[zI hi] at ej;cases ej
  rw[zD hj] at ej;exact⟨j,m,ej,qj⟩
 refine⟨R3,⟨λb o eb n=>k.keep b o eb λz=>n (m1 b z),k.live,k.lst,λb z=>(k.new b ((at3 b).mp z)).imp (at1 b).mp id,λb z=>?_,λj m ej=>?_,λj m ej=>?_⟩⟩
 ·obtain⟨j,m,ej,qj⟩:=z;by_cases hj:i=j
  ·subst hj;exact .inl ⟨i,l,by rw[el];rfl,by rw[<-q2];exact qj⟩
  ·rw[zD hj] at ej;exact(k.mnew b ⟨j,m,ej,qj⟩).imp (m1 b) id
 ·have hj:i≠j:=λz=>by subst z;rw[el] at ej;cases ej
  obtain⟨e1,e2⟩:=k.par j m (by rw[zD hj];exact ej);exact⟨by rw[zD hj];exact e1,e2⟩
 ·have hj:i≠j:=λz=>by subst z;rw[el] at ej;cases ej
  obtain⟨e1,e2⟩:=k.fz j m (by rw[zD hj];exact ej);exact⟨by rw[zD hj];exact e1,e2⟩
theorem zRK(i:Nat){st:Stmt}(h:DS X st g):DS X st (sZ i g):=by
 refine PS.conseq h λDn σ H hq=>?_
 obtain⟨O0,r,fl,hR,e,q⟩:=hq;obtain⟨r1,e1,e2⟩:=bnS e;obtain⟨f1,e3,e4⟩:=bnS e2;have R1:R X.K O0 H r1 σ:=by
  obtain⟨l,el,rfl⟩:=Z2 e1;exact(hR.swap (y:=.z l) (.inl ⟨el,rfl⟩)).1
 refine⟨O0,r1,f1,R1,e3,?_⟩;cases f1 with
 |nx r2=>
  obtain⟨r3,e5,rfl⟩:=mpS e4;exact λσ' H' R' k'=>let ⟨R3,k3⟩:=Kp.froze hR e1 k' R' e5;q σ' H' R3 k3
 |bk r2=>
  obtain⟨r3,e5,rfl⟩:=mpS e4;exact λσ' H' R' k'=>let ⟨R3,k3⟩:=Kp.froze hR e1 k' R' e5;q σ' H' R3 k3
 |ct r2=>
  obtain⟨r3,e5,rfl⟩:=mpS e4;exact λσ' H' R' k'=>let ⟨R3,k3⟩:=Kp.froze hR e1 k' R' e5;q σ' H' R3 k3
 |rt d r2=>
  obtain⟨r3,e5,rfl⟩:=mpS e4;exact λv σ' H' R' k' iv=>let ⟨R3,k3⟩:=Kp.froze hR e1 k' R' e5;q v σ' H' R3 k3 iv
 |rf l r2=>cases e4
 |rg ks l r2=>cases e4
noncomputable def lK(K:Fg)(f:ML):TE:=λσ H Q=>∃O0 r l,R K O0 H r σ/\f r=some l/\∀u xs H',Same H H'->(∀H1,bL (MutAt r σ) H' H1->SqL K H1 u xs)->IsL K (Ow O0 r σ) H' l xs->Q (.ref u) H'
def DK(X:Cx)(e:Expr)(f:ML):Prop:=PE X e (lK X.K f)
noncomputable def mZs(i:Nat):ML:=λr=>match r[i]? with
 |some (.z l)=>some l
 |_=>none
theorem zRL(i:Nat)(h:PE X (.Name x pos) (kN i)):DK X (.Name x pos) (mZs i):=by
 refine PE.conseq h λσ H Q hq=>?_
 obtain⟨O0,r,l,hR,e,q⟩:=hq;have e':r[i]?=some (.z l):=by
  unfold mZs at e;split at e
  ·rename_i l' h;cases e;exact h
  ·cases e
 obtain⟨u,xs,e1,e2,e3⟩:=hR.own i l (by rw[e'];rfl);refine⟨.ref u,e1,q u xs H (Same.refl H) (λH1 k1=>SqL.of (k1 _ _ e2 λ⟨j,m,ej,qj⟩=>?_)) e3⟩;obtain⟨y,ey,ym⟩:=bnS ej
 have:=hR.apart i j u l m (by rw[e'];rfl) (by rw[ey];exact uB ym) e1 qj
 subst this;rw[e'] at ey;cases ey;cases ym
theorem noF:jN (λ_=>False) H:=λ_ z=>z.elim
theorem zM8(hne:l≠it):∀(n i:Nat) (s:Shared) (Q:List Value->Shared->Prop),s.heap.IsListIter it l i->s.heap.IsList l ys->i+n<=ys.size ->
  (∀g,g.IsListIter it l (i+n)->Heap.SameBut it s.heap g->Q ((ys.toList.drop i).take n) { s with heap:=g })->wpAny (model prog w) A (draw (.ref it) n) Q E s
 |0,i,s,Q,h1,_,_,h=>by
  show wpAny _ _ (pure []) Q E s;exact ag (by simpa using h s.heap h1 (rp ..))
 |n+1,i,s,Q,h1,h2,h3,h=>by
  have hl:i<ys.size:=by omega
  show wpAny _ _ (pyNext (.ref it) >>= _) Q E s;refine ac (ou h1 h2 (x:=ys[i]) (by simp[hl]) λg1 k1 t1=>?_);refine ac (fu (zM8 hne n (i+1) _ _ k1 (h2.extBut t1.extBut hne) (by omega) λg2 k2 t2=>ag (?_)));have hd:ys.toList.drop i=ys[i]::ys.toList.drop (i+1):=by simp[ub,hl]
  have:=h g2 (by rw[show i+(n+1)=i+1+n by omega];exact k2) (t1.trans t2)
  rw[hd,List.take_succ_cons] at this;exact this
theorem zEG(hh:A.handled=none)(h2:s.heap.IsList l ys)(h:∀g,Heap.ExtBut s.heap.objs.size s.heap g->Q ys.toList { s with heap:=g }):wpAny (model prog w) A (unpackItems (.ref l) ys.size none) Q E s:=by
 have hlt:l≠s.heap.objs.size:=by obtain⟨o,e,_⟩:=h2;exact be (am e)
 unfold unpackItems;refine ac (?_);unfold notIterableAtAll;refine ac (ii h2.typeIs F.slot_list_iter.lookup (ag (?_)));simp only[cr,if_false];refine ac (fu (rj h2 (?_)));refine ac (fu (zM8 hlt ys.size 0 _ _ ⟨_,ba _ rfl,rfl,rfl⟩ (h2.push _) (by omega) λg1 k1 t1=>?_));have ha:List.take ys.size (List.drop 0 ys.toList)=ys.toList:=by rw[List.drop_zero];exact qc (by simp)
 rw[ha,if_neg (by simp)];refine ac (fu (qf hh k1 ((h2.push _).extBut t1.extBut hlt) (by simp) λg2 t2=>?_));simp only[Option.isSome_none,cr,if_false];exact ag (h g2 λb o hb e=>t2 b o hb (t1.extBut b o hb (ad _ e)))
theorem zKM(hc:X.calm=true)(h:PGs X es t)(hn:(ib es X.env).length=n:=by rfl)(hst:(ib es X.env).findIdx? (·.1)=none:=by rfl):PG X (.Tuple es k pos) (λv σ H Q=>∃a xs,v=.ref a/\(SqT X.K H a xs\/SqL X.K H a xs)/\xs.length=n/\t xs σ H Q):=by
 intro pZ s σ H v u Q I r hw;obtain⟨a,xs,e1,hq,hl,hw⟩:=hw;subst e1;cases r;rcases hq with hq|hq
 ·exact zKL hc h hn hst pZ s σ H (.ref a) (.ref a) Q I rfl ⟨a,xs,rfl,hq,hl,hw⟩
 ·obtain⟨its,rv,pl,hz⟩:=I.list hq;rw[assign_Tuple];refine ac (uc ?_);unfold unpack;rw[hst];have hsz:(ib es X.env).length=its.toArray.size:=by rw[hn,ak,<-rv.length];exact hl.symm
  rw[hsz];refine ac (fu (zEG (I.ok.hd hc) pl.isList λg hx=>?_));have I1:Inv X pZ σ H { s with heap:=g }:=I.kept (t':=s.toks) λb o e=>hx b o (be (am e)) e
  exact h pZ _ σ H xs _ Q I1 (by simpa using rv) hw
noncomputable def qI(n:Nat)(bs:List D->En->Option En):D->En->Option En:=λd r=>match d with
 |.tup l=>if l.length=n then bs l r else none
 |.lst l=>if l.length=n then bs l r else none
 |_=>none
theorem gO(hc:X.calm=true)(h:DGs X es bs)(hn:(ib es X.env).length=n:=by rfl)(hst:(ib es X.env).findIdx? (·.1)=none:=by rfl):DG X (.Tuple es k pos) (qI n bs):=by
 refine PG.conseq (zKM hc h hn hst) λv σ H Q h=>?_
 obtain⟨O0,r,d,r',hR,iv,e,q⟩:=h;cases d<;>first|(simp only[qI,reduceCtorEq] at e;done)|skip
 ·rename_i l;rw[Is.tup_iff] at iv;obtain⟨a,xs,rfl,hs,il⟩:=iv;simp only[qI] at e;split at e
  ·rename_i hl;exact⟨a,xs,rfl,.inl hs,by rw[<-il.length];exact hl,O0,r,l,r',hR,il,e,q⟩
  ·cases e
 ·rename_i l;rw[Is.lst_iff] at iv;obtain⟨a,xs,rfl,hs,il⟩:=iv;simp only[qI] at e;split at e
  ·rename_i hl;exact⟨a,xs,rfl,.inr hs.sq,by rw[<-il.length];exact hl,O0,r,l,r',hR,il,e,q⟩
  ·cases e
set_option maxRecDepth 9000 in
theorem zRI(l:Addr)(xs:Array Value)(n:Nat)(b:Addr)(cl:Value)(dd:Option Addr)(ys:Array Value)(n2:Nat)(sl:Array (Option Value))(hcl:cl=.type "tuple")(h0:¬(!xs.isEmpty && Builtin.List.listTooLong (xs.size+ys.size))=true)(h1:xs.size<=af)(h2:xs.size+ys.size<=af+1):Meets (Builtin.«list.extend» ⟨[.ref l,.ref b],[]⟩) (λ_ R s=>s.heap.get? l=some { cls:=.type "list",dict:=none,data:=.seq xs n,slots:=#[] }/\s.heap.get? b=some { cls:=cl,dict:=dd,data:=.seq ys n2,slots:=sl }/\R (.ok (.ret Value.none)) { s with heap:=s.heap.update l (Obj.mapSeq λx=>x++ys),toks:=s.toks }):=
 .of_wp λprog w A R s h=>by
  subst hcl;obtain⟨hp,g,d,tk,os⟩:=s;obtain⟨hl,hb,h⟩:=h;have f1:=AutoSeq1.idx_int;have f2:=uk;have f3:=vk;have f4:=uy;have f5:=uz;have hz:(xs++ys).size<=af+1:=by rw[Array.size_append];exact h2
  wp_walk using (lw hl rfl (hz:=h1) (_hz':=hz)),wpAny_loadPart' hl,wpAny_loadPart' hb;exact⟨_,rfl,h⟩
set_option maxRecDepth 9000 in
theorem zRJ(l:Addr)(xs:Array Value)(n:Nat)(b:Addr)(cl:Value)(dd:Option Addr)(ys:Array Value)(n2:Nat)(sl:Array (Option Value))(hcl:cl=.type "list")(h0:¬(!xs.isEmpty && Builtin.List.listTooLong (xs.size+ys.size))=true)(h1:xs.size<=af)(h2:xs.size+ys.size<=af+1):Meets (Builtin.«list.extend» ⟨[.ref l,.ref b],[]⟩) (λ_ R s=>s.heap.get? l=some { cls:=.type "list",dict:=none,data:=.seq xs n,slots:=#[] }/\s.heap.get? b=some { cls:=cl,dict:=dd,data:=.seq ys n2,slots:=sl }/\R (.ok (.ret Value.none)) { s with heap:=s.heap.update l (Obj.mapSeq λx=>x++ys),toks:=s.toks }):=
 .of_wp λprog w A R s h=>by
  subst hcl;obtain⟨hp,g,d,tk,os⟩:=s;obtain⟨hl,hb,h⟩:=h;have f1:=AutoSeq1.idx_int;have f2:=uk;have f3:=vk;have f4:=uy;have f5:=uz;have hz:(xs++ys).size<=af+1:=by rw[Array.size_append];exact h2
  wp_walk using (lw hl rfl (hz:=h1) (_hz':=hz)),wpAny_loadPart' hl,wpAny_loadPart' hb;exact⟨_,rfl,h⟩
def zOB(K:Fg):V->List V->Hp->VK->Prop:=λx vs H Q=>∃l b xs zs,x=.ref l/\vs=[.ref b]/\H l=some (.lst xs)/\(SqL K H b zs\/SqT K H b zs)/\xs.length+zs.length<=af/\Q .non (upd H l (.lst (xs++zs)))
theorem zGE:MtR X "list.extend" (zOB X.K):=by
 intro pZ s σ H x vs v us Q I rx rv h;obtain⟨l,b,xs,zs,rfl,rfl,hH,hB,hz,q⟩:=h;cases rx;obtain⟨u,rfl,ru⟩:=rv.one;cases ru;obtain⟨z,its,n,r,hl,e⟩:=I.lstM hH;have fin:∀(its2:List Value),Vals zs its2->¬(!its.toArray.isEmpty && Builtin.List.listTooLong (its.toArray.size+its2.toArray.size))=true/\its.toArray.size<=af/\its.toArray.size+its2.toArray.size<=af+1 /\
   EP X pZ σ Q Value.none { s with heap:=s.heap.update l (Obj.mapSeq λx=>x++its2.toArray),toks:=s.toks }:=λits2 r2=>by
  have hl2:=r2.length;have hsz:its.toArray.size+its2.toArray.size<=af:=by rw[ak,ak];omega
  refine⟨by rw[zBW hsz,Bool.and_false];exact av,by rw[ak];omega,by omega,.non,_,I.lset (its':=its++its2) hH e (by simp) (r.append r2) ?_,rfl,q⟩;rw[bv];omega
 rcases hB with hB|hB
 ·obtain⟨its2,r2,⟨⟨c2,d2,dt2,sl2⟩,n2,g2,hc,hd,hs⟩,z2⟩:=I.list hB;simp only at hc hd hs;subst hs;obtain⟨f1,f2,f3,f4⟩:=fin its2 r2;exact oy F.slot_list_extend ⟨_,e,rfl⟩ xi (wo _ _) (zRJ l its.toArray n b _ _ its2.toArray n2 _ hc f1 f2 f3) ⟨e,g2,f4⟩
 ·obtain⟨its2,r2,⟨⟨c2,d2,dt2,sl2⟩,g2,hc,n2,hs⟩,z2⟩:=I.tuple hB;simp only at hc hs;subst hs;obtain⟨f1,f2,f3,f4⟩:=fin its2 r2;exact oy F.slot_list_extend ⟨_,e,rfl⟩ xi (wo _ _) (zRI l its.toArray n b _ _ its2.toArray n2 _ hc f1 f2 f3) ⟨e,g2,f4⟩
theorem oC(i:Nat)(h:PE X (.Name x pn) (kN i))(he:DE X e f)(hline:(apos.endLine == cpos.line)=true:=by rfl)(hbase:bt (.Name x pn) "extend" X.env (eval (.Name x pn) X.env)=eval (.Name x pn) X.env:=by rfl)(hfew:((dl cpos (ae [e] X.env)).all (λx=>!x.1) && (ja cpos (gh [] X.env)).all (λx=>x.1.isSome) && decide ([e].length+([]:List Keyword).length+(if ([]:List Keyword).isEmpty then 0 else 1)<30))=true:=by rfl)(hs:ae [e] X.env=(false,eval e X.env)::ae [] X.env:=by rfl):DX X (.Call (.Attribute (.Name x pn) "extend" apos) [e] [] cpos) (zK6 i f):=by
 refine PE.conseq (XX cz PySem.F.slot_list_extend PySem.F.type_list_extend zGE h (yC he xF hs) hbase hfew hline hs) λσ H Q hq=>?_
 obtain⟨O0,r,d',r',hR,e,q⟩:=hq;obtain⟨d,e1,e⟩:=bnS e;obtain⟨m,em,e⟩:=bnS e;obtain⟨l,e2,e⟩:=bnS e;split at e
 ·rename_i hl;obtain⟨r2,e3,e4⟩:=mpS e;cases e4;obtain⟨a,xs,q1,q2,q3⟩:=WE hR e2;refine⟨.ref a,q1,.inl ⟨rfl,xs,SqL.of q2⟩,O0,r,d,hR,e1,λv H1 s1 i1=>?_⟩;have R1:=hR.same s1;have key:∃b zs,v=.ref b/\(SqL X.K H1 b zs\/SqT X.K H1 b zs)/\IsL X.K (Ow O0 r σ) H1 m zs:=by
   cases d<;>first|(cases em;done)|skip
   ·cases em;rw[Is.tup_iff] at i1;obtain⟨b,zs,rfl,h1,h2⟩:=i1;exact⟨b,zs,rfl,.inr h1,h2⟩
   ·cases em;rw[Is.lst_iff] at i1;obtain⟨b,zs,rfl,h1,h2⟩:=i1;exact⟨b,zs,rfl,.inl h1.sq,h2⟩
  obtain⟨b,zs,rfl,hb,il⟩:=key;obtain⟨R2,k2⟩:=R1.upd (xs':=xs++zs) e3 q1 (s1 _ _ q2) ((q3.same s1 hR.ol).append il);exact⟨a,b,xs,zs,rfl,rfl,s1 _ _ q2,hb,by rw[<-q3.length,<-il.length];exact hl,q _ _ R2 ((Kp.of_same r σ s1).trans k2) (by rw[Is.non_iff])⟩
 ·cases e
noncomputable def zHN:List V->List V->Bool
 |[],[]=>true
 |x::xs,y::ys=>eqV x y && zHN xs ys
 |_,_=>false
noncomputable def zM7:List D->List D->Bool
 |[],[]=>true
 |x::xs,y::ys=>eqF x y && zM7 xs ys
 |_,_=>false
noncomputable def zHQ(xs ys:List V)(j:Nat):Bool:=match xs[j]?,ys[j]? with
 |some x,some y=>eqV x y
 |_,_=>false
theorem bW:∀(xs ys:List V),xs.length=ys.length->(List.range xs.length).all (zHQ xs ys)=zHN xs ys
 |[],[],_=>rfl
 |x::xs,y::ys,h=>by
  rw[au,List.range_succ_eq_map,jp,List.all_map,zHN,<-bW xs ys (by simpa using h)];rfl
 |[],y::ys,h=>by simp at h
 |x::xs,[],h=>by simp at h
theorem mG:∀(xs ys:List V),xs.length≠ys.length->zHN xs ys=false
 |[],[],h=>by simp at h
 |x::xs,y::ys,h=>by rw[zHN,mG xs ys (by simpa using h),Bool.and_false]
 |[],y::ys,h=>rfl
 |x::xs,[],h=>rfl
theorem mF{K:Fg}:∀{l:List D} {xs:List V},IsL K O H l xs->l.all jJ=true->xs.all kX=true
 |[],xs,h,_=>by unfold IsL at h;subst h;rfl
 |d::l,xs,h,f=>by
  rw[jp,bw] at f;unfold IsL at h;obtain⟨v,r,rfl,h1,h2⟩:=h;rw[jp,oA h1 f.1,mF h2 f.2];rfl
theorem JT{K:Fg}:∀{l m:List D} {xs ys:List V},IsL K O H l xs->IsL K O H m ys->l.all jJ=true->m.all jJ=true->zHN xs ys=zM7 l m
 |[],m,xs,ys,h,h',_,_=>by
  unfold IsL at h;subst h;cases m with
  |nil=>unfold IsL at h';subst h';rfl
  |cons e m=>unfold IsL at h';obtain⟨v,r,rfl,_,_⟩:=h';rfl
 |d::l,m,xs,ys,h,h',f,f'=>by
  unfold IsL at h;obtain⟨v,r,rfl,h1,h2⟩:=h;cases m with
  |nil=>unfold IsL at h';subst h';rfl
  |cons e m=>
   rw[jp,bw] at f f';unfold IsL at h';obtain⟨v',r',rfl,h1',h2'⟩:=h';rw[zHN,zM7,JT h2 h2' f.2 f'.2,zHO h1 f.1 h1' f'.1]
theorem JS{K:Fg}:∀{l m:List D} {xs ys:List V},IsL K O H l xs->IsL K O H m ys->l.all jJ=true->m.all jJ=true->xs.all kX=true/\ys.all kX=true/\zHN xs ys=zM7 l m:=λh h' f f'=>⟨mF h f,mF h' f',JT h h' f f'⟩
noncomputable def zOC(K:Fg)(neg:Bool):R2:=λx y H Q=>∃p q xs ys,x=.ref p/\y=.ref q/\SqL K H p xs/\SqL K H q ys/\xs.all kX=true/\ys.all kX=true/\Q (.bl (if neg then !zHN xs ys else zHN xs ys)) H
theorem zAF{xs:List V}{j:Nat}{x:V}(h:xs.all kX=true)(e:xs[j]?=some x):kX x=true:=on.mp h x (lu e)
theorem QR(r:Vals xs its)(h:j<its.toArray.size):∃x,xs[j]?=some x/\RelV x its.toArray[j]:=by
 have hj:j<xs.length:=by rw[r.length];simpa using h
 obtain⟨u,e,q⟩:=r.get (i:=j) (x:=xs[j]) (by simp[hj]);refine⟨xs[j],by simp[hj],?_⟩
 have:its.toArray[j]=u:=by
  have h':j<its.length:=by simpa using h
  simp only[List.getElem_toArray];rw[bn h'] at e;exact bg e
 rw[this];exact q
theorem ZV{A:Around}{s:Shared}{xs ys:List V}{its its2:List Value}(r:Vals xs its)(r2:Vals ys its2)(fx:xs.all kX=true)(fy:ys.all kX=true):∀j (h1:j<its.toArray.size) (h2:j<its2.toArray.size),SeqAt.EqAt A s its.toArray[j] its2.toArray[j] (zHQ xs ys j):=by
 intro j h1 h2;obtain⟨x,e1,q1⟩:=QR r h1;obtain⟨y,e2,q2⟩:=QR r2 h2
 have:zHQ xs ys j=eqV x y:=by unfold zHQ;rw[e1,e2]
 rw[this];exact zHP q1 q2 (zAF fx e1) (zAF fy e2)
theorem zF4(hu:X.A.units<cLine):OpR X (et .Eq) (zOC X.K false):=by
 intro pZ s σ H x y v u Q I rx ry h;obtain⟨p,q',xs,ys,rfl,rfl,h1,h2,fx,fy,q⟩:=h;cases rx;cases ry;obtain⟨its,r,pl,hz⟩:=I.list h1;obtain⟨its2,r2,pl2,hz2⟩:=I.list h2;have n1:=r.length;have n2:=r2.length;by_cases hl:xs.length=ys.length
 ·refine SeqAt.eq_listAt pl.isList pl2.isList (by simp only[ak];omega) hu (ZV r r2 fx fy) (yU I q ?_);rw[ak,<-n1,bW xs ys hl];rfl
 ·refine um pl.isList pl2.isList (by simp only[ak,bne_iff_ne];omega) hu (yU I q ?_);rw[mG xs ys hl];rfl
theorem zF2(hu:X.A.units<cLine):OpR X (et .NotEq) (zOC X.K true):=by
 intro pZ s σ H x y v u Q I rx ry h;obtain⟨p,q',xs,ys,rfl,rfl,h1,h2,fx,fy,q⟩:=h;cases rx;cases ry;obtain⟨its,r,pl,hz⟩:=I.list h1;obtain⟨its2,r2,pl2,hz2⟩:=I.list h2;have n1:=r.length;have n2:=r2.length;by_cases hl:xs.length=ys.length
 ·refine SeqAt.RcNeAt.lists pl.isList pl2.isList (by simp only[ak];omega) hu (ZV r r2 fx fy) _ _ _ _ (yU I q ?_);rw[ak,<-n1,bW xs ys hl];rfl
 ·refine sx pl.isList pl2.isList (by simp only[ak,bne_iff_ne];omega) hu _ _ _ _ (yU I q ?_);rw[mG xs ys hl];rfl
noncomputable def eqA(x y:D):Option D:=match x,y with
 |.lst l,.lst m=>if l.all jJ=true/\m.all jJ=true then some (.bl (zM7 l m)) else none
 |x,y=>eqD x y
noncomputable def neA(x y:D):Option D:=match x,y with
 |.lst l,.lst m=>if l.all jJ=true/\m.all jJ=true then some (.bl (!zM7 l m)) else none
 |x,y=>neD x y
noncomputable def zQG(K:Fg):R2:=λx y H Q=>zOC K false x y H Q\/rEq x y H Q
noncomputable def zQA(K:Fg):R2:=λx y H Q=>zOC K true x y H Q\/rNe x y H Q
theorem jB(hu:X.A.units<cLine):OpR X (et .Eq) (zQG X.K):=(zF4 hu).or zOK
theorem X0(hu:X.A.units<cLine):OpR X (et .NotEq) (zQA X.K):=(zF2 hu).or zOI
theorem jC{K:Fg}:OpD K (zQG K) eqA:=by
 intro O H dx dy d vx vy Q ol ix iy e q;unfold eqA at e;split at e
 ·rename_i l m;split at e
  ·rename_i hf;cases e;rw[Is.lst_iff] at ix iy;obtain⟨a,xs,rfl,hs,il⟩:=ix;obtain⟨b,ys,rfl,hs',il'⟩:=iy;obtain⟨f1,f2,f3⟩:=JS il il' hf.1 hf.2;exact .inl ⟨a,b,xs,ys,rfl,rfl,hs.sq,hs'.sq,f1,f2,q _ H (Same.refl H) (by rw[Is.bl_iff,f3];rfl)⟩
  ·cases e
 ·exact .inr (zOM O H dx dy d vx vy Q ol ix iy e q)
theorem WB{K:Fg}:OpD K (zQA K) neA:=by
 intro O H dx dy d vx vy Q ol ix iy e q;unfold neA at e;split at e
 ·rename_i l m;split at e
  ·rename_i hf;cases e;rw[Is.lst_iff] at ix iy;obtain⟨a,xs,rfl,hs,il⟩:=ix;obtain⟨b,ys,rfl,hs',il'⟩:=iy;obtain⟨f1,f2,f3⟩:=JS il il' hf.1 hf.2;exact .inl ⟨a,b,xs,ys,rfl,rfl,hs.sq,hs'.sq,f1,f2,q _ H (Same.refl H) (by rw[Is.bl_iff,f3];rfl)⟩
  ·cases e
 ·exact .inr (zOL O H dx dy d vx vy Q ol ix iy e q)
noncomputable abbrev MZ:=En->Option (List D×List D)
noncomputable def zP(fs:ML):MZ:=λr=>(fs r).map λes=>([],es)
noncomputable def zE(f:ME)(z:MZ):MZ:=λr=>(f r).bind λd=>(z r).map λq=>(d::q.1,q.2)
theorem cQ:(vs++V.ref c::us)[vs.length]?=some (.ref c):=by rw[bf (ah _),Nat.sub_self];rfl
theorem zD5{K:Fg}(h1:IsL K O H ds vs)(h2:IsL K O H es us)(e:(ds++.non::es)[j]?=some d)(hj:j≠ds.length):∃v,(vs++V.ref c::us)[j]?=some v/\Is K O H d v:=by
 have hl:=h1.length;by_cases h:j<ds.length
 ·rw[ax h] at e;obtain⟨v,e1,i1⟩:=h1.get e;exact⟨v,by rw[ax (by omega)];exact e1,i1⟩
 ·rw[bf (by omega)] at e;rw[bf (by omega)];obtain⟨k,hk⟩:∃k,j-ds.length=k+1:=⟨j-ds.length-1,by omega⟩;rw[hk,ig] at e;rw[<-hl,hk,ig];exact h2.get e
theorem Q8(e:zA8 i l' r=some r')(h:w8 r' σ b):w8 r σ b:=by
 obtain⟨x,y,ex,rfl,yo,ym,⟨l0,xm⟩,_⟩:=bX e;obtain⟨j,m,ej,qj⟩:=h;by_cases hj:j=i
 ·subst hj;exact⟨j,l0,by rw[ex];exact uB xm,qj⟩
 ·rw[zD (λz=>hj z.symm)] at ej;exact⟨j,m,ej,qj⟩
theorem zV{c k}:ae (.Constant c k p::es) env=(false,eval (.Constant c k p) env)::ae es env:=rfl
theorem zS{x}:ae (.Name x p::es) env=(false,eval (.Name x p) env)::ae es env:=rfl
theorem yX{l k}:ae (.Tuple l k p::es) env=(false,eval (.Tuple l k p) env)::ae es env:=rfl
theorem pO{f l k}:ae (.Call f l k p::es) env=(false,eval (.Call f l k p) env)::ae es env:=rfl
theorem w6{a b}:ae (.Subscript a b p::es) env=(false,eval (.Subscript a b p) env)::ae es env:=rfl
theorem cY{a o b}:ae (.BinOp a o b p::es) env=(false,eval (.BinOp a o b p) env)::ae es env:=rfl
section
variable{X:Cx}{pos:Pos}{a b tg:Expr}{f g:ME}
theorem zIH{x:Str}{i:Int}(h:∃t,X.mg x=some (.int i t))(hg:Gl X x)(hd:(x == ("__debug__" : Str))=false:=by decide):DE X (.Name x pos) (mC (.int i)):=by
 obtain⟨t,h⟩:=h;exact oM (Q6 (v:=.int i) hg h ⟨t,rfl⟩ hd) λO H=>by rw[Is.int_iff]
theorem ZW{K:Fg}{O:Addr->Prop}{H:Hp}:∀ss:List (List Nat),IsL K O H (ss.map D.str) (ss.map λs=>V.str ⟨s.toArray⟩)
 |[]=>IsL.nil
 |s::ss=>.cons (by rw[Is.str_iff]) (ZW ss)
theorem zCH{Ps:Params}{x:Str}{tbl:List (List Nat×List Nat)}{pZ:List (Addr×Obj)}{σ:St}{H:Hp}{s:Shared}{p:Addr}{es:Array DictEntry}{n:Nat}(I:Inv X pZ σ H s)(hl:X.K.lookup p=some ⟨.type "dict",none,.dict es n,#[]⟩)(hk:PySem.W.KeysLit X.w.params es.toList):s.heap.MapOf (strKind X.prog X.w) p (λk=>findBy Value.isStrOf es k):=PySem.W.mapOf_K (I.mod.kin.keeps I.bk) hl hk
theorem dO(es:Array DictEntry)(k:Str):findBy Value.isStrOf es k=(es.toList.find? λd=>Value.isStrOf k d.key).map (·.val):=by
 obtain⟨l⟩:=es;unfold findBy;rw[List.find?_toArray]
theorem J6{x:Str}{p:Addr}(h:X.mg x=some (.ref p))(hg:Gl X x)(hd:(x == ("__debug__" : Str))=false:=by decide):DE X (.Name x pos) (mC (.ref p)):=
 oM (Q6 (v:=.ref p) hg h rfl hd) λO H=>by rw[Is.ref_iff]
end
open Builtin.Str
noncomputable def zDL:D->Option D
 |.bl b=>some (.int (if b then 1 else 0))
 |_=>none
theorem QG:CallR X (.type "int") (λxs H Q=>∃b:Bool,xs=[.bl b]/\Q (.int (if b then 1 else 0)) H):=by
 intro pZ s σ H xs us Q I r hq;obtain⟨y,rfl,q⟩:=hq;obtain⟨u,rfl,ru⟩:=Vals.one r;obtain rfl:u=.bool y:=ru;exact call_int_bool ⟨.int _,H,I.tok _,⟨_,rfl⟩,q⟩
theorem zIF(hg:Gl X "int")(hm:X.mg "int" = none)(ha:DE X a f)(hs:ae [a] X.env=(false,eval a X.env)::ae [] X.env:=by rfl):DE X (.Call (.Name "int" p') [a] [] pos) (mUn zDL f):=by
 refine PE.conseq (v5 QG hg hm PyProof.Rows.boot_int (yC ha xF hs) (he:=hs)) λσ H Q hq=>?_
 obtain⟨O0,r,d,hR,e,q⟩:=hq;obtain⟨x,e1,e2⟩:=bnS e;refine⟨O0,r,x,hR,e1,λv H1 s1 i1=>?_⟩;cases x<;>first|(simp only[zDL,reduceCtorEq] at e2;done)|skip
 cases e2;rw[Is.bl_iff] at i1;exact⟨_,by rw[i1],q _ H1 s1 (by rw[Is.int_iff])⟩
theorem JB{K:Fg}{Dn:Ends}(h:lS K (qH i (qN fl)) Dn σ H):lF K fl σ H (λv H1=>WY i v σ H1 Dn.nx):=by
 obtain⟨O0,r,fl',hR,e,q⟩:=h;obtain⟨d,e1,e2⟩:=bnS e;obtain⟨r',e3,rfl⟩:=mpS e2;obtain⟨l,e4,rfl⟩:=mpS e1;obtain⟨hl,np,rfl⟩:=qX e3;refine⟨O0,r,l,hR,e4,λp xs H1 s1 n1 e5 i1=>?_⟩;have ol:jN (λb=>Ow O0 r σ b\/b=p) H1:=λb z=>z.elim (λz=>(hR.same s1).ol b z) λz=>by subst z;exact⟨.lst xs,e5,trivial⟩
 have iv:Is K (Ow O0 r σ) H1 (.lst l) (.ref p):=by
  rw[Is.lst_iff];exact⟨p,xs,rfl,.inl ⟨hR.nofresh n1,.inl e5⟩,IsL.mono (Same.kp (Same.refl H1) _) ol (λa z _=>.inl z) l xs i1⟩
 obtain⟨R1,k1⟩:=(hR.same s1).setv hl np iv;exact q _ H1 R1 ((Kp.of_same r σ s1).trans k1)
theorem zH2(i:Nat)(hc:X.calm=true)(o:CmpOk X N' cap scope)(hi:DI X tg iter it)(hg:∀C fp s H,DG (cxC X N' scope C fp s H) tg bd)(he:∀C fp s H,DE (cxC X N' scope C fp s H) elt x)(n:Nat)(hN:X.N.Nodup)(hn:N'.length=n:=by rfl)(hy:X.N[i]?=some y:=by rfl)(hx:Loc X.env.scope y:=by first|exact Or.inl rfl|exact Or.inr rfl)(hf:X.fn y=true\/X.env.scope.names.lookup y=some .local:=by first|exact .inl rfl|exact .inr rfl)(hsw:gy (.ListComp elt [⟨tg,iter,[],0⟩] scope pos) (some (.Name y py)) spos.line X.env=pure true:=by rfl)(hs:∀x,gc iter X.env x=pure x:=by intro _;rfl):DS X (.Assign [.Name y py] (.ListComp elt [⟨tg,iter,[],0⟩] scope pos) spos) (qH i (qN (vR cap n it bd x))):=by
 subst hn;exact PS.conseq (t9 (i:=i) (g:=lG X.K bd) (te:=lE X.K x) (tc:=none) hc o hi hg rfl he hN hy hx hf hsw hs) λDn σ H h=>uJ (tc:=none) (λ{σ H K1 K0 te} z=>by
  obtain⟨O0,r,b,hR,e,q⟩:=z;unfold gU at e;cases e;have z1:(if true=true then te σ H K1 else K0 H):=q H (Same.refl H);rw[if_pos rfl] at z1;exact z1) N'.length (JB h)
theorem W1(i:Nat)(hc:X.calm=true)(o:CmpOk X N' cap scope)(hi:DI X tg iter it)(hg:∀C fp s H,DG (cxC X N' scope C fp s H) tg bd)(ht:∀C fp s H,DT (cxC X N' scope C fp s H) ce c)(he:∀C fp s H,DE (cxC X N' scope C fp s H) elt x)(n:Nat)(hN:X.N.Nodup)(hn:N'.length=n:=by rfl)(hy:X.N[i]?=some y:=by rfl)(hx:Loc X.env.scope y:=by first|exact Or.inl rfl|exact Or.inr rfl)(hf:X.fn y=true\/X.env.scope.names.lookup y=some .local:=by first|exact .inl rfl|exact .inr rfl)(hsw:gy (.ListComp elt [⟨tg,iter,[ce],0⟩] scope pos) (some (.Name y py)) spos.line X.env=pure true:=by rfl)(hs:∀x,gc iter X.env x=pure x:=by intro _;rfl):DS X (.Assign [.Name y py] (.ListComp elt [⟨tg,iter,[ce],0⟩] scope pos) spos) (qH i (qN (wS cap n it bd c x))):=by
 subst hn;exact PS.conseq (t9 (i:=i) (g:=lG X.K bd) (te:=lE X.K x) (tc:=some (lT X.K c)) hc o hi hg ⟨ce,rfl,ht⟩ he hN hy hx hf hsw hs) λDn σ H h=>uJ (tc:=some (lT X.K c)) (λz=>z) N'.length (JB h)
end DD
namespace TS
open PySem PyProof.Rows
open PySem PyProof.Rows
open PySem PyProof.Rows
open PySem PyProof.Rows
open PySem PyProof.Rows
open PySem PyProof.Rows
open PySem PyProof.Rows
open PySem PyProof.Rows
open PySem PyProof.Rows
open PySem PyProof.Rows PySem.W
end TS
namespace DD
open PySem PySem.Spec PyProof.Rows L2
noncomputable def ltA:D->D->Option D
 |.int i,.int j=>some (.bl (decide (i<j)))
 |.str s,.str t=>some (.bl (decide (s<t)))
 |_,_=>none
theorem zKV:OpR X (et .Lt) (λx y H Q=>∃i j,x=.str i/\y=.str j/\Q (.bl (decide (i.cps.toList<j.cps.toList))) H):=by
 intro pZ s σ H x y v u Q I rx ry hq;obtain⟨i,j,rfl,rfl,q⟩:=hq;obtain⟨t,rfl⟩:=rx;obtain⟨t',rfl⟩:=ry;exact PySem.P.lt_str ⟨.bl _,H,I,rfl,q⟩
noncomputable def zQB:R2:=λx y H Q=>rI0 (λi j=>.bl (decide (i<j))) x y H Q\/∃i j,x=.str i/\y=.str j/\Q (.bl (decide (i.cps.toList<j.cps.toList))) H
theorem X1:OpR X (et .Lt) zQB:=op_lt.or zKV
theorem WC{K:Fg}:OpD K zQB ltA:=by
 intro O H dx dy d vx vy Q ol ix iy e q;cases dx<;>cases dy<;>first|(simp only[ltA,reduceCtorEq] at e;done)|skip
 ·simp only[ltA,eh] at e;subst e;rw[Is.int_iff] at ix iy;exact .inl ⟨_,_,ix,iy,q _ H (Same.refl H) (by rw[Is.bl_iff])⟩
 ·simp only[ltA,eh] at e;subst e;rw[Is.str_iff] at ix iy;exact .inr ⟨_,_,ix,iy,q _ H (Same.refl H) (by rw[Is.bl_iff])⟩
mutual
noncomputable def toP:D->PyData
 |.non=>.none
 |.bl b=>.bool b
 |.int i=>.int i
 |.str s=>.str ⟨s.toArray⟩
 |.tup l=>.tuple (pM l)
 |.lst l=>.list (pM l)
 |.ty _=>.none
 |.ref _=>.none
 |.dct _ _=>.none
noncomputable def pM:List D->List PyData
 |[]=>[]
 |d::l=>toP d::pM l
end
mutual
noncomputable def okD:D->Bool
 |.tup l=>zF7 l
 |.lst l=>zF7 l
 |.ty _=>false
 |.ref _=>false
 |.dct _ _=>false
 |_=>true
noncomputable def zF7:List D->Bool
 |[]=>true
 |d::l=>okD d && zF7 l
end
mutual
theorem g0(I:Inv X pZ σ H s):∀(d:D) (v:V) (u:Value),okD d=true->Is X.K O H d v->RelV v u->∃as,Reads s.heap u (toP d) as
 |.non,v,u,_,h,r=>by rw[Is.non_iff] at h;subst h;cases r;exact⟨_,.none⟩
 |.bl b,v,u,_,h,r=>by rw[Is.bl_iff] at h;subst h;cases r;exact⟨_,.bool b⟩
 |.int i,v,u,_,h,r=>by rw[Is.int_iff] at h;subst h;obtain⟨t,rfl⟩:=r;exact⟨_,.int i t⟩
 |.str x,v,u,_,h,r=>by rw[Is.str_iff] at h;subst h;obtain⟨t,rfl⟩:=r;exact⟨_,.str _ t⟩
 |.ty n,v,u,o,_,_=>by simp[okD] at o
 |.ref a,v,u,o,_,_=>by simp[okD] at o
 |.dct ks l,v,u,o,_,_=>by simp[okD] at o
 |.tup l,v,u,o,h,r=>by
  rw[Is.tup_iff] at h;obtain⟨a,xs,rfl,sq,il⟩:=h;cases r;obtain⟨its,rv,⟨ob,e,c,n,dt⟩,_⟩:=I.tuple sq;obtain⟨as,q⟩:=vZ I l xs its (by simpa [okD] using o) il rv;exact⟨_,.tuple e c dt (by simpa using q)⟩
 |.lst l,v,u,o,h,r=>by
  rw[Is.lst_iff] at h;obtain⟨a,xs,rfl,sq,il⟩:=h;cases r;obtain⟨its,rv,⟨ob,n,e,c,_,dt⟩,_⟩:=I.list sq.sq;obtain⟨as,q⟩:=vZ I l xs its (by simpa [okD] using o) il rv;exact⟨_,.list e c dt (by simpa using q)⟩
theorem vZ(I:Inv X pZ σ H s):∀(l:List D) (vs:List V) (us:List Value),zF7 l=true->IsL X.K O H l vs->Vals vs us->∃as,ReadsAll s.heap us (pM l) as
 |[],vs,us,_,h,r=>by unfold IsL at h;subst h;cases r;exact⟨_,.nil⟩
 |d::l,vs,us,o,h,r=>by
  unfold IsL at h;obtain⟨v,vr,rfl,h1,h2⟩:=h;simp only[zF7,bw] at o;cases r with
  |cons r1 r2=>
   obtain⟨as,q1⟩:=g0 I d v _ o.1 h1 r1;obtain⟨bs,q2⟩:=vZ I l vr _ o.2 h2 r2;exact⟨_,.cons q1 q2⟩
end
theorem un2(r:Room k A):A.units+200<cLine:=by have:=r.un;omega
def fre:Sl->Prop
 |.un=>True
 |.v _=>True
 |_=>False
theorem yQ(e:r[i]?=some x)(h:fre x):yV i d r=some (r.set i (.v d)):=by
 unfold yV;rw[e];cases x<;>first|rfl|cases h
theorem zFI(e:r[i]?=some (.o (S++[d]))):pC i r=some (d,r.set i (.o S)):=by
 simp[pC,zGF,e,Sl.ml,zA8]
theorem rW(e:r[i]?=some (.o S))(e2:f r=some d)(h:S.length<af):QL i f r=some (.non,r.set i (.o (S++[d]))):=by
 simp[QL,zGF,e,Sl.ml,zA8,e2,h]
theorem Y9(e:r[i]?=some (.v d)):zF i r=some d:=by
 unfold zF;rw[e]
theorem yP(e:g r=some (.nx r')):yL g h r=h r':=by
 unfold yL;rw[e];rfl
theorem zJ5(e:g r=some (.rt d r')):yL g h r=some (.rt d r'):=by
 unfold yL;rw[e];rfl
theorem c8(e:f r=some (d,r')):sX f r=some (.nx r'):=by
 unfold sX;rw[e];rfl
theorem vX(e:f r=some d)(e2:yV i d r=some r2):qH i f r=some (.nx r2):=by
 unfold qH;rw[e];show(yV i d r).map Fl.nx=_;rw[e2];rfl
theorem zE3(e:c r=some true):sIf c g h r=g r:=by
 unfold sIf;rw[e];rfl
theorem zDD(e:c r=some false):sIf c g h r=h r:=by
 unfold sIf;rw[e];rfl
theorem rY(h:c r=some true)(e:g r=some (.nx r')):j4 (n+1) c g r=j4 n c g r':=by
 show(c r).bind _=_;rw[h,aa,if_pos rfl,e,aa]
theorem mM(h:c r=some false):j4 (n+1) c g r=some (.nx r):=by
 show(c r).bind _=_;rw[h,aa,if_neg (by simp)]
theorem cG(h:bd d r=some r1)(e:g r1=some (.nx r')):rM bd g (d::l) r=rM bd g l r':=by
 show(bd d r).bind _=_;rw[h,aa,e,aa]
theorem yK(e1:f r=some x)(e2:g r=some y)(e:m x y=some d):zJ m f g r=some d:=by
 unfold zJ;rw[e1,aa,e2];exact e
theorem bP(e1:f r=some x)(e:m x=some d):mUn m f r=some d:=by
 unfold mUn;rw[e1];exact e
theorem vP(e1:f r=some (.int i))(e2:g r=some (.int j)):zJ kZ f g r=some (.int (i+j)):=yK e1 e2 rfl
theorem qJ(e1:f r=some (.int i))(e2:g r=some (.int j))(h:0<j):zJ jI f g r=some (.int (i % j)):=yK e1 e2 (if_pos h)
theorem rB(e1:f r=some (.int i))(e2:g r=some (.int j))(h : -(2 ^ 64)<i/\i<2 ^ 64):zJ hI f g r=some (.int (i*j)):=yK e1 e2 (if_pos (.inl h))
theorem wU(e1:f r=some (.int i))(e2:g r=some (.int j))(h:0<j/\j<1073741824):zJ xY f g r=some (.int (i / j)):=yK e1 e2 (if_pos h)
theorem zM:mC d r=some d:=rfl
theorem zR(e1:f r=some x)(e2:fl r=some l):zA f fl r=some (x::l):=by
 unfold zA;rw[e1,aa,e2];rfl
theorem yT:zT r=some []:=rfl
theorem ZP(e:fl r=some l)(h:l.length<=100):qN (wD fl) r=some (.lst l):=by
 unfold qN wD;rw[e,aa,if_pos (bq h (by decide))];rfl
theorem d8(e:fl r=some l)(h:l.length<=100):yY fl r=some (.tup l):=by
 unfold yY;rw[e,aa,if_pos (bq h (by decide))]
theorem xN(e:fl r=some l)(hl:l.length=n)(h:∃as,m (l.map .v)=some (p,as)):yD n m fl r=some (rsD p):=by
 obtain⟨as,h⟩:=h;unfold yD;rw[e,aa,if_pos hl,h];rfl
theorem dU(e:f r=some (.bl b)):mBl f r=some b:=by
 unfold mBl;rw[e];rfl
theorem x5(e:f r=some d):jD f r=some (.rt d r):=by
 unfold jD;rw[e];rfl
theorem yF(d:D)(e:f r=some d)(e2:yV k d r=some r2)(q:h r2=z):yL (qH k f) h r=z:=by
 rw[yP (vX e e2)];exact q
theorem wW(e:c r=some false)(q:h r=z):yL (sIf c a wB) h r=z:=by
 rw[yP (r':=r) (by rw[zDD e];rfl)];exact q
theorem vK(e:c r=some true)(q:a r=some (.rt d r')):yL (sIf c a wB) h r=some (.rt d r'):=zJ5 (by rw[zE3 e];exact q)
theorem kF(e:s (as++List.replicate (N-n) .un)=some (.rt d r')):∃bs,mkF n N s as=some (.v d,bs):=by
 unfold mkF;rw[e];exact⟨_,rfl⟩
theorem kB(h:s.length+t.length<=100):kZ (.str s) (.str t)=some (.str (s++t)):=if_pos (bq h (by decide))
theorem QX{lo:MO}(e1:f r=some x)(e2:lo r=some a)(e3:hi r=some b)(e:slD x a b=some d):mSl f lo hi r=some d:=by
 unfold mSl;rw[e1,aa,e2,aa,e3];exact e
theorem jF(e:g r=some (.int i)):jZ g r=some (some i):=by
 unfold jZ;rw[e];rfl
theorem zM3(e1:f r=some (.int i))(e2:g r=some (.int j)):mBl (zJ gtD f g) r=some (decide (j<i)):=dU (yK e1 e2 rfl)
theorem zGW(h:l.length+m.length<=100000):kZ (.lst l) (.lst m)=some (.lst (l++m)):=if_pos (bq h (by decide))
theorem zAA(s:List α)(i k:Nat):rS s (some (i:Int)) (some (k:Int))=(s.take k).drop i:=by
 unfold rS;rw[HT.sIx_nat,HT.sIx_nat,List.drop_take];by_cases h:i<=s.length
 ·rw[sg h,List.take_eq_take_iff,jh];rw[vq,vq,Nat.min_assoc,Nat.min_self]
 ·have e1:s.drop (min i s.length)=[]:=kt (by omega);have e2:s.drop i=[]:=kt (by omega);rw[e1,e2];simp
theorem zA4(e:f r=some (.int (n:Int)))(h:n<1000):ZO f r=some ((List.range n).map λk=>.int ((0:Int)+(k:Nat))):=by
 have h1 : -(2 ^ 62:Int)<=(n:Int)/\(n:Int)<2 ^ 62:=by constructor<;>omega
 have h2:DD.intD (.int (n:Int))=some (n:Int):=by unfold DD.intD;rfl
 unfold ZO;rw[e,aa,h2,aa,if_pos h1,kz];unfold zMG;rfl
theorem zRF(e1:f r=some (.lst l))(e2:g r=some (.lst m))(h:l.length+m.length<=100000):zJ kZ f g r=some (.lst (l++m)):=yK e1 e2 (zGW h)
theorem bdP(h1:yV i a r=some r1)(h2:yV j b r1=some r2):qI 2 (yE (yV i) (yE (yV j) qZ)) (.tup [a,b]) r=some r2:=by
 show((yV i a r).bind λz=>(yV j b z).bind λy=>some y)=_;rw[h1,aa,h2];rfl
noncomputable def ItB(K:Fg)(a:Addr)(n:Nat):It:=
 ⟨λi H=>∃xs x,SqL K H a xs/\xs.length=n/\i<n/\xs[n-1-i]?=some x,λi H x H'=>H'=H/\∀xs,SqL K H a xs->xs[n-1-i]?=some x,λi _=>i=n⟩
theorem XD{K:Fg}(a it:Addr)(n:Nat):Turn P w K tg (ItB K a n) [it] it (λi h=>h.IsRevIter it a ((n:Int)-1-(i:Int))) where
 mem:=by simp
 obj:=λi h st b hb=>by
  have e:b=it:=by simpa using hb
  subst e;obtain⟨o,e,c,d⟩:=st;exact⟨o,e,λv z=>by rw[d] at z;cases z⟩
 keep:=λi h h' st k=>st.at λo e=>k it (by simp) o e
 item:=by
  intro X hP hw hK hc i pZ s σ H E I hf st hg;subst hP hw hK;obtain⟨xs,x,hq,hn,hi,hx⟩:=hg;obtain⟨its,rv,p,hz⟩:=I.list hq;obtain⟨u,hu,ru⟩:=rv.get hx;obtain⟨f0,f1,f2,f3,f4,f5⟩:=hf it (by simp);have e1:(n:Int)-1-(i:Int)=((n-1-i:Nat):Int):=by clear st hu hx hq hn rv p;omega
  rw[e1] at st;refine wpAny_pyNext_rev_item st p.isList (x:=u) (by simpa using hu) λh' st' sb=>?_
  have e2:((n-1-i:Nat):Int)-1=(n:Int)-1-((i+1:Nat):Int):=by clear st st' hu hx hq hn rv p;omega
  rw[e2] at st';have I1:Inv X pZ σ H { s with heap:=h' }:=I.turned (t':=s.toks) (λb o hb e=>(sb.2 b hb).trans e) f0 f1 f3 f4 f5;obtain⟨o,e,c,d⟩:=id st';exact⟨u,rfl,zDM (s:={ s with heap:=h' }) e c d (by decide) ⟨x,H,I1,ru,⟨rfl,λys hy=>by rw[I.list_inj hy hq];exact hx⟩,st',λb hb=>(hf b hb).1⟩⟩
 done:=by
  intro X hP hw hK hc i pZ s σ H E I hf st hg;subst hP hw hK;obtain rfl:i=n:=hg;obtain⟨f0,f1,f2,f3,f4,f5⟩:=hf it (by simp);have e1:(i:Int)-1-(i:Int)=-1:=by clear st;omega
  rw[e1] at st;exact wpAny_pyNext_rev_end (I.ok.hd hc) st λh' eb=>⟨rfl,I.turned (t':=s.toks) (λb o hb e=>eb b o hb e) f0 f1 f3 f4 f5⟩
 self:=λ_ _ _ _ _ st h=>vw st h
theorem zD9{K:Fg}(mo:∀a,M a->O a)(ol:jN O H)(rd:∀H1,bL M H H1->SqL K H1 a xs)(il:IsL K O H ds xs):zJO K O M H (ItB K a xs.length) ds.reverse:=by
 intro i H1 O' kp oo;have kp':bL O H H1:=λb o e n=>kp b o e λz=>n (mo b z)
 have rd1:SqL K H1 a xs:=rd H1 kp;have ll:=il.length;have bk:∀d,ds.reverse[i]?=some d->i<xs.length/\ds[xs.length-1-i]?=some d:=λd e=>by
  have hi:i<ds.length:=by
   obtain⟨h,_⟩:=ar.mp e;rw[fw] at h;exact h
  rw[lg hi,ll] at e;exact⟨ll ▸ hi,e⟩
 refine⟨λhi=>⟨?_,λx H' y=>?_⟩,λhi=>by rw[fw,ll] at hi;exact hi⟩
 ·obtain⟨d,e⟩:=jX hi;obtain⟨hi',e'⟩:=bk d e;obtain⟨v,e1,_⟩:=il.get e';exact⟨xs,v,rd1,rfl,hi',e1⟩
 ·obtain⟨rfl,y⟩:=y;refine⟨Same.refl _,λd e=>?_⟩;obtain⟨hi',e'⟩:=bk d e;obtain⟨v,e1,q⟩:=il.get e'
  have:=y xs rd1
  rw[e1] at this;cases this;exact Is.mono kp' ol oo _ _ q
theorem zFQ(hg:Gl X "reversed")(hm:X.mg "reversed" = none)(ha:PE X a ta)(hs:ae [a] X.env=[(false,eval a X.env)]:=by rfl):PI X tg (.Call (.Name "reversed" p) [a] [] pos) (λσ H R=>ta σ H λx H1=>∃u xs,x=.ref u/\SqL X.K H1 u xs/\R (ItB X.K u xs.length) H1):=by
 intro pZ s σ H R I h;have hA:PA X [a] (mQ ta zET):=yC ha xF (by rw[hs];rfl);refine Call_ (uD I hg hm tq (dq (thn (hA pos pZ s σ H (z1 λx H1=>∃u xs,x=.ref u/\SqL X.K H1 u xs/\R (ItB X.K u xs.length) H1) I h) λus s1 ⟨vs,H1,I1,r1,q1⟩=>?_) hs rfl));obtain⟨_,rfl,u,xs,rfl,hx,q⟩:=zAI q1;obtain⟨uu,rfl,ru⟩:=Vals.one r1;cases ru;obtain⟨its,rv,pl,_⟩:=I1.list hx;have hl:its.toArray.size=xs.length:=by rw[ak];exact rv.length.symm
 have z1:(s1.heap.push (revObj u ((its.toArray.size:Int)-1))).IsRevIter s1.heap.objs.size u ((its.toArray.size:Int)-1):=⟨_,ba _ rfl,rfl,rfl⟩;refine call_reversed_list pl.isList (vw z1 ?_);refine⟨_,[s1.heap.objs.size],_,_,H1,rfl,I1.kept (t':=s1.toks) (λb o e=>ad _ e),XD u _ xs.length,?_,λb hb=>?_,q⟩
 ·rw[hl] at z1 ⊢;rw[show((xs.length:Int)-1-((0:Nat):Int))=(xs.length:Int)-1 from Int.sub_zero _];exact z1
 ·have e:b=s1.heap.objs.size:=by simpa using hb
  subst e;exact I1.fpOk (ah _) (I1.hok.fresh (ah _))
noncomputable def WL(f:ML):ML:=λr=>(f r).map List.reverse
theorem zCZ(hg:Gl X "reversed")(hm:X.mg "reversed" = none)(ha:DK X a fl)(hs:ae [a] X.env=[(false,eval a X.env)]:=by rfl):DI X tg (.Call (.Name "reversed" p) [a] [] pos) (WL fl):=by
 refine PI.conseq (zFQ hg hm ha hs) λσ H Rr hq=>?_
 obtain⟨O0,r,ds,hR,e,q⟩:=hq;obtain⟨l,e1,rfl⟩:=mpS e;refine⟨O0,r,l,hR,e1,λu xs H1 s1 kp il=>?_⟩;exact⟨u,xs,rfl,kp H1 λb o e _=>e,q _ H1 s1 (zD9 (λa z=>.inr z.own) (hR.same s1).ol kp il)⟩
theorem Z1{K:Fg}(ol:jN O H)(hp:H p=none)(h:IsL K O H l xs):IsL K (λb=>O b\/b=p) (upd H p (.lst ys)) l xs:=
 IsL.mono (Same.kp (yA hp) _) ol (λa z n=>z.elim id λz=>by subst z;exact absurd hp n) _ _ h
noncomputable def zPW(f g:ML):ML:=λr=>(f r).bind λl=>(g r).bind λm=>if l.length+m.length<=af then some (l++m) else none
theorem zL2(ha:DB X a fl)(hb:DB X b gl):DF X (.BinOp a .Add b pos) (zPW fl gl):=by
 refine PE.conseq (zMP op_catR ha hb) λσ H Q h=>?_
 obtain⟨O0,r,d,hR,e,q⟩:=h;obtain⟨l,e1,e⟩:=bnS e;obtain⟨m,e2,e⟩:=bnS e;split at e
 ·rename_i hz;cases e;refine⟨O0,r,l,hR,e1,λp xs H1 s1 sq il=>⟨O0,r,m,hR.same s1,e2,λp' ys H2 s2 sq' il'=>?_⟩⟩;refine⟨p,p',xs,ys,rfl,rfl,s2.seq sq,sq',by rw[<-il.length,<-il'.length];exact hz,λt ht=>q t _ _ ((s1.trans s2).trans (yA ht)) ((s1.trans s2).free ht) zQ ?_⟩;exact Z1 (hR.same (s1.trans s2)).ol ht ((il.same s2 (hR.same s1).ol).append il')
 ·cases e
noncomputable def WI(f g:ML):MB:=λr=>(f r).bind λl=>(g r).bind λm=>if m.isEmpty then some (!l.isEmpty) else none
noncomputable def zKE(K:Fg):R2:=λx y H Q=>∃p q xs,x=.ref p/\y=.ref q/\SqL K H p xs/\SqL K H q []/\Q (.bl (!xs.isEmpty)) H
theorem zBN(hu:X.A.units<cLine):OpR X (et .NotEq) (zKE X.K):=by
 intro pZ s σ H x y v u Q I rx ry h;obtain⟨p,q',xs,hx,hy,h1,h2,q⟩:=h;cases xs with
 |nil=>exact zF2 hu pZ s σ H x y v u Q I rx ry ⟨p,q',[],[],hx,hy,h1,h2,rfl,rfl,q⟩
 |cons z zs=>
  subst hx hy;cases rx;cases ry;obtain⟨its,r,pl,hz⟩:=I.list h1;obtain⟨its2,r2,pl2,hz2⟩:=I.list h2;have n1:=r.length;have n2:=r2.length;simp only[au,bo] at n1 n2;refine sx pl.isList pl2.isList (by simp only[ak,bne_iff_ne];omega) hu _ _ _ _ (yU I q ?_);rfl
theorem zCS(hu:X.A.units<cLine)(ha:DB X a fl)(hb:DB X b gl)(hm:dh .NotEq b=false:=by rfl):DT X (.Compare a [.NotEq] [b] pos) (WI fl gl):=by
 refine PT.conseq (dB (zBN hu) ha hb hm) λσ H Q h=>?_
 obtain⟨O0,r,d,hR,e,q⟩:=h;obtain⟨l,e1,e⟩:=bnS e;obtain⟨m,e2,e⟩:=bnS e;split at e
 ·rename_i hz;cases e;refine⟨O0,r,l,hR,e1,λp xs H1 s1 sq il=>⟨O0,r,m,hR.same s1,e2,λp' ys H2 s2 sq' il'=>?_⟩⟩;have hm:m=[]:=by simpa using hz
  subst hm;unfold IsL at il';subst il';have hb:l.isEmpty=xs.isEmpty:=by
   have:=il.length
   cases l<;>cases xs<;>simp_all
  exact⟨p,p',xs,rfl,rfl,s2.seq sq,sq',_,rfl,by rw[<-hb];exact q H2 (s1.trans s2)⟩
 ·cases e
def pA(l:List (List Nat)):Prop:=l.Pairwise λa b=>¬b<a
open Classical in
noncomputable def kJ(l:List (List Nat)):List (List Nat):=if h:∃m,m.Perm l/\pA m then h.choose else l
theorem XQ(h1:pA l)(h2:pA m)(p:l.Perm m):l=m:=
 List.Perm.eq_of_pairwise (le:=λa b=>¬b<a) (λa b _ _ x y=>List.le_antisymm (as:=a) (bs:=b) x y) h1 h2 p
theorem tO(p:m.Perm l)(h:pA m):m=kJ l:=by
 have ex:∃m,m.Perm l/\pA m:=⟨m,p,h⟩;unfold kJ;rw[dif_pos ex];exact XQ h ex.choose_spec.2 (p.trans ex.choose_spec.1.symm)
theorem j3(l:List (List Nat)):(kJ l).length=l.length:=by
 unfold kJ;split
 ·rename_i h;exact h.choose_spec.1.length_eq
 ·rfl
theorem c9:∀(p:Str) (l:List Str),risingS p l=true->((p::l).map λs=>s.cps.toList).Pairwise λa b=>¬b<a
 |p,[],_=>by simp
 |p,x::r,h=>by
  unfold risingS at h;rw[bw] at h;have ih:=c9 x r h.2;have hx:¬x.cps.toList<p.cps.toList:=by
   have:=h.1
   rw[ltCps_eq] at this;simpa using this
  rw[aq,List.pairwise_cons];refine⟨λb hb=>?_,ih⟩;rw[aq,bh] at hb;rcases hb with rfl|hb
  ·exact hx
  ·rw[aq,List.pairwise_cons] at ih;exact List.le_trans (l₁:=p.cps.toList) (l₂:=x.cps.toList) hx (ih.1 b hb)
theorem pP:∀(l:List Str),sortedS l=true->pA (l.map λs=>s.cps.toList)
 |[],_=>by simp[pA]
 |x::r,h=>c9 x r h
theorem vU:∀{ss:List (List Nat)} {its:List Value},Vals (ss.map λs=>V.str ⟨s.toArray⟩) its->StrsAre its (ss.map λs=>(⟨s.toArray⟩:Str))
 |[],_,.nil=>.nil
 |s::ss,_,.cons r t=>by
  obtain⟨u,rfl⟩:=r;exact .cons _ _ (vU t)
theorem vT:∀{ss:List Str} {its:List Value},StrsAre its ss->Vals ((ss.map λs=>s.cps.toList).map λs=>V.str ⟨s.toArray⟩) its
 |_,_,.nil=>.nil
 |_,_,.cons x t h=>.cons ⟨t,by simp⟩ (vT h)
noncomputable def cL(bd:D->En->Option En)(x:En->Option (D×En)):List D->En->Option (List D×En)
 |[],r=>some ([],r)
 |d::l,r=>(bd d r).bind λr1=>(x r1).bind λp=>(cL bd x l p.2).map λq=>(p.1::q.1,q.2)
noncomputable def cB(i n:Nat)(it:ML)(bd:D->En->Option En)(x:En->Option (D×En)):En->Option (D×En):=λr=>(it r).bind λl=>(zGF r i).bind λL=>if l.length<af then (cL bd x l (Sl.p L::List.replicate (n-1) Sl.un)).bind λ(q:List D×En)=>match (q.2[0]?:Option Sl) with
 |some (.p L')=>(zA8 i L' r).map λr'=>(.lst q.1,r')
 |_=>none
 else none
section
variable{X:Cx}{N':List Str}{scope:Scope}{elt tg iter:Expr}{pos:Pos}{it:ML}{bd:D->En->Option En}{x:En->Option (D×En)}{i:Nat}
theorem pY(hu:q .un=none)(e:((Sl.p L::List.replicate k Sl.un)[j]?).bind q=some m):j=0/\q (.p L)=some m:=by
 cases j with
 |zero=>exact⟨rfl,e⟩
 |succ j=>
  rw[ig,cf] at e;split at e
  ·rw[aa,hu] at e;cases e
  ·cases e
theorem R.cap1{K:Fg}(ol:jN O H)(ha:O a)(ea:H a=some (.lst xs))(il:IsL K O H L xs):R K O H (.p L::List.replicate k .un) (some (.ref a)::List.replicate k none):=by
 have ow:∀b,Ow O (.p L::List.replicate k .un) (some (.ref a)::List.replicate k none) b->H b≠none->O b:=λb z _=>z.elim id λ⟨j,m,ej,qj⟩=>by
  obtain⟨rfl,_⟩:=pY rfl ej;cases qj;exact ha
 have get:∀(j:Nat) (x:Sl),(Sl.p L::List.replicate k Sl.un)[j]?=some x->(j=0/\x=.p L)\/x=.un:=λj x e=>by
  cases j with
  |zero=>cases e;exact .inl ⟨rfl,rfl⟩
  |succ j=>
   rw[ig,cf] at e;split at e
   ·cases e;exact .inr rfl
   ·cases e
 refine⟨by simp,λj d e=>?_,λj m e=>?_,λj j' b m m' e1 e2 _ _=>?_,ol,λj m b e _=>?_,λj m b e q=>?_,λj _ ks m e=>?_⟩
 ·rcases get _ _ e with⟨_,z⟩|z<;>cases z
 ·obtain⟨rfl,e2⟩:=pY rfl e;cases e2;exact⟨a,xs,rfl,ea,IsL.mono (Same.kp (Same.refl H) _) ol ow _ _ il⟩
 ·rw[(pY rfl e1).1,(pY rfl e2).1]
 ·rcases e with e|e|⟨_,e⟩<;>rcases get _ _ e with⟨_,z⟩|z<;>cases z
 ·obtain⟨x,e1,e2⟩:=bnS e;rcases get _ _ e1 with⟨rfl,z⟩|z
  ·cases q;exact ha
  ·subst z;cases e2
 ·rcases get _ _ e with⟨_,z⟩|z<;>cases z
theorem rT(hx:∀r d r',x r=some (d,r')->∀σ b,w8 r' σ b->w8 r σ b){σ:St}{H:Hp}{Q:VK}(h:lX X.K (cB i N'.length it bd x) σ H Q):zEU [i] N'.length (lI X.K it) (lG X.K bd) none (lX X.K x) σ H Q:=by
 obtain⟨O0,r,dv,r',hR,e,q⟩:=h;obtain⟨l,e1,e⟩:=bnS e;obtain⟨L,e2,e⟩:=bnS e;split at e
 ·rename_i hlen;obtain⟨⟨out,rE⟩,e3,e⟩:=bnS e;simp only at e;split at e
  ·rename_i L' eL;obtain⟨r2',e4,e5⟩:=mpS e;have hd1:D.lst out=dv:=congrArg Prod.fst e5;have hr1:r2'=r':=congrArg Prod.snd e5;subst hd1 hr1;refine⟨O0,r,l,hR,e1,λJ H1 s1 yl p hp=>?_⟩;have R1:=hR.same s1;obtain⟨a,xs,ha,hxa,il⟩:=WE R1 e2;have mut_a:MutAt r σ a:=⟨i,L,zK5 e2,ha⟩;have own_a:Ow O0 r σ a:=.inr mut_a.own;have hpa:a≠p:=λz=>by subst z;rw[hp] at hxa;cases hxa
   have hnO:¬Ow O0 r σ p:=R1.nofresh hp
   let O':Addr->Prop:=λb=>Ow O0 r σ b\/b=p
   have ol1:jN O' (upd H1 p (.lst [])):=λb z=>by
    by_cases hb:b=p
    ·subst hb;exact⟨_,zQ,trivial⟩
    ·rw[zN hb];exact z.elim (R1.ol b) λz=>absurd z hb
   have hsig:zD0 [i] N'.length σ=some (.ref a)::List.replicate (N'.length-1) none:=by
    unfold zD0;rw[aq,qd,ha];rfl
   rw[hsig];refine⟨λk m ys σ2 H2=>m=l.length-k/\k<=l.length/\ys.length<=k/\H2 p=some (.lst ys)/\σ2[0]?=some (some (.ref a))/\(∀b u,b≠a->H1 b=some u->H2 b=some u)/\(∀b,H2 b=none->H1 b=none) /\
     ∃r2 dn rest,R X.K O' H2 r2 σ2/\(∀b,w8 r2 σ2 b->b=a)/\(∃L2,r2[0]?=some (.p L2))/\IsL X.K O' H2 dn ys/\cL bd x (l.drop k) r2=some (rest,rE)/\dn++rest=out,
    ⟨l.length,by simp,ck _,ah _,zQ,?_,?_,?_,_,[],out,R.cap1 (k:=N'.length-1) ol1 (.inl own_a) (by rw[zN hpa];exact hxa) (Z1 R1.ol hp il),?_,⟨L,rfl⟩,.nil,by simpa using e3,rfl⟩,?_⟩
   ·rfl
   ·intro b u hb eb;rw[zN (λz=>by subst z;rw[hp] at eb;cases eb)];exact eb
   ·intro b eb;by_cases hb:b=p
    ·subst hb;exact hp
    ·rw[zN hb] at eb;exact eb
   ·rintro b ⟨j,m,ej,qj⟩;obtain⟨rfl,_⟩:=pY rfl ej;cases qj;rfl
   ·rintro k m ys σ2 H2 ⟨rfl,hkl,hyl,hp2,hs2,kp2,lv2,r2,dn,rest,R2,no2,⟨L2,eL2⟩,il2,e6,eo⟩;refine⟨hp2,by omega,?_⟩;have hO:∀b,Ow O' r2 σ2 b->O' b:=λb z=>z.elim id λz=>.inl (by rw[no2 b z];exact own_a)
    obtain⟨y1,y2⟩:=yl k H2 O' (λb u eb nb=>kp2 b u (λz=>nb (by rw[z];exact mut_a)) eb) λb z nn=>z.elim id λz=>by subst z;exact absurd hp nn
    by_cases hlt:k<l.length
    ·obtain⟨go,yd⟩:=y1 hlt;have hd:l[k]?=some l[k]:=by simp[hlt]
     rw[uH hd] at e6;obtain⟨r3,e7,e8⟩:=bnS e6;obtain⟨⟨y,r4⟩,e9,e10⟩:=bnS e8;obtain⟨⟨rest',rE'⟩,e11,e12⟩:=mpS e10;have ha1:y::rest'=rest:=congrArg Prod.fst e12;have ha2:rE'=rE:=congrArg Prod.snd e12;subst ha1 ha2;refine .inr ⟨go,λv H3 yv=>?_⟩;obtain⟨s3,iv⟩:=yd v H3 yv;have R3:=R2.same s3;refine⟨O',r2,l[k],r3,R3,?_,e7,λσ4 R4 k4=>?_⟩
     ·exact Is.mono (Same.kp (Same.refl H3) _) R3.o0 (λb z _=>hO b z) _ _ (iv _ hd)
     have hp3:=s3 _ _ hp2;have no4:∀b,w8 r3 σ4 b->b=a:=λb z=>by
      rcases k4.new b z with z'|z'
      ·exact no2 b z'
      ·obtain⟨zs,ez,_⟩:=R4.ol b (.inr z);rw[z'] at ez;cases ez
     obtain⟨eL3',hs4⟩:=k4.par 0 false (by rw[eL2];rfl);obtain⟨L3,eL3⟩:=zPU eL3';refine⟨O',r3,y,r4,R4,e9,λu H6 R6 k6 iu=>?_⟩;have nm:∀b,MutAt r3 σ4 b->b=a:=λb z=>no4 b z.own
     have hp6:H6 p=some (.lst ys):=k6.keep p _ hp3 λz=>hpa (nm p z).symm
     have no6:∀b,w8 r4 σ4 b->b=a:=λb z=>by
      exact no4 b (hx _ _ _ e9 σ4 b z)
     obtain⟨eL4',_⟩:=k6.par 0 false (by rw[eL3];rfl);obtain⟨L4,eL4⟩:=zPU eL4';have kk:bL O' H6 (upd H6 p (.lst (ys++[u]))):=λb' o' e' nn=>by rw[zN (λz=>nn (.inr z))];exact e'
     have k36:bL O' H3 H6:=λb' o' e' nn=>k6.keep b' o' e' λz=>nn (.inl (by rw[nm b' z];exact own_a))
     refine⟨hp6,l.length-(k+1),by omega,rfl,hlt,by simp;omega,zQ,by rw[hs4];exact hs2,?_,?_,r4,dn++[y],rest',?_,no6,⟨L4,eL4⟩,?_,e11,by rw[<-eo];simp⟩
     ·intro b u' hb eb;have hbp:b≠p:=λz=>by subst z;rw[hp] at eb;cases eb
      rw[zN hbp];exact k6.keep b _ (s3 _ _ (kp2 b u' hb eb)) λz=>hb (nm b z)
     ·intro b eb;by_cases hb:b=p
      ·subst hb;exact hp
      ·rw[zN hb] at eb;exact lv2 b (s3.free (k6.live b eb))
     ·refine⟨R6.len,λj d ej=>?_,λj m ej=>?_,R6.apart,λb' z=>?_,R6.loc,R6.par,λj f ks m ej=>?_⟩
      ·obtain⟨w,q1,q2⟩:=R6.val j d ej;exact⟨w,q1,Is.mono (λb' o' e' nn=>kk b' o' e' λz=>nn (.inl z)) R6.ol (λ_ z _=>z) _ _ q2⟩
      ·obtain⟨a',xs',q1,q2,q3⟩:=R6.own j m ej;have ha':=no6 a' ⟨j,m,jA ej,q1⟩;exact⟨a',xs',q1,by rw[zN (by rw[ha'];exact hpa)];exact q2,IsL.mono (λb' o' e' nn=>kk b' o' e' λz=>nn (.inl z)) R6.ol (λ_ z _=>z) _ _ q3⟩
      ·rcases z with z|z
       ·by_cases hb:b'=p
        ·subst hb;exact⟨_,zQ,trivial⟩
        ·rw[zN hb];exact R6.o0 b' (.inl z)
       ·subst z;exact⟨_,zQ,trivial⟩
      ·obtain⟨a',kvs,q1,q2,q4,q3⟩:=R6.dct j f ks m ej;have ha':=no6 a' ⟨j,m,by rw[ej];rfl,q1⟩;exact⟨a',kvs,q1,by rw[zN (by rw[ha'];exact hpa)];exact q2,q4,IsL.mono (λb' o' e' nn=>kk b' o' e' λz=>nn (.inl z)) R6.ol (λ_ z _=>z) _ _ q3⟩
     ·have i1:=IsL.mono k36 R3.o0 (λ_ z _=>z) _ _ (il2.same s3 R2.o0);have i2:Is X.K O' H6 y u:=Is.mono (Same.kp (Same.refl H6) _) R6.ol (λa z _=>.inl z) _ _ iu;exact IsL.mono kk R6.o0 (λ_ z _=>z) _ _ (i1.append (.cons i2 .nil))
    ·have hl:l.drop k=[]:=ku (by omega);rw[hl] at e6;have e6':some ([],r2)=some (rest,rE):=e6;cases e6';rw[gn] at eo;subst eo;obtain⟨c0,zs,q0,q1,q2⟩:=R2.own 0 L' (by rw[eL];rfl);rw[hs2] at q0;cases q0;obtain⟨RE,kE⟩:=R1.put e4 ha kp2 (λb _=>lv2 b) q1 (IsL.mono (Same.kp (Same.refl H2) _) R2.ol (λb z _=>.inl (.inl z)) _ _ q2);refine .inl ⟨y2 (by omega),q _ H2 RE ((Kp.of_same r σ s1).trans kE) ?_⟩;rw[Is.lst_iff];have np:∀b,Ow O0 r2' σ b->Ow O0 r σ b:=λb z=>z.imp id λz=>Q8 e4 z
     exact⟨p,ys,rfl,.inl ⟨λz=>hnO (np p z),.inl hp2⟩,IsL.mono (Same.kp (Same.refl H2) _) R2.o0 (λb z _=>.inl (np b z)) _ _ il2⟩
  ·cases e
 ·cases e
theorem zCO(hc:X.calm=true)(o:CmpOk X N' [i] scope)(hi:DI X tg iter it)(hg:∀C fp s H,DG (cxC X N' scope C fp s H) tg bd)(he:∀C fp s H,DX (cxC X N' scope C fp s H) elt x)(hx:∀r d r',x r=some (d,r')->∀σ b,w8 r' σ b->w8 r σ b)(n:Nat)(hn:N'.length=n:=by rfl)(hs:∀x,gc iter X.env x=pure x:=by intro _;rfl):DX X (.ListComp elt [⟨tg,iter,[],0⟩] scope pos) (cB i n it bd x):=by
 subst hn;exact PE.conseq (bY (g:=lG X.K bd) (te:=lX X.K x) (tc:=none) hc o hi hg rfl he hs) λσ H Q h=>rT hx h
theorem zFH:∀r d r',pC j r=some (d,r')->∀σ b,w8 r' σ b->w8 r σ b:=λr d r' e σ b h=>by
 obtain⟨l,_,e⟩:=bnS e;obtain⟨d',_,e⟩:=bnS e;obtain⟨r2,e3,e4⟩:=mpS e
 have:r2=r':=congrArg Prod.snd e4
 subst this;exact Q8 e3 h
end
noncomputable abbrev MXA:=En->Option (List D×En)
noncomputable def lXA(K:Fg)(f:MXA):TA:=λσ H Q=>∃O0 r l r',R K O0 H r σ/\f r=some (l,r')/\∀vs H',R K O0 H' r' σ->Kp H r σ H' r' σ->IsL K (Ow O0 r' σ) H' l vs->Q vs H'
def DXA(X:Cx)(es:List Expr)(f:MXA):Prop:=PA X es (lXA X.K f)
noncomputable def vS(fx:En->Option (D×En)):MXA:=λr=>(fx r).map λp=>([p.1],p.2)
noncomputable def jS(f:ME)(z:MXA):MXA:=λr=>(f r).bind λd=>(z r).map λq=>(d::q.1,q.2)
theorem Z9(ha:DX X a fx)(hs:ae [a] X.env=(false,eval a X.env)::ae [] X.env:=by rfl):DXA X [a] (vS fx):=by
 refine PA.conseq (yC ha xF hs) λσ H Q hq=>?_
 obtain⟨O0,r,l,r',hR,e,q⟩:=hq;obtain⟨⟨d,r1⟩,e1,e2⟩:=mpS e;cases e2;exact⟨O0,r,d,r1,hR,e1,λv H1 R1 k1 i1=>q [v] H1 R1 k1 (.cons i1 .nil)⟩
theorem Is.kp{K:Fg}(hR:R K O0 H r σ)(k:Kp H r σ H' r' σ')(h:Is K (Ow O0 r σ) H d v):Is K (Ow O0 r' σ') H' d v:=
 Is.mono (λb o e nn=>k.keep b o e λz=>nn (.inr z.own)) hR.ol (λb z n=>z.imp id λz=>(k.new b z).elim id λz=>absurd z n) _ _ h
theorem mH(ha:DE X a f)(hr:DXA X es z)(hs:ae (a::es) X.env=(false,eval a X.env)::ae es X.env:=by rfl):DXA X (a::es) (jS f z):=by
 refine PA.conseq (yC ha hr hs) λσ H Q hq=>?_
 obtain⟨O0,r,l,r',hR,e,q⟩:=hq;obtain⟨d,e1,e⟩:=bnS e;obtain⟨⟨l',r1⟩,e2,e3⟩:=mpS e;cases e3;refine⟨O0,r,d,hR,e1,λv H1 s1 i1=>⟨O0,r,l',r1,hR.same s1,e2,λvs H2 R2 k2 i2=>q (v::vs) H2 R2 ((Kp.of_same r σ s1).trans k2) (.cons (Is.kp (hR.same s1) k2 i1) i2)⟩⟩
noncomputable def kH(n:Nat)(m:MF)(z:MXA):En->Option (D×En):=λr=>(z r).bind λq=>if q.1.length=n then (m (q.1.map .v)).map λp=>(rsD p.1,q.2) else none
theorem YA(F:FnOk X.prog X.w X.K X.mg X.base CX0 k fa fd ps (spD X.K n m))(hr:Room k X.A)(hg:Gl X x)(hm:X.mg x=some (.ref fa))(hk:PySem.W.keepIn X.K (.ref fa)=true)(hb:Binds X.K fd ps [])(ha:DXA X (a::es) z)(hdb:(x == ("__debug__" : Str))=false:=by decide)(he:ae (a::es) X.env=(false,eval a X.env)::ae es X.env:=by rfl)(hpl:(dl pos (ae es X.env)).any (·.1)=false:=by rfl):DX X (.Call (.Name x p) (a::es) [] pos) (kH n m z):=by
 refine PE.conseq (v6 (E:=λ_ _ _=>False) (dvs:=[]) F hr hg hm hk hb .nil dC ha hdb he hpl) λσ H Q h=>?_
 obtain⟨O0,r,d,r',hR,e,q⟩:=h;obtain⟨⟨ds,r1⟩,e1,e2⟩:=bnS e;split at e2
 ·rename_i hl;obtain⟨⟨rs,as'⟩,e3,e4⟩:=mpS e2;have h1:rsD rs=d:=congrArg Prod.fst e4;have h2:r1=r':=congrArg Prod.snd e4;subst h1 h2;refine⟨O0,r,ds,r1,hR,e1,λvs H1 R1 k1 il=>c5 R1 (Same.refl H1) il hl e3 ?_⟩;have go:∀{H2:Hp},Same H1 H2->R X.K O0 H2 r1 σ/\Kp H r σ H2 r1 σ:=λs=>⟨R1.same s,k1.trans (Kp.of_same r1 σ s)⟩
  cases rs with
  |v d=>exact λv H2 pf iv=>q v H2 (go pf.same).1 (go pf.same).2 iv
  |f l=>
   refine λa xs H2 pf na ea il2=>q _ H2 (go pf.same).1 (go pf.same).2 ?_
   have olp:jN (λb=>Ow O0 r1 σ b\/b=a) H2:=λb z=>z.elim (λz=>(R1.same pf.same).ol b z) λz=>by subst z;exact⟨.lst xs,ea,trivial⟩
   show Is X.K (Ow O0 r1 σ) H2 (.lst l) (.ref a);rw[Is.lst_iff];exact⟨a,xs,rfl,.inl ⟨R1.nofresh na,.inl ea⟩,IsL.mono (Same.kp (Same.refl H2) _) olp (λ_ z _=>.inl z) _ _ il2⟩
  |g ks l=>
   refine λa kvs H2 pf na ea ek il2=>q _ H2 (go pf.same).1 (go pf.same).2 ?_
   have olp:jN (λb=>Ow O0 r1 σ b\/b=a) H2:=λb z=>z.elim (λz=>(R1.same pf.same).ol b z) λz=>by subst z;exact⟨.dK kvs,ea,trivial⟩
   show Is X.K (Ow O0 r1 σ) H2 (.dct ks l) (.ref a);rw[Is.dct_iff];exact⟨a,kvs,rfl,R1.nofresh na,.inl ea,ek,IsL.mono (Same.kp (Same.refl H2) _) olp (λ_ z _=>.inl z) _ _ il2⟩
 ·cases e2
noncomputable def zAD:List D->List D->Bool
 |[],[]=>false
 |.int _::_,.lst _::_=>true
 |_::m,_::l=>zAD m l
 |[],_::_=>true
 |_::_,[]=>true
mutual
noncomputable def apD(l:List D):D->Bool
 |.tup m=>apL l m
 |.lst m=>zAD m l && apL l m
 |.dct _ _=>false
 |_=>true
noncomputable def apL(l:List D):List D->Bool
 |[]=>true
 |d::m=>apD l d && apL l m
end
theorem YN{K:Fg}:∀{m l:List D} {xs:List V},zAD m l=true->IsL K O H m xs->IsL K O' H l xs->False
 |[],[],xs,c,_,_=>by simp[zAD] at c
 |[],e::l,xs,_,h,h'=>by
  unfold IsL at h;subst h;unfold IsL at h';obtain⟨v,r,e,_⟩:=h';cases e
 |d::m,[],xs,_,h,h'=>by
  unfold IsL at h';subst h';unfold IsL at h;obtain⟨v,r,e,_⟩:=h;cases e
 |d::m,e::l,xs,c,h,h'=>by
  unfold IsL at h;obtain⟨v,r,rfl,h1,h2⟩:=h;unfold IsL at h';obtain⟨v',r',ee,h1',h2'⟩:=h';cases ee;by_cases hc:zAD m l=true
  ·exact YN hc h2 h2'
  ·unfold zAD at c;split at c
   ·rename_i e1 e2;cases e1
   ·rename_i i t l' t' e1 e2;cases e1;cases e2;rw[Is.int_iff] at h1;rw[Is.lst_iff] at h1';obtain⟨a,ys,q,_⟩:=h1';rw[h1] at q;cases q
   ·rename_i e1 e2;cases e1;cases e2;exact hc c
   ·rename_i e1 e2;cases e1
   ·rename_i e1 e2;cases e2
mutual
theorem zND{K:Fg}(hO:∀b,O b->O' b\/b=a)(ha:H a=some (.lst xs))(il:IsL K O' H l xs):∀(d:D) (v:V),apD l d=true->Is K O' H d v->Is K O H d v
 |.non,v,_,h=>by unfold Is at h ⊢;exact h
 |.bl b,v,_,h=>by unfold Is at h ⊢;exact h
 |.int i,v,_,h=>by unfold Is at h ⊢;exact h
 |.str s,v,_,h=>by unfold Is at h ⊢;exact h
 |.ty n,v,_,h=>by unfold Is at h ⊢;exact h
 |.ref a,v,_,h=>by unfold Is at h ⊢;exact h
 |.dct ks m,v,p,h=>by unfold apD at p;cases p
 |.tup m,v,p,h=>by
  unfold apD at p;unfold Is at h ⊢;obtain⟨b,ys,e,q,r⟩:=h;exact⟨b,ys,e,q,QH hO ha il m ys p r⟩
 |.lst m,v,p,h=>by
  unfold apD at p;rw[bw] at p;unfold Is at h ⊢;obtain⟨b,ys,e,q,r⟩:=h;refine⟨b,ys,e,?_,QH hO ha il m ys p.2 r⟩;rcases q with⟨n,q⟩|q
  ·refine .inl ⟨λz=>?_,q⟩;rcases hO b z with z|z
   ·exact n z
   ·subst z;rcases q with q|⟨o,q⟩
    ·rw[ha] at q;cases q;exact YN p.1 r il
    ·rw[ha] at q;cases q
  ·exact .inr q
theorem QH{K:Fg}(hO:∀b,O b->O' b\/b=a)(ha:H a=some (.lst xs))(il:IsL K O' H l xs):∀(m:List D) (vs:List V),apL l m=true->IsL K O' H m vs->IsL K O H m vs
 |[],vs,_,h=>by unfold IsL at h ⊢;exact h
 |d::m,vs,p,h=>by
  unfold apL at p;rw[bw] at p;unfold IsL at h ⊢;obtain⟨v,r,e,h1,h2⟩:=h;exact⟨v,r,e,zND hO ha il d v p.1 h1,QH hO ha il m r p.2 h2⟩
end
noncomputable def nQ(n:Nat)(m:MF)(i:Nat)(fs:ML):ME:=λr=>(o7 i r).bind λl=>(fs r).bind λds=>if ds.length+1=n then (m ((.lst l::ds).map .v)).bind λp=>if apD l (rsD p.1)=true then some (rsD p.1) else none else none
theorem YH(F:FnOk X.prog X.w X.K X.mg X.base CX0 k fa fd ps (spD X.K n m))(hr:Room k X.A)(hg:Gl X x)(hm:X.mg x=some (.ref fa))(hk:PySem.W.keepIn X.K (.ref fa)=true)(hb:Binds X.K fd ps [])(hy:PE X (.Name y pn) (kN i))(ha:DA X es fs)(hdb:(x == ("__debug__" : Str))=false:=by decide)(he:ae (.Name y pn::es) X.env=(false,eval (.Name y pn) X.env)::ae es X.env:=by rfl)(hpl:(dl pos (ae es X.env)).any (·.1)=false:=by rfl):DE X (.Call (.Name x p) (.Name y pn::es) [] pos) (nQ n m i fs):=by
 refine PE.conseq (v6 (E:=λ_ _ _=>False) (dvs:=[]) F hr hg hm hk hb .nil dC (yC hy ha he) hdb he hpl) λσ H Q hq=>?_
 obtain⟨O0,r,d,hR,e,q⟩:=hq;obtain⟨l,e1,e⟩:=bnS e;obtain⟨ds,e2,e⟩:=bnS e;split at e
 ·rename_i hn;obtain⟨⟨rs,as'⟩,e3,e⟩:=bnS e;split at e
  ·rename_i hap;have hd:=bg e;subst hd;obtain⟨a,xs,q1,q2,q3⟩:=hR.own i l e1;refine⟨.ref a,q1,O0,r,ds,hR,e2,λvs H1 s1 il=>?_⟩;show spD X.K n m ((.ref a::vs)++[]) H1 Q _;rw[gn];have R1:=hR.same s1
   let O':Addr->Prop:=λb=>Ow O0 r σ b/\b≠a
   have ol':jN O' H1:=λb z=>R1.ol b z.1
   have dn:∀{d:D} {v:V},Is X.K (Ow O0 r σ) H1 d v->Is X.K O' H1 d v:=λh=>Is.mono (Same.kp (Same.refl H1) _) R1.ol (λ_ z _=>z.1) _ _ h
   have dnL:∀{d:List D} {v:List V},IsL X.K (Ow O0 r σ) H1 d v->IsL X.K O' H1 d v:=λh=>IsL.mono (Same.kp (Same.refl H1) _) R1.ol (λ_ z _=>z.1) _ _ h
   have q2':=s1 _ _ q2;have q3':=dnL (q3.same s1 hR.ol);have ia:IsL X.K O' H1 (.lst l::ds) (.ref a::vs):=.cons (by rw[Is.lst_iff];exact⟨a,xs,rfl,.inl ⟨λz=>z.2 rfl,.inl q2'⟩,q3'⟩) (dnL il);have hO:∀b,Ow O0 r σ b->O' b\/b=a:=λb z=>by
    by_cases hb:b=a
    ·exact .inr hb
    ·exact .inl ⟨z,hb⟩
   refine⟨O',(D.lst l::ds).map .v,rs,as',by simpa using hn,R.args ol' ia,λj l'=>?_,e3,?_⟩
   ·rw[ay];cases e1:(D.lst l::ds)[j]? with
    |none=>exact⟨(λz=>by cases z),(λz=>by cases z),(λ_ z=>by cases z)⟩
    |some y=>exact⟨(λz=>by cases z),(λz=>by cases z),(λ_ z=>by cases z)⟩
   ·cases rs with
    |v d'=>
     exact λv H2 pf iv=>q v H2 (s1.trans pf.same) (zND hO (pf.same _ _ q2') (q3'.same pf.same ol') _ _ hap iv)
    |f l'=>
     refine λb ys H2 pf nb eb il2=>q _ H2 (s1.trans pf.same) ?_
     have hap':apL l l'=true:=by
      have:apD l (.lst l')=true:=hap
      unfold apD at this;rw[bw] at this;exact this.2
     have hba:¬Ow O0 r σ b:=R1.nofresh nb;have i3:IsL X.K O' H2 l' ys:=IsL.mono (Same.kp (Same.refl H2) _) (λc z=>z.elim (λz=>by
      obtain⟨zs,ez,mb⟩:=ol' c z;exact⟨zs,pf.same _ _ ez,mb⟩) λz=>by subst z;exact⟨.lst ys,eb,trivial⟩) (λ_ z _=>.inl z) _ _ il2
     show Is X.K (Ow O0 r σ) H2 (.lst l') (.ref b);rw[Is.lst_iff];exact⟨b,ys,rfl,.inl ⟨hba,.inl eb⟩,QH hO (pf.same _ _ q2') (q3'.same pf.same ol') _ _ hap' i3⟩
    |g ks l'=>exact absurd (show apD l (.dct ks l')=true from hap) (by unfold apD;simp)
  ·cases e
 ·cases e
end DD
namespace ZZ
open PySem
end ZZ
namespace DD
open PySem PySem.Spec PyProof.Rows L2
open PySem PySem.Spec PyProof.Rows L2 PySem.W
open PySem PySem.Spec PyProof.Rows L2 PySem.W
open PySem PySem.Spec PyProof.Rows L2 PySem.W
open PySem PySem.Spec PyProof.Rows L2 PySem.W
open PySem PySem.Spec PyProof.Rows L2 PySem.W
open PySem PySem.Spec PyProof.Rows L2 PySem.W PySem.Calls Builtin Builtin.ObjectAttr Builtin.Getset_descriptor
open PySem PySem.Spec PyProof.Rows L2 PySem.W
open PySem PySem.Spec PyProof.Rows L2 PySem.W
open PySem PySem.Spec PyProof.Rows L2 PySem.W
open PySem PySem.Spec PyProof.Rows L2 PySem.W
open PySem PySem.Spec PyProof.Rows L2 PySem.W
open PySem PySem.Spec PyProof.Rows L2 PySem.W
open PySem PySem.Spec PyProof.Rows L2 PySem.W
open PySem PySem.Spec PyProof.Rows L2 PySem.W
open PySem PySem.Spec PyProof.Rows L2 PySem.W
noncomputable def WJ(f g:ML):MB:=λr=>(f r).bind λl=>(g r).bind λm=>if m.isEmpty then some l.isEmpty else none
noncomputable def zKF(K:Fg):R2:=λx y H Q=>∃p q xs,x=.ref p/\y=.ref q/\SqL K H p xs/\SqL K H q []/\Q (.bl xs.isEmpty) H
theorem zBO(hu:X.A.units<cLine):OpR X (et .Eq) (zKF X.K):=by
 intro pZ s σ H x y v u Q I rx ry h;obtain⟨p,q',xs,hx,hy,h1,h2,q⟩:=h;cases xs with
 |nil=>exact zF4 hu pZ s σ H x y v u Q I rx ry ⟨p,q',[],[],hx,hy,h1,h2,rfl,rfl,q⟩
 |cons z zs=>
  subst hx hy;cases rx;cases ry;obtain⟨its,r,pl,_⟩:=I.list h1;obtain⟨its2,r2,pl2,_⟩:=I.list h2;have n1:=r.length;have n2:=r2.length;simp only[au,bo] at n1 n2;exact um pl.isList pl2.isList (by simp only[ak,bne_iff_ne];omega) hu (yU I q rfl)
theorem zCT(hu:X.A.units<cLine)(ha:DB X a fl)(hb:DB X b gl)(hm:dh .Eq b=false:=by rfl):DT X (.Compare a [.Eq] [b] pos) (WJ fl gl):=by
 refine PT.conseq (dB (zBO hu) ha hb hm) λσ H Q h=>?_
 obtain⟨O0,r,d,hR,e,q⟩:=h;obtain⟨l,e1,e⟩:=bnS e;obtain⟨m,e2,e⟩:=bnS e;split at e
 ·rename_i hz;cases e;refine⟨O0,r,l,hR,e1,λp xs H1 s1 sq il=>⟨O0,r,m,hR.same s1,e2,λp' ys H2 s2 sq' il'=>?_⟩⟩;have hm:m=[]:=by simpa using hz
  subst hm;unfold IsL at il';subst il';have hb:l.isEmpty=xs.isEmpty:=by
   have:=il.length
   cases l<;>cases xs<;>simp_all
  exact⟨p,p',xs,rfl,rfl,s2.seq sq,sq',_,rfl,by rw[<-hb];exact q H2 (s1.trans s2)⟩
 ·cases e
noncomputable def zDE(fx:En->Option (D×En))(bd:D->En->Option En):MS:=λr=>(fx r).bind λp=>(bd p.1 p.2).map .nx
theorem zH4(he:DX X e fx)(hg:DG X tg bd)(hs:swapsWithSole [tg] e pos.line X.env=pure false:=by rfl)(hw:swappedStores [tg] e X.env=pure none:=by rfl)(h1:(ib [tg] X.env).map (·.2)=[assign tg X.env]:=by rfl):DS X (.Assign [tg] e pos) (zDE fx bd):=by
 refine PS.conseq (zFG he hg hs hw h1) λDn σ H hq=>?_
 obtain⟨O0,r,fl,hR,e,q⟩:=hq;obtain⟨⟨d,r1⟩,e1,e2⟩:=bnS e;obtain⟨r',e3,rfl⟩:=mpS e2;exact⟨O0,r,d,r1,hR,e1,λv H1 R1 k1 i1=>⟨O0,r1,d,r',R1,i1,e3,λσ' R' k'=>q σ' H1 R' (k1.trans k')⟩⟩
open PySem PySem.Spec PyProof.Rows L2 PySem.W
open PySem PySem.Spec PyProof.Rows L2 PySem.W
open PySem PySem.Spec PyProof.Rows L2 PySem.W
open PySem PySem.Spec PyProof.Rows L2 PySem.W
open PySem PySem.Spec PyProof.Rows L2 PySem.W
open PySem PySem.Spec PyProof.Rows L2 PySem.W
open PySem PySem.Spec PyProof.Rows L2 PySem.W
open PySem PySem.Spec PyProof.Rows L2 PySem.W
end DD
namespace L2
open PySem PySem.Spec PyProof.Rows
section
variable[DecidableEq κ]
noncomputable def QK(kvs:List (κ×V))(k:κ):Option V:=(kvs.find? λkv=>decide (kv.1=k)).map (·.2)
noncomputable def gE(kvs:List (κ×V))(k:κ)(v:V):List (κ×V):=
 if (kvs.any λkv=>decide (kv.1=k))=true then kvs.map (λkv=>if kv.1=k then (kv.1,v) else kv) else kvs++[(k,v)]
noncomputable def YF(kvs:List (κ×V))(k:κ):List (κ×V):=kvs.filter λkv=>decide (kv.1≠k)
theorem bN{p:κ×V}{r:List (κ×V)}{k:κ}(e:p.1=k):QK (p::r) k=some p.2:=by simp[QK,gm,e]
theorem bO{p:κ×V}{r:List (κ×V)}{k:κ}(e:¬p.1=k):QK (p::r) k=QK r k:=by simp[QK,gm,e]
theorem r8(k:κ):∀kvs:List (κ×V),(kvs.any λkv=>decide (kv.1=k))=(QK kvs k).isSome
 |[]=>rfl
 |p::r=>by
  rw[jo];by_cases e:p.1=k
  ·simp only[bN e,decide_eq_true e,Bool.true_or,Option.isSome_some]
  ·rw[bO e,decide_eq_false e,Bool.false_or];exact r8 k r
theorem bF(kvs:List (κ×V))(k:κ)(v:V):(gE kvs k v).length<=kvs.length+1:=by
 unfold gE;split
 ·rw[ao];omega
 ·rw[bv,au,bo];omega
theorem RelO.isSome_eq(r:RelO o u):o.isSome=u.isSome:=by
 cases o with
 |none=>cases u with
  |none=>rfl
  |some _=>exact(show False from r).elim
 |some _=>cases u with
  |none=>exact(show False from r).elim
  |some _=>rfl
theorem KV.val{kvs:List (κ×V)}{vs:List (κ×Value)}(r:KV kvs vs)(k:κ):RelO (QK kvs k) (valueAt vs k):=by
 unfold KV at r
 induction r with
 |nil=>exact True.intro
 |@cons p q ps qs h t ih=>
  obtain⟨h1,h2⟩:=h;by_cases e:p.1=k
  ·have e':q.1=k:=h1.symm.trans e;have b:valueAt (q::qs) k=some q.2:=by simp[valueAt,gm,e']
   rw[bN e,b];exact h2
  ·have e':¬q.1=k:=λz=>e (h1.trans z)
   have b:valueAt (q::qs) k=valueAt qs k:=by simp[valueAt,gm,e']
   rw[bO e,b];exact ih
theorem KV.any(r:KV kvs vs)(k:κ):(kvs.any λkv=>decide (kv.1=k))=vs.any λkv=>decide (kv.1=k):=by
 unfold KV at r
 induction r with
 |nil=>rfl
 |cons h t ih=>rw[jo,jo,ih,h.1]
theorem KV.repl(r:KV kvs vs)(k:κ)(ry:RelV y u):KV (kvs.map λkv=>if kv.1=k then (kv.1,y) else kv) (vs.map λkv=>if kv.1=k then (kv.1,u) else kv):=by
 unfold KV at r ⊢
 induction r with
 |nil=>exact .nil
 |@cons p q ps qs h t ih=>
  rw[aq,aq];refine .cons ?_ ih;obtain⟨h1,h2⟩:=h;by_cases e:p.1=k
  ·rw[if_pos e,if_pos (h1.symm.trans e)];exact⟨h1,ry⟩
  ·rw[if_neg e,if_neg (λz=>e (h1.trans z))];exact⟨h1,h2⟩
theorem KV.put(r:KV kvs vs)(k:κ)(ry:RelV y u):KV (gE kvs k y) (stored vs k u):=by
 unfold gE stored;rw[r.any k];by_cases e:(vs.any λkv=>decide (kv.1=k))=true
 ·rw[if_pos e,if_pos e];exact r.repl k ry
 ·rw[if_neg e,if_neg e];exact Paired.snoc r ⟨rfl,ry⟩
theorem KV.drop(r:KV kvs vs)(k:κ):KV (YF kvs k) (without vs k):=by
 unfold KV at r ⊢;unfold YF without
 induction r with
 |nil=>exact .nil
 |@cons p q ps qs h t ih=>
  obtain⟨h1,h2⟩:=h;rw[List.filter_cons,List.filter_cons];by_cases e:p.1=k
  ·have a:¬decide (p.1≠k)=true:=by simp[e]
   have b:¬decide (q.1≠k)=true:=by simp[h1.symm.trans e]
   rw[if_neg a,if_neg b];exact ih
  ·have e':¬q.1=k:=λz=>e (h1.trans z)
   have a:decide (p.1≠k)=true:=by simp[e]
   have b:decide (q.1≠k)=true:=by simp[e']
   rw[if_pos a,if_pos b];exact .cons ⟨h1,h2⟩ ih
theorem KV.keys{kvs:List (κ×V)}{vs:List (κ×Value)}(r:KV kvs vs):kvs.map (·.1)=vs.map (·.1):=by
 unfold KV at r
 induction r with
 |nil=>rfl
 |cons h t ih=>rw[aq,aq,ih,h.1]
theorem KV.length(r:KV kvs vs):kvs.length=vs.length:=rc r
theorem zCW(kvs:List (κ×V))(k:κ):(YF kvs k).length<=kvs.length:=List.length_filter_le _ _
end
theorem JK(r:RelV (kV k) u):(yM P w).is k u=true:=by
 cases k with
 |inl i=>obtain⟨t,e⟩:=(show ∃t,u=Value.int i t from r);subst e;exact nK P w i t
 |inr x=>obtain⟨t,e⟩:=(show ∃t,u=Value.str x t from r);subst e;exact nJ P w x t
theorem nX:∀{ks:List Key} {us:List Value},Vals (ks.map kV) us->ItemsAre (yM P w) ks us
 |[],_,r=>by rw[qd] at r;cases r;exact .nil
 |k::ks,_,r=>by
  rw[aq] at r;cases r with
  |cons h t=>exact .cons (JK h) (nX t)
abbrev KT(H:Hp):List (List Key×V)->List (List Key×Addr×Value)->Prop:=Paired λp q=>p.1=q.1/\H q.2.1=some (.tup (p.1.map kV))/\RelV p.2 q.2.2
theorem KT.val{H:Hp}{kvs:List (List Key×V)}{xs:List (List Key×Addr×Value)}(r:KT H kvs xs)(k:List Key):RelO (QK kvs k) ((atKey xs k).map (·.2)):=by
 induction r with
 |nil=>exact True.intro
 |@cons p q ps qs h t ih=>
  obtain⟨h1,_,h2⟩:=h;by_cases e:p.1=k
  ·have e':q.1=k:=h1.symm.trans e;have b:atKey (q::qs) k=some q.2:=by simp[atKey,gm,e']
   rw[bN e,b];exact h2
  ·have e':¬q.1=k:=λz=>e (h1.trans z)
   have b:atKey (q::qs) k=atKey qs k:=by simp[atKey,gm,e']
   rw[bO e,b];exact ih
theorem KT.repl(r:KT H kvs xs)(k:List Key)(ry:RelV y u):KT H (kvs.map λkv=>if kv.1=k then (kv.1,y) else kv) (xs.map (putAt k u)):=by
 induction r with
 |nil=>exact .nil
 |@cons p q ps qs h t ih=>
  rw[aq,aq];refine .cons ?_ ih;obtain⟨h1,h2,h3⟩:=h;unfold putAt;by_cases e:p.1=k
  ·rw[if_pos e,if_pos (h1.symm.trans e)];exact⟨h1,h2,ry⟩
  ·rw[if_neg e,if_neg (λz=>e (h1.trans z))];exact⟨h1,h2,h3⟩
theorem KT.put(r:KT H kvs xs)(k:List Key)(hb:H b=some (.tup (k.map kV)))(ry:RelV y u):KT H (gE kvs k y) (storedH xs k b u):=by
 have e:(kvs.any λkv=>decide (kv.1=k))=(atKey xs k).isSome:=by
  rw[r8,(r.val k).isSome_eq,Option.isSome_map]
 unfold gE storedH;rw[e];by_cases q:(atKey xs k).isSome=true
 ·rw[if_pos q,if_pos q];exact r.repl k ry
 ·rw[if_neg q,if_neg q];exact Paired.snoc r ⟨rfl,hb,ry⟩
theorem KT.keeps(r:KT H kvs xs)(ht:∀b ys,H b=some (.tup ys)->H' b=some (.tup ys)):KT H' kvs xs:=
 Paired.mapP r λ_ _ z=>⟨z.1,ht _ _ z.2.1,z.2.2⟩
theorem zMI(ok:HOk P w H h)(e:Rd H a u):ObjOk P w H h a u:=e.ok ok
theorem gY(ok:HOk P w H h)(e:Rd H a (.dK kvs)):kvs.length<=af/\(a == ik)=false/\∃vs,KV kvs vs/\h.DictOf (yM P w) a vs:=
 show ObjOk P w H h a (.dK kvs) from zMI ok e
theorem zNA(ok:HOk P w H h)(e:H a=some (.dK kvs)):kvs.length<=af/\(a == ik)=false/\∃vs,KV kvs vs/\h.DictOf (yM P w) a vs:=gY ok (.inl e)
theorem zB8(ok:HOk P w H h)(e:H a=some (.tup (ks.map kV))):(tupleKind (yM P w)).is h ks a:=by
 obtain⟨_,its,r,o,h1,h2,n,h3⟩:=(show ObjOk P w H h a (.tup (ks.map kV)) from ok a _ e);exact⟨o,its.toArray,n,h1,h2,h3,by simpa using nX r⟩
theorem zHW(ok:HOk P w H h)(e:Rd H a (.dT kvs)):kvs.length<=af/\(a == ik)=false /\
  ∃xs,KT H kvs xs/\h.DictOfH (tupleKind (yM P w)) a xs:=by
 obtain⟨z,y,xs,r,o,es,ep,h1,h2,h3,h4,h5⟩:=(show ObjOk P w H h a (.dT kvs) from zMI ok e);refine⟨z,y,xs,r,o,es,ep,h1,h2,h3,h4,λx hx=>?_,h5⟩;have all:∀{l:List (List Key×V)} {m:List (List Key×Addr×Value)},KT H l m->∀x∈m,(tupleKind (yM P w)).is h x.1 x.2.1:=by
  intro l m q
  induction q with
  |nil=>intro x hx;exact nomatch hx
  |@cons p q ps qs hq t ih=>
   intro x hx;rcases bh.mp hx with e|hx
   ·subst e;exact zB8 ok (by rw[<-hq.1];exact hq.2.1)
   ·exact ih x hx
 exact all r x hx
theorem zO4(ok:HOk P w H h)(e:H a=some (.dT kvs)):kvs.length<=af/\(a == ik)=false /\
  ∃xs,KT H kvs xs/\h.DictOfH (tupleKind (yM P w)) a xs:=zHW ok (.inl e)
def zP1(H:Hp)(a:Addr)(y:V)(r:Option V):Prop:=
 (∃kvs k,Rd H a (.dK kvs)/\y=kV k/\r=QK kvs k)\/∃kvs k b,Rd H a (.dT kvs)/\y=.ref b/\H b=some (.tup (k.map kV))/\r=QK kvs k
def DPut(H:Hp)(a:Addr)(y v:V)(H':Hp):Prop:=
 (∃kvs k,H a=some (.dK kvs)/\y=kV k/\kvs.length<af/\H'=upd H a (.dK (gE kvs k v))) \/
 ∃kvs k b,H a=some (.dT kvs)/\y=.ref b/\H b=some (.tup (k.map kV))/\kvs.length<af/\H'=upd H a (.dT (gE kvs k v))
theorem DPut.k{H:Hp}{a:Addr}{kvs:List (Key×V)}{k:Key}{v:V}(e:H a=some (.dK kvs))(hl:kvs.length<af):DPut H a (kV k) v (upd H a (.dK (gE kvs k v))):=.inl ⟨kvs,k,e,rfl,hl,rfl⟩
theorem Inv.big(I:Inv X pZ σ H s):ik<s.heap.objs.size:=by
 have h:bc<s.heap.objs.size:=(I.mod.glob.keeps I.bk).lt;exact ph (by decide) h
theorem W8(hu:A.units+1<cLine)(I:Inv X pZ σ H s)(g:zP1 H a y (some v))(ry:RelV y u)(h:∀w' s',Inv X pZ σ H s'->RelV v w'->Q w' s'):wpAny (model X.prog X.w) A (getItem (.ref a) u) Q E s:=by
 rcases g with⟨kvs,k,e,ey,l⟩|⟨kvs,k,b,e,ey,eb,l⟩
 ·subst ey;obtain⟨z,hd,vs,rel,dd⟩:=gY I.hok e;obtain⟨w',hw,rw'⟩:=RelO.some_of (v:=v) (o:=valueAt vs k) (by rw[l];exact rel.val k);exact wpAny_getItem_of (JK ry) dd.mapOf hw (h w' _ (I.tok _) rw')
 ·subst ey;cases (show u=Value.ref b from ry);obtain⟨z,hd,xs,rel,dd⟩:=zHW I.hok e;obtain⟨w',hw,rw'⟩:=RelO.some_of (v:=v) (o:=(atKey xs k).map (·.2)) (by rw[l];exact rel.val k);obtain⟨p,hp,hp2⟩:=oz.mp hw;refine wpAny_getItem_heap (tupleKind_room_in1 hu) (zB8 I.hok eb) dd hp ?_;rw[hp2];exact h w' _ (I.tok _) rw'
theorem YI(I:Inv X pZ σ H s)(mu:Mut (H a))(hs:Heap.SameBut a s.heap h')(he:∃q,h'.get? a=some q)(new:ObjOk X.prog X.w (upd H a ob) h' a ob):Inv X pZ σ (upd H a ob) { s with heap:=h',toks:=t' }:=
 I.write (x:=a) (e:=a) mu (.inl rfl) (λb q hb z=>(hs.2 b hb).trans z) he new
theorem W3(z:kvs.length<=af)(hd:(a == ik)=false)(rel:KV kvs vs)(dd:h'.DictOf (yM P w) a vs):ObjOk P w H' h' a (.dK kvs):=⟨z,hd,vs,rel,dd⟩
theorem W7(hu:A.units+1<cLine)(I:Inv X pZ σ H s)(g:DPut H a y v H')(ry:RelV y u)(rv:RelV v r)(h:∀s',Inv X pZ σ H' s'->Q () s'):wpAny (model X.prog X.w) A (setItem (.ref a) u r) Q E s:=by
 rcases g with⟨kvs,k,e,ey,l,eH⟩|⟨kvs,k,b,e,ey,eb,l,eH⟩
 ·subst ey eH;obtain⟨z,hd,vs,rel,dd⟩:=zNA I.hok e;have hz:vs.length<=af:=by rw[<-rel.length];exact z
  have hl:(gE kvs k v).length<=af:=by have:=bF kvs k v;omega
  refine wpAny_setItem_pairs (hsz:=hz) (JK ry) dd λh' dd' hs=>h _ ?_
  have he:∃q,h'.get? a=some q:=let ⟨q,_,_,hq,_⟩:=dd';⟨q,hq⟩
  exact YI I (by rw[e];exact True.intro) hs he (W3 hl hd (rel.put k rv) dd')
 ·subst ey eH;cases (show u=Value.ref b from ry);obtain⟨z,hd,xs,rel,dd⟩:=zO4 I.hok e;have hz:xs.length<=af:=by rw[<-rc rel];exact z
  have hl:(gE kvs k v).length<=af:=by have:=bF kvs k v;omega
  refine wpAny_setItem_heap (hsz:=hz) (tupleKind_room_in1 hu) (zB8 I.hok eb) dd λh' dd' hs=>h _ ?_
  obtain⟨q,es,ep,hq,h2,h3,h4,_,h5⟩:=dd';refine YI I (by rw[e];exact True.intro) hs ⟨q,hq⟩ ⟨hl,hd,_,(rel.put k eb rv).keeps λc ys ec=>?_,q,es,ep,hq,h2,h3,h4,h5⟩;rw[zN (zJB ec e (λz=>nomatch z))];exact ec
theorem zO8(I:Inv X pZ σ H s)(e:H a=some (.dK kvs))(ry:RelV (kV k) u)(l:QK kvs k=some v)(hm:more=[]\/∃x,more=[x])(h:∀w' s',Inv X pZ σ (upd H a (.dK (YF kvs k))) s'->RelV v w'->Q w' s'):wpAny (model X.prog X.w) A (call (.builtin "dict.pop") (.ref a::u::more)) Q E s:=by
 obtain⟨z,hd,vs,rel,dd⟩:=zNA I.hok e;obtain⟨w',hw,rw'⟩:=RelO.some_of (v:=v) (o:=valueAt vs k) (by rw[<-l];exact rel.val k);have hp:(keyPart u).isSome=true:=by
  cases k with
  |inl i=>obtain⟨t,q⟩:=(show ∃t,u=Value.int i t from ry);subst q;rfl
  |inr x=>obtain⟨t,q⟩:=(show ∃t,u=Value.str x t from ry);subst q;rfl
 have ha:argsOk "dict.pop" ⟨.ref a::u::more,[]⟩:=by
  rcases hm with q|⟨x,q⟩
  ·subst q;exact PySem.F.args_dict_pop_2 _ _
  ·subst q;exact PySem.F.args_dict_pop_3 _ _ _
 refine call_meetsIn vn dd.typeIs PySem.F.entry_dict_pop ha (meets_dict_pop_there (yM X.prog X.w) a (JK ry) more hm hp)
  ⟨vs,w',dd,by rw[<-rel.length];exact z,hw,λh' dd' hs=>h w' _ ?_ rw'⟩
 have he:∃q,h'.get? a=some q:=let ⟨q,_,_,hq,_⟩:=dd';⟨q,hq⟩
 exact YI I (by rw[e];exact True.intro) hs he (W3 (bq (zCW kvs k) z) hd (rel.drop k) dd')
def zPH(i:Expr):Prop:=∀ov iv,subscripted i false ov iv=operate [ov,iv] (getItem ov iv)
theorem zEX{id:String}(hl:typeLookup (.type T) "__getitem__" = pure (some (.builtin id)))(hs:zPH slice)(h:wpAny (model prog w) A (eval value env) (λo s₁=>wpAny (model prog w) A (eval slice env) (λi s₂=>s₂.TypeIs o T/\wpAny (model prog w) A (getItem o i) Q E s₂) E s₁) E s):wpAny (model prog w) A (eval (.Subscript value slice pos) env) Q E s:=by
 refine sw (gx h (λo s₁ h₁=>gx h₁ (λi s₂ h₂=>?_) λ_ _ x=>x) λ_ _ x=>x);obtain⟨hT,h₂⟩:=h₂;unfold subscriptTail;refine ac ?_;rw[getitemInPython_of_ne hT.not_modules];refine ac (ii hT hl ?_);have fin:wpAny (model prog w) A (subscripted slice false o i) (λr s₃=>wpAny (model prog w) A (letTemporaryGo value o r >>= λ_=>pure r) Q E s₃) E s₂:=by
  rw[hs o i];exact wpAny_operating (gx h₂ (λr s₃ h₃=>ac (wpAny_letTemporaryGo (ag h₃))) λ_ _ x=>x)
 first
  |exact ag (ac fin)
  |exact ac (ag (ac fin))
  |exact ac fin
theorem oI(I:Inv X pZ σ H s)(g:zP1 H a y o):s.TypeIs (.ref a) "dict" := by
 rcases g with⟨kvs,k,e,_,_⟩|⟨kvs,k,b,e,_,_,_⟩
 ·obtain⟨_,_,vs,_,dd⟩:=gY I.hok e;exact dd.typeIs
 ·obtain⟨_,_,xs,_,dd⟩:=zHW I.hok e;exact dd.typeIs
noncomputable def zN4(td ty:TE):TE:=λσ H Q=>td σ H λx H1=>ty σ H1 λy H2=>∃a v,x=.ref a/\zP1 H2 a y (some v)/\Q v H2
noncomputable def zN8(td ty tv:TE):TS:=λD σ H=>tv σ H λv H1=>td σ H1 λx H2=>ty σ H2 λy H3=>∃a H4,x=.ref a/\DPut H3 a y v H4/\D.nx σ H4
theorem Q7(hu:X.A.units+1<cLine)(ho:PE X o td)(hi:PE X i ty)(hs:zPH i):PE X (.Subscript o i pos) (zN4 td ty):=by
 intro pZ s σ H Q I h;refine zEX PySem.F.slot_dict_getitem.lookup hs (thn (ho pZ s σ H _ I h) λu s1 ⟨x,H1,I1,rx,q1⟩=>thn (hi pZ s1 σ H1 _ I1 q1) λiv s2 ⟨y,H2,I2,ry,a,v,ex,g,q2⟩=>?_);subst ex;obtain rfl:u=Value.ref a:=rx;exact⟨oI I2 g,W8 hu I2 g ry λw' s3 I3 rw'=>⟨v,H2,I3,rw',q2⟩⟩
theorem zFF(hu:X.A.units+1<cLine)(ho:PE X o td)(hi:PE X i ty)(hv:PE X value tv)(hs:gy value (some (.Subscript o i pos')) pos.line X.env=pure false):PS X (.Assign [.Subscript o i pos'] value pos) (zN8 td ty tv):=by
 intro pZ s σ H D I h;refine wpAny_Assign_Subscript (thn (hv pZ s σ H _ I h) λr s1 ⟨v,H1,I1,rv,q1⟩=>thn (ho pZ s1 σ H1 _ I1 q1) λu s2 ⟨x,H2,I2,rx,q2⟩=>thn (hi pZ s2 σ H2 _ I2 q2) λiv s3 ⟨y,H3,I3,ry,a,H4,ex,g,q3⟩=>?_) hs;subst ex;obtain rfl:u=Value.ref a:=rx;exact W7 hu I3 g ry rv λs4 I4=>⟨σ,H4,I4,q3⟩
theorem zCY(h:Heap)(hb:ik<h.objs.size):ObjOk P w H (h.push { cls:=.type "dict",data:=.dict #[] }) h.objs.size (.dK []):=
 ⟨ck _,beq_eq_false_iff_ne.mpr (lr (be hb)),[],.nil,Heap.DictOf.new h⟩
noncomputable def zJ3:TE:=λ_ H Q=>∀p,H p=none->Q (.ref p) (upd H p (.dK []))
theorem zBK:PE X (.Dict [] [] pos) zJ3:=λpZ s σ H Q I h=>
 wpAny_Dict_empty ⟨.ref s.heap.objs.size,_,I.laid (a:=s.heap.objs.size) (o:=.dK []) (t':=s.toks) (λ_ _ q=>ad _ q) (ah _) (zCY s.heap I.big),rfl,h _ (I.hok.fresh (ah _))⟩
structure M1(X:Cx)(o:Expr)(m:Str)(apos:Pos)(e:Expr)(cpos:Pos):Prop where
 base:bt o m X.env (eval o X.env)=eval o X.env
 few:((dl cpos (ae [e] X.env)).all (λx=>!x.1) && (ja cpos (gh [] X.env)).all (λx=>x.1.isSome)
  && decide (([e]:List Expr).length+([]:List Keyword).length+(if ([]:List Keyword).isEmpty then 0 else 1)<30))=true
 line:(apos.endLine == cpos.line)=true
 trees:dl cpos (ae [e] X.env)=[(false,eval e X.env)]
def IsD(H:Hp)(a:Addr):Prop:=(∃kvs,Rd H a (.dK kvs))\/∃kvs,Rd H a (.dT kvs)
theorem zLM(I:Inv X pZ σ H s)(d:IsD H a):s.TypeIs (.ref a) "dict" /\ (∀b,Value.ref a=.ref b->∃ob,s.heap.get? b=some ob/\ob.dict=none)/\(a == ik)=false:=by
 rcases d with⟨kvs,e⟩|⟨kvs,e⟩
 ·obtain⟨_,hd,vs,_,dd⟩:=gY I.hok e;refine⟨dd.typeIs,λb q=>?_,hd⟩;cases q;obtain⟨ob,_,_,h1,h2,_⟩:=dd;exact⟨ob,h1,h2.2.1⟩
 ·obtain⟨_,hd,xs,_,dd⟩:=zHW I.hok e;refine⟨dd.typeIs,λb q=>?_,hd⟩;cases q;obtain⟨ob,_,_,h1,h2,_⟩:=dd;exact⟨ob,h1,h2.2.1⟩
noncomputable def zJ2(td ty:TE):TE:=λσ H Q=>td σ H λx H1=>∃a,x=.ref a/\IsD H1 a/\ty σ H1 λy H2=>∃kvs k v,H2 a=some (.dK kvs)/\y=kV k/\QK kvs k=some v/\Q v (upd H2 a (.dK (YF kvs k)))
theorem zBJ(ho:PE X o td)(he:PE X e ty)(m:M1 X o "pop" apos e cpos):PE X (.Call (.Attribute o "pop" apos) [e] [] cpos) (zJ2 td ty):=by
 intro pZ s σ H Q I h;refine wpAny_Call_method m.base m.few m.line uo vn PySem.F.type_dict_pop (thn (ho pZ s σ H _ I h) λu s1 ⟨x,H1,I1,rx,a,ex,d,q1⟩=>?_);subst ex;obtain rfl:u=Value.ref a:=rx;obtain⟨t1,t2,_⟩:=zLM I1 d;refine⟨t1,t2,?_⟩;rw[m.trees];refine lf rfl (qt (ki (thn (he pZ s1 σ H1 _ I1 q1) λiv s2 ⟨y,H2,I2,ry,kvs,k,v,ea,ey,l,q2⟩=>nr ?_)));subst ey;exact zO8 I2 ea ry l (.inl rfl) λw' s3 I3 rw'=>⟨v,_,I3,rw',q2⟩
theorem zC1(I:Inv X pZ σ H s)(e:Rd H a (.dK kvs))(h:∀p s',H p=none->Inv X pZ σ (upd H p (.dK kvs)) s'->Q (.ref p) s'):wpAny (model X.prog X.w) A (call (.type "dict") [.ref a]) Q E s:=by
 obtain⟨z,hd,vs,rel,dd⟩:=gY I.hok e;refine kt_call_dict hd dd (by rw[<-rel.length];exact z) λh' dd' hs=>?_
 refine h _ _ (I.hok.fresh (ah _)) (I.laid (a:=s.heap.objs.size) (o:=.dK kvs) (t':=s.toks) (λb q hq=>?_) (ah _) (W3 z (beq_eq_false_iff_ne.mpr (lr (be I.big))) rel dd'));exact(hs.2 b (be (am hq))).trans (ad _ hq)
end L2
namespace DD
open PySem PySem.Spec PyProof.Rows L2
noncomputable def zM1:D->Option Key
 |.int i=>some (.inl i)
 |.str s=>some (.inr ⟨s.toArray⟩)
 |_=>none
theorem nW{K:Fg}{O:Addr->Prop}{H:Hp}{d:D}{v:V}{k:Key}(e:zM1 d=some k)(h:Is K O H d v):v=kV k:=by
 cases d<;>first|(cases e;done)|skip
 ·cases e;rw[Is.int_iff] at h;exact h
 ·cases e;rw[Is.str_iff] at h;exact h
noncomputable def jQ(ks:List Key)(l:List D)(k:Key)(d:D):List Key×List D:=if (ks.any λj=>decide (j=k))=true then (ks,List.zipWith (λj e=>if j=k then d else e) ks l) else (ks++[k],l++[d])
section
variable{K:Fg}{O0:Addr->Prop}{H H1 H':Hp}{r:En}{σ:St}{i:Nat}{d:D}{v:V}{a:Addr}
theorem tU{O:Addr->Prop}{k:Key}(hd:Is K O H d v):∀{kvs:List (Key×V)} {l:List D},IsL K O H l (kvs.map (·.2))->IsL K O H (List.zipWith (λj e=>if j=k then d else e) (kvs.map (·.1)) l) ((kvs.map λkv=>if kv.1=k then (kv.1,v) else kv).map (·.2))
 |[],[],_=>.nil
 |[],d'::l,h=>by unfold IsL at h;obtain⟨_,_,e,_⟩:=h;cases e
 |p::kvs,[],h=>by unfold IsL at h;cases h
 |p::kvs,d'::l,h=>by
  unfold IsL at h;obtain⟨x,y,e,h1,h2⟩:=h;rw[aq] at e;cases e;rw[aq,aq,aq,List.zipWith_cons_cons];refine .cons ?_ (tU hd h2);by_cases q:p.1=k
  ·rw[if_pos q,if_pos q];exact hd
  ·rw[if_neg q,if_neg q];exact h1
theorem Q3{O:Addr->Prop}{k:Key}{kvs:List (Key×V)}{ks:List Key}{l:List D}(hk:kvs.map (·.1)=ks)(hl:IsL K O H l (kvs.map (·.2)))(hd:Is K O H d v):(gE kvs k v).map (·.1)=(jQ ks l k d).1/\IsL K O H (jQ ks l k d).2 ((gE kvs k v).map (·.2)):=by
 subst hk;have ea:(kvs.any λkv=>decide (kv.1=k))=((kvs.map (·.1)).any λj=>decide (j=k)):=by rw[List.any_map];rfl
 unfold gE jQ;rw[ea];by_cases q:((kvs.map (·.1)).any λj=>decide (j=k))=true
 ·rw[if_pos q,if_pos q];refine⟨?_,tU hd hl⟩;rw[jf];refine xf λx _=>?_
  show(if x.1=k then (x.1,v) else x).1=x.1
  split<;>rfl
 ·rw[if_neg q,if_neg q,fo,fo];exact⟨rfl,hl.append (.cons hd .nil)⟩
theorem R.setd{ks:List Key}{l:List D}{kvs:List (Key×V)}{p:Addr}(h:R K O0 H r σ)(s:Same H H1)(n:H p=none)(e:H1 p=some (.dK kvs))(hk:kvs.map (·.1)=ks)(hl:IsL K (λb=>Ow O0 r σ b\/b=p) H1 l (kvs.map (·.2)))(hi:i<r.length)(np:∀l,(r[i]?).bind Sl.pk=none/\r[i]?≠some (.z l)):R K O0 H1 (r.set i (.d false ks l)) (σ.set i (some (.ref p)))/\Kp H r σ H1 (r.set i (.d false ks l)) (σ.set i (some (.ref p))):=by
 have his:i<σ.length:=by rw[<-h.len];exact hi
 have ow:∀{q:Sl->Option (List D)} a,AtS q (r.set i (.d false ks l)) (σ.set i (some (.ref p))) a->AtS q r σ a\/a=p:=λ{q} a z=>by
  obtain⟨j,m,e1,q1⟩:=z;by_cases hj:i=j
  ·subst hj;rw[zI his] at q1;cases q1;exact .inr rfl
  ·rw[zD hj] at e1 q1;exact .inl ⟨j,m,e1,q1⟩
 have sub:∀a,Ow O0 (r.set i (.d false ks l)) (σ.set i (some (.ref p))) a->H a≠none->Ow O0 r σ a:=λa z nn=>z.elim .inl λz=>(ow a z).elim .inr λz=>by subst z;exact absurd n nn
 have olp:jN (λb=>Ow O0 r σ b\/b=p) H1:=λb z=>z.elim (λz=>(h.same s).ol b z) λz=>by subst z;exact⟨.dK kvs,e,trivial⟩
 refine⟨⟨by simp[h.len],λj d' e1=>?_,λj m e1=>?_,λj k a l1 m e1 e2 q1 q2=>?_,(h.same s).o0,λj m a e1 q=>?_,λj m a e1 q=>?_,λj f ks' m e1=>?_⟩,⟨λb o e1 _=>s b o e1,λb e1=>s.free e1,λb o e1 mb=>⟨o,s _ _ e1,mb⟩,λb z=>(ow b z).imp id λz=>by subst z;exact n,λb z=>(ow b z).imp id λz=>by subst z;exact n,λj m e1=>?_,λj m e1=>?_⟩⟩
 ·have hj:i≠j:=λz=>by subst z;rw[zI hi] at e1;cases e1
  rw[zD hj] at e1;obtain⟨u,e2,q⟩:=h.val j d' e1;exact⟨u,by rw[zD hj];exact e2,Is.mono (Same.kp s _) h.ol sub _ _ q⟩
 ·have hj:i≠j:=λz=>by subst z;rw[zI hi] at e1;cases e1
  rw[zD hj] at e1;obtain⟨a,ys,e2,e3,q⟩:=h.own j m e1;exact⟨a,ys,by rw[zD hj];exact e2,s _ _ e3,IsL.mono (Same.kp s _) h.ol sub _ _ q⟩
 ·have out:∀(j:Nat) (m:List D) (a:Addr),i≠j->((r.set i (.d false ks l))[j]?).bind Sl.own=some m->(σ.set i (some (.ref p)))[j]?=some (some (.ref a))->a≠p:=λj m a hj e1 q1 z=>by
   rw[zD hj] at e1 q1;obtain⟨b,ys,e2,e3,_⟩:=h.obj e1;rw[q1] at e2;cases e2;subst z;rw[n] at e3;cases e3
  by_cases hj:i=j
  ·by_cases hk:i=k
   ·exact hj.symm.trans hk
   ·subst hj;rw[zI his] at q1;cases q1;exact absurd rfl (out k m p hk e2 q2)
  ·by_cases hk:i=k
   ·subst hk;rw[zI his] at q2;cases q2;exact absurd rfl (out j l1 p hj e1 q1)
   ·rw[zD hj] at e1 q1;rw[zD hk] at e2 q2;exact h.apart j k a l1 m e1 e2 q1 q2
 ·by_cases hj:i=j
  ·subst hj;rw[zI his] at q;cases q;exact λz=>by obtain⟨ys,e3,_⟩:=h.o0 p z;rw[n] at e3;cases e3
  ·rw[zD hj] at e1 q;exact h.loc j m a e1 q
 ·have hj:i≠j:=λz=>by subst z;rw[zI hi] at e1;cases e1
  rw[zD hj] at e1 q;exact h.par j m a e1 q
 ·by_cases hj:i=j
  ·subst hj;rw[zI hi] at e1;cases e1;exact⟨p,kvs,zI his,e,hk,IsL.mono (Same.kp (Same.refl H1) _) olp (λa z _=>z.elim (λz=>.inl (.inl z)) λz=>(ow a z).imp .inr id) _ _ hl⟩
  ·rw[zD hj] at e1;obtain⟨a,kv2,e2,e3,e4,q⟩:=h.dct j f ks' m e1;exact⟨a,kv2,by rw[zD hj];exact e2,s _ _ e3,e4,IsL.mono (Same.kp s _) h.ol sub _ _ q⟩
 ·have hj:i≠j:=λz=>by subst z;rw[(np []).1] at e1;cases e1
  exact⟨by rw[zD hj];exact e1,zD hj⟩
 ·have hj:i≠j:=λz=>by subst z;exact(np m).2 e1
  exact⟨by rw[zD hj];exact e1,zD hj⟩
theorem pk_d{f:Bool}{ks ks':List Key}{l l':List D}:(Sl.d f ks l).pk=(Sl.d f ks' l').pk:=by cases f<;>rfl
theorem R.putd{K:Fg}{O0:Addr->Prop}{H H':Hp}{r:En}{σ:St}{c:Addr}{fb:Bool}{ks ks':List Key}{l l':List D}{kvs':List (Key×V)}(h:R K O0 H r σ)(ei:r[i]?=some (.d fb ks l))(ha:σ[i]?=some (some (.ref c)))(kp:∀b o,b≠c->H b=some o->H' b=some o)(lv:∀b,b≠c->H' b=none->H b=none)(e':H' c=some (.dK kvs'))(hk:kvs'.map (·.1)=ks')(il:IsL K (Ow O0 r σ) H' l' (kvs'.map (·.2))):R K O0 H' (r.set i (.d fb ks' l')) σ/\Kp H r σ H' (r.set i (.d fb ks' l')) σ:=by
 have hi:i<r.length:=(ar.mp ei).1;have own_i:w8 r σ c:=⟨i,l,by rw[ei];rfl,ha⟩;have mut_i:MutAt r σ c:=⟨i,l,by rw[ei];rfl,ha⟩;have atO:∀b,w8 (r.set i (.d fb ks' l')) σ b->w8 r σ b:=λb ⟨j,m,e1,q1⟩=>by
  by_cases hj:i=j
  ·subst hj;rw[ha] at q1;cases q1;exact own_i
  ·rw[zD hj] at e1;exact⟨j,m,e1,q1⟩
 have atM:∀b,MutAt (r.set i (.d fb ks' l')) σ b->MutAt r σ b:=λb ⟨j,m,e1,q1⟩=>by
  by_cases hj:i=j
  ·subst hj;rw[ha] at q1;cases q1;exact mut_i
  ·rw[zD hj] at e1;exact⟨j,m,e1,q1⟩
 have sub:∀{H2:Hp} b,Ow O0 (r.set i (.d fb ks' l')) σ b->H2 b≠none->Ow O0 r σ b:=λb z _=>z.imp id (atO b)
 have keep:bL (Ow O0 r σ) H H':=λb o e1 n=>kp b o (λz=>n (by subst z;exact .inr own_i)) e1
 have lst:∀b o,H b=some o->Mb o->∃o',H' b=some o'/\Mb o':=λb o e1 mb=>by
  by_cases hb:b=c
  ·subst hb;exact⟨_,e',trivial⟩
  ·exact⟨o,kp b _ hb e1,mb⟩
 have ol':jN (Ow O0 r σ) H':=λb z=>by obtain⟨o,q,mb⟩:=h.ol b z;exact lst b o q mb
 have other:∀(j:Nat) (m:List D) (b:Addr),i≠j->(r[j]?).bind Sl.own=some m->σ[j]?=some (some (.ref b))->b≠c:=λj m b hj e1 q1 z=>by
  subst z;exact hj (h.apart i j b l m (by rw[ei];rfl) e1 ha q1)
 refine⟨⟨by simp[h.len],λj d' e1=>?_,λj m e1=>?_,λj k b m n e1 e2 q1 q2=>?_,λb z=>?_,λj m b e1 q1=>?_,λj m b e1 q1=>?_,λj f2 ks2 m e1=>?_⟩,⟨λb o e1 n=>kp b o (λz=>n (by subst z;exact mut_i)) e1,λb e1=>?_,lst,λb z=>.inl (atO b z),λb z=>.inl (atM b z),λj m e1=>?_,λj m e1=>?_⟩⟩
 ·have hj:i≠j:=λz=>by subst z;rw[zI hi] at e1;cases e1
  rw[zD hj] at e1;obtain⟨v,q1,q2⟩:=h.val j d' e1;exact⟨v,q1,Is.mono keep h.ol sub _ _ q2⟩
 ·have hj:i≠j:=λz=>by subst z;rw[zI hi] at e1;cases e1
  rw[zD hj] at e1;obtain⟨b,ys,q1,q2,q3⟩:=h.own j m e1;exact⟨b,ys,q1,kp b _ (other j m b hj (jA e1) q1) q2,IsL.mono keep h.ol sub _ _ q3⟩
 ·have get:∀(j:Nat) (m:List D),((r.set i (.d fb ks' l'))[j]?).bind Sl.own=some m->∃m',(r[j]?).bind Sl.own=some m':=λj m e1=>by
   by_cases hj:i=j
   ·subst hj;exact⟨l,by rw[ei];rfl⟩
   ·rw[zD hj] at e1;exact⟨m,e1⟩
  obtain⟨m',z1⟩:=get j m e1;obtain⟨n',z2⟩:=get k n e2;exact h.apart j k b m' n' z1 z2 q1 q2
 ·obtain⟨o,q,mb⟩:=h.o0 b z;exact lst b o q mb
 ·by_cases hj:i=j
  ·subst hj;rw[zI hi] at e1;rcases e1 with e1|e1|⟨_,e1⟩<;>cases e1
   exact h.loc i l b (.inr (.inr ⟨ks,ei⟩)) q1
  ·rw[zD hj] at e1;exact h.loc j m b e1 q1
 ·by_cases hj:i=j
  ·subst hj;rw[zI hi] at e1;exact h.par i m b (by rw[ei];exact pk_d.trans e1) q1
  ·rw[zD hj] at e1;exact h.par j m b e1 q1
 ·by_cases hj:i=j
  ·subst hj;rw[zI hi] at e1;cases e1;exact⟨c,kvs',ha,e',hk,IsL.mono (Same.kp (Same.refl H') _) ol' sub _ _ il⟩
  ·rw[zD hj] at e1;obtain⟨b,kv2,q1,q2,q4,q3⟩:=h.dct j f2 ks2 m e1;exact⟨b,kv2,q1,kp b _ (other j m b hj (by rw[e1];rfl) q1) q2,q4,IsL.mono keep h.ol sub _ _ q3⟩
 ·by_cases hb:b=c
  ·subst hb;rw[e'] at e1;cases e1
  ·exact lv b hb e1
 ·by_cases hj:i=j
  ·subst hj;rw[ei] at e1;exact⟨by rw[zI hi];exact pk_d.trans e1,rfl⟩
  ·exact⟨by rw[zD hj];exact e1,rfl⟩
 ·have hj:i≠j:=λz=>by subst z;rw[ei] at e1;cases e1
  exact⟨by rw[zD hj];exact e1,rfl⟩
theorem R.updd{f:Bool}{ks ks':List Key}{l l':List D}{kvs kvs':List (Key×V)}(h:R K O0 H r σ)(ei:r[i]?=some (.d f ks l))(ha:σ[i]?=some (some (.ref a)))(hx:H a=some (.dK kvs))(hk:kvs'.map (·.1)=ks')(il:IsL K (Ow O0 r σ) H l' (kvs'.map (·.2))):R K O0 (L2.upd H a (.dK kvs')) (r.set i (.d f ks' l')) σ/\Kp H r σ (L2.upd H a (.dK kvs')) (r.set i (.d f ks' l')) σ:=by
 have own_a:Ow O0 r σ a:=.inr ⟨i,l,by rw[ei];rfl,ha⟩;exact h.putd ei ha (λb o hb e1=>by rw[zN hb];exact e1) (λb hb e1=>by rw[zN hb] at e1;exact e1) zQ hk (IsL.mono (λb o e1 n=>by rw[zN (λz=>n (by subst z;exact own_a))];exact e1) h.ol (λ_ z _=>z) _ _ il)
end
noncomputable def zPQ(i:Nat)(ks:List Key)(l:List D)(r:En):Option En:=match r[i]? with
 |some (.p _)=>none
 |some (.z _)=>none
 |some (.d true _ _)=>none
 |some _=>some (r.set i (.d false ks l))
 |none=>none
theorem XI{i:Nat}{r r':En}{ks:List Key}{l:List D}(e:zPQ i ks l r=some r'):i<r.length/\(∀l,(r[i]?).bind Sl.pk=none/\r[i]?≠some (.z l))/\r'=r.set i (.d false ks l):=by
 unfold zPQ at e;cases e1:r[i]? with
 |none=>rw[e1] at e;cases e
 |some x=>
  have hi:i<r.length:=(ar.mp e1).1;rw[e1] at e;cases x with
  |d f ks l=>cases f<;>first|(cases e;done)|(cases e;exact⟨hi,λl=>⟨rfl,(λz=>by cases z)⟩,rfl⟩)
  |_=>first|(cases e;done)|(cases e;exact⟨hi,λl=>⟨rfl,(λz=>by cases z)⟩,rfl⟩)
noncomputable def u4(i:Nat)(fk fe:ME):MS:=λr=>(fe r).bind λd=>(fk r).bind λkd=>(zM1 kd).bind λk=>match r[i]? with
 |some (.d f ks l)=>if ks.length<af then some (.nx (r.set i (.d f (jQ ks l k d).1 (jQ ks l k d).2))) else none
 |_=>none
section
variable{X:Cx}{a k e:Expr}{f g:ME}{pos ps pn p:Pos}{x:Str}
theorem dQ(i:Nat)(hu:X.A.units+1<cLine)(h:PE X (.Name x pn) (kN i))(hk:DE X k g)(he:DE X a f)(hs:gy a (some (.Subscript (.Name x pn) k ps)) pos.line X.env=pure false:=by rfl):DS X (.Assign [.Subscript (.Name x pn) k ps] a pos) (u4 i g f):=by
 refine PS.conseq (zFF hu h hk he hs) λDn σ H hq=>?_
 obtain⟨O0,r,fl,hR,e,q⟩:=hq;obtain⟨d,e1,e⟩:=bnS e;obtain⟨kd,e2,e⟩:=bnS e;obtain⟨key,e3,e⟩:=bnS e;cases er:r[i]? with
 |none=>rw[er] at e;cases e
 |some y=>
  rw[er] at e;cases y<;>first|(cases e;done)|skip
  rename_i fb ks l;simp only at e;split at e
  ·rename_i hlen;cases e;obtain⟨b,kvs,q1,q2,q4,q3⟩:=hR.dct i fb ks l er;refine⟨O0,r,d,hR,e1,λv H1 s1 i1=>⟨.ref b,q1,O0,r,kd,hR.same s1,e2,λu H2 s2 i2=>?_⟩⟩;have hu2:=nW e3 i2;subst hu2;have R2:=(hR.same s1).same s2;have q3':=(q3.same s1 hR.ol).same s2 (hR.same s1).ol;have i1':Is X.K (Ow O0 r σ) H2 d v:=Is.mono (Same.kp s2 _) (hR.same s1).ol (λ_ z _=>z) _ _ i1;obtain⟨p1,p2⟩:=Q3 (k:=key) q4 q3' i1';have q2':=s2 _ _ (s1 _ _ q2);obtain⟨R3,k3⟩:=R2.updd er q1 q2' p1 p2;have hl:kvs.length<af:=by rw[<-q4,ao] at hlen;exact hlen
   exact⟨b,_,rfl,DPut.k q2' hl,q σ _ R3 ((Kp.of_same r σ (s1.trans s2)).trans k3)⟩
  ·cases e
theorem zLL{P:Program}{w:World}{k:Key}{u:Value}(h:(yM P w).is k u=true):RelV (kV k) u:=by
 rcases yR h with⟨i,t,rfl,rfl⟩|⟨y,t,rfl,rfl⟩
 ·exact⟨t,rfl⟩
 ·exact⟨t,rfl⟩
theorem QQ:∀{xs:List V} {us:List Value},xs.length=us.length->(∀(j:Nat) (u:Value),us[j]?=some u->∃y,xs[j]?=some y/\RelV y u)->Vals xs us
 |[],[],_,_=>.nil
 |[],_::_,h,_=>by cases h
 |_::_,[],h,_=>by cases h
 |y::xs,u::us,hl,h=>by
  obtain⟨z,e,q⟩:=h 0 u rfl;cases e;exact .cons q (QQ (by simpa using hl) λj w ew=>h (j+1) w (by simpa using ew))
end
theorem m8(h:Q 4238894112 { s with toks:=s.toks+1 }):wpAny (model prog w) A (pyHash .none) Q E s:=by
 unfold pyHash pyHashByItsType;have hv:[Value.none].any Value.onHeap=false:=rfl;refine ac ?_;rw[cRoomFor,if_neg (by rw[hv];exact av)];refine ag ?_;refine ac (ii (T:="NoneType") rfl ju.lookup ?_);show wpAny _ _ (if (some (Value.builtin "NoneType.__hash__") == some Value.none)=true then _ else _) Q E s;rw[if_neg (by decide)];refine ac (ii (T:="NoneType") rfl ju.lookup ?_);show wpAny _ _ (callSpecialIfBoundUnlessNone? .none "__hash__" _ >>= _) Q E s;refine ac (wpAny_callSpecialIfBoundUnlessNone?_slot (T:="NoneType") rfl ju
  (dz (T:="NoneType") ju rfl PySem.F.entry_NoneType_hash
   (show wpAny _ _ (do ret (<- mkInt 4238894112)) _ _ s from wpAny_ret_mkInt ?_) (PySem.F.args_NoneType_hash_1 _)))
 exact ag h
noncomputable def WU:Option Key->Value->Bool
 |none,.none=>true
 |none,_=>false
 |some k,v=>gX k v
theorem xC(h:WU k v=true):(k=none/\v=.none)\/∃j,k=some j/\gX j v=true:=by
 cases k with
 |none=>cases v<;>first|exact .inl ⟨rfl,rfl⟩|cases h
 |some j=>exact .inr ⟨j,rfl,h⟩
theorem dG:gX k .none=false:=by cases k<;>rfl
theorem zHK(h:Q true s):wpAny (model prog w) A (eqBool .none .none) Q E s:=by
 show wpAny (model prog w) A (do rule "eq-bool.same-object";pure true) Q E s;exact ac (my (ag h))
noncomputable def Q9(prog:Program)(w:World):PySem.KeyKind prog w (Option Key) where
 is:=WU
 hash:=λk=>match k with
  |none=>4238894112
  |some k=>zQM w k
 inj:=λv a b ha hb=>by
  rcases xC ha with⟨rfl,rfl⟩|⟨i,rfl,h1⟩
  ·rcases xC hb with⟨rfl,_⟩|⟨j,rfl,h2⟩
   ·rfl
   ·rw[dG] at h2;cases h2
  ·rcases xC hb with⟨rfl,rfl⟩|⟨j,rfl,h2⟩
   ·rw[dG] at h1;cases h1
   ·rw[(yM prog w).inj v i j h1 h2]
 byValue:=λk v h=>by
  rcases xC h with⟨rfl,rfl⟩|⟨i,rfl,h1⟩
  ·rfl
  ·exact(yM prog w).byValue i v h1
 pyHash:=λhv h=>by
  rcases xC hv with⟨rfl,rfl⟩|⟨i,rfl,h1⟩
  ·exact m8 h
  ·exact(yM prog w).pyHash h1 h
 eqBool:=λ{A E s a b u v Q} hu hv h=>by
  rcases xC hu with⟨rfl,rfl⟩|⟨i,rfl,h1⟩
  ·rcases xC hv with⟨rfl,rfl⟩|⟨j,rfl,h2⟩
   ·exact zHK (by simpa using h)
   ·have h':Q false s:=by rw[decide_eq_false (by intro z;cases z)] at h;exact h
    rcases yR h2 with⟨n,t,rfl,rfl⟩|⟨y,t,rfl,rfl⟩
    ·exact ww n t _ _ _ _ h'
    ·exact wv y t _ _ _ _ h'
  ·rcases xC hv with⟨rfl,rfl⟩|⟨j,rfl,h2⟩
   ·have h':Q false s:=by rw[decide_eq_false (by intro z;cases z)] at h;exact h
    rcases yR h1 with⟨n,t,rfl,rfl⟩|⟨y,t,rfl,rfl⟩
    ·exact wz n t _ _ _ _ h'
    ·exact wu y t _ _ _ _ h'
   ·refine(yM prog w).eqBool h1 h2 ?_;have e:decide (some i=some j)=decide (i=j):=by
     by_cases q:i=j
     ·rw[decide_eq_true q,decide_eq_true (by rw[q])]
     ·rw[decide_eq_false q,decide_eq_false (λz=>q (bg z))]
    rw[e] at h;exact h
 «strs»:=λk x t v h=>by
  rcases xC h with⟨rfl,e⟩|⟨i,rfl,h1⟩
  ·cases e
  ·exact(yM prog w).strs i x t v h1
noncomputable def vO:Option Key->V
 |none=>.non
 |some k=>kV k
theorem zL8(r:RelV (vO k) u):(Q9 P w).is k u=true:=by
 cases k with
 |none=>cases (show u=Value.none from r);rfl
 |some k=>exact JK (P:=P) (w:=w) r
noncomputable def valO(kvs:List (Key×V)):Option Key->Option V
 |none=>none
 |some k=>QK kvs k
theorem zQK{P:Program}{w:World}{h:Heap}{a:Addr}{vs:List (Key×Value)}(d:h.DictOf (yM P w) a vs):h.MapOf (Q9 P w) a (λk=>match k with|none=>none|some k=>valueAt vs k):=by
 obtain⟨o,es,ep,ho,hc,hdat,hk,hf⟩:=d.mapOf;refine⟨o,es,ep,ho,hc,hdat,λe he=>?_,λk=>?_⟩
 ·obtain⟨j,h1,h2⟩:=hk e he;exact⟨some j,h1,h2⟩
 ·cases k with
  |some k=>exact hf k
  |none=>
   have nof:∀e∈es,WU none e.key=false:=λe he=>by
    obtain⟨j,h1,_⟩:=hk e he;rcases yR (show gX j e.key=true from h1) with⟨n,t,_,q⟩|⟨y,t,_,q⟩<;>rw[q]<;>rfl
   show findBy WU es none=none;unfold findBy;rw[Array.find?_eq_none.mpr (λe he=>by rw[nof e he];exact av)];rfl
theorem tV(rel:KV kvs vs)(k:Option Key):RelO (valO kvs k) (match k with|none=>none|some k=>valueAt vs k):=by
 cases k with
 |none=>exact trivial
 |some k=>exact rel.val k
theorem zQI{Q:Value->Shared->Prop}(I:Inv X pZ σ H s)(e:Rd H a (.dK kvs))(ry:RelV (vO k) u)(h:∀s',Inv X pZ σ H s'->Q (.bool (valO kvs k).isSome) s'):wpAny (model X.prog X.w) A (et .In u (.ref a)) Q E s:=by
 obtain⟨z,hd,vs,rel,dd⟩:=gY I.hok e;refine wpAny_in_of (zL8 ry) hd (zQK dd) ?_;rw[<-(tV rel k).isSome_eq];exact h _ (I.tok _)
theorem zF9{Q:Value->Shared->Prop}(I:Inv X pZ σ H s)(e:Rd H a (.dK kvs))(ry:RelV (vO k) u)(h:∀s',Inv X pZ σ H s'->Q (.bool (!(valO kvs k).isSome)) s'):wpAny (model X.prog X.w) A (et .NotIn u (.ref a)) Q E s:=by
 obtain⟨z,hd,vs,rel,dd⟩:=gY I.hok e;refine wpAny_notIn_of (zL8 ry) hd (zQK dd) ?_;rw[<-(tV rel k).isSome_eq];exact h _ (I.tok _)
noncomputable abbrev MD:=En->Option (List Key×List D)
noncomputable def lDc(K:Fg)(f:MD):TE:=λσ H Q=>∃O0 r ks l,R K O0 H r σ/\f r=some (ks,l)/\∀a kvs H',Same H H'->Rd H' a (.dK kvs)->kvs.map (·.1)=ks->IsL K (Ow O0 r σ) H' l (kvs.map (·.2))->Q (.ref a) H'
noncomputable def lFd(K:Fg)(f:MD):TE:=λσ H Q=>∃O0 r ks l,R K O0 H r σ/\f r=some (ks,l)/\∀a kvs H',Same H H'->H a=none->H' a=some (.dK kvs)->kvs.map (·.1)=ks->IsL K (λb=>Ow O0 r σ b\/b=a) H' l (kvs.map (·.2))->Q (.ref a) H'
def DDc(X:Cx)(e:Expr)(f:MD):Prop:=PE X e (lDc X.K f)
def DFd(X:Cx)(e:Expr)(f:MD):Prop:=PE X e (lFd X.K f)
noncomputable def qS(f:ME):MD:=λr=>(f r).bind λd=>match d with
 |.dct ks l=>some (ks,l)
 |_=>none
noncomputable def zDJ(i:Nat):MD:=λr=>match r[i]? with
 |some (.d _ ks l)=>some (ks,l)
 |_=>none
noncomputable def mD0:MD:=λ_=>some ([],[])
noncomputable def zB4(f:MD):ME:=λr=>(f r).map λq=>.dct q.1 q.2
noncomputable def tR(i:Nat)(f:MD):MS:=λr=>(f r).bind λq=>(zPQ i q.1 q.2 r).map .nx
noncomputable def zI5(i:Nat):MS:=λr=>match r[i]? with
 |some (.d false ks l)=>some (.rg ks l r)
 |_=>none
noncomputable def zQL:D->Option (Option Key)
 |.non=>some none
 |.int i=>some (some (.inl i))
 |.str s=>some (some (.inr ⟨s.toArray⟩))
 |_=>none
noncomputable def yW:List Key->List D->Key->Option D
 |k'::ks,d::l,k=>if k'=k then some d else yW ks l k
 |_,_,_=>none
noncomputable def zGX(ks:List Key)(l:List D):Option Key->Option D
 |none=>none
 |some k=>yW ks l k
noncomputable def zGT(neg:Bool)(fk:ME)(fd:MD):MB:=λr=>(fk r).bind λkd=>(fd r).bind λq=>(zQL kd).map λk=>if neg then !(zGX q.1 q.2 k).isSome else (zGX q.1 q.2 k).isSome
noncomputable def rH(fd:MD)(fk:ME):ME:=λr=>(fd r).bind λq=>(fk r).bind λkd=>(zM1 kd).bind λk=>yW q.1 q.2 k
theorem ZT{K:Fg}(e:zQL d=some k)(h:Is K O H d v):v=vO k:=by
 cases d<;>first|(cases e;done)|skip
 ·cases e;rw[Is.non_iff] at h;exact h
 ·cases e;rw[Is.int_iff] at h;exact h
 ·cases e;rw[Is.str_iff] at h;exact h
theorem uU{K:Fg}(k:Key):∀{kvs:List (Key×V)} {l:List D},IsL K O H l (kvs.map (·.2))->(∃d v,yW (kvs.map (·.1)) l k=some d/\QK kvs k=some v/\Is K O H d v)\/(yW (kvs.map (·.1)) l k=none/\QK kvs k=none)
 |[],[],_=>.inr ⟨rfl,rfl⟩
 |[],d'::l,h=>by unfold IsL at h;obtain⟨_,_,e,_⟩:=h;cases e
 |p::kvs,[],h=>by unfold IsL at h;cases h
 |p::kvs,d'::l,h=>by
  unfold IsL at h;obtain⟨x,y,e,h1,h2⟩:=h;rw[aq] at e;cases e;by_cases q:p.1=k
  ·exact .inl ⟨d',p.2,by rw[aq];unfold yW;rw[if_pos q],bN q,h1⟩
  ·have e1:yW ((p::kvs).map (·.1)) (d'::l) k=yW (kvs.map (·.1)) l k:=by rw[aq];show(if p.1=k then _ else _)=_;rw[if_neg q]
   rw[e1,bO q];exact uU k h2
theorem hZ{K:Fg}(k:Option Key)(h:IsL K O H l (kvs.map (·.2))):(∃d v,zGX (kvs.map (·.1)) l k=some d/\valO kvs k=some v/\Is K O H d v)\/(zGX (kvs.map (·.1)) l k=none/\valO kvs k=none):=by
 cases k with
 |none=>exact .inr ⟨rfl,rfl⟩
 |some k=>exact uU k h
theorem Rd.same(s:Same H H')(h:Rd H a u):Rd H' a u:=by
 rcases h with h|⟨ob,h⟩
 ·exact .inl (s _ _ h)
 ·exact .inr ⟨ob,s _ _ h⟩
theorem YZ(h:DE X a f):DDc X a (qS f):=by
 refine PE.conseq h λσ H Q hq=>?_
 obtain⟨O0,r,ks,l,hR,e,q⟩:=hq;obtain⟨d,e1,e⟩:=bnS e;refine⟨O0,r,d,hR,e1,λv H1 s1 i1=>?_⟩;cases d<;>first|(cases e;done)|skip
 cases e;rw[Is.dct_iff] at i1;obtain⟨c,kvs,rfl,_,rd,ek,il⟩:=i1;exact q c kvs H1 s1 rd ek il
theorem zIJ(i:Nat)(h:PE X (.Name nm pn) (kN i)):DDc X (.Name nm pn) (zDJ i):=by
 refine PE.conseq h λσ H Q hq=>?_
 obtain⟨O0,r,ks,l,hR,e,q⟩:=hq;have⟨fb,er⟩:∃fb,r[i]?=some (.d fb ks l):=by
  unfold zDJ at e;split at e
  ·rename_i fb _ _ h;cases e;exact⟨fb,h⟩
  ·cases e
 obtain⟨c,kvs,q1,q2,q4,q3⟩:=hR.dct i fb ks l er;exact⟨.ref c,q1,q c kvs H (Same.refl H) (.inl q2) q4 q3⟩
theorem rN:DFd X (.Dict [] [] pos) mD0:=by
 refine PE.conseq zBK λσ H Q hq=>?_
 obtain⟨O0,r,ks,l,hR,e,q⟩:=hq;cases e;exact λp hp=>q p [] _ (yA hp) hp zQ rfl .nil
theorem gR:CallR X (.type "dict") (λxs H Q=>∃p kvs,xs=[.ref p]/\Rd H p (.dK kvs)/\∀l,H l=none->Q (.ref l) (upd H l (.dK kvs))):=by
 intro pZ s σ H xs us Q I r h;obtain⟨p,kvs,rfl,e,q⟩:=h;obtain⟨u,rfl,rx⟩:=rZ r;cases rx;exact zC1 I e λl s' hl I'=>⟨.ref l,_,I',rfl,q l hl⟩
theorem Z4(hg:Gl X "dict")(hm:X.mg "dict" = none)(ha:DDc X a fd)(hs:ae [a] X.env=(false,eval a X.env)::ae [] X.env:=by rfl):DFd X (.Call (.Name "dict" p') [a] [] pos) fd:=by
 refine PE.conseq (v5 gR hg hm vg (yC ha xF hs) (he:=hs)) λσ H Q hq=>?_
 obtain⟨O0,r,ks,l,hR,e,q⟩:=hq;refine⟨O0,r,ks,l,hR,e,λc kvs H1 s1 rd ek il=>⟨c,kvs,rfl,rd,λt ht=>?_⟩⟩;refine q t kvs _ (s1.trans (yA ht)) (s1.free ht) zQ ek ?_;exact IsL.mono (Same.kp (yA ht) _) (hR.same s1).ol (λb z nn=>z.elim id λz=>by subst z;exact absurd ht nn) _ _ il
theorem zDR(h:DFd X a fd):DE X a (zB4 fd):=by
 refine PE.conseq h λσ H Q hq=>?_
 obtain⟨O0,r,d,hR,e,q⟩:=hq;obtain⟨⟨ks,l⟩,e1,rfl⟩:=mpS e;refine⟨O0,r,ks,l,hR,e1,λc kvs H1 s1 n1 e2 ek il=>q _ H1 s1 ?_⟩;have ol:jN (λb=>Ow O0 r σ b\/b=c) H1:=λb z=>z.elim (λz=>(hR.same s1).ol b z) λz=>by subst z;exact⟨.dK kvs,e2,trivial⟩
 rw[Is.dct_iff];exact⟨c,kvs,rfl,hR.nofresh n1,.inl e2,ek,IsL.mono (Same.kp (Same.refl H1) _) ol (λ_ z _=>.inl z) _ _ il⟩
theorem oF(i:Nat)(he:DFd X e fd)(hN:X.N.Nodup)(hi:X.N[i]?=some nm:=by rfl)(hx:Loc X.env.scope nm:=by first|exact Or.inl rfl|exact Or.inr rfl)(hs:gy e (some (.Name nm pos')) pos.line X.env=pure false:=by rfl)(hf:X.fn nm=true\/X.env.scope.names.lookup nm=some .local:=by first|exact .inl rfl|exact .inr rfl):DS X (.Assign [.Name nm pos'] e pos) (tR i fd):=by
 refine PS.conseq (nA hN hi hx he hs hf) λDn σ H hq=>?_
 obtain⟨O0,r,fl',hR,e,q⟩:=hq;obtain⟨⟨ks,l⟩,e1,e2⟩:=bnS e;obtain⟨r',e4,rfl⟩:=mpS e2;obtain⟨hl,np,rfl⟩:=XI e4;refine⟨O0,r,ks,l,hR,e1,λp kvs H1 s1 n1 e3 ek i1=>?_⟩;obtain⟨R1,k1⟩:=hR.setd s1 n1 e3 ek i1 hl np;exact q _ H1 R1 k1
theorem zH0(i:Nat)(h:PE X (.Name nm pos') (kN i)):DS X (.Return (some (.Name nm pos')) pos) (zI5 i):=by
 refine PS.conseq (XR h) λDn σ H hq=>?_
 obtain⟨O0,r,fl',hR,e,q⟩:=hq;have⟨ks,l,e1,e2⟩:∃ks l,r[i]?=some (.d false ks l)/\fl'=.rg ks l r:=by
  unfold zI5 at e;split at e
  ·rename_i ks l h;cases e;exact⟨ks,l,h,rfl⟩
  ·cases e
 subst e2;obtain⟨c,kvs,q1,q2,q4,q3⟩:=hR.dct i false ks l e1;refine⟨.ref c,q1,q c kvs σ H hR (Kp.refl H r σ) (.inr ⟨i,l,.inr ⟨ks,e1⟩,q1⟩) (hR.loc i l c (.inr (.inr ⟨ks,e1⟩)) q1) q2 q4 ?_⟩;exact IsL.mono (Same.kp (Same.refl H) _) hR.ol (λb z _=>z.elim .inl λz=>by subst z;exact .inr ⟨i,l,by rw[e1];rfl,q1⟩) _ _ q3
theorem zHY(hk:DE X k g)(ho:DDc X o fd)(hm:dh .In o=false:=by rfl):DT X (.Compare k [.In] [o] pos) (zGT false g fd):=by
 refine PT.conseq (zFD (t:=λσ H Q=>lE X.K g σ H λy H1=>lDc X.K fd σ H1 λx H2=>∃c kvs j,x=.ref c/\Rd H2 c (.dK kvs)/\y=vO j/\Q (.bl (valO kvs j).isSome) H2) ?_ hm) λσ H Q hq=>?_
 ·intro pZ s σ H Q I h;refine thn (hk pZ s σ H _ I h) λiv s1 ⟨y,H1,I1,ry,q1⟩=>thn (ho pZ s1 σ H1 _ I1 q1) λu s2 ⟨x,H2,I2,rx,c,kvs,j,ex,rd,ey,q2⟩=>?_
  subst ex ey;obtain rfl:u=Value.ref c:=rx;exact zQI I2 rd ry λs3 I3=>⟨.bl (valO kvs j).isSome,H2,I3,rfl,q2⟩
 ·obtain⟨O0,r,t,hR,e,q⟩:=hq;obtain⟨kd,e1,e⟩:=bnS e;obtain⟨⟨ks,l⟩,e2,e⟩:=bnS e;obtain⟨j,e3,rfl⟩:=mpS e;refine⟨O0,r,kd,hR,e1,λy H1 s1 iy=>⟨O0,r,ks,l,hR.same s1,e2,λc kvs H2 s2 rd ek il=>⟨c,kvs,j,rfl,rd,ZT e3 iy,_,rfl,?_⟩⟩⟩;subst ek;have q':=q H2 (s1.trans s2);rcases hZ j il with⟨dd,v,p1,p2,p3⟩|⟨p1,p2⟩
  ·rw[p1] at q';rw[p2];exact q'
  ·rw[p1] at q';rw[p2];exact q'
theorem oP(hu:X.A.units+1<cLine)(ho:DDc X o fd)(hk:DE X k g)(hs:zPH k:=by intro _ _;rfl):DE X (.Subscript o k pos) (rH fd g):=by
 refine PE.conseq (Q7 hu ho hk hs) λσ H Q hq=>?_
 obtain⟨O0,r,d,hR,e,q⟩:=hq;obtain⟨⟨ks,l⟩,e1,e⟩:=bnS e;obtain⟨kd,e2,e⟩:=bnS e;obtain⟨j,e3,e⟩:=bnS e;refine⟨O0,r,ks,l,hR,e1,λc kvs H1 s1 rd ek il=>⟨O0,r,kd,hR.same s1,e2,λy H2 s2 iy=>?_⟩⟩;subst ek;have il2:=il.same s2 (hR.same s1).ol;rcases uU j il2 with⟨dd,v,p1,p2,p3⟩|⟨p1,p2⟩
 ·rw[p1] at e;cases e;exact⟨c,v,rfl,.inl ⟨kvs,j,Rd.same s2 rd,nW e3 iy,p2.symm⟩,q v H2 (s1.trans s2) p3⟩
 ·rw[p1] at e;cases e
open PySem PySem.Spec PyProof.Rows L2 PySem.W
open PySem PySem.Spec PyProof.Rows L2 PySem.W TS
open PySem PySem.Spec PyProof.Rows L2 PySem.W TS
open PySem PySem.Spec PyProof.Rows L2 PySem.W
theorem un1(r:Room k A):A.units+1<cLine:=by have:=un2 r;omega
noncomputable def zJH(n:Nat)(d:D):Bool:=okD d && (toP d).canLay0 && decide ((toP d).depth<=n)
noncomputable def neN(n:Nat)(x y:D):Option D:=if zJH n x=true/\zJH n y=true then some (.bl (!PyData.eqv (toP x) (toP y))) else none
noncomputable def zQF(K:Fg)(n:Nat)(neg:Bool):R2:=λx y H Q=>∃O dx dy,Is K O H dx x/\Is K O H dy y/\zJH n dx=true/\zJH n dy=true/\Q (.bl (if neg then !PyData.eqv (toP dx) (toP dy) else PyData.eqv (toP dx) (toP dy))) H
theorem zKU(hu:X.A.units+n<cLine):OpR X (et .NotEq) (zQF X.K n true):=by
 intro pZ s σ H x y v u Q I rx ry hq;obtain⟨O,dx,dy,ix,iy,lx,ly,q⟩:=hq;unfold zJH at lx ly;simp only[bw,decide_eq_true_eq] at lx ly;obtain⟨as,qa⟩:=g0 I dx x v lx.1.1 ix rx;obtain⟨bs,qb⟩:=g0 I dy y u ly.1.1 iy ry;exact PySem.SeqAt.compareNe_reads qa qb lx.1.2 ly.1.2 (by have:=Nat.min_le_left (toP dx).depth (toP dy).depth;omega) ⟨.bl _,H,I,rfl,q⟩
theorem zKY{K:Fg}:OpD K (zQF K n true) (neN n):=by
 intro O H dx dy d vx vy Q ol ix iy e q;unfold neN at e;split at e
 ·rename_i h;cases e;exact⟨O,dx,dy,ix,iy,h.1,h.2,q _ H (Same.refl H) (by rw[Is.bl_iff];rfl)⟩
 ·cases e
theorem zNU(r:Room k A)(h:16<=k):A.units+400<cLine:=by have:=r.un;omega
noncomputable def WK(n:Nat)(m:MF)(fs:ML):MD:=λr=>(fs r).bind λds=>if ds.length=n then (m (ds.map .v)).bind λp=>match p.1 with
 |.g ks l=>some (ks,l)
 |_=>none
 else none
theorem zHI(F:FnOk X.prog X.w X.K X.mg X.base CX0 k f fd ps (spD X.K n m))(hr:Room k X.A)(hg:Gl X x)(hm:X.mg x=some (.ref f))(hk:PySem.W.keepIn X.K (.ref f)=true)(hb:Binds X.K fd ps [])(ha:DA X (e::es) fs)(hdb:(x == ("__debug__" : Str))=false:=by decide)(he:ae (e::es) X.env=(false,eval e X.env)::ae es X.env:=by rfl)(hpl:(dl pos (ae es X.env)).any (·.1)=false:=by rfl):DFd X (.Call (.Name x p) (e::es) [] pos) (WK n m fs):=by
 refine PE.conseq (v6 (E:=λ_ _ _=>False) (dvs:=[]) F hr hg hm hk hb .nil dC ha hdb he hpl) λσ H Q h=>?_
 obtain⟨O0,r,ks,l,hR,e,q⟩:=h;obtain⟨ds,e1,e2⟩:=bnS e;split at e2
 ·rename_i hl;obtain⟨⟨rs,as'⟩,e3,e4⟩:=bnS e2;refine⟨O0,r,ds,hR,e1,λvs H1 s1 il=>c5 hR s1 il hl e3 ?_⟩;cases rs with
  |v d=>cases e4
  |f l'=>cases e4
  |g ks' l'=>cases e4;exact λa kvs H2 pf na ea ek il2=>q a kvs H2 (s1.trans pf.same) (s1.free na) ea ek il2
 ·cases e2
noncomputable def sFz(i:Nat)(g:MS):MS:=λr=>match r[i]? with
 |some (.d false ks l)=>g (r.set i (.v (.dct ks l)))
 |_=>none
theorem R.fz2{K:Fg}(h:R K O0 H r σ)(er:r[i]?=some (.d false ks l))(c1:σ[i]?=some (some (.ref c)))(c2:H c=some (.dK kvs))(c3:kvs.map (·.1)=ks)(c4:IsL K (Ow O0 r σ) H l (kvs.map (·.2)))(hne:∀b,b≠c->H2 b=H b)(h2:∃o,H2 c=some o/\Mb o)(rd:Rd H2 c (.dK kvs)):R K O0 H2 (r.set i (.v (.dct ks l))) σ/\Kp H r σ H2 (r.set i (.v (.dct ks l))) σ/\IsL K (Ow O0 (r.set i (.v (.dct ks l))) σ) H2 l (kvs.map (·.2))/\¬Ow O0 (r.set i (.v (.dct ks l))) σ c:=by
 have hi:i<r.length:=(ar.mp er).1;have own:∀j m,((r.set i (.v (.dct ks l)))[j]?).bind Sl.own=some m->i≠j/\(r[j]?).bind Sl.own=some m:=λj m e=>by
  by_cases hj:i=j
  ·subst hj;rw[zI hi] at e;cases e
  ·rw[zD hj] at e;exact⟨hj,e⟩
 have mtt:∀j m,((r.set i (.v (.dct ks l)))[j]?).bind Sl.mt=some m->(r[j]?).bind Sl.mt=some m:=λj m e=>by
  by_cases hj:i=j
  ·subst hj;rw[zI hi] at e;cases e
  ·rw[zD hj] at e;exact e
 have at_:∀b,w8 (r.set i (.v (.dct ks l))) σ b->w8 r σ b:=λb ⟨j,m,e,q⟩=>⟨j,m,(own j m e).2,q⟩
 have nc:¬Ow O0 (r.set i (.v (.dct ks l))) σ c:=λz=>z.elim (λz=>h.loc i l c (.inr (.inr ⟨ks,er⟩)) c1 z) λ⟨j,m,e,q⟩=>by
  obtain⟨hj,e'⟩:=own j m e;exact hj (h.apart i j c l m (by rw[er];rfl) e' c1 q)
 have ow:∀b,Ow O0 (r.set i (.v (.dct ks l))) σ b->H b≠none->Ow O0 r σ b:=λb z _=>z.imp id (at_ b)
 have mc:MutAt r σ c:=⟨i,l,by rw[er];rfl,c1⟩;have kp:bL (Ow O0 r σ) H H2:=λb o e n=>(hne b λz=>n (by rw[z];exact .inr mc.own)).trans e
 have i4:=IsL.mono kp h.ol ow _ _ c4;refine⟨⟨by simp[h.len],λj d ej=>?_,λj m ej=>?_,λj k b m n e4 e5=>h.apart j k b m n (own j m e4).2 (own k n e5).2,λb z=>?_,λj m b ej q=>?_,λj m b ej q=>?_,λj f ks' m ej=>?_⟩,⟨λb o e n=>(hne b λz=>n (by rw[z];exact mc)).trans e,λb e=>?_,λb o e mb=>?_,λb z=>.inl (at_ b z),λb ⟨j,m,e,q⟩=>.inl ⟨j,m,mtt j m e,q⟩,λj m ej=>?_,λj m ej=>?_⟩,i4,nc⟩
 ·by_cases hj:i=j
  ·subst hj;rw[zI hi] at ej;cases ej;refine⟨.ref c,c1,?_⟩;rw[Is.dct_iff];exact⟨c,kvs,rfl,nc,rd,c3,i4⟩
  ·rw[zD hj] at ej;obtain⟨v,q1,q2⟩:=h.val j d ej;exact⟨v,q1,Is.mono kp h.ol ow _ _ q2⟩
 ·have hj:i≠j:=λz=>by subst z;rw[zI hi] at ej;cases ej
  rw[zD hj] at ej;obtain⟨b,ys,q1,q2,q3⟩:=h.own j m ej;exact⟨b,ys,q1,(hne b λz=>by rw[z,c2] at q2;cases q2).trans q2,IsL.mono kp h.ol ow _ _ q3⟩
 ·obtain⟨o,e,mb⟩:=h.o0 b z;exact⟨o,(hne b λy=>h.loc i l c (.inr (.inr ⟨ks,er⟩)) c1 (by rw[<-y];exact z)).trans e,mb⟩
 ·have hj:i≠j:=λz=>by subst z;rw[zI hi] at ej;rcases ej with ej|ej|⟨_,ej⟩<;>cases ej
  rw[zD hj] at ej;exact h.loc j m b ej q
 ·have hj:i≠j:=λz=>by subst z;rw[zI hi] at ej;cases ej
  rw[zD hj] at ej;exact h.par j m b ej q
 ·have hj:i≠j:=λz=>by subst z;rw[zI hi] at ej;cases ej
  rw[zD hj] at ej;obtain⟨b,kvs',q1,q2,q4,q3⟩:=h.dct j f ks' m ej;have hb:b≠c:=λz=>hj (h.apart i j c l m (by rw[er];rfl) (by rw[ej];rfl) c1 (by rw[q1,z]))
  exact⟨b,kvs',q1,(hne b hb).trans q2,q4,IsL.mono kp h.ol ow _ _ q3⟩
 ·by_cases hb:b=c
  ·subst hb;obtain⟨o,e',_⟩:=h2;rw[e] at e';cases e'
  ·rw[<-hne b hb];exact e
 ·by_cases hb:b=c
  ·subst hb;exact h2
  ·exact⟨o,(hne b hb).trans e,mb⟩
 ·have hj:i≠j:=λz=>by subst z;rw[er] at ej;cases ej
  exact⟨by rw[zD hj];exact ej,rfl⟩
 ·have hj:i≠j:=λz=>by subst z;rw[er] at ej;cases ej
  exact⟨by rw[zD hj];exact ej,rfl⟩
theorem R.fz{K:Fg}(h:R K O0 H r σ)(er:r[i]?=some (.d false ks l)):R K O0 H (r.set i (.v (.dct ks l))) σ/\Kp H r σ H (r.set i (.v (.dct ks l))) σ:=by
 obtain⟨c,kvs,c1,c2,c3,c4⟩:=h.dct i false ks l er;obtain⟨a,b,_⟩:=h.fz2 er c1 c2 c3 c4 (λ_ _=>rfl) ⟨_,c2,trivial⟩ (.inl c2);exact⟨a,b⟩
theorem zJK(i:Nat){st:Stmt}(h:DS X st g):DS X st (sFz i g):=by
 refine PS.conseq h λDn σ H hq=>?_
 obtain⟨O0,r,fl,hR,e,q⟩:=hq;unfold sFz at e;split at e
 ·rename_i ks l er;obtain⟨R1,k1⟩:=hR.fz er;exact⟨O0,_,fl,R1,e,q.before R1 k1⟩
 ·cases e
open PySem PySem.Spec PyProof.Rows L2 PySem.W
structure Mst where
 most:Int
 steps:Int
 wait:List D
 come:List D
 ended:D
 defs:D
noncomputable def mfs(most steps:Int)(w c:Addr)(ve vd:V):List (Str×V):=[("most",.int most),("steps",.int steps),("waiting",.ref w),("come",.ref c),("ended",ve),("defs",vd)]
structure Mch(K:Fg)(O:Addr->Prop)(H:Hp)(C a w c:Addr)(st:Mst):Prop where
 ex:∃dx xs ys ve vd,H a=some (.ins C dx (mfs st.most st.steps w c ve vd))/\H w=some (.lst xs)/\H c=some (.lst ys)/\Is K O H st.ended ve/\Is K O H st.defs vd/\IsL K O H st.wait xs/\IsL K O H st.come ys
 wc:w≠c
 oa:O a
 ow:O w
 oc:O c
def NoOwn(r:En):Prop:=∀i:Nat,(r[i]?).bind Sl.own=none
structure McR(K:Fg)(O:Addr->Prop)(H:Hp)(C:Addr)(z:Nat)(a w c:Addr)(st:Mst)(r:En)(σ:St):Prop where
 ms:Mch K O H C a w c st
 rr:R K O H r σ
 no:NoOwn r
 me:σ[z]?=some (some (.ref a))
def KeepM(a w c:Addr)(H H':Hp):Prop:=∀b o,H b=some o->b≠a->b≠w->b≠c->H' b=some o
theorem KeepM.refl(H:Hp):KeepM a w c H H:=λ_ _ e _ _ _=>e
theorem KeepM.trans(x:KeepM a w c H H1)(y:KeepM a w c H1 H2):KeepM a w c H H2:=λb o e h1 h2 h3=>y b o (x b o e h1 h2 h3) h1 h2 h3
theorem KeepM.same(s:Same H H'):KeepM a w c H H':=λb o e _ _ _=>s b o e
section
variable{K:Fg}{st:Mst}
theorem NoOwn.at(hq:∀x l,q x=some l->x.own=some l)(h:NoOwn r):¬AtS q r σ b:=λ⟨i,l,e,_⟩=>by
 obtain⟨x,e1,e2⟩:=og.mp e
 have:=h i
 rw[e1] at this;rw[show(some x).bind Sl.own=x.own from rfl,hq x l e2] at this;cases this
theorem NoOwn.ow(h:NoOwn r):Ow O r σ b↔O b:=⟨λz=>z.elim id λz=>absurd z (h.at λ_ _ e=>e),.inl⟩
theorem McR.is(m:McR K O H C z a w c st r σ):Is K (Ow O r σ) H' d v↔Is K O H' d v:=by
 rw[show Ow O r σ=O from funext λb=>propext m.no.ow]
theorem McR.ol(m:McR K O H C z a w c st r σ):jN O H:=m.rr.o0
theorem Mch.kp(m:Mch K O H C a w c st)(k:KeepM a w c H H'):bL O H H':=λb o e n=>k b o e (λz=>n (z ▸ m.oa)) (λz=>n (z ▸ m.ow)) λz=>n (z ▸ m.oc)
theorem McR.step(m:McR K O H C z a w c st r σ)(k:KeepM a w c H H')(n:Mch K O H' C a w c st'):McR K O H' C z a w c st' r σ:=by
 have kp:=m.ms.kp k;have ol:jN O H':=λb z=>by
  obtain⟨dx,xs,ys,ve,vd,e1,e2,e3,_⟩:=n.ex;by_cases h1:b=a
  ·rw[h1];exact⟨_,e1,trivial⟩
  ·by_cases h2:b=w
   ·rw[h2];exact⟨_,e2,trivial⟩
   ·by_cases h3:b=c
    ·rw[h3];exact⟨_,e3,trivial⟩
    ·obtain⟨o,e,mb⟩:=m.ol b z;exact⟨o,k b o e h1 h2 h3,mb⟩
 refine⟨n,⟨m.rr.len,λi d e=>?_,λi l e=>?_,m.rr.apart,ol,m.rr.loc,m.rr.par,λi _ ks l e=>?_⟩,m.no,m.me⟩
 ·obtain⟨v,e1,q⟩:=m.rr.val i d e;rw[m.is] at q;exact⟨v,e1,m.is.mpr (Is.mono kp m.ol (λ_ z _=>z) _ _ q)⟩
 ·have:=m.no i
  rw[jA e] at this;cases this
 ·have:=m.no i
  rw[e] at this;cases this
theorem Mch.mono(m:Mch K O H C a w c st)(ol:jN O H)(s:Same H H'):Mch K O H' C a w c st:=by
 obtain⟨dx,xs,ys,ve,vd,e1,e2,e3,e4,e5,e6,e7⟩:=m.ex;exact⟨⟨dx,xs,ys,ve,vd,s _ _ e1,s _ _ e2,s _ _ e3,e4.same s ol,e5.same s ol,e6.same s ol,e7.same s ol⟩,m.wc,m.oa,m.ow,m.oc⟩
theorem McR.same(m:McR K O H C z a w c st r σ)(s:Same H H'):McR K O H' C z a w c st r σ:=m.step (KeepM.same s) (m.ms.mono m.ol s)
theorem McR.aw(m:Mch K O H C a w c st):a≠w/\a≠c:=by
 obtain⟨dx,xs,ys,ve,vd,e1,e2,e3,_⟩:=m.ex;exact⟨zJB e1 e2 (by intro z;cases z),zJB e1 e3 (by intro z;cases z)⟩
theorem Mch.put(m:Mch K O H C a w c st)(ol:jN O H)(k:KeepM a w c H H2)(e1:H2 a=some (.ins C dx (mfs most steps w c ve vd)))(e2:H2 w=some (.lst xs))(e3:H2 c=some (.lst ys))(h1:Is K O H en ve)(h2:Is K O H de vd)(h3:IsL K O H wa xs)(h4:IsL K O H co ys):Mch K O H2 C a w c ⟨most,steps,wa,co,en,de⟩:=by
 have kp:=m.kp k;have f:∀(b:Addr),O b->H b≠none->O b:=λ_ z _=>z
 exact⟨⟨dx,xs,ys,ve,vd,e1,e2,e3,Is.mono kp ol f _ _ h1,Is.mono kp ol f _ _ h2,IsL.mono kp ol f _ _ h3,IsL.mono kp ol f _ _ h4⟩,m.wc,m.oa,m.ow,m.oc⟩
end
noncomputable abbrev MEf:=Mst->En->Option (D×Mst)
noncomputable def lM(K:Fg)(C:Addr)(z:Nat)(m:MEf):TE:=λσ H Q=>∃O a w c st r d st',McR K O H C z a w c st r σ/\m st r=some (d,st')/\∀v H',McR K O H' C z a w c st' r σ->Is K O H' d v->KeepM a w c H H'->Q v H'
noncomputable def spM(K:Fg)(C:Addr)(n:Nat)(m:Mst->List D->Option (D×Mst)):Sp:=λvs H Q _=>∃O a w c st ds us d st',vs=.ref a::us/\ds.length=n/\Mch K O H C a w c st/\jN O H/\IsL K O H ds us/\m st ds=some (d,st')/\∀v H',Mch K O H' C a w c st'->jN O H'->Is K O H' d v->KeepM a w c H H'->Q v H'
section
variable{X:Cx}{C:Addr}{z:Nat}{e o:Expr}{f:ME}{pos apos bpos cpos npos:Pos}{x:Str}
abbrev DMe(X:Cx)(C:Addr)(z:Nat)(e:Expr)(m:MEf):Prop:=PE X e (lM X.K C z m)
theorem xB(h:DE X e f):DMe X C z e (λst r=>(f r).map λd=>(d,st)):=by
 refine PE.conseq h λσ H Q hq=>?_
 obtain⟨O,a,w,c,st,r,d,st',m,e1,q⟩:=hq;obtain⟨d',e2,e3⟩:=mpS e1;cases e3;exact⟨O,r,d,m.rr,e2,λv H' s iv=>q v H' (m.same s) ((m.same s).is.mp iv) (KeepM.same s)⟩
theorem qM{O:Addr->Prop}{H:Hp}{a w c:Addr}{st:Mst}{r:En}{σ:St}(m:McR X.K O H C z a w c st r σ):σ[z]?=some (some (.ref a)):=m.me
def zIU(f:Str)(sel:Mst->D):Prop:=∀(K:Fg) (O:Addr->Prop) (H:Hp) (st:Mst) (w c:Addr) (ve vd:V),Is K O H st.ended ve->Is K O H st.defs vd->∃v,(mfs st.most st.steps w c ve vd).lookup f=some v/\Is K O H (sel st) v
theorem zHG:zIU "most" λst=>.int st.most:=λK O H st w c ve vd _ _=>⟨_,rfl,by rw[Is.int_iff]⟩
theorem mE:zIU "steps" λst=>.int st.steps:=λK O H st w c ve vd _ _=>⟨_,rfl,by rw[Is.int_iff]⟩
theorem cH:zIU "ended" λst=>st.ended:=λK O H st w c ve vd h _=>⟨_,rfl,h⟩
theorem b9{fn:Str}{sel:Mst->D}(hv:PE X (.Name x npos) (kN z))(cl:Cls X.K C)(na:NoAttr X.K C fn)(hf:zIU fn sel)(hb:bt (.Name x npos) fn X.env (eval (.Name x npos) X.env)=eval (.Name x npos) X.env:=by rfl):DMe X C z (.Attribute (.Name x npos) fn pos) (λst _=>some (sel st,st)):=by
 refine PE.conseq (bZ hv hb) λσ H Q hq=>?_
 obtain⟨O,a,w,c,st,r,d,st',m,e1,q⟩:=hq;cases e1;obtain⟨dx,xs,ys,ve,vd,g1,g2,g3,g4,g5,g6,g7⟩:=m.ms.ex;obtain⟨v,l,iv⟩:=hf X.K O H st w c ve vd g4 g5;exact⟨.ref a,qM m,a,C,dx,_,v,rfl,g1,cl,na,l,q v H m iv (KeepM.refl H)⟩
noncomputable def zFB(st:Mst)(d:D):Mst:={ st with wait:=st.wait++[d] }
noncomputable def zKH(st:Mst)(d:D):Mst:={ st with come:=st.come++[d] }
theorem JD(hv:PE X (.Name x npos) (kN z))(cl:Cls X.K C)(na:NoAttr X.K C "waiting")(h:DE X e f)(hs:ae [e] X.env=(false,eval e X.env)::ae [] X.env:=by rfl)(hb:bt (.Name x npos) "waiting" X.env (eval (.Name x npos) X.env)=eval (.Name x npos) X.env:=by rfl)(hbase:bt (.Attribute (.Name x npos) "waiting" bpos) "append" X.env (eval (.Attribute (.Name x npos) "waiting" bpos) X.env)=eval (.Attribute (.Name x npos) "waiting" bpos) X.env:=by rfl)(hfew:((dl cpos (ae [e] X.env)).all (λx=>!x.1) && (ja cpos (gh [] X.env)).all (λx=>x.1.isSome)
   && decide (([e]:List Expr).length+([]:List Keyword).length+(if ([]:List Keyword).isEmpty then 0 else 1)<30))=true:=by rfl)(hline:(apos.endLine == cpos.line)=true:=by rfl)(hplain:(dl cpos (ae [] X.env)).any (·.1)=false:=by rfl):DMe X C z (.Call (.Attribute (.Attribute (.Name x npos) "waiting" bpos) "append" apos) [e] [] cpos) (λst r=>(f r).bind λd=>if st.wait.length<af then some (.non,zFB st d) else none):=by
 refine PE.conseq (XX cz ke kb kQ (bZ hv hb) (yC h xF hs) hbase hfew hline hs hplain) λσ H Q hq=>?_
 obtain⟨O,a,w,c,st,r,d,st',m,e1,q⟩:=hq;obtain⟨d',e2,e3⟩:=bnS e1;split at e3
 ·rename_i hl;cases e3;obtain⟨dx,xs,ys,ve,vd,g1,g2,g3,g4,g5,g6,g7⟩:=m.ms.ex;refine⟨.ref a,qM m,a,C,dx,_,.ref w,rfl,g1,cl,na,rfl,.inl ⟨rfl,_,SqL.of g2⟩,O,r,d',m.rr,e2,λv H1 s1 iv=>?_⟩;have m1:=m.same s1;have aw:=McR.aw m.ms;refine⟨w,xs,v,rfl,rfl,s1 _ _ g2,by rw[<-g6.length];exact hl,?_⟩;have k1:KeepM a w c H1 (upd H1 w (.lst (xs++[v]))):=λb o e _ h2 _=>by rw[zN h2];exact e
  have n:=Mch.put (K:=X.K) (H2:=upd H1 w (.lst (xs++[v]))) (wa:=st.wait++[d']) m1.ms m1.ol k1 (by rw[zN aw.1];exact s1 _ _ g1) zQ (by rw[zN m.ms.wc.symm];exact s1 _ _ g3) (g4.same s1 m.ol) (g5.same s1 m.ol) ((g6.same s1 m.ol).append (.cons (m1.is.mp iv) .nil)) (g7.same s1 m.ol);exact q .non _ (m1.step k1 n) (by rw[Is.non_iff]) ((KeepM.same s1).trans k1)
 ·cases e3
theorem zGN(hv:PE X (.Name x npos) (kN z))(cl:Cls X.K C)(na:NoAttr X.K C "come")(h:DE X e f)(hs:ae [e] X.env=(false,eval e X.env)::ae [] X.env:=by rfl)(hb:bt (.Name x npos) "come" X.env (eval (.Name x npos) X.env)=eval (.Name x npos) X.env:=by rfl)(hbase:bt (.Attribute (.Name x npos) "come" bpos) "append" X.env (eval (.Attribute (.Name x npos) "come" bpos) X.env)=eval (.Attribute (.Name x npos) "come" bpos) X.env:=by rfl)(hfew:((dl cpos (ae [e] X.env)).all (λx=>!x.1) && (ja cpos (gh [] X.env)).all (λx=>x.1.isSome)
   && decide (([e]:List Expr).length+([]:List Keyword).length+(if ([]:List Keyword).isEmpty then 0 else 1)<30))=true:=by rfl)(hline:(apos.endLine == cpos.line)=true:=by rfl)(hplain:(dl cpos (ae [] X.env)).any (·.1)=false:=by rfl):DMe X C z (.Call (.Attribute (.Attribute (.Name x npos) "come" bpos) "append" apos) [e] [] cpos) (λst r=>(f r).bind λd=>if st.come.length<af then some (.non,zKH st d) else none):=by
 refine PE.conseq (XX cz ke kb kQ (bZ hv hb) (yC h xF hs) hbase hfew hline hs hplain) λσ H Q hq=>?_
 obtain⟨O,a,w,c,st,r,d,st',m,e1,q⟩:=hq;obtain⟨d',e2,e3⟩:=bnS e1;split at e3
 ·rename_i hl;cases e3;obtain⟨dx,xs,ys,ve,vd,g1,g2,g3,g4,g5,g6,g7⟩:=m.ms.ex;refine⟨.ref a,qM m,a,C,dx,_,.ref c,rfl,g1,cl,na,rfl,.inl ⟨rfl,_,SqL.of g3⟩,O,r,d',m.rr,e2,λv H1 s1 iv=>?_⟩;have m1:=m.same s1;have aw:=McR.aw m.ms;refine⟨c,ys,v,rfl,rfl,s1 _ _ g3,by rw[<-g7.length];exact hl,?_⟩;have k1:KeepM a w c H1 (upd H1 c (.lst (ys++[v]))):=λb o e _ _ h2=>by rw[zN h2];exact e
  have n:=Mch.put (K:=X.K) (H2:=upd H1 c (.lst (ys++[v]))) (co:=st.come++[d']) m1.ms m1.ol k1 (by rw[zN aw.2];exact s1 _ _ g1) (by rw[zN m.ms.wc];exact s1 _ _ g2) zQ (g4.same s1 m.ol) (g5.same s1 m.ol) (g6.same s1 m.ol) ((g7.same s1 m.ol).append (.cons (m1.is.mp iv) .nil));exact q .non _ (m1.step k1 n) (by rw[Is.non_iff]) ((KeepM.same s1).trans k1)
 ·cases e3
theorem rK(h:l.getLast?=some d):l[l.length-1]?=some d/\l=l.dropLast++[d]:=by
 rw[List.getLast?_eq_getElem?] at h;refine⟨h,?_⟩;have hn:l≠[]:=by rintro rfl;simp at h
 rw[bn (by have:=qx.mpr hn;omega)] at h
 have:=sn hn
 rw[List.getLast_eq_getElem,bg h] at this;exact this.symm
theorem IsL.last{K:Fg}(h:IsL K O H l xs)(e:l.getLast?=some d):∃y,xs[xs.length-1]?=some y/\Is K O H d y/\IsL K O H l.dropLast xs.dropLast:=by
 obtain⟨y,e1,iy⟩:=h.get (rK e).1;rw[h.length] at e1;refine⟨y,e1,iy,?_⟩;rw[js,js,h.length];exact h.take _
theorem zGL(hv:PE X (.Name x npos) (kN z))(cl:Cls X.K C)(na:NoAttr X.K C "waiting")(hb:bt (.Name x npos) "waiting" X.env (eval (.Name x npos) X.env)=eval (.Name x npos) X.env:=by rfl)(hbase:bt (.Attribute (.Name x npos) "waiting" bpos) "pop" X.env (eval (.Attribute (.Name x npos) "waiting" bpos) X.env)=eval (.Attribute (.Name x npos) "waiting" bpos) X.env:=by rfl)(hline:(apos.endLine == cpos.line)=true:=by rfl):DMe X C z (.Call (.Attribute (.Attribute (.Name x npos) "waiting" bpos) "pop" apos) [] [] cpos) (λst _=>st.wait.getLast?.map λd=>(d,{ st with wait:=st.wait.dropLast })):=by
 refine PE.conseq (XW cz jr jq WD (bZ hv hb) hbase hline) λσ H Q hq=>?_
 obtain⟨O,a,w,c,st,r,d,st',m,e1,q⟩:=hq;obtain⟨d',e2,e3⟩:=mpS e1;cases e3;obtain⟨dx,xs,ys,ve,vd,g1,g2,g3,g4,g5,g6,g7⟩:=m.ms.ex;have aw:=McR.aw m.ms;obtain⟨y,ey,iy,il⟩:=g6.last e2;refine⟨.ref a,qM m,a,C,dx,_,.ref w,rfl,g1,cl,na,rfl,.inl ⟨rfl,_,SqL.of g2⟩,w,xs,y,rfl,rfl,g2,ey,?_⟩;have k1:KeepM a w c H (upd H w (.lst xs.dropLast)):=λb o e _ h2 _=>by rw[zN h2];exact e
 have n:=Mch.put (K:=X.K) (H2:=upd H w (.lst xs.dropLast)) (wa:=st.wait.dropLast) m.ms m.ol k1 (by rw[zN aw.1];exact g1) zQ (by rw[zN m.ms.wc.symm];exact g3) g4 g5 il g7;exact q y _ (m.step k1 n) (Is.mono (m.ms.kp k1) m.ol (λ_ z _=>z) _ _ iy) k1
theorem zGM(hv:PE X (.Name x npos) (kN z))(cl:Cls X.K C)(na:NoAttr X.K C "come")(hb:bt (.Name x npos) "come" X.env (eval (.Name x npos) X.env)=eval (.Name x npos) X.env:=by rfl)(hbase:bt (.Attribute (.Name x npos) "come" bpos) "pop" X.env (eval (.Attribute (.Name x npos) "come" bpos) X.env)=eval (.Attribute (.Name x npos) "come" bpos) X.env:=by rfl)(hline:(apos.endLine == cpos.line)=true:=by rfl):DMe X C z (.Call (.Attribute (.Attribute (.Name x npos) "come" bpos) "pop" apos) [] [] cpos) (λst _=>st.come.getLast?.map λd=>(d,{ st with come:=st.come.dropLast })):=by
 refine PE.conseq (XW cz jr jq WD (bZ hv hb) hbase hline) λσ H Q hq=>?_
 obtain⟨O,a,w,c,st,r,d,st',m,e1,q⟩:=hq;obtain⟨d',e2,e3⟩:=mpS e1;cases e3;obtain⟨dx,xs,ys,ve,vd,g1,g2,g3,g4,g5,g6,g7⟩:=m.ms.ex;have aw:=McR.aw m.ms;obtain⟨y,ey,iy,il⟩:=g7.last e2;refine⟨.ref a,qM m,a,C,dx,_,.ref c,rfl,g1,cl,na,rfl,.inl ⟨rfl,_,SqL.of g3⟩,c,ys,y,rfl,rfl,g3,ey,?_⟩;have k1:KeepM a w c H (upd H c (.lst ys.dropLast)):=λb o e _ _ h2=>by rw[zN h2];exact e
 have n:=Mch.put (K:=X.K) (H2:=upd H c (.lst ys.dropLast)) (co:=st.come.dropLast) m.ms m.ol k1 (by rw[zN aw.2];exact g1) (by rw[zN m.ms.wc];exact g2) zQ g4 g5 g6 il;exact q y _ (m.step k1 n) (Is.mono (m.ms.kp k1) m.ol (λ_ z _=>z) _ _ iy) k1
end
open PySem PySem.Spec PyProof.Rows L2 PySem.W
noncomputable abbrev MEa:=Mst->En->Option (List D×Mst)
noncomputable def lMa(K:Fg)(C:Addr)(z:Nat)(m:MEa):TA:=λσ H Q=>∃O a w c st r l st',McR K O H C z a w c st r σ/\m st r=some (l,st')/\∀vs H',McR K O H' C z a w c st' r σ->IsL K O H' l vs->KeepM a w c H H'->Q vs H'
abbrev DMa(X:Cx)(C:Addr)(z:Nat)(es:List Expr)(m:MEa):Prop:=PA X es (lMa X.K C z m)
noncomputable def xP:MEa:=λst _=>some ([],st)
noncomputable def zX(m:MEf)(ms:MEa):MEa:=λst r=>(m st r).bind λp=>(ms p.2 r).map λq=>(p.1::q.1,q.2)
section
variable{X:Cx}{C:Addr}{z:Nat}{e:Expr}{es:List Expr}{m:MEf}{ms:MEa}{x:Str}{pos apos npos p:Pos}
theorem wX:DMa X C z [] xP:=by
 refine PA.conseq xF λσ H Q hq=>?_
 obtain⟨O,a,w,c,st,r,l,st',mr,e1,q⟩:=hq;cases e1;exact q [] H mr .nil (KeepM.refl H)
theorem yN(h:DMe X C z e m)(hs:DMa X C z es ms)(hst:ae (e::es) X.env=(false,eval e X.env)::ae es X.env:=by rfl):DMa X C z (e::es) (zX m ms):=by
 refine PA.conseq (yC h hs hst) λσ H Q hq=>?_
 obtain⟨O,a,w,c,st,r,l,st',mr,e1,q⟩:=hq;obtain⟨⟨d,st1⟩,e2,e3⟩:=bnS e1;obtain⟨⟨l1,st2⟩,e4,e5⟩:=mpS e3;cases e5;refine⟨O,a,w,c,st,r,d,st1,mr,e2,λv H1 m1 iv k1=>⟨O,a,w,c,st1,r,l1,st2,m1,e4,λvs H2 m2 il k2=>?_⟩⟩;exact q (v::vs) H2 m2 (.cons (Is.mono (m1.ms.kp k2) m1.ol (λ_ z _=>z) _ _ iv) il) (k1.trans k2)
theorem zGQ{fs:ML}(h:DA X es fs):DMa X C z es (λst r=>(fs r).map λl=>(l,st)):=by
 refine PA.conseq h λσ H Q hq=>?_
 obtain⟨O,a,w,c,st,r,l,st',mr,e1,q⟩:=hq;obtain⟨l',e2,e3⟩:=mpS e1;cases e3;refine⟨O,r,l,mr.rr,e2,λvs H' s il=>q vs H' (mr.same s) ?_ (KeepM.same s)⟩;rw[show Ow O r σ=O from funext λb=>propext mr.no.ow] at il;exact il
noncomputable def x0(n:Nat)(mm:Mst->List D->Option (D×Mst))(ms:MEa):MEf:=λst r=>(ms st r).bind λp=>if p.1.length=n then mm p.2 p.1 else none
variable{k n:Nat}{f:Addr}{fd:FuncData}{ps:List Str}{mm:Mst->List D->Option (D×Mst)}{mn:Str}
theorem tQ{O:Addr->Prop}{H:Hp}{a w c:Addr}{st st':Mst}{r:En}{σ:St}{ds:List D}{us:List V}{d:D}{Q:VK}{E:XK}(mr:McR X.K O H C z a w c st r σ)(hl:ds.length=n)(il:IsL X.K O H ds us)(e:mm st ds=some (d,st'))(q:∀v H',McR X.K O H' C z a w c st' r σ->Is X.K O H' d v->KeepM a w c H H'->Q v H'):spM X.K C n mm (.ref a::us++[]) H Q E:=by
 rw[gn];exact⟨O,a,w,c,st,ds,us,d,st',rfl,hl,mr.ms,mr.ol,il,e,λv H' m' ol' iv k=>q v H' (mr.step k m') iv k⟩
theorem wC{pl:Sem Bool}(hv:PE X (.Name x npos) (kN z))(cl:Cls X.K C)(hm:Meth X.K C mn f)(hn:∀(i j:Int) (w c:Addr) (ve vd:V),(mfs i j w c ve vd).lookup mn=none)(F:FnOk X.prog X.w X.K X.mg X.base CX0 k f fd ps (spM X.K C n mm))(hr:Room k X.A)(hb:Binds X.K fd ps [])(ha:DMa X C z (e::es) ms)(hst:ae (e::es) X.env=(false,eval e X.env)::ae es X.env:=by rfl)(hpl:(dl pos (ae es X.env)).any (·.1)=false:=by rfl)(ht:eval (.Call (.Attribute (.Name x npos) mn apos) (e::es) [] pos) X.env=(do
   let ov <- eval (.Name x npos) X.env
   standAt apos.atName
   let (f,first) <- holding [ov] (getMethod ov mn pl)
   callWith pos f first (dl pos (ae (e::es) X.env)) (ja pos (gh [] X.env))):=by rfl):DMe X C z (.Call (.Attribute (.Name x npos) mn apos) (e::es) [] pos) (x0 n mm ms):=by
 refine PE.conseq (zFV (E:=λ_ _ _=>False) (dvs:=[]) hv cl hm F hr hb .nil dC ha hst hpl ht) λσ H Q hq=>?_
 obtain⟨O,a,w,c,st,r,d,st',mr,e1,q⟩:=hq;obtain⟨⟨ds,st1⟩,e2,e3⟩:=bnS e1;split at e3
 ·rename_i hl;obtain⟨dx,xs,ys,ve,vd,g1,_⟩:=mr.ms.ex;refine⟨.ref a,qM mr,a,dx,_,rfl,g1,hn _ _ _ _ _ _,O,a,w,c,st,r,ds,st1,mr,e2,λvs H1 m1 il k1=>?_⟩;exact tQ m1 hl il e3 λv H' m' iv k'=>q v H' m' iv (k1.trans k')
 ·cases e3
theorem hV{pl:Sem Bool}(hv:PE X (.Name x npos) (kN z))(cl:Cls X.K C)(hm:Meth X.K C mn f)(hn:∀(i j:Int) (w c:Addr) (ve vd:V),(mfs i j w c ve vd).lookup mn=none)(F:FnOk X.prog X.w X.K X.mg X.base CX0 k f fd ps (spM X.K C 0 mm))(hr:Room k X.A)(hb:Binds X.K fd ps [])(ht:eval (.Call (.Attribute (.Name x npos) mn apos) [] [] pos) X.env=(do
   let ov <- eval (.Name x npos) X.env
   standAt apos.atName
   let (f,first) <- holding [ov] (getMethod ov mn pl)
   callWith pos f first (dl pos (ae [] X.env)) (ja pos (gh [] X.env))):=by rfl):DMe X C z (.Call (.Attribute (.Name x npos) mn apos) [] [] pos) (λst _=>mm st []):=by
 refine PE.conseq (zBG (E:=λ_ _ _=>False) (dvs:=[]) hv cl hm F hr hb .nil dC ht) λσ H Q hq=>?_
 obtain⟨O,a,w,c,st,r,d,st',mr,e1,q⟩:=hq;obtain⟨dx,xs,ys,ve,vd,g1,_⟩:=mr.ms.ex;refine⟨.ref a,qM mr,a,dx,_,rfl,g1,hn _ _ _ _ _ _,?_⟩;exact tQ (us:=[]) (E:=λ_ _ _=>False) mr rfl .nil e1 q
end
noncomputable abbrev MEt:=Mst->En->Option (Bool×Mst)
noncomputable def lMt(K:Fg)(C:Addr)(z:Nat)(m:MEt):TT:=λσ H Q=>∃O a w c st r b st',McR K O H C z a w c st r σ/\m st r=some (b,st')/\∀H',McR K O H' C z a w c st' r σ->KeepM a w c H H'->Q b H'
abbrev DMt(X:Cx)(C:Addr)(z:Nat)(e:Expr)(m:MEt):Prop:=PT X e (lMt X.K C z m)
section
variable{X:Cx}{C:Addr}{z:Nat}{e:Expr}{m:MEf}
theorem uA{b:MB}(h:DT X e b):DMt X C z e (λst r=>(b r).map λz=>(z,st)):=by
 refine PT.conseq h λσ H Q hq=>?_
 obtain⟨O,a,w,c,st,r,z,st',mr,e1,q⟩:=hq;obtain⟨z',e2,e3⟩:=mpS e1;cases e3;exact⟨O,r,z,mr.rr,e2,λH' s=>q H' (mr.same s) (KeepM.same s)⟩
end
inductive MFl where
 |nx (st:Mst) (r:En)|rt (d:D) (st:Mst) (r:En)
noncomputable abbrev MEs:=Mst->En->Option MFl
def MFl.to(K:Fg)(O:Addr->Prop)(C:Addr)(z:Nat)(a w c:Addr)(H:Hp)(Dn:Ends):MFl->Prop
 |.nx st' r'=>∀σ' H',McR K O H' C z a w c st' r' σ'->KeepM a w c H H'->Dn.nx σ' H'
 |.rt d st' r'=>∀v σ' H',McR K O H' C z a w c st' r' σ'->Is K O H' d v->KeepM a w c H H'->Dn.rt v H'
noncomputable def lMs(K:Fg)(C:Addr)(z:Nat)(g:MEs):TS:=λDn σ H=>∃O a w c st r fl,McR K O H C z a w c st r σ/\g st r=some fl/\fl.to K O C z a w c H Dn
abbrev DMs(X:Cx)(C:Addr)(z:Nat)(st:Stmt)(g:MEs):Prop:=PS X st (lMs X.K C z g)
abbrev zDY(X:Cx)(C:Addr)(z:Nat)(sts:List Stmt)(g:MEs):Prop:=PSs X sts (lMs X.K C z g)
noncomputable def tD:MEs:=λst r=>some (.nx st r)
noncomputable def YW(g h:MEs):MEs:=λst r=>(g st r).bind λfl=>match fl with
 |.nx st' r'=>h st' r'
 |.rt d st' r'=>some (.rt d st' r')
noncomputable def uDo(m:MEf):MEs:=λst r=>(m st r).map λp=>.nx p.2 r
noncomputable def zDZ(m:MEf):MEs:=λst r=>(m st r).map λp=>.rt p.1 p.2 r
noncomputable def zNF(z i:Nat)(m:MEf):MEs:=λst r=>(m st r).bind λp=>if i=z then none else (yV i p.1 r).map λr'=>.nx p.2 r'
noncomputable def uIf(t:MEt)(g h:MEs):MEs:=λst r=>(t st r).bind λp=>if p.1=true then g p.2 r else h p.2 r
theorem MFl.to_keep{K:Fg}{O:Addr->Prop}{z:Nat}{C a w c:Addr}{H H1:Hp}{Dn:Ends}{fl:MFl}(k:KeepM a w c H H1)(h:fl.to K O C z a w c H Dn):fl.to K O C z a w c H1 Dn:=by
 cases fl with
 |nx st r=>exact λσ' H' m k'=>h σ' H' m (k.trans k')
 |rt d st r=>exact λv σ' H' m iv k'=>h v σ' H' m iv (k.trans k')
section
variable{X:Cx}{C:Addr}{z:Nat}{e:Expr}{m:MEf}{st1:Stmt}{sts:List Stmt}{g h:MEs}{pos pos':Pos}{x:Str}{t:MEt}
theorem WG:zDY X C z [] tD:=by
 refine PSs.conseq Q4 λDn σ H hq=>?_
 obtain⟨O,a,w,c,st,r,fl,mr,e1,q⟩:=hq;cases e1;exact q σ H mr (KeepM.refl H)
theorem k9(h1:DMs X C z st1 g)(h2:zDY X C z sts h):zDY X C z (st1::sts) (YW g h):=by
 refine PSs.conseq (jE h1 h2) λDn σ H hq=>?_
 obtain⟨O,a,w,c,st,r,fl,mr,e1,q⟩:=hq;obtain⟨fl1,e2,e3⟩:=bnS e1;refine⟨O,a,w,c,st,r,fl1,mr,e2,?_⟩;cases fl1 with
 |nx st' r'=>exact λσ' H' m' k'=>⟨O,a,w,c,st',r',fl,m',e3,MFl.to_keep k' q⟩
 |rt d st' r'=>cases e3;exact q
theorem y3(h1:DMs X C z st1 g):zDY X C z [st1] g:=m9 h1
theorem kD(he:DMe X C z e m)(hs:gy e none pos.line X.env=pure false:=by rfl):DMs X C z (.Expr e pos) (uDo m):=by
 refine PS.conseq (ZB he hs) λDn σ H hq=>?_
 obtain⟨O,a,w,c,st,r,fl,mr,e1,q⟩:=hq;obtain⟨⟨d,st'⟩,e2,e3⟩:=mpS e1;cases e3;exact⟨O,a,w,c,st,r,d,st',mr,e2,λv H' m' _ k'=>q σ H' m' k'⟩
theorem rC(he:DMe X C z e m):DMs X C z (.Return (some e) pos) (zDZ m):=by
 refine PS.conseq (XR he) λDn σ H hq=>?_
 obtain⟨O,a,w,c,st,r,fl,mr,e1,q⟩:=hq;obtain⟨⟨d,st'⟩,e2,e3⟩:=mpS e1;cases e3;exact⟨O,a,w,c,st,r,d,st',mr,e2,λv H' m' iv k'=>q v σ H' m' iv k'⟩
theorem gT{c:Expr}{as bs:List Stmt}(hc:DMt X C z c t)(ha:zDY X C z as g)(hb:zDY X C z bs h):DMs X C z (.If c as bs pos) (uIf t g h):=by
 refine PS.conseq (zMM hc ha hb) λDn σ H hq=>?_
 obtain⟨O,a,w,c,st,r,fl,mr,e1,q⟩:=hq;obtain⟨⟨b,st'⟩,e2,e3⟩:=bnS e1;refine⟨O,a,w,c,st,r,b,st',mr,e2,λH' m' k'=>?_⟩;cases b with
 |true=>exact⟨O,a,w,c,st',r,fl,m',e3,MFl.to_keep k' q⟩
 |false=>exact⟨O,a,w,c,st',r,fl,m',e3,MFl.to_keep k' q⟩
end
open PySem PySem.Spec PyProof.Rows L2 PySem.W
theorem NoOwn.set(h:NoOwn r):NoOwn (r.set i (.v d)):=λj=>by
 by_cases hj:i=j
 ·subst hj;by_cases hi:i<r.length
  ·rw[zI hi];rfl
  ·rw[lh (by rw[sk];omega)];rfl
 ·rw[zD hj];exact h j
theorem zK2(i:Nat)(he:DMe X C z e m)(hN:X.N.Nodup)(hi:X.N[i]?=some x:=by rfl)(hx:Loc X.env.scope x:=by first|exact Or.inl rfl|exact Or.inr rfl)(hs:gy e (some (.Name x pos')) pos.line X.env=pure false:=by rfl)(hf:X.fn x=true\/X.env.kindOf x=some .local:=by first|exact Or.inl rfl|exact Or.inr rfl):DMs X C z (.Assign [.Name x pos'] e pos) (zNF z i m):=by
 refine PS.conseq (nA hN hi hx he hs hf) λDn σ H hq=>?_
 obtain⟨O,a,w,c,st,r,fl,mr,e1,q⟩:=hq;obtain⟨⟨d,st'⟩,e2,e3⟩:=bnS e1;split at e3
 ·cases e3
 ·rename_i h0;obtain⟨r',e4,rfl⟩:=mpS e3;obtain⟨hl,np,rfl⟩:=qX e4;refine⟨O,a,w,c,st,r,d,st',mr,e2,λv H1 m1 iv k1=>?_⟩;obtain⟨R1,_⟩:=m1.rr.setv hl np (m1.is.mpr iv);exact q _ H1 ⟨m1.ms,R1,m1.no.set,by rw[ic h0];exact m1.me⟩ k1
noncomputable def zNW(f:ME):MEs:=λst r=>(f r).map λd=>.nx { st with ended:=d } r
theorem zK4(hv:PE X (.Name x npos) (kN z))(cl:Cls X.K C)(na:NoAttr X.K C "ended")(h:DE X e f)(hs:gy e (some (.Attribute (.Name x npos) "ended" apos)) pos.line X.env=pure false:=by rfl):DMs X C z (.Assign [.Attribute (.Name x npos) "ended" apos] e pos) (zNW f):=by
 refine PS.conseq (gF hv h hs) λDn σ H hq=>?_
 obtain⟨O,a,w,c,st,r,fl,mr,e1,q⟩:=hq;obtain⟨d,e2,rfl⟩:=mpS e1;refine⟨O,r,d,mr.rr,e2,λv H1 s1 iv=>?_⟩;have m1:=mr.same s1;obtain⟨dx,xs,ys,ve,vd,g1,g2,g3,g4,g5,g6,g7⟩:=m1.ms.ex;have aw:=McR.aw m1.ms;refine⟨.ref a,qM m1,a,C,dx,_,rfl,g1,cl,na,by show 6<1000;decide,?_⟩;have k1:KeepM a w c H1 (upd H1 a (.ins C dx (mfs st.most st.steps w c v vd))):=λb o e h2 _ _=>by rw[zN h2];exact e
 have n:=Mch.put (K:=X.K) (H2:=upd H1 a (.ins C dx (mfs st.most st.steps w c v vd))) (en:=d) m1.ms m1.ol k1 zQ (by rw[zN aw.1.symm];exact g2) (by rw[zN aw.2.symm];exact g3) (m1.is.mp iv) g5 g6 g7;exact q σ _ (m1.step k1 n) ((KeepM.same s1).trans k1)
theorem zGG(hv:PE X (.Name x npos) (kN z))(cl:Cls X.K C)(na:NoAttr X.K C "steps"):DMs X C z (.AugAssign (.Attribute (.Name x npos) "steps" tpos) .Add (.Constant (.int 1) j pos') pos) (λst r=>some (.nx { st with steps:=st.steps+1 } r)):=by
 refine PS.conseq (XS hv pX zLO) λDn σ H hq=>?_
 obtain⟨O,a,w,c,st,r,fl,mr,e1,q⟩:=hq;cases e1;obtain⟨dx,xs,ys,ve,vd,g1,g2,g3,g4,g5,g6,g7⟩:=mr.ms.ex;have aw:=McR.aw mr.ms;refine⟨.ref a,qM mr,a,C,dx,_,.int st.steps,rfl,g1,cl,na,rfl,?_⟩;refine⟨st.steps,1,rfl,rfl,dx,_,g1,by show 6<1000;decide,?_⟩;have k1:KeepM a w c H (upd H a (.ins C dx (mfs st.most (st.steps+1) w c ve vd))):=λb o e h2 _ _=>by rw[zN h2];exact e
 have n:=Mch.put (K:=X.K) (H2:=upd H a (.ins C dx (mfs st.most (st.steps+1) w c ve vd))) (steps:=st.steps+1) mr.ms mr.ol k1 zQ (by rw[zN aw.1.symm];exact g2) (by rw[zN aw.2.symm];exact g3) g4 g5 g6 g7;exact q σ _ (mr.step k1 n) k1
theorem zOO{i j:Mst->Int}(ha:DMe X C z e λst _=>some (.int (i st),st))(hb:DMe X C z e' λst _=>some (.int (j st),st))(hm:dh .GtE e'=false):DMt X C z (.Compare e [.GtE] [e'] pos) (λst _=>some (decide (j st<=i st),st)):=by
 refine PT.conseq (dB zOJ ha hb hm) λσ H Q hq=>?_
 obtain⟨O,a,w,c,st,r,b,st',mr,e1,q⟩:=hq;cases e1;refine⟨O,a,w,c,st,r,_,st,mr,rfl,λv H1 m1 iv k1=>⟨O,a,w,c,st,r,_,st,m1,rfl,λu H2 m2 iu k2=>?_⟩⟩;rw[Is.int_iff] at iv iu;exact⟨i st,j st,iv,iu,_,rfl,q H2 m2 (k1.trans k2)⟩
theorem zMW(ha:DMe X C z e m)(he:∀whole,isTrue e X.env whole=(do let v <- whole;standAt e.pos;holding [v] (truthy v)):=by intro _;rfl):DMt X C z e (λst r=>(m st r).bind λp=>match p.1 with | .bl b=>some (b,p.2)|_=>none):=by
 refine PT.conseq (zKI ha he) λσ H Q hq=>?_
 obtain⟨O,a,w,c,st,r,b,st',mr,e1,q⟩:=hq;obtain⟨⟨d,st1⟩,e2,e3⟩:=bnS e1;refine⟨O,a,w,c,st,r,d,st1,mr,e2,λv H1 m1 iv k1=>?_⟩;cases d<;>first|(cases e3;done)|skip
 cases e3;rw[Is.bl_iff] at iv;exact⟨b,iv,q H1 m1 k1⟩
noncomputable def mkU(n N:Nat)(g:MEs):Mst->List D->Option (D×Mst):=λst ds=>(g st (.un::ds.map .v++List.replicate (N-(n+1)) .un)).bind λfl=>match fl with
 |.nx st' _=>some (.non,st')
 |.rt d st' _=>some (d,st')
section
variable{K:Fg}
theorem R.un0(h:R K O H r σ)(no:NoOwn r):R K O H (.un::r) (y::σ):=by
 have ow:Ow O r σ=O:=funext λb=>propext no.ow
 have no':NoOwn (.un::r):=λi=>by
  cases i with
  |zero=>rfl
  |succ i=>exact no i
 have ow':Ow O (.un::r) (y::σ)=O:=funext λb=>propext no'.ow
 refine⟨by simp[h.len],λi d e=>?_,λi l e=>?_,λi j b l m e1 e2 _ _=>?_,h.o0,λi l b e _=>?_,λi l b e _=>?_,λi _ ks l e=>?_⟩
 ·cases i with
  |zero=>cases e
  |succ i=>
   obtain⟨v,e1,q⟩:=h.val i d e;rw[ow] at q;rw[ow'];exact⟨v,e1,q⟩
 ·have:=no' i;rw[jA e] at this;cases this
 ·have:=no' i;rw[e1] at this;cases this
 ·exfalso
  have:=no' i
  rcases e with e|e|⟨ks,e⟩<;>rw[e] at this<;>cases this
 ·have:=no' i;rw[(u5 e).choose_spec] at this;cases this
 ·have:=no' i;rw[e] at this;cases this
theorem dF(ds:List D)(k:Nat):NoOwn (ds.map .v++List.replicate k .un):=λi=>by
 by_cases hi:i<ds.length
 ·rw[ax (by simpa using hi),ay,bn hi];rfl
 ·rw[bf (by simpa using hi),cf]
  split<;>rfl
theorem YY{st:Stmt}(F:Fun K x qual st f fd)(S:FnScope N ps (zO st))(n:Nat)(nN:Nat)(hn:ps.length=n+1:=by rfl)(hN:N.length=nN:=by rfl)(hb:∀(cdv:Value) (A:Around) (outer:List Env) (s:Shared) (H:Hp) (E:XK),Room k (A.deeper (envOfC qual (zO st) s.heap.objs.size f cdv)) ->
   zDY (zIZ CX0 P w K mg base N qual (zO st) f cdv A outer s H E).nox C 0 (qR st) g):FnOk P w K mg base CX0 (k+1) f fd ps (spM K C n (mkU n nN g)):=by
 subst hN;refine F.ok S (λvs H Q E h=>?_) (λcdv A outer s H vs Q E hr h=>?_)
 ·obtain⟨O,a,w',c,st',ds,us,d,st2,rfl,hl,_,_,il,_⟩:=h
  have:=il.length
  rw[au,hn];omega
 ·obtain⟨O,a,w',c,st',ds,us,d,st2,rfl,hl,ms,ol,il,e,q⟩:=h;refine⟨_,hb cdv A outer s H E hr,?_⟩;obtain⟨fl,e1,e2⟩:=bnS e;have hlu:=il.length;have hst:L2.start N (.ref a::us)=some (.ref a)::(us.map some++List.replicate (N.length-(n+1)) none):=by
   unfold L2.start;rw[aq,au,<-hlu,hl];rfl
  rw[hst];have R0:R K O H (ds.map .v++List.replicate (N.length-(n+1)) .un) (us.map some++List.replicate (N.length-(n+1)) none):=R.start (R.args ol il);have mr:McR K O H C 0 a w' c st' (.un::(ds.map .v++List.replicate (N.length-(n+1)) .un)) (some (.ref a)::(us.map some++List.replicate (N.length-(n+1)) none)):=
   ⟨ms,R0.un0 (dF ds _),(λi=>by cases i with|zero=>rfl|succ i=>exact dF ds _ i),rfl⟩
  refine⟨O,a,w',c,st',_,fl,mr,e1,?_⟩;cases fl with
  |nx st3 r'=>cases e2;exact λσ' H' m' k'=>q .non H' m'.ms m'.ol (by rw[Is.non_iff]) k'
  |rt d' st3 r'=>cases e2;exact λv σ' H' m' iv k'=>q v H' m'.ms m'.ol iv k'
end
open PySem PySem.Spec PyProof.Rows L2 PySem.W
def zRQ(e:DictEntry)(q:List Nat×Addr):Prop:=∃t,e.key=.str ⟨q.1.toArray⟩ t/\e.val=.ref q.2
def YV:List DictEntry->List (List Nat×Addr)->Prop
 |[],l=>l=[]
 |e::es,l=>∃q r,l=q::r/\zRQ e q/\YV es r
def QI(mg:Str->Option Value)(K:Fg)(Ps:Params)(x:Str)(tbl:List (List Nat×Addr)):Prop:=∃(p:Addr) (es:Array DictEntry) (n:Nat),mg x=some (.ref p)/\(p == ik)=false/\K.lookup p=some ⟨.type "dict",none,.dict es n,#[]⟩/\PySem.W.KeysLit Ps es.toList/\YV es.toList tbl
noncomputable def kT(tbl:List (List Nat×Addr))(s:List Nat):Option Addr:=(tbl.find? λq=>decide (q.1=s)).map (·.2)
theorem uX(s:List Nat):∀{es:List DictEntry} {tbl:List (List Nat×Addr)},YV es tbl->(es.find? λd=>Value.isStrOf ⟨s.toArray⟩ d.key).map (·.val)=(kT tbl s).map Value.ref
 |[],tbl,h=>by unfold YV at h;subst h;rfl
 |e::es,tbl,h=>by
  unfold YV at h;obtain⟨q,r,rfl,⟨t,h1,h2⟩,h3⟩:=h;have ih:=uX s h3;have k:Value.isStrOf (⟨s.toArray⟩:Str) e.key=decide (q.1=s):=by
   rw[h1];show((⟨q.1.toArray⟩:Str) == ⟨s.toArray⟩)=_;by_cases c:q.1=s
   ·rw[decide_eq_true c,c];simp
   ·rw[decide_eq_false c];refine beq_eq_false_iff_ne.mpr λz=>c ?_
    have z2:=congrArg (λx:Str=>x.cps.toList) z;simpa using z2
  unfold kT at ih ⊢;rw[gm,gm,k];cases hc:decide (q.1=s)
  ·exact ih
  ·rw[bm,h2];rfl
noncomputable def zRB(p:Addr)(tbl:List (List Nat×Addr)):R2:=λx y H Q=>∃(s:List Nat) (g:Addr),x=.ref p/\y=.str ⟨s.toArray⟩/\kT tbl s=some g/\Q (.ref g) H
theorem zLI(hl:X.K.lookup p=some ⟨.type "dict",none,.dict es n,#[]⟩)(hk:PySem.W.KeysLit X.w.params es.toList)(he:YV es.toList tbl):IxR X (zRB p tbl):=by
 intro value slice pZ s σ H x y v u Q I rx ry h hs;obtain⟨z,g,rfl,rfl,e,q⟩:=h;cases rx;obtain⟨t,rfl⟩:=ry;have hmap:=zCH (tbl:=[]) (Ps:=X.w.params) (x:="") I hl hk;have fnd:=uX z he;rw[e,<-dO] at fnd;exact ox (x:=.ref g) hmap.typeIs slot_dict_getitem.lookup (wpAny_getItem_of (Q:=λr s'=>r=Value.ref g/\EP X pZ σ Q r s') (strKind_is _ _ _ t) hmap fnd ⟨rfl,.ref g,H,I.tok _,rfl,q⟩) hs
noncomputable def atR(tbl:List (List Nat×Addr)):D->Option D
 |.str s=>(kT tbl s).map .ref
 |_=>none
theorem zII(h:QI X.mg X.K X.w.params wn tbl)(hg:Gl X wn)(hb:DE X b f)(hs:bJ b:=by intro _ _;rfl)(hd:(wn == ("__debug__" : Str))=false:=by decide):DE X (.Subscript (.Name wn p') b pos) (mUn (atR tbl) f):=by
 obtain⟨p,es,n,h1,h2,h3,h4,h5⟩:=h;refine PE.conseq (zFX (zLI h3 h4 h5) (J6 (p:=p) h1 hg hd) hb hs) λσ H Q hq=>?_
 obtain⟨O0,r,d,hR,e,q⟩:=hq;obtain⟨k,e1,e2⟩:=bnS e;cases k<;>first|(simp only[atR,reduceCtorEq] at e2;done)|skip
 simp only[atR] at e2;obtain⟨v,e3,rfl⟩:=mpS e2;refine⟨O0,r,_,hR,rfl,λv1 H1 s1 i1=>⟨O0,r,_,hR.same s1,e1,λv2 H2 s2 i2=>?_⟩⟩;rw[Is.ref_iff] at i1;rw[Is.str_iff] at i2;exact⟨_,v,i1,i2,e3,q _ H2 (s1.trans s2) (by rw[Is.ref_iff])⟩
noncomputable def zI0(n:Nat)(ways:List Nat->Option (Mst->List D->Option (D×Mst)))(f:ME)(ms:MEa):MEf:=λst r=>(f r).bind λd=>match d with
 |.str key=>(ways key).bind λmm=>(ms st r).bind λp=>if p.1.length=n then mm p.2 p.1 else none
 |_=>none
theorem zGI{ways:List Nat->Option (Mst->List D->Option (D×Mst))}(hG:QI X.mg X.K X.w.params wn tbl)(hg:Gl X wn)(hk:DE X b f)(hv:PE X (.Name x npos) (kN z))(ha:DMa X C z es ms)(hw:∀key mm,ways key=some mm->∃(g:Addr) (fd:FuncData) (ps:List Str),kT tbl key=some g/\FnOk X.prog X.w X.K X.mg X.base CX0 k g fd ps (spM X.K C n mm)/\Binds X.K fd ps []/\PySem.W.keepIn X.K (.ref g)=true)(hr:Room k X.A)(hs:bJ b:=by intro _ _;rfl)(hd:(wn == ("__debug__" : Str))=false:=by decide)(he:ae (.Name x npos::es) X.env=(false,eval (.Name x npos) X.env)::ae es X.env:=by rfl)(hpl:(dl pos (ae es X.env)).any (·.1)=false:=by rfl):DMe X C z (.Call (.Subscript (.Name wn p') b bp) (.Name x npos::es) [] pos) (zI0 n ways f ms):=by
 intro pZ s σ H Q I hq;obtain⟨O,a,w,c,st,r,d,st',mr,e1,q⟩:=hq;obtain⟨kd,e2,e3⟩:=bnS e1;cases kd<;>first|(cases e3;done)|skip
 rename_i key;obtain⟨mm,e4,e5⟩:=bnS e3;obtain⟨⟨ds,st1⟩,e6,e7⟩:=bnS e5;split at e7
 ·rename_i hl;obtain⟨g,fd,ps,g1,F,hb,hkp⟩:=hw key mm e4;show wpAny _ _ (do callWith pos (<- eval (.Subscript (.Name wn p') b bp) X.env) [] (dl pos (ae (.Name x npos::es) X.env)) (ja pos (gh [] X.env))) _ _ s;refine ac (thn ((zII hG hg hk hs hd) pZ s σ H (λv H1=>v=.ref g/\Same H H1) I ⟨O,r,.ref g,mr.rr,by unfold mUn;rw[e2,aa];show(kT tbl key).map D.ref=_;rw[g1];rfl,λv H1 s1 iv=>⟨by rw[Is.ref_iff] at iv;exact iv,s1⟩⟩) λu s1 ⟨v,H1,I1,rv,ev,sm⟩=>?_);subst ev;obtain rfl:u=Value.ref g:=rv;have m1:=mr.same sm;refine kh (first:=[]) (h₀:=X.base) I.ok.mod.kin hkp (thn ((yC hv ha he) pos pZ s1 σ H1 (λvs H2=>spM X.K C n mm (vs++[]) H2 Q λ_ _ _=>False) I1 ⟨.ref a,qM m1,O,a,w,c,st,r,ds,st1,m1,e6,λvs H2 m2 il k2=>?_⟩) λus s2 ⟨vs,H2,I2,rr,q2⟩=>⟨I2.kIn,?_⟩) he hpl
  ·exact tQ m2 hl il e7 λv H' m' iv k'=>q v H' m' iv (((KeepM.same sm).trans k2).trans k')
  ·exact pV F hr hb .nil dC I2 rr q2
 ·cases e7
open PySem PySem.Spec PyProof.Rows L2 PySem.W
def Y1(K:Fg)(p:Addr)(ns:List Int):Prop:=∃(o:Obj) (its:Array Value) (n:Nat),K.lookup p=some o/\o.cls=.type "tuple" /\ o.data=.seq its n/\its.size<=af/\Vals (ns.map V.int) its.toList
def zDX(K:Fg):List (List Nat×Addr)->List (List Nat×List Int)->Prop
 |[],l=>l=[]
 |q::r,l=>∃ns l',l=(q.1,ns)::l'/\Y1 K q.2 ns/\zDX K r l'
noncomputable def bE(tbl:List (List Nat×List Int))(s:List Nat):Option (List Int):=(tbl.find? λq=>decide (q.1=s)).map (·.2)
theorem dH{K:Fg}(s:List Nat):∀{tr:List (List Nat×Addr)} {tbl:List (List Nat×List Int)},zDX K tr tbl->match kT tr s,bE tbl s with
  |some p,some ns=>Y1 K p ns
  |none,none=>True
  |_,_=>False
 |[],tbl,h=>by unfold zDX at h;subst h;trivial
 |q::r,tbl,h=>by
  unfold zDX at h;obtain⟨ns,l',rfl,h1,h2⟩:=h;have ih:=dH s h2;unfold kT bE at ih ⊢;rw[gm,gm];cases hc:decide (q.1=s)
  ·exact ih
  ·exact h1
def zIT(mg:Str->Option Value)(K:Fg)(Ps:Params)(x:Str)(tbl:List (List Nat×List Int)):Prop:=∃tr,QI mg K Ps x tr/\zDX K tr tbl
noncomputable def zNJ(tbl:List (List Nat×List Int)):D->Option D
 |.str s=>some (.tup (((bE tbl s).getD []).map .int))
 |_=>none
theorem JN{K:Fg}:∀l:List Int,IsL K O H (l.map D.int) (l.map V.int)
 |[]=>IsL.nil
 |i::l=>.cons (by rw[Is.int_iff]) (JN l)
theorem J7(h:zIT X.mg X.K X.w.params x tbl)(hg:Gl X x)(he:DE X e f)(hb:DE X b (mC (.tup [])))(hd:(x == ("__debug__" : Str))=false:=by decide)(hbase:bt (.Name x p') "get" X.env (eval (.Name x p') X.env)=eval (.Name x p') X.env:=by rfl)(hfew:((dl cpos (ae [e,b] X.env)).all (λx=>!x.1) && (ja cpos (gh [] X.env)).all (λx=>x.1.isSome) && decide (([e,b]:List Expr).length+([]:List Keyword).length+(if ([]:List Keyword).isEmpty then 0 else 1)<30))=true:=by rfl)(hline:(apos.endLine == cpos.line)=true:=by rfl)(htr:dl cpos (ae [e,b] X.env)=[(false,eval e X.env),(false,eval b X.env)]:=by rfl):DE X (.Call (.Attribute (.Name x p') "get" apos) [e,b] [] cpos) (mUn (zNJ tbl) f):=by
 obtain⟨tr,⟨p,es,n,h1,h2,h3,h4,h5⟩,ht⟩:=h;intro pZ s σ H Q I hq;obtain⟨O0,r,d,hR,e1,q⟩:=hq;obtain⟨kd,e2,e3⟩:=bnS e1;cases kd<;>first|(cases e3;done)|skip
 rename_i key;cases e3;refine wpAny_Call_method hbase hfew hline uo vo PySem.F.type_dict_get (thn ((J6 (p:=p) h1 hg hd) pZ s σ H (λv H1=>v=.ref p/\Same H H1) I ⟨O0,r,.ref p,hR,rfl,λv H1 s1 iv=>⟨by rw[Is.ref_iff] at iv;exact iv,s1⟩⟩) λu s1 ⟨v,H1,I1,rv,ev,sm⟩=>?_);subst ev;obtain rfl:u=Value.ref p:=rv;have mp:=zCH (tbl:=[]) (Ps:=X.w.params) (x:="") I1 h3 h4;refine⟨mp.typeIs,λq hq=>by cases hq;exact⟨_,I1.kIn _ _ h3,rfl⟩,?_⟩;rw[htr];have R1:=hR.same sm;refine lf rfl (qt (ki (thn (he pZ s1 σ H1 (λv H2=>v=.str ⟨key.toArray⟩/\Same H1 H2) I1 ⟨O0,r,.str key,R1,e2,λv H2 s2 iv=>⟨by rw[Is.str_iff] at iv;exact iv,s2⟩⟩) λiv s2 ⟨y,H2,I2,ry,ey,sm2⟩=>
  ki (thn (hb pZ s2 σ H2 (λv H3=>Same H2 H3/\Is X.K (Ow O0 r σ) H3 (.tup []) v) I2 ⟨O0,r,.tup [],R1.same sm2,rfl,λv H3 s3 iv=>⟨s3,iv⟩⟩) λfv s3 ⟨z,H3,I3,rz,sm3,iz⟩=>nr ?_))))
 subst ey;obtain⟨t,rfl⟩:=ry;have mp3:=zCH (tbl:=[]) (Ps:=X.w.params) (x:="") I3 h3 h4;have fnd:=uX key h5;rw[<-dO] at fnd;have sall:=(sm.trans sm2).trans sm3;refine call_meetsIn vo mp3.typeIs PySem.F.entry_dict_get (PySem.F.args_dict_get_3 _ _ _) (meets_dict_get_default (strKind X.prog X.w) p (strKind_is _ _ _ t) h2 fv) ⟨_,mp3,?_⟩;rw[fnd];have lk:=dH key ht;cases e5:kT tr key with
 |none=>
  rw[e5] at lk;cases e6:bE tbl key with
  |none=>
   refine⟨z,H3,I3.tok _,rz,q z H3 sall ?_⟩;rw[e6];exact iz
  |some ns=>rw[e6] at lk;exact lk.elim
 |some a=>
  rw[e5] at lk;cases e6:bE tbl key with
  |none=>rw[e6] at lk;exact lk.elim
  |some ns=>
   rw[e6] at lk;refine⟨.ref a,H3,I3.tok _,rfl,q (.ref a) H3 sall ?_⟩;rw[e6,Is.tup_iff];exact⟨a,ns.map V.int,rfl,.inr lk,JN ns⟩
open PySem PySem.Spec PyProof.Rows L2 PySem.W
namespace RV
theorem owner:Manifest.owners.lookup (String.ofList ['d','e','s','r','e','v','e','r'].reverse)=some Manifest.sig_reversed:=by kernel_rfl
theorem s_next:Slot "reversed" "__next__" "reversed.__next__" := Slot.of (owner:="reversed") (n:="__next__") (by(rw[jm,gu]);kernel_rfl) (by decide +kernel) (by decide +kernel) (by decide +kernel) (by first|exact .inl (by decide +kernel)|exact .inr (by decide +kernel)) (by(rw[km]);kernel_rfl)
theorem e_next:entryFor table "reversed.__next__" = some Builtin.«reversed.__next__»:=entryFor_of_tree (by kernel_rfl)
theorem a_next(a:Value):argsOk "reversed.__next__" ⟨[a],[]⟩:=by
 unfold argsOk;rw[signature?_of (id:="reversed.__next__") (n:=['_','_','t','x','e','n','_','_']) (o:=['d','e','s','r','e','v','e','r']) (by kernel_rfl) owner];kernel_rfl
theorem s_iter:Slot "reversed" "__iter__" "reversed.__iter__" := Slot.of (owner:="reversed") (n:="__iter__") (by(rw[jm,gu]);kernel_rfl) (by decide +kernel) (by decide +kernel) (by decide +kernel) (by first|exact .inl (by decide +kernel)|exact .inr (by decide +kernel)) (by(rw[km]);kernel_rfl)
theorem a_iter(a:Value):argsOk "reversed.__iter__" ⟨[a],[]⟩:=by
 unfold argsOk;rw[signature?_of (id:="reversed.__iter__") (n:=['_','_','r','e','t','i','_','_']) (o:=['d','e','s','r','e','v','e','r']) (by kernel_rfl) owner];kernel_rfl
theorem e_iter:entryFor table "reversed.__iter__" = some Builtin.«dict_keyiterator.__iter__»:=
 entryFor_alias (id':="dict_keyiterator.__iter__") (by kernel_rfl) (by first|rfl|decide +kernel|(unfold String.splitOn;simp +decide [String.splitOnAux])) (by decide +kernel) (by kernel_rfl)
theorem no_own:typeLookup (.type "tuple") "__reversed__" = pure none:=by(rw[jm,gu]);kernel_rfl
theorem no_dict:isSubtype (.type "tuple") (.type "dict")=pure false:=by(rw[km]);kernel_rfl
theorem zJ6:Slot "reversed" "__init__" "object.__init__" := Slot.of (owner:="object") (n:="__init__") (by(rw[jm,gu]);kernel_rfl) (by decide +kernel) (by decide +kernel) (by decide +kernel) (by first|exact .inl (by decide +kernel)|exact .inr (by decide +kernel)) (by(rw[km]);kernel_rfl)
theorem called:TypeCalled "reversed" "reversed.__new__" "object.__init__" := ⟨by decide +kernel,by decide +kernel,⟨_,_,F.mro_reversed⟩,F.made_reversed,by decide +kernel,by(rw[km]);kernel_rfl,zJ6⟩
end RV
noncomputable def zDF(l:Addr)(i:Int):Obj:={ cls:=.type "reversed",data:=.fields #[.ref l,rawInt i] }
def IsRv(h:Heap)(a l:Addr)(i:Int):Prop:=∃o,h.get? a=some o/\o.cls=.type "reversed" /\ o.data=.fields #[.ref l,rawInt i]
section
variable{prog:Program}{w:World}{A:Around}{E:Value->Shared->Prop}{s:Shared}
theorem IsRv.typeIs{a l:Addr}{i:Int}(x:IsRv s.heap a l i):s.TypeIs (.ref a) "reversed" := let ⟨o,ho,hc,_⟩:=x;⟨o,ho,hc⟩
theorem IsRv.at(x:IsRv h a l i)(e:∀o,h.get? a=some o->h'.get? a=some o):IsRv h' a l i:=let ⟨o,ho,r⟩:=x;⟨o,e _ ho,r⟩
theorem Q0{it l:Addr}{i:Int}{Q:Value->Shared->Prop}(hit:IsRv s.heap it l i)(h:Q (.ref it) s):wpAny (model prog w) A (pyIter (.ref it)) Q E s:=by
 refine wpAny_pyIter_slot hit.typeIs RV.s_iter (dz RV.s_iter hit.typeIs RV.e_iter ?_ (RV.a_iter _));show wpAny _ _ (ret (.ref it)) _ _ s;exact ag ⟨_,rfl, "reversed",_,hit.typeIs,RV.s_next.lookup,h⟩
theorem zJ8(ht:IsTup s.heap l items)(hz:items.size<=af)(h:∀tk,Q₁ (.ref s.heap.objs.size) { s with heap:=s.heap.push (zDF l ((items.size:Int)-1)),toks:=tk }):codeAny (model prog w) A (.call (.builtin "reversed.__new__") ⟨[.type "reversed",.ref l],[]⟩) (wants Q₁ E) s:=by
 refine codeAny_of_tree ?_;show wpAny _ A.in1 (do checkBuiltinCall "reversed.__new__" ⟨[.type "reversed",.ref l],[]⟩;again (.builtin "reversed.__new__" ⟨[.type "reversed",.ref l],[]⟩)) _ _ s;refine ac (gp (F.newCall_reversed_1 _) (ag ⟨lq wl _,jn F.entry_reversed_new ?_⟩));rw[ie wl _];unfold Builtin.«reversed.__new__»;refine ac (gp (newClass_reversed _) ?_)
 try dsimp only
 refine ac (gp (a:=()) (by first|rfl|kernel_rfl) ?_);refine ac (gp (a:=()) (by first|rfl|kernel_rfl) ?_)
 try dsimp only
 refine ac (ii ht.typeIs RV.no_own ?_)
 try dsimp only
 refine ac ?_;show wpAny _ _ (isInstance (Value.ref l) (.type "dict") >>= _) _ _ _;refine ac (nw ht.typeIs RV.no_dict ?_)
 try dsimp only
 simp only[cr,if_false];refine ac (ii ht.typeIs tm.lookup ?_)
 try dsimp only
 rw[if_pos (by decide +kernel)];refine ag ?_;simp only[ui,cr,if_false];refine ac (len_tuple ht (by have:=qo;omega) ?_);refine ac (gp (a:=some (items.size:Int)) rfl ?_)
 try dsimp only
 unfold Builtin.SmallTypes.newRecord;refine ac (cn ?_ (by size_fits));exact ag (h _)
theorem zE6(ht:IsTup s.heap l items)(hz:items.size<=af)(h:∀tk,Q (.ref s.heap.objs.size) { s with heap:=s.heap.push (zDF l ((items.size:Int)-1)),toks:=tk }):wpAny (model prog w) A (call (.type "reversed") [.ref l]) Q E s:=by
 refine callType_codes (Q₁:=λobj s₁=>obj=.ref s.heap.objs.size/\∃tk,s₁={ s with heap:=s.heap.push (zDF l ((items.size:Int)-1)),toks:=tk }) RV.called (F.typeCall_reversed_1 _) F.entry_object_init (zJ8 ht hz λtk=>⟨rfl,tk,rfl⟩) ?_;rintro obj s₁ ⟨rfl,tk,rfl⟩;have ty:Shared.TypeIs { s with heap:=s.heap.push (zDF l ((items.size:Int)-1)),toks:=tk } (.ref s.heap.objs.size) "reversed" := ⟨_,ba _ rfl,rfl⟩;refine⟨ty,wm _ _,?_⟩;exact object_init_meets RV.called.init.lookup RV.called.made (by decide) prog w A.in1 _ _ ⟨ty,rfl,h tk⟩
theorem zE5{it l:Addr}{i:Nat}{items:Array Value}{x:Value}{Q:Option Value->Shared->Prop}(hit:IsRv s.heap it l (i:Int))(hl:IsTup s.heap l items)(hz:items.size<=af)(hx:items[i]?=some x)(hQ:∀h' tk,IsRv h' it l ((i:Int)-1)->Heap.SameBut it s.heap h'->Q (some x) { s with heap:=h',toks:=tk }):wpAny (model prog w) A (pyNext (.ref it)) Q E s:=by
 obtain⟨o,ho,hc,hd⟩:=id hit;unfold pyNext;refine ac (jy (cy (name:=Str.ofString "__next__") hit.typeIs RV.s_next
  (dz RV.s_next hit.typeIs RV.e_next ?_ (RV.a_next _))))
 unfold Builtin.«reversed.__next__»;refine ac (gp (a:=(Value.ref it,[])) rfl ?_)
 try dsimp only
 refine ac (bu ho hd (x:=.ref l) rfl ?_);refine ac (bu ho hd (x:=rawInt (i:Int)) rfl ?_);show wpAny _ _ (if (i:Int)<0 then _ else _) _ _ s;rw[if_neg (by omega)];refine ac (ii hl.typeIs tm.lookup ?_);simp only[Option.isNone_some,cr,if_false];refine ac (wpAny_mkInt ?_);have hi:i<items.size:=by
  obtain⟨z,_⟩:=Array.getElem?_eq_some_iff.mp hx;exact z
 refine ac (jy (getItem_tuple (j:=i) (s:={ s with toks:=s.toks+1 }) hl (by omega) (by have:=qo;omega) (by unfold seqIndex?;simp;omega) hx ?_));dsimp only;refine ac (bu (s:={ s with toks:=s.toks+1 }) ho hd (x:=rawInt (i:Int)) rfl ?_);dsimp only[rawInt];refine ac (mx (s:={ s with toks:=s.toks+1 }) ho hd (by simp) ?_);refine ag ⟨x,rfl,ag (hQ _ _ ?_ (jw ..))⟩;exact⟨_,jb _ ho (qh (jj hd _)),(Obj.cls_mapFields ..).trans hc,by
  rw[jj hd];simp[rawInt]⟩
theorem zJ9{it l:Addr}{Q:Option Value->Shared->Prop}(hh:A.handled=none)(hit:IsRv s.heap it l (-1))(hQ:∀h',Heap.ExtBut it s.heap h'->Q none { s with heap:=h' }):wpAny (model prog w) A (pyNext (.ref it)) Q E s:=by
 obtain⟨o,ho,hc,hd⟩:=id hit;unfold pyNext;refine ac (jy (cy (name:=Str.ofString "__next__") hit.typeIs RV.s_next
  (dz RV.s_next hit.typeIs RV.e_next ?_ (RV.a_next _))))
 unfold Builtin.«reversed.__next__»;refine ac (gp (a:=(Value.ref it,[])) rfl ?_)
 try dsimp only
 refine ac (bu ho hd (x:=.ref l) rfl ?_);refine ac (bu ho hd (x:=rawInt (-1)) rfl ?_);show wpAny _ _ (if (-1:Int)<0 then _ else _) _ _ s;rw[if_pos (by decide)];refine ac (my ?_);show wpAny _ _ ((setField (.ref it) 1 (rawInt (-1)) >>= λ_=>setField (.ref it) 0 .none) >>= _) _ _ _;refine ac (ac (mx ho hd (by simp) ?_));refine mx (jb _ ho (qh (jj hd _))) (jj hd _) (by simp) ?_;refine ac ?_;show wpAny _ _ (newExc (.type "StopIteration") [] >>= _) _ _ _;refine ac ?_;simp only[newExc,newTuple];refine ac (cn ?_ (by size_fits));refine ac (m:=firstArgMember _ _) (gp (a:=Value.none) (by first|rfl|(simp only[firstArgMember];rfl)) ?_);refine cn ?_ (by size_fits);simp only[raiseNew];refine ac (wpAny_handled ?_)
 first|rw[show A.in1.handled=none from hh]|rw[hh]
 refine ac (ag (wpAny_throw ?_));refine ac (nw (T:="StopIteration") (b:=true) ⟨_,ba _ rfl,rfl⟩ su ?_);refine ag (hQ _ λb o hb e=>?_);have e1:=(jw s.heap it (Obj.mapFields λx=>x.setIfInBounds 1 (rawInt (-1)))).2 b hb;have e2:=(jw (s.heap.update it (Obj.mapFields λx=>x.setIfInBounds 1 (rawInt (-1)))) it (Obj.mapFields λx=>x.setIfInBounds 0 .none)).2 b hb;exact ad _ (ad _ (e2.trans (e1.trans e)))
end
noncomputable def zPI(K:Fg)(a:Addr)(n:Nat):It:=
 ⟨λi H=>∃xs x,SqT K H a xs/\xs.length=n/\i<n/\xs[n-1-i]?=some x,λi H x H'=>H'=H/\∀xs,SqT K H a xs->xs[n-1-i]?=some x,λi _=>i=n⟩
theorem zEM{K:Fg}(a it:Addr)(n:Nat):Turn P w K tg (zPI K a n) [it] it (λi h=>IsRv h it a ((n:Int)-1-(i:Int))) where
 mem:=by simp
 obj:=λi h st b hb=>by
  have e:b=it:=by simpa using hb
  subst e;obtain⟨o,e,c,d⟩:=st;exact⟨o,e,λv z=>by rw[d] at z;cases z⟩
 keep:=λi h h' st k=>st.at λo e=>k it (by simp) o e
 item:=by
  intro X hP hw hK hc i pZ s σ H E I hf st hg;subst hP hw hK;obtain⟨xs,x,hq,hn,hi,hx⟩:=hg;obtain⟨its,rv,p,hz⟩:=I.tuple hq;obtain⟨u,hu,ru⟩:=rv.get hx;obtain⟨f0,f1,f2,f3,f4,f5⟩:=hf it (by simp);have e1:(n:Int)-1-(i:Int)=((n-1-i:Nat):Int):=by clear st hu hx hq hn rv p;omega
  rw[e1] at st;refine zE5 st p (by rw[ak,<-rv.length];exact hz) (x:=u) (by simpa using hu) λh' tk st' sb=>?_
  have e2:((n-1-i:Nat):Int)-1=(n:Int)-1-((i+1:Nat):Int):=by clear st st' hu hx hq hn rv p;omega
  rw[e2] at st';have I1:Inv X pZ σ H { s with heap:=h',toks:=tk }:=I.turned (t':=tk) (λb o hb e=>(sb.2 b hb).trans e) f0 f1 f3 f4 f5;obtain⟨o,e,c,d⟩:=id st';exact⟨u,rfl,zDM (s:={ s with heap:=h',toks:=tk }) e c d (by decide) ⟨x,H,I1,ru,⟨rfl,λys hy=>by rw[I.tuple_inj hy hq];exact hx⟩,st',λb hb=>(hf b hb).1⟩⟩
 done:=by
  intro X hP hw hK hc i pZ s σ H E I hf st hg;subst hP hw hK;obtain rfl:i=n:=hg;obtain⟨f0,f1,f2,f3,f4,f5⟩:=hf it (by simp);have e1:(i:Int)-1-(i:Int)=-1:=by clear st;omega
  rw[e1] at st;exact zJ9 (I.ok.hd hc) st λh' eb=>⟨rfl,I.turned (t':=s.toks) (λb o hb e=>eb b o hb e) f0 f1 f3 f4 f5⟩
 self:=λ_ _ _ _ _ st h=>Q0 st h
open PySem PySem.Spec PyProof.Rows L2 PySem.W
noncomputable def lIo(K:Fg)(it:ML):TI:=λσ H Rr=>∃O0 r l,R K O0 H r σ/\it r=some l/\∀J H',Same H H'->zJO K (Ow O0 r σ) (Ow O0 r σ) H' J l->Rr J H'
def DIo(X:Cx)(tg iter:Expr)(it:ML):Prop:=PI X tg iter (lIo X.K it)
noncomputable def mTp(f:ME):ML:=λr=>(f r).bind λd=>match d with
 |.tup l=>some l
 |_=>none
theorem zH6(hl:DE X l f):DIo X tg l (mTp f):=by
 refine PI.conseq (zFO hl) λσ H Rr h=>?_
 obtain⟨O0,r,ds,hR,e,q⟩:=h;obtain⟨d,e1,e2⟩:=bnS e;refine⟨O0,r,d,hR,e1,λv H1 s1 i1=>?_⟩;have ol:=(hR.same s1).ol;cases d<;>first|(cases e2;done)|skip
 cases e2;rw[Is.tup_iff] at i1;obtain⟨a,xs,rfl,rd,il⟩:=i1;exact⟨a,rfl,.inr ⟨⟨xs,rd⟩,q _ H1 s1 (zD7 (λa z=>z) ol rd il)⟩⟩
theorem zNQ{K:Fg}(ol:jN O H)(rd:SqT K H a xs)(il:IsL K O H ds xs):zJO K O O H (zPI K a xs.length) ds.reverse:=by
 intro i H1 O' kp oo;have rd1:SqT K H1 a xs:=SqT.keep kp ol rd;have ll:=il.length;have bk:∀d,ds.reverse[i]?=some d->i<xs.length/\ds[xs.length-1-i]?=some d:=λd e=>by
  have hi:i<ds.length:=by
   obtain⟨h,_⟩:=ar.mp e;rw[fw] at h;exact h
  rw[lg hi,ll] at e;exact⟨ll ▸ hi,e⟩
 refine⟨λhi=>⟨?_,λx H' y=>?_⟩,λhi=>by rw[fw,ll] at hi;exact hi⟩
 ·obtain⟨d,e⟩:=jX hi;obtain⟨hi',e'⟩:=bk d e;obtain⟨v,e1,_⟩:=il.get e';exact⟨xs,v,rd1,rfl,hi',e1⟩
 ·obtain⟨rfl,y⟩:=y;refine⟨Same.refl _,λd e=>?_⟩;obtain⟨hi',e'⟩:=bk d e;obtain⟨v,e1,q⟩:=il.get e'
  have:=y xs rd1
  rw[e1] at this;cases this;exact Is.mono kp ol oo _ _ q
theorem zOF(hg:Gl X "reversed")(hm:X.mg "reversed" = none)(ha:PE X a ta)(hs:ae [a] X.env=[(false,eval a X.env)]:=by rfl):PI X tg (.Call (.Name "reversed" p) [a] [] pos) (λσ H R=>ta σ H λx H1=>∃u xs,x=.ref u/\SqT X.K H1 u xs/\R (zPI X.K u xs.length) H1):=by
 intro pZ s σ H R I h;have hA:PA X [a] (mQ ta zET):=yC ha xF (by rw[hs];rfl);refine Call_ (uD I hg hm tq (dq (thn (hA pos pZ s σ H (z1 λx H1=>∃u xs,x=.ref u/\SqT X.K H1 u xs/\R (zPI X.K u xs.length) H1) I h) λus s1 ⟨vs,H1,I1,r1,q1⟩=>?_) hs rfl));obtain⟨_,rfl,u,xs,rfl,hx,q⟩:=zAI q1;obtain⟨uu,rfl,ru⟩:=Vals.one r1;cases ru;obtain⟨its,rv,pl,hz⟩:=I1.tuple hx;have hl:its.toArray.size=xs.length:=by rw[ak];exact rv.length.symm
 refine zE6 pl (by rw[hl];exact hz) λtk=>?_
 have z1:IsRv (s1.heap.push (zDF u ((its.toArray.size:Int)-1))) s1.heap.objs.size u ((its.toArray.size:Int)-1):=⟨_,ba _ rfl,rfl,rfl⟩;refine Q0 z1 ?_;refine⟨_,[s1.heap.objs.size],_,_,H1,rfl,I1.kept (t':=tk) (λb o e=>ad _ e),zEM u _ xs.length,?_,λb hb=>?_,q⟩
 ·rw[hl] at z1 ⊢;rw[show((xs.length:Int)-1-((0:Nat):Int))=(xs.length:Int)-1 from Int.sub_zero _];exact z1
 ·have e:b=s1.heap.objs.size:=by simpa using hb
  subst e;exact I1.fpOk (ah _) (I1.hok.fresh (ah _))
noncomputable def zOQ(f:ME):ML:=λr=>(mTp f r).map List.reverse
theorem zL1(hg:Gl X "reversed")(hm:X.mg "reversed" = none)(ha:DE X a f)(hs:ae [a] X.env=[(false,eval a X.env)]:=by rfl):DIo X tg (.Call (.Name "reversed" p) [a] [] pos) (zOQ f):=by
 refine PI.conseq (zOF hg hm ha hs) λσ H Rr hq=>?_
 obtain⟨O0,r,ds,hR,e,q⟩:=hq;obtain⟨l,e0,rfl⟩:=mpS e;obtain⟨x,e1,e2⟩:=bnS e0;refine⟨O0,r,x,hR,e1,λv1 H1 s1 i1=>?_⟩;have ol:=(hR.same s1).ol;cases x<;>first|(cases e2;done)|skip
 cases e2;rw[Is.tup_iff] at i1;obtain⟨u,xs,rfl,hx,il⟩:=i1;exact⟨u,xs,rfl,hx,q _ H1 s1 (zNQ ol hx il)⟩
noncomputable def tE(z i:Nat)(g:MEs):List D->MEs
 |[]=>tD
 |d::t=>λst r=>if i=z then none else (yV i d r).bind λr1=>(g st r1).bind λfl=>match fl with
  |.nx st' r'=>tE z i g t st' r'
  |.rt d st' r'=>some (.rt d st' r')
noncomputable def zPJ(z i:Nat)(it:ML)(g:MEs):MEs:=λst r=>(it r).bind λl=>tE z i g l st r
noncomputable def bQ:Nat->MEt->MEs->MEs
 |0,_,_=>λ_ _=>none
 |n+1,t,g=>λst r=>(t st r).bind λp=>if p.1=true then (g p.2 r).bind λfl=>(match fl with
  |.nx st' r'=>bQ n t g st' r'
  |.rt d st' r'=>some (.rt d st' r')) else some (.nx p.2 r)
theorem zK3(i:Nat)(hp:PassesOwn (model X.prog X.w) X.A X.env X.xe)(hc:X.calm=true)(hi:DIo X (.Name x tpos) iter it)(hN:X.N.Nodup)(hb:zDY X C z body g)(hxi:X.N[i]?=some x:=by rfl)(hx:Loc X.env.scope x:=by first|exact Or.inl rfl|exact Or.inr rfl)(hf:X.fn x=true\/X.env.scope.names.lookup x=some .local:=by first|exact .inl rfl|exact .inr rfl)(hs:∀x,gc iter X.env x=pure x:=by intro _;rfl):DMs X C z (.For (.Name x tpos) iter body [] pos) (zPJ z i it g):=by
 refine PS.conseq (zFE hp hc hi (ZG hN hxi hx hf) hb hs) λDn σ H hq=>?_
 obtain⟨O,a,w,c,st,r,fl,mr,e,q⟩:=hq;obtain⟨l,e1,e2⟩:=bnS e;refine⟨O,r,l,mr.rr,e1,λJ H0 s0 yl=>?_⟩;have m0:=mr.same s0;rw[show Ow O r σ=O from funext λb=>propext mr.no.ow] at yl;refine⟨λi' m σ1 H1=>m=l.length-i'/\i'<=l.length/\∃st1 r1,McR X.K O H1 C z a w c st1 r1 σ1/\KeepM a w c H0 H1/\tE z i g (l.drop i') st1 r1=some fl,⟨l.length,by simp,ck _,st,r,m0,KeepM.refl H0,by simpa using e2⟩,?_⟩;rintro i' m σ1 H1 ⟨rfl,hil,st1,r1,m1,k1,e3⟩;have k0:=(KeepM.same (a:=a) (w:=w) (c:=c) s0).trans k1;obtain⟨y1,y2⟩:=yl i' H1 O (m0.ms.kp k1) λ_ z _=>z
 by_cases hlt:i'<l.length
 ·obtain⟨go,yd⟩:=y1 hlt;have hd:l[i']?=some l[i']:=by simp[hlt]
  rw[uH hd] at e3;unfold tE at e3;split at e3
  ·cases e3
  rename_i h0;obtain⟨r2,e4,e5⟩:=bnS e3;obtain⟨f1,e6,e7⟩:=bnS e5;refine .inr ⟨go,λσ3 H3=>∃st3 r3,McR X.K O H3 C z a w c st3 r3 σ3/\KeepM a w c H0 H3/\tE z i g (l.drop (i'+1)) st3 r3=some fl,λσ3 H3 z=>⟨l.length-(i'+1),by omega,rfl,hlt,z⟩,λx H2 yx=>?_⟩;obtain⟨s2,ix⟩:=yd x H2 yx;have m2:=m1.same s2;obtain⟨hl,np,rfl⟩:=qX e4;obtain⟨R1,_⟩:=m2.rr.setv hl np (m2.is.mpr (ix _ hd));have m3:McR X.K O H2 C z a w c st1 (r1.set i (.v l[i'])) (σ1.set i (some x)):=⟨m2.ms,R1,m2.no.set,by rw[ic h0];exact m2.me⟩;refine⟨O,a,w,c,st1,_,f1,m3,e6,?_⟩;have k3:=k1.trans (KeepM.same (a:=a) (w:=w) (c:=c) s2);have k4:=k0.trans (KeepM.same (a:=a) (w:=w) (c:=c) s2);cases f1 with
  |nx st3 r3=>exact λσ3 H3 M3 kk=>⟨st3,r3,M3,k3.trans kk,e7⟩
  |rt d st3 r3=>cases e7;exact MFl.to_keep k4 q
 ·have hl:l.drop i'=[]:=ku (by omega);rw[hl] at e3;cases e3;exact .inl ⟨y2 (by omega),q σ1 H1 m1 k0⟩
theorem zB1(n:Nat)(hp:PassesOwn (model X.prog X.w) X.A X.env X.xe)(hc:DMt X C z c t)(hb:zDY X C z body g):DMs X C z (.While c body [] pos) (bQ n t g):=by
 refine PS.conseq (tY hp hc hb) λDn σ H hq=>?_
 obtain⟨O,a,w,c,st,r,fl,mr,e,q⟩:=hq;refine⟨λm σ1 H1=>∃st1 r1,McR X.K O H1 C z a w c st1 r1 σ1/\KeepM a w c H H1/\bQ m t g st1 r1=some fl,⟨n,st,r,mr,KeepM.refl H,e⟩,?_⟩;rintro m σ1 H1 ⟨st1,r1,m1,k1,e1⟩;cases m with
 |zero=>cases e1
 |succ m=>
  obtain⟨⟨b,st2⟩,e2,e3⟩:=bnS e1;refine⟨O,a,w,c,st1,r1,b,st2,m1,e2,λH2 m2 k2=>?_⟩;have k3:=k1.trans k2;cases b with
  |false=>
   cases e3;exact zNI (q σ1 H2 m2 k3)
  |true=>
   obtain⟨f1,e4,e5⟩:=bnS e3;refine zNH ⟨λσ3 H3=>∃st3 r3,McR X.K O H3 C z a w c st3 r3 σ3/\KeepM a w c H H3/\bQ m t g st3 r3=some fl,λσ3 H3 z=>⟨m,om m,z⟩,O,a,w,c,st2,r1,f1,m2,e4,?_⟩;cases f1 with
   |nx st3 r3=>exact λσ3 H3 M3 kk=>⟨st3,r3,M3,k3.trans kk,e5⟩
   |rt d st3 r3=>cases e5;exact MFl.to_keep k3 q
theorem zGB(hv:PE X (.Name x npos) (kN z))(cl:Cls X.K C)(na:NoAttr X.K C "waiting")(hb:bt (.Name x npos) "waiting" X.env (eval (.Name x npos) X.env)=eval (.Name x npos) X.env:=by rfl)(he:∀whole,isTrue (.Attribute (.Name x npos) "waiting" apos) X.env whole=(do let v <- whole;standAt (Expr.Attribute (.Name x npos) "waiting" apos).pos;holding [v] (truthy v)):=by intro _;rfl):DMt X C z (.Attribute (.Name x npos) "waiting" apos) (λst _=>some (!st.wait.isEmpty,st)):=by
 refine PT.conseq (g9 (bZ hv hb) he) λσ H Q hq=>?_
 obtain⟨O,a,w,c,st,r,b,st',mr,e,q⟩:=hq;cases e;obtain⟨dx,xs,ys,ve,vd,g1,g2,g3,g4,g5,g6,g7⟩:=mr.ms.ex;refine⟨.ref a,qM mr,a,C,dx,_,.ref w,rfl,g1,cl,na,rfl,!xs.isEmpty,.inl ⟨xs,SqL.of g2,rfl⟩,?_⟩
 have:=g6.length
 rw[show xs.isEmpty=st.wait.isEmpty by cases h1:st.wait<;>cases h2:xs<;>simp[h1,h2] at this ⊢];exact q H mr (KeepM.refl H)
noncomputable def nonB:D->Bool
 |.non=>true
 |_=>false
theorem Is.nonB{K:Fg}(h:Is K O H d v):decide (v=.non)=nonB d:=by
 cases d with
 |non=>rw[Is.non_iff] at h;subst h;rfl
 |bl b=>rw[Is.bl_iff] at h;subst h;rfl
 |int i=>rw[Is.int_iff] at h;subst h;rfl
 |str s=>rw[Is.str_iff] at h;subst h;rfl
 |ref a=>rw[Is.ref_iff] at h;subst h;rfl
 |tup l=>rw[Is.tup_iff] at h;obtain⟨a,xs,rfl,_⟩:=h;rfl
 |lst l=>rw[Is.lst_iff] at h;obtain⟨a,xs,rfl,_⟩:=h;rfl
 |dct ks l=>rw[Is.dct_iff] at h;obtain⟨a,xs,rfl,_⟩:=h;rfl
 |ty n=>unfold Is at h;subst h;rfl
theorem zGD(h:DMe X C z e m):DMt X C z (.Compare e [.Is] [.Constant .none j pos'] pos) (λst r=>(m st r).map λp=>(nonB p.1,p.2)):=by
 refine PT.conseq (zFD (zKS h)) λσ H Q hq=>?_
 obtain⟨O,a,w,c,st,r,b,st',mr,e,q⟩:=hq;obtain⟨⟨d,st1⟩,e1,e2⟩:=mpS e;cases e2;exact⟨O,a,w,c,st,r,d,st1,mr,e1,λv H1 m1 iv k1=>⟨_,rfl,by rw[Is.nonB iv];exact q H1 m1 k1⟩⟩
theorem zK1(h:DMt X C z e t)(h':DMt X C z e' t'):DMt X C z (.BoolOp .And [e,e'] pos) (λst r=>(t st r).bind λp=>if p.1=true then t' p.2 r else some (false,p.2)):=by
 refine PT.conseq (PW.pt (zFA h (Q2 h'))) λσ H Q hq=>?_
 obtain⟨O,a,w,c,st,r,b,st',mr,e,q⟩:=hq;obtain⟨⟨b1,st1⟩,e1,e2⟩:=bnS e;refine⟨O,a,w,c,st,r,b1,st1,mr,e1,λH1 m1 k1=>?_⟩;cases b1 with
 |false=>cases e2;exact zNI (q H1 m1 k1)
 |true=>exact zNH ⟨O,a,w,c,st1,r,b,st',m1,e2,λH2 m2 k2=>q H2 m2 (k1.trans k2)⟩
open PySem PySem.Spec PyProof.Rows L2 PySem.W
section
variable{pl:Pos}
theorem bT{α:Type}{cs:List α}{i:Nat}(h:i<cs.length):∃v,(cs.take (cs.length-i))[(cs.take (cs.length-i)).length-1]?=some v/\(cs.take (cs.length-i)).dropLast=cs.take (cs.length-(i+1))/\cs.reverse.take i++[v]=cs.reverse.take (i+1):=by
 have hl:(cs.take (cs.length-i)).length=cs.length-i:=by rw[ir];omega
 have h1:cs.length-i-1<cs.length:=by omega
 refine⟨cs[cs.length-i-1],?_,?_,?_⟩
 ·rw[hl,List.getElem?_take,if_pos (by omega),bn h1]
 ·rw[js,hl,List.take_take];congr 1;omega
 ·rw[List.take_succ,lg h,show cs.length-1-i=cs.length-i-1 by omega,bn h1];rfl
noncomputable def zI1(f:ME):MEf:=λst r=>(f r).bind λd=>match d with
 |.tup l=>if l.length<=st.come.length/\l.length<af then some (.lst (st.come.drop (st.come.length-l.length)),{ st with come:=st.come.take (st.come.length-l.length) }) else none
 |_=>none
theorem zGK(hc:X.calm=true)(o:CmpOk X N' [0] scope)(hi:DE X iter f)(hn:N'.length=2)(hg:∀C fp s H,PG (cxC X N' scope C fp s H) (.Name y tpos) (WY 1))(hv:∀C fp s H,PE (cxC X N' scope C fp s H) (.Name x npos) (kN 0))(cl:Cls X.K C)(na:NoAttr X.K C "come")(hb:∀C fp s H,bt (.Name x npos) "come" (cxC X N' scope C fp s H).env (eval (.Name x npos) (cxC X N' scope C fp s H).env)=eval (.Name x npos) (cxC X N' scope C fp s H).env)(hbase:∀C fp s H,bt (.Attribute (.Name x npos) "come" bpos) "pop" (cxC X N' scope C fp s H).env (eval (.Attribute (.Name x npos) "come" bpos) (cxC X N' scope C fp s H).env)=eval (.Attribute (.Name x npos) "come" bpos) (cxC X N' scope C fp s H).env)(hline:(apos.endLine == cpos.line)=true:=by rfl)(hs:∀x,gc iter X.env x=pure x:=by intro _;rfl):DMe X C 0 (.Subscript (.ListComp (.Call (.Attribute (.Attribute (.Name x npos) "come" bpos) "pop" apos) [] [] cpos) [⟨.Name y tpos,iter,[],0⟩] scope pl) (.Slice none none (some (.UnaryOp .USub (.Constant (.int 1) j p3) pos)) p2) pn) (zI1 f):=by
 refine PE.conseq (zFT (bY (tc:=none) (g:=WY 1) (te:=zP4 X.K "list" zP9 (zP3 X.K (kN 0) "come")) (cap:=[0]) hc o (zH6 hi) hg rfl (λC fp s H=>XW cz jr jq WD (bZ (hv C fp s H) (hb C fp s H)) (hbase C fp s H) hline) hs)) λσ H Q hq=>?_
 obtain⟨O,a,w,c,st,r,d,st',mr,e1,q⟩:=hq;obtain⟨d',e2,e3⟩:=bnS e1;cases d'<;>first|(cases e3;done)|skip
 rename_i l;dsimp only at e3;split at e3
 case isFalse=>cases e3
 rename_i hln;obtain⟨hln,hsz⟩:=hln;cases e3;refine⟨O,r,l,mr.rr,by unfold mTp;rw[e2];rfl,λJ H1 s1 yl p hp=>?_⟩;rw[show Ow O r σ=O from funext λb=>propext mr.no.ow] at yl;have m1:=mr.same s1;obtain⟨dx,xs,cs,ve,vd,g1,g2,g3,g4,g5,g6,g7⟩:=m1.ms.ex;have aw:=McR.aw m1.ms;have hcs:=g7.length;have pa:a≠p:=λz=>by rw[z,hp] at g1;cases g1
 have pw:w≠p:=λz=>by rw[z,hp] at g2;cases g2
 have pc:c≠p:=λz=>by rw[z,hp] at g3;cases g3
 rw[hn];refine⟨λi m ys σ2 H2=>m=l.length-i/\i<=l.length/\σ2.length=2/\σ2[0]?=some (some (.ref a))/\ys=cs.reverse.take i/\H2 p=some (.lst ys)/\H2 c=some (.lst (cs.take (cs.length-i)))/\∀b o,H1 b=some o->b≠c->H2 b=some o,
  ⟨l.length,rfl,ck _,rfl,by show some (σ[0]?.getD none)=_;rw[mr.me];rfl,rfl,zQ,by rw[zN pc,g3];simp,λb o e _=>by rw[zN (λz=>by rw[z,hp] at e;cases e)];exact e⟩,?_⟩
 rintro i m ys σ2 H2 ⟨rfl,hi',hl2,hs2,rfl,ep,ec,eo⟩;have kM:KeepM a w c H1 H2:=λb o e h1 h2 h3=>eo b o e h3
 obtain⟨y1,y2⟩:=yl i H2 O (m1.ms.kp kM) λ_ z _=>z
 have hlt':(cs.reverse.take i).length=i:=by rw[ir,fw];omega
 refine⟨ep,by rw[hlt'];omega,?_⟩;by_cases hlt:i<l.length
 ·obtain⟨go,yd⟩:=y1 hlt;refine .inr ⟨go,λxv H3 yx=>?_⟩;obtain⟨s3,_⟩:=yd xv H3 yx;obtain⟨v,v1,v2,v3⟩:=bT (cs:=cs) (i:=i) (by omega);have ea3:H3 a=some (.ins C dx (mfs st.most st.steps w c ve vd)):=s3 _ _ (eo a _ g1 aw.2);have ec3:=s3 _ _ ec;refine⟨.ref a,by rw[ic (by decide)];exact hs2,a,C,dx,_,.ref c,rfl,ea3,cl,na,rfl,.inl ⟨rfl,_,SqL.of ec3⟩,c,_,v,rfl,rfl,ec3,v1,?_⟩;have ep3:=s3 _ _ ep;refine⟨by rw[zN pc.symm];exact ep3,l.length-(i+1),by omega,rfl,hlt,by rw[sk];exact hl2,by rw[ic (by decide)];exact hs2,v3,zQ,?_,λb o e h1=>?_⟩
  ·rw[zN pc,zQ,v2]
  ·rw[zN (λz=>by rw[z,hp] at e;cases e),zN h1];exact s3 _ _ (eo b o e h1)
 ·have hil:i=l.length:=by omega
  subst hil;refine .inl ⟨y2 rfl,.inl ⟨p,_,rfl,SqL.of ep,λt ht=>?_⟩⟩;have hne:∀b o,H2 b=some o->b≠t:=λb o e z=>by rw[z,ht] at e;cases e
  have k2:KeepM a w c H1 (upd H2 t (.lst (cs.reverse.take l.length).reverse)):=λb o e h1 h2 h3=>by rw[zN (hne b o (kM b o e h1 h2 h3))];exact kM b o e h1 h2 h3
  have n:=Mch.put (K:=X.K) (H2:=upd H2 t (.lst (cs.reverse.take l.length).reverse)) (co:=st.come.take (st.come.length-l.length)) m1.ms m1.ol k2 (by rw[zN (hne a _ (eo a _ g1 aw.2))];exact eo a _ g1 aw.2) (by rw[zN (hne w _ (eo w _ g2 m1.ms.wc))];exact eo w _ g2 m1.ms.wc) (by rw[zN (hne c _ ec)];exact ec) g4 g5 g6 (by rw[hcs];exact g7.take _);have m2:=m1.step k2 n;have ot:¬O t:=λz=>by
   obtain⟨o,e,_⟩:=m1.ol t z;by_cases h1:t=c
   ·rw[h1] at ht;rw[ht] at ec;cases ec
   ·have:=eo t o e h1;rw[ht] at this;cases this
  refine q _ _ m2 ?_ ((KeepM.same s1).trans k2);rw[Is.lst_iff];have e9:(cs.reverse.take l.length).reverse=cs.drop (cs.length-l.length):=by
   rw[List.take_reverse,List.reverse_reverse]
  refine⟨t,cs.drop (cs.length-l.length),rfl,.inl ⟨ot,.inl (by rw[zQ,e9])⟩,?_⟩;rw[<-hcs];exact IsL.mono (m1.ms.kp k2) m1.ol (λ_ z _=>z) _ _ (g7.drop _)
end
open PySem PySem.Spec PyProof.Rows L2 PySem.W
namespace DU
theorem e_loop:entryFor table "dict.update.loop" = some Builtin.«dict.update.loop»:=entryFor_of_tree (by kernel_rfl)
theorem p_loop:plainId "dict.update.loop" = true:=by decide +kernel
theorem lk_keys:typeLookup (.type "list") "keys" = pure none:=by rw[jm,gu];kernel_rfl
end DU
theorem WR(hx:s.heap.get? a=some o)(hc:o.cls=.type "list")(hdat:o.data=.seq xs k)(hd:o.dict=none)(hA:A.handled=none)(h:∀h' tk,(∀b ob,s.heap.get? b=some ob->h'.get? b=some ob)->Q none { s with heap:=h',toks:=tk }):wpAny (model prog w) A (getAttr? (.ref a) "keys") Q E s:=by
 obtain⟨c,dct,dat,sl⟩:=o;simp only at hc hdat hd;subst hc hdat hd;obtain⟨hp,g,d,tk,os⟩:=s;have hT:∀tk',(⟨hp,g,d,tk',os⟩:Shared).TypeIs (.ref a) "list" := λ_=>⟨_,hx,rfl⟩
 have f1:=sub_AttributeError;have f3:=nv.lookup;have f4:=nv.bind (.ref a);have f5:=am_list_getattr_none;unfold getAttr? getAttrBy? getAttrBy
 repeat (any_goals (first|assumption|exact hT _|((with_reducible show wpAny _ _ (call (Value.builtin "list.__getattribute__") _ _) _ _ _);refine oy nv (hT _) am_entry_list_getattribute (F.args_list_getattribute_2 _ _) (meets_getattribute_miss_list a xs k sl _ _ DU.lk_keys (by decide +kernel) (by size_fits)) ⟨hx,hA,λh' tk' e hx'=>?_⟩)|wp_step))
 obtain⟨t',u',he⟩:=hx'.there;show wpAny _ _ (getattributeRaised _ _ _ _ _ _ _) _ _ _;unfold getattributeRaised
 repeat (any_goals (first|assumption|wp_step))
 exact h _ _ hx'.keeps
def zPF(h:Heap)(v:Value)(k:Key)(u:Value):Prop:=∃t key,v=.ref t/\IsTup h t #[key,u]/\gX k key=true
theorem zHU(hh:A.handled=none)(hld:l≠d)(hli:l≠it)(hid:it≠d):∀(n i:Nat) (s:Shared) (ps:List (Key×Value)) (kvs:List (Key×Value)) (R:Result->Shared->Prop),i+n=its.size->ps.length=n->kvs.length+n<=af->s.heap.IsListIter it l i->PlainL s.heap l its ->
  (∀j (p:Key×Value),ps[j]?=some p->∃v,its[i+j]?=some v/\(∃t,v=.ref t/\t≠d/\t≠it)/\zPF s.heap v p.1 p.2)->s.heap.DictOf (yM prog w) d kvs ->
  (∀h' tk,h'.DictOf (yM prog w) d (ps.foldl (λz p=>stored z p.1 p.2) kvs)->(∀b o,b≠it->b≠d->s.heap.get? b=some o->h'.get? b=some o)->R (.ok (.ret .none)) { s with heap:=h',toks:=tk }) ->
  codeAny (model prog w) A (.builtin "dict.update.loop" ⟨[.ref d,.ref it,rawInt (i:Int),.none],[]⟩) R s:=by
 intro n
 induction n with
 |zero=>
  intro i s ps kvs R hi hl hz hit pl hp hd hR;obtain rfl:ps=[]:=kj.mp hl;refine jn DU.e_loop ?_;rw[ie DU.p_loop _];show wpAny _ A.in1 (pyNext (.ref it) >>= _) _ _ s;refine ac (qf (show A.in1.handled=none from hh) hit pl.isList (Array.getElem?_eq_none (by omega)) λh' eb=>?_);show wpAny _ A.in1 (Builtin.Dict.addKeywords d [] >>= λ_=>ret Value.none) _ _ _;refine ac (ag (ag (hR h' s.toks (hd.extBut eb hid.symm) λb o hb _ e=>eb b o hb e)))
 |succ n ih=>
  intro i s ps kvs R hi hl hz hit pl hp hd hR;obtain⟨p,ps,rfl⟩:∃p q,ps=p::q:=by cases ps with
   |nil=>cases hl
   |cons p q=>exact⟨p,q,rfl⟩
  obtain⟨v,ev,⟨t0,rfl,ntd,nti⟩,t,key,e0,tu,kk⟩:=hp 0 p rfl;cases e0;refine jn DU.e_loop ?_;rw[ie DU.p_loop _];show wpAny _ A.in1 (pyNext (.ref it) >>= _) _ _ s;refine ac (ou hit pl.isList ev λh1 hit1 sb1=>?_);have k1:∀b o,b≠it->s.heap.get? b=some o->h1.get? b=some o:=λb o hb e=>(sb1.2 b hb).trans e
  have tu1:IsTup h1 t0 #[key,p.2]:=by obtain⟨o,e,r⟩:=tu;exact⟨o,k1 _ _ nti e,r⟩
  have hd1:h1.DictOf (yM prog w) d kvs:=hd.sameBut sb1 hid.symm;obtain⟨ot,hot,hct,nt,hdt⟩:=id tu1;refine ac (fu ?_);refine ac (wpAny_tryCatch ?_);unfold Builtin.Dict.pairItems;refine ac (mq (s:={ s with heap:=h1 }) tu1.typeIs ?_);rw[if_pos (by decide)];refine ac (gq (s:={ s with heap:=h1 }) hot hdt (ag ?_));dsimp only[Option.getD_some];refine fu ?_;refine wpAny_dictSet_pairs (knd:=yM prog w) (s:={ s with heap:=h1 }) (k:=p.1) kk hd1 (λh2 hd2 sb2=>?_) (by omega);have k2:∀b o,b≠it->b≠d->s.heap.get? b=some o->h2.get? b=some o:=λb o hb hb' e=>(sb2.2 b hb').trans (k1 b o hb e)
  have e1:((i:Int)+1)=((i+1:Nat):Int):=by omega
  rw[e1];refine ag ⟨lq DU.p_loop _,ih (i+1) _ ps (stored kvs p.1 p.2) R (by omega) (pe hl) ?_ (hit1.at λo e=>(sb2.2 it hid).trans e) (by obtain⟨o,n,e,r⟩:=pl;exact⟨o,n,k2 l o hli hld e,r⟩) (λj q hq=>?_) hd2 λh' tk hd' kp=>?_⟩
  ·have:(stored kvs p.1 p.2).length<=kvs.length+1:=by unfold stored;split<;>simp
   omega
  ·obtain⟨v,ev',⟨t1,rfl,n1,n2⟩,t2,key2,e2,tu2,kk2⟩:=hp (j+1) q hq;cases e2;refine⟨_,by rw[<-ev'];congr 1;omega,⟨t1,rfl,n1,n2⟩,t1,key2,rfl,?_,kk2⟩;obtain⟨o,e,r⟩:=tu2;exact⟨o,k2 t1 o n2 n1 e,r⟩
  ·exact hR h' tk hd' λb o hb hb' e=>kp b o hb hb' (k2 b o hb hb' e)
open PySem PySem.Spec PyProof.Rows L2 PySem.W
theorem zHV{l:Addr}{its:Array Value}{ps:List (Key×Value)}{Q:Value->Shared->Prop}(hh:A.handled=none)(pl:PlainL s.heap l its)(hl:ps.length=its.size)(hz:its.size<=af)(hp:∀(j:Nat) (p:Key×Value),ps[j]?=some p->∃v,its[j]?=some v/\zPF s.heap v p.1 p.2)(h:∀h' tk,h'.DictOf (yM prog w) s.heap.objs.size (ps.foldl (λz p=>stored z p.1 p.2) [])->(∀b o,s.heap.get? b=some o->h'.get? b=some o)->Q (.ref s.heap.objs.size) { s with heap:=h',toks:=tk }):wpAny (model prog w) A (call (.type "dict") [.ref l]) Q E s:=by
 refine callType_codes (Q₁:=λobj s₁=>obj=.ref s.heap.objs.size/\s₁={ s with heap:=s.heap.push { cls:=.type "dict",data:=.dict #[] } }) F.kt_called_dict (F.kt_typeCall_dict_1 _) F.entry_dict_init (kt_code_dict_new _ ⟨rfl,rfl⟩) ?_;rintro obj s₁ ⟨rfl,rfl⟩;have hnew:(s.heap.push { cls:=.type "dict",data:=.dict #[] }).DictOf (yM prog w) s.heap.objs.size []:=Heap.DictOf.new s.heap;obtain⟨ol,nl,hol,hcl,hdl,hsl⟩:=id pl;have hlt:l<s.heap.objs.size:=am hol;have k1:∀b o,s.heap.get? b=some o->(s.heap.push { cls:=.type "dict",data:=.dict #[] }).get? b=some o:=λb o e=>ad _ e
 refine⟨hnew.typeIs,F.args_dict_init_2 _ _,?_⟩;unfold Builtin.«dict.__init__»;refine ac ?_;unfold Builtin.Dict.selfAndRest;refine ac (wpAny_notOrdered_dict hnew.typeIs ?_);show wpAny _ _ (pure (s.heap.objs.size,[Value.ref l])) _ _ _;refine ag ?_;show wpAny _ _ (Builtin.Dict.updateFrom "dict.__init__" s.heap.objs.size (.ref l) [] .none) _ _ _;unfold Builtin.Dict.updateFrom;refine ac (mq (T:="list") ⟨_,k1 _ _ hol,hcl⟩ ?_);rw[if_pos (by decide)];refine ac (WR (k1 _ _ hol) hcl hsl hdl (show A.in1.handled=none from hh) λh2 tk2 k2=>?_);rw[if_pos (by rfl)];refine ac (my ?_);have pl2:PlainL h2 l its:=⟨ol,nl,k2 _ _ (k1 _ _ hol),hcl,hdl,hsl⟩;refine ac (rj (s:={ s with heap:=h2,toks:=tk2 }) pl2.isList ?_);have hd2:h2.DictOf (yM prog w) s.heap.objs.size []:=by
  obtain⟨o,es,ep,ho,r⟩:=hnew;exact⟨o,es,ep,k2 _ _ ho,r⟩
 have hds:s.heap.objs.size<h2.objs.size:=by
  obtain⟨o,es,ep,ho,r⟩:=hd2;exact am ho
 have k3:∀b o,h2.get? b=some o->(h2.push { cls:=.type "list_iterator",data:=.fields #[.ref l,.int 0 0] }).get? b=some o:=λb o e=>ad _ e
 have ka:∀b o,s.heap.get? b=some o->(h2.push { cls:=.type "list_iterator",data:=.fields #[.ref l,.int 0 0] }).get? b=some o:=λb o e=>k3 _ _ (k2 _ _ (k1 _ _ e))
 refine ag ⟨lq DU.p_loop _,zHU (A:=A.in1) (l:=l) (it:=h2.objs.size) (d:=s.heap.objs.size) (its:=its) hh (be hlt) (be (ph hlt hds)) (ge hds) its.size 0 _ ps [] _ (by omega) hl (by simpa using hz) ⟨_,ba _ rfl,rfl,rfl⟩ ⟨ol,nl,k3 _ _ (k2 _ _ (k1 _ _ hol)),hcl,hdl,hsl⟩ (λj p e=>?_) ?_ λh' tk hd' kp=>?_⟩
 ·obtain⟨v,ev,t,key,rfl,⟨o,e1,r⟩,kk⟩:=hp j p e
  have:=am e1
  exact⟨_,by rw[pb];exact ev,⟨t,rfl,be this,be (ph this hds)⟩,t,key,rfl,⟨o,ka _ _ e1,r⟩,kk⟩
 ·obtain⟨o,es,ep,ho,r⟩:=hd2;exact⟨o,es,ep,k3 _ _ ho,r⟩
 ·refine⟨rfl,h h' tk hd' λb o e=>kp b o ?_ ?_ (ka _ _ e)⟩
  ·exact be (ph (am e) hds)
  ·exact be (am e)
noncomputable def zMQ:D->Option (Key×D)
 |.tup [k,d]=>(zM1 k).map λk=>(k,d)
 |_=>none
noncomputable def nD:List D->Option (List (Key×D))
 |[]=>some []
 |d::l=>(zMQ d).bind λp=>(nD l).map (p::·)
noncomputable def zDP(ps:List (Key×D)):List Key×List D:=ps.foldl (λz p=>jQ z.1 z.2 p.1 p.2) ([],[])
noncomputable def zB5(fl:ML):MD:=λr=>(fl r).bind λl=>(nD l).map zDP
theorem uK(hc:X.calm=true):CallR X (.type "dict") (λxs H Q=>∃(l:Addr) (ys:List V) (ps:List (Key×V)),xs=[.ref l]/\SqL X.K H l ys/\ps.length=ys.length/\(∀(j:Nat) (p:Key×V),ps[j]?=some p->∃t,ys[j]?=some (.ref t)/\SqT X.K H t [kV p.1,p.2])/\∀p,H p=none->Q (.ref p) (upd H p (.dK (ps.foldl (λz p=>gE z p.1 p.2) [])))):=by
 intro pZ s σ H xs us Q I r h;obtain⟨l,ys,ps,rfl,hl,hn,hp,q⟩:=h;obtain⟨u,rfl,rx⟩:=rZ r;cases rx;obtain⟨its,rv,pl,hz⟩:=I.list hl;have hlen:=rv.length;have ex:∀(j:Nat) (p:Key×V),ps[j]?=some p->∃(v:Value) (u:Value),its[j]?=some v/\RelV p.2 u/\zPF s.heap v p.1 u:=λj p e=>by
  obtain⟨t,e1,st⟩:=hp j p e;obtain⟨v,ev,rv'⟩:=rv.get e1;cases rv';obtain⟨its2,rv2,tu,_⟩:=I.tuple st;obtain⟨key,u,rfl,rk,ru⟩:=Vals.two rv2;exact⟨_,u,ev,ru,t,key,rfl,tu,JK (P:=X.prog) (w:=X.w) rk⟩
 let us:List (Key×Value):=(List.range ps.length).pmap (λj hj=>((ps[j]'hj).1,Classical.choose (jc (ex j ps[j] (bn hj))))) λj hj=>kr.mp hj
 have ul:us.length=ps.length:=by simp[us]
 have uj:∀(j:Nat) (hj:j<ps.length),us[j]?=some ((ps[j]).1,Classical.choose (jc (ex j ps[j] (bn hj)))):=λj hj=>by
  rw[bn (by rw[ul];exact hj)];simp[us]
 have hpr:∀(j:Nat) (p:Key×Value),us[j]?=some p->∃v,its.toArray[j]?=some v/\zPF s.heap v p.1 p.2:=λj p e=>by
  have hj:j<ps.length:=by
   obtain⟨z,_⟩:=ar.mp e;rw[ul] at z;exact z
  rw[uj j hj] at e;cases e;obtain⟨e1,e2,e3⟩:=jc (jc (ex j ps[j] (bn hj)));exact⟨_,by simpa using e1,e3⟩
 have kv:∀(z:List (Key×V)) (z':List (Key×Value)),KV z z'->KV (ps.foldl (λz p=>gE z p.1 p.2) z) (us.foldl (λz p=>stored z p.1 p.2) z'):=by
  have gen:∀(as:List (Key×V)) (bs:List (Key×Value)),as.length=bs.length->(∀(j:Nat) (x:Key×V) (y:Key×Value),as[j]?=some x->bs[j]?=some y->x.1=y.1/\RelV x.2 y.2)->∀(z:List (Key×V)) (z':List (Key×Value)),KV z z'->KV (as.foldl (λz p=>gE z p.1 p.2) z) (bs.foldl (λz p=>stored z p.1 p.2) z'):=by
   intro as
   induction as with
   |nil=>intro bs hl _ z z' hz;cases bs with
    |nil=>exact hz
    |cons _ _=>cases hl
   |cons x as ih=>intro bs hl hr z z' hz;cases bs with
    |nil=>cases hl
    |cons y bs=>
     obtain⟨e1,e2⟩:=hr 0 x y rfl rfl;rw[kg,kg];refine ih bs (pe hl) (λj x y e e'=>hr (j+1) x y e e') _ _ ?_;rw[e1];exact hz.put y.1 e2
  refine gen ps us ul.symm λj x y e e'=>?_
  have hj:j<ps.length:=by
   obtain⟨z,_⟩:=ar.mp e;exact z
  rw[uj j hj] at e';rw[bn hj] at e;cases e;cases e';obtain⟨_,e2,_⟩:=jc (jc (ex j ps[j] (bn hj)));exact⟨rfl,e2⟩
 have lz:(ps.foldl (λz p=>gE z p.1 p.2) []).length<=af:=by
  have gen:∀(as:List (Key×V)) (z:List (Key×V)),(as.foldl (λz p=>gE z p.1 p.2) z).length<=z.length+as.length:=by
   intro as
   induction as with
   |nil=>intro z;simp
   |cons x as ih=>
    intro z;rw[kg];have h1:=ih (gE z x.1 x.2);have h2:(gE z x.1 x.2).length<=z.length+1:=by unfold gE;split<;>simp
    simp only[au];omega
  have:=gen ps []
  simp only[bo] at this;omega
 refine zHV (I.ok.hd hc) pl (by rw[ul,ak];omega) (by rw[ak];omega) hpr λh' tk dd kp=>?_
 exact⟨.ref s.heap.objs.size,_,I.laid (a:=s.heap.objs.size) (o:=.dK (ps.foldl (λz p=>gE z p.1 p.2) [])) (t':=tk) kp (ah _) (W3 lz (beq_eq_false_iff_ne.mpr (lr (be I.big))) (kv [] [] .nil) dd),rfl,q _ (I.hok.fresh (ah _))⟩
theorem nC{K:Fg}:∀{l:List D} {qs:List (Key×D)} {ys:List V},nD l=some qs->IsL K O H l ys->∃ps:List (Key×V),ps.length=ys.length/\(∀(j:Nat) (p:Key×V),ps[j]?=some p->∃t,ys[j]?=some (.ref t)/\SqT K H t [kV p.1,p.2]) /\
  ∀(kvs:List (Key×V)) (ks:List Key) (ds:List D),kvs.map (·.1)=ks->IsL K O H ds (kvs.map (·.2))->(ps.foldl (λz p=>gE z p.1 p.2) kvs).map (·.1)=(qs.foldl (λz p=>jQ z.1 z.2 p.1 p.2) (ks,ds)).1/\IsL K O H (qs.foldl (λz p=>jQ z.1 z.2 p.1 p.2) (ks,ds)).2 ((ps.foldl (λz p=>gE z p.1 p.2) kvs).map (·.2))
 |[],qs,ys,e,h=>by
  cases e;unfold IsL at h;subst h;exact⟨[],rfl,λj p e=>by simp at e,λkvs ks ds e1 e2=>⟨e1,e2⟩⟩
 |d::l,qs,ys,e,h=>by
  obtain⟨⟨k,d'⟩,e1,e2⟩:=bnS e;obtain⟨qs',e3,rfl⟩:=mpS e2;unfold IsL at h;obtain⟨y,ys',rfl,iy,il⟩:=h;obtain⟨ps,hl,hp,hf⟩:=nC e3 il;unfold zMQ at e1;split at e1
  ·rename_i kd dd;obtain⟨k',e4,e5⟩:=mpS e1;cases e5;rw[Is.tup_iff] at iy;obtain⟨t,xs,rfl,st,i2⟩:=iy;unfold IsL at i2;obtain⟨v1,xs1,rfl,j1,i3⟩:=i2;unfold IsL at i3;obtain⟨v2,xs2,rfl,j2,i4⟩:=i3;unfold IsL at i4;subst i4;have ek:v1=kV k:=by
    cases kd<;>first|(cases e4;done)|skip
    ·cases e4;rw[Is.int_iff] at j1;exact j1
    ·cases e4;rw[Is.str_iff] at j1;exact j1
   subst ek;refine⟨(k,v2)::ps,by simp[hl],λj p e=>?_,λkvs ks ds g1 g2=>?_⟩
   ·cases j with
    |zero=>cases e;exact⟨t,rfl,st⟩
    |succ j=>exact hp j p e
   ·rw[kg,kg];obtain⟨q1,q2⟩:=Q3 (k:=k) g1 g2 j2;exact hf _ _ _ q1 q2
  ·cases e1
theorem zCI(hc:X.calm=true)(hg:Gl X "dict")(hm:X.mg "dict" = none)(ha:DB X a fl)(hs:ae [a] X.env=(false,eval a X.env)::ae [] X.env:=by rfl):DFd X (.Call (.Name "dict" p') [a] [] pos) (zB5 fl):=by
 refine PE.conseq (v5 (uK hc) hg hm vg (yC ha xF hs) (he:=hs)) λσ H Q hq=>?_
 obtain⟨O0,r,ks,l,hR,e,q⟩:=hq;obtain⟨ds,e1,e2⟩:=bnS e;obtain⟨qs,e3,e4⟩:=mpS e2;refine⟨O0,r,ds,hR,e1,λc xs H1 s1 sq il=>?_⟩;obtain⟨ps,hl,hp,hf⟩:=nC e3 il;refine⟨c,xs,ps,rfl,sq,hl,hp,λt ht=>?_⟩;obtain⟨q1,q2⟩:=hf [] [] [] rfl .nil;unfold zDP at e4;rw[e4] at q1 q2;refine q t _ _ (s1.trans (yA ht)) (s1.free ht) zQ q1 ?_;exact IsL.mono (Same.kp (yA ht) _) (hR.same s1).ol (λb z nn=>z.elim id λz=>by subst z;exact absurd ht nn) _ _ q2
open PySem PySem.Spec PyProof.Rows L2 PySem.W
structure CMeth(K:Fg)(B:Addr)(m:Str)(f:Addr):Prop where
 ga:specialIn K (.ref B) "__getattribute__" = some (some (.builtin "type.__getattribute__"))
 rd:readsIn K B (.type "type")=true
 fc:findCls K (.ref B) (.type "type") m=some (.val (.ref f))
 hh:handedIn (.ref f)=true
 kp:keepIn K (.ref f)=true
theorem zBL{pl:Sem Bool}(M:CMeth X.K B m f)(F:FnOk X.prog X.w X.K X.mg X.base CX k f fd ps sp)(hr:Room k X.A)(hg:Gl X x)(hm:X.mg x=some (.ref B))(hb:Binds X.K fd ps ds)(hd:Vals dvs ds)(hx:cO CX X E)(ha:PA X (e::es) t)(hdb:(x == ("__debug__" : Str))=false:=by decide)(hst:ae (e::es) X.env=(false,eval e X.env)::ae es X.env:=by rfl)(hpl:(dl pos (ae es X.env)).any (·.1)=false:=by rfl)(ht:eval (.Call (.Attribute (.Name x p) m apos) (e::es) [] pos) X.env=(do
   let ov <- eval (.Name x p) X.env
   standAt apos.atName
   let (f,first) <- holding [ov] (getMethod ov m pl)
   callWith pos f first (dl pos (ae (e::es) X.env)) (ja pos (gh [] X.env))):=by rfl):PE X (.Call (.Attribute (.Name x p) m apos) (e::es) [] pos) (zI3 sp dvs E t):=by
 intro pZ s σ H Q I h;refine qg (pl:=pl) ?_ ht;refine nU I hg hm ?_ hdb;refine method_cls I.kIn M.ga (cls_value I.kIn M.rd M.fc M.hh ?_);refine kh (first:=[]) (h₀:=X.base) I.ok.mod.kin M.kp (thn (ha pos pZ { s with toks:=s.toks+1 } σ H _ (I.tok _) h) λus s2 ⟨vs,H2,I2,r,q2⟩=>⟨I2.kIn,?_⟩) hst hpl;exact pV F hr hb hd hx I2 r q2
open PySem PySem.Spec PyProof.Rows L2 PySem.W
section
variable{K:Fg}{O O':Addr->Prop}{H:Hp}{r:En}{σ:St}{i:Nat}
theorem R.plain(no:NoOwn r)(len:r.length=σ.length)(ol:jN O H)(val:∀(i:Nat) (d:D),r[i]?=some (.v d)->∃v,σ[i]?=some (some v)/\Is K O H d v):R K O H r σ:=by
 have ow:Ow O r σ=O:=funext λb=>propext no.ow
 refine⟨len,λi d e=>by rw[ow];exact val i d e,λi l e=>?_,λi j b l m e1 e2 _ _=>?_,ol,λi l b e _=>?_,λi l b e _=>?_,λi _ ks l e=>?_⟩
 ·have:=no i;rw[jA e] at this;cases this
 ·have:=no i;rw[e1] at this;cases this
 ·exfalso
  have:=no i
  rcases e with e|e|⟨ks,e⟩<;>rw[e] at this<;>cases this
 ·have:=no i;rw[(u5 e).choose_spec] at this;cases this
 ·have:=no i;rw[e] at this;cases this
theorem R.valO(h:R K O H r σ)(no:NoOwn r){d:D}(e:r[i]?=some (.v d)):∃v,σ[i]?=some (some v)/\Is K O H d v:=by
 obtain⟨v,e1,q⟩:=h.val i d e;rw[show Ow O r σ=O from funext λb=>propext no.ow] at q;exact⟨v,e1,q⟩
theorem Kp.plain(s:Same H H')(no:NoOwn r)(no':NoOwn r'):Kp H r σ H' r' σ':=by
 have k:=Kp.of_same r σ s;refine⟨k.keep,k.live,k.lst,λb z=>absurd z (no'.at λ_ _ e=>e),λb z=>absurd z (no'.at λx l e=>by cases x<;>first|exact e|cases e),λi l e=>?_,λi l e=>?_⟩
 ·have:=no i;rw[(u5 e).choose_spec] at this;cases this
 ·have:=no i;rw[e] at this;cases this
noncomputable def zBZ(r:En):Bool:=r.all λs=>s.own.isNone
theorem b7(h:zBZ r=true):NoOwn r:=λi=>by
 cases e:r[i]? with
 |none=>rfl
 |some x=>
  have:=on.mp h x (lu e)
  show x.own=none;exact Option.isNone_iff_eq_none.mp this
end
def Ox(O:Addr->Prop)(x w c:Addr):Addr->Prop:=λb=>O b\/b=x\/b=w\/b=c
noncomputable def zPN(K:Fg)(C:Addr):Sp:=λvs H Q _=>∃x dx m,vs=[.ref x,.int m]/\H x=some (.ins C dx []) /\
 ∀w c H',w≠c->H w=none->H c=none->H' x=some (.ins C dx [("most",.int m),("steps",.int 0),("waiting",.ref w),("come",.ref c),("ended",.non)])->H' w=some (.lst [])->H' c=some (.lst [])->(∀b o,H b=some o->b≠x->H' b=some o)->Q .non H'
noncomputable def zPO(K:Fg)(C:Addr)(dd:D->Option D):Sp:=λvs H Q _=>∃O x dx pd pv m d,vs=[.ref x,pv,.int m]/\H x=some (.ins C dx [])/\jN O H/\¬O x/\Is K (Ox O x x x) H pd pv/\dd pd=some d /\
 ∀w c vd H',w≠c->H w=none->H c=none->H' x=some (.ins C dx (mfs m 0 w c .non vd))->H' w=some (.lst [])->H' c=some (.lst [])->(∀b o,H b=some o->b≠x->H' b=some o)->jN (Ox O x w c) H'->Is K (Ox O x w c) H' d vd->Q .non H'
section
variable{K:Fg}
theorem zA5(hN:N.length=2)(cl:Cls K C)(n1:NoAttr K C "most")(n2:NoAttr K C "steps")(n3:NoAttr K C "waiting")(n4:NoAttr K C "come")(n5:NoAttr K C "ended")(h:zPN K C vs H Q E):zMC (zJ7 K (kN 0) (kN 1) "most") (zMC (zJ7 K (kN 0) (λ_ H Q=>Q (.int 0) H) "steps") (zMC (zJ7 K (kN 0) (zPL zET) "waiting") (zMC (zJ7 K (kN 0) (zPL zET) "come") (zJ7 K (kN 0) (λ_ H Q=>Q .non H) "ended")))) { nx:=λ_ H'=>Q .non H',rt:=Q } (L2.start N vs) H:=by
 obtain⟨x,dx,m,rfl,hx,q⟩:=h;have s0:(L2.start N [.ref x,.int m])[0]?=some (some (.ref x)):=rfl;have s1:(L2.start N [.ref x,.int m])[1]?=some (some (.int m)):=rfl;refine⟨.int m,s1,.ref x,s0,x,C,dx,[],rfl,hx,cl,n1,by decide,?_⟩;refine⟨.ref x,s0,x,C,dx,_,rfl,zQ,cl,n2,by show 1<1000;decide,?_⟩;refine⟨ck _,λw hw=>⟨.ref x,s0,x,C,dx,[("most",.int m),("steps",.int 0)],rfl,?_,cl,n3,by show 2<1000;decide,?_⟩⟩
 ·rw[zN (λz=>by rw[<-z,zQ] at hw;cases hw),zQ];rfl
 have xw:x≠w:=λz=>by rw[<-z,zQ] at hw;cases hw
 refine⟨ck _,λc hc=>⟨.ref x,s0,x,C,dx,[("most",.int m),("steps",.int 0),("waiting",.ref w)],rfl,?_,cl,n4,by show 3<1000;decide,?_⟩⟩
 ·rw[zN (λz=>by rw[<-z,zQ] at hc;cases hc),zQ];rfl
 have xc:x≠c:=λz=>by rw[<-z,zQ] at hc;cases hc
 refine⟨.ref x,s0,x,C,dx,[("most",.int m),("steps",.int 0),("waiting",.ref w),("come",.ref c)],rfl,zQ,cl,n5,by show 4<1000;decide,?_⟩;rw[zN xw.symm,zN xw.symm] at hw;rw[zN xc.symm] at hc;have wc:w≠c:=λz=>by rw[z,zQ] at hc;cases hc
 rw[zN wc.symm,zN xc.symm,zN xc.symm] at hc;refine q w c _ wc hw hc zQ ?_ ?_ λb o e hb=>?_
 ·rw[zN xw.symm,zN xw.symm,zN wc,zN xw.symm,zQ]
 ·rw[zN xc.symm,zN xc.symm,zQ]
 ·have h1:b≠w:=λz=>by rw[z,hw] at e;cases e
  have h2:b≠c:=λz=>by rw[z,hc] at e;cases e
  rw[zN hb,zN hb,zN h2,zN hb,zN h1,zN hb,zN hb];exact e
end
open PySem PySem.Spec PyProof.Rows L2 PySem.W
section
variable{K:Fg}
theorem zJA(ol:jN O H)(nx:¬O x)(e1:H1 x=some o1)(e2:H1 w=some o2)(e3:H1 c=some o3)(m1:Mb o1)(m2:Mb o2)(m3:Mb o3)(k:∀b o,H b=some o->b≠x->H1 b=some o):jN (Ox O x w c) H1:=λb z=>by
 rcases z with z|z|z|z
 ·obtain⟨o,e,mb⟩:=ol b z;exact⟨o,k b o e (λq=>nx (q ▸ z)),mb⟩
 ·subst z;exact⟨o1,e1,m1⟩
 ·subst z;exact⟨o2,e2,m2⟩
 ·subst z;exact⟨o3,e3,m3⟩
theorem zBC{dd:D->Option D}(hN:N.length=3)(cl:Cls K C)(n6:NoAttr K C "defs")(hdd:∀pd d,dd pd=some d->∀m,fd' [.un,.v pd,.v (.int m)]=some d)(h:zPO K C dd vs H Q E):zMC (zME (zI3 (zPN K C) [] E0 (mQ (kN 0) (mQ (kN 2) zET)))) (zJ7 K (kN 0) (lE K fd') "defs") { nx:=λ_ H'=>Q .non H',rt:=Q } (L2.start N vs) H:=by
 obtain⟨O,x,dx,pd,pv,m,d,rfl,hx,ol,nx,ip,ed,q⟩:=h;have s0:(L2.start N [.ref x,pv,.int m])[0]?=some (some (.ref x)):=rfl;have s2:(L2.start N [.ref x,pv,.int m])[2]?=some (some (.int m)):=rfl;refine⟨.ref x,s0,.int m,s2,x,dx,m,rfl,hx,λw c H1 wc hw hc e1 e2 e3 k=>?_⟩;have ol0:jN (Ox O x x x) H:=zJA ol nx hx hx hx trivial trivial trivial λb o e _=>e
 have ol1:jN (Ox O x w c) H1:=zJA ol nx e1 e2 e3 trivial trivial trivial k;have ip1:Is K (Ox O x w c) H1 pd pv:=Is.mono (λb o e n=>k b o e λz=>n (.inr (.inl z))) ol0 (λb z nn=>by
  rcases z with z|z|z|z
  ·exact .inl z
  ·exact .inr (.inl z)
  ·exact absurd (z ▸ hw) nn
  ·exact absurd (z ▸ hc) nn) _ _ ip
 have hs:L2.start N [.ref x,pv,.int m]=[some (.ref x),some pv,some (.int m)]:=by
  unfold L2.start;rw[hN];rfl
 have no:NoOwn [.un,.v pd,.v (.int m)]:=b7 rfl;have rr:R K (Ox O x w c) H1 [.un,.v pd,.v (.int m)] (L2.start N [.ref x,pv,.int m]):=by
  rw[hs];refine R.plain no rfl ol1 λi d' e=>?_
  match i,e with
  |0,e=>cases e
  |1,e=>cases e;exact⟨pv,rfl,ip1⟩
  |2,e=>cases e;exact⟨.int m,rfl,by rw[Is.int_iff]⟩
  |i+3,e=>simp at e
 refine⟨_,_,d,rr,hdd pd d ed m,λv H2 s iv=>?_⟩;rw[show Ow (Ox O x w c) [.un,.v pd,.v (.int m)] (L2.start N [.ref x,pv,.int m])=Ox O x w c from funext λb=>propext no.ow] at iv;refine⟨.ref x,s0,x,C,dx,_,rfl,s _ _ e1,cl,n6,by show 5<1000;decide,?_⟩;have xw:w≠x:=λz=>by rw[z,hx] at hw;cases hw
 have xc:c≠x:=λz=>by rw[z,hx] at hc;cases hc
 have kx:∀b o,H2 b=some o->b≠x->upd H2 x (.ins C dx (mfs m 0 w c .non v)) b=some o:=λb o e hb=>by rw[zN hb];exact e
 refine q w c v _ wc hw hc zQ (kx _ _ (s _ _ e2) xw) (kx _ _ (s _ _ e3) xc) (λb o e hb=>kx _ _ (s _ _ (k b o e hb)) hb) ?_ ?_
 ·exact zJA ol nx zQ (kx _ _ (s _ _ e2) xw) (kx _ _ (s _ _ e3) xc) trivial trivial trivial λb o e hb=>kx _ _ (s _ _ (k b o e hb)) hb
 ·exact Is.mono (λb o e n=>kx b o e λz=>n (.inr (.inl z))) (λb z=>by obtain⟨o,e,mb⟩:=ol1 b z;exact⟨o,s _ _ e,mb⟩) (λ_ z _=>z) _ _ iv
end
noncomputable def zPX:Option Sl->Bool
 |some .un=>true
 |_=>false
theorem zHA(h:zPX s=true):s=some .un:=by
 unfold zPX at h;split at h<;>first|rfl|cases h
noncomputable def zN7(i:Nat)(fp fm:ME)(dd:D->Option D)(g:MEs):MS:=λr=>if zBZ r=true/\zPX r[i]?=true then (fp r).bind λpd=>(fm r).bind λmd=>match md with
 |.int m=>(dd pd).bind λd=>(g ⟨m,0,[],[],.non,d⟩ r).bind λfl=>(match fl with
  |.rt d _ r'=>if zBZ r'=true then some (.rt d r') else none
  |_=>none)
 |_=>none else none
section
variable{dd:D->Option D}{rest:List Stmt}
theorem zLZ(i:Nat)(M:Mk X.K C f)(F:FnOk X.prog X.w X.K X.mg X.base CX0 k f fd ps (zPO X.K C dd))(hr:Room (k+1) X.A)(hg:Gl X x)(hm:X.mg x=some (.ref C))(hb:Binds X.K fd ps [])(ha:DE X a fp)(hb':DE X b fm)(hrest:zDY X C i rest g)(hN:X.N.Nodup)(hi:X.N[i]?=some nm:=by rfl)(hx:Loc X.env.scope nm:=by first|exact Or.inl rfl|exact Or.inr rfl)(hs:gy (.Call (.Name x p) [a,b] [] p') (some (.Name nm pos')) pos.line X.env=pure false:=by rfl)(hf:X.fn nm=true\/X.env.scope.names.lookup nm=some .local:=by first|exact .inl rfl|exact .inr rfl)(hdb:(x == ("__debug__" : Str))=false:=by decide)(he:ae [a,b] X.env=(false,eval a X.env)::ae [b] X.env:=by rfl)(he2:ae [b] X.env=(false,eval b X.env)::ae [] X.env:=by rfl)(hpl:(dl p' (ae [b] X.env)).any (·.1)=false:=by rfl):DSs X (.Assign [.Name nm pos'] (.Call (.Name x p) [a,b] [] p') pos::rest) (zN7 i fp fm dd g):=by
 refine PSs.conseq (jE (nA hN hi hx (zFW (dvs:=[]) (E:=E0) M F hr hg hm hb .nil dC (yC ha (yC hb' xF he2) he) hdb he hpl) hs hf) hrest) λDn σ H hq=>?_
 obtain⟨O,r,fl,hR,e,q⟩:=hq;unfold zN7 at e;split at e
 case isFalse=>cases e
 rename_i hno;obtain⟨hno,hun⟩:=hno;have hun:=zHA hun;have no:=b7 hno;have ow:Ow O r σ=O:=funext λb=>propext no.ow
 obtain⟨pd,e1,e⟩:=bnS e;obtain⟨md,e2,e⟩:=bnS e;cases md<;>first|(cases e;done)|skip
 rename_i m;obtain⟨d,e3,e⟩:=bnS e;obtain⟨fl1,e4,e⟩:=bnS e;cases fl1 with
 |nx st' r'=>cases e
 |rt d' st' r'=>
  dsimp only at e;split at e
  case isFalse=>cases e
  rename_i hno';cases e;have no':=b7 hno';refine⟨O,r,pd,hR,e1,λpv H1 s1 ip=>⟨O,r,.int m,hR.same s1,e2,λmv H2 s2 im=>?_⟩⟩;rw[ow] at ip im;rw[Is.int_iff] at im;subst im;intro y dx ny ndx hne;have R2:=(hR.same s1).same s2;have s3:Same H2 (upd (upd H2 dx (.own y)) y (.ins C dx [])):=λb o e=>by
   rw[zN (λz=>by rw[z,ny] at e;cases e),zN (λz=>by rw[z,ndx] at e;cases e)];exact e
  have nOy:¬O y:=λz=>by obtain⟨o,e,_⟩:=R2.o0 y z;rw[ny] at e;cases e
  have ip3:Is X.K (Ox O y y y) (upd (upd H2 dx (.own y)) y (.ins C dx [])) pd pv:=Is.mono (O:=O) (H:=H2) (λb o e _=>s3 _ _ e) R2.o0 (λb z nn=>by
   rcases z with z|z|z|z
   ·exact z
   all_goals exact absurd (z ▸ ny) nn) _ _ (Is.mono (O:=O) (λb o e _=>s2 _ _ e) (hR.same s1).o0 (λ_ z _=>z) _ _ ip)
  refine⟨O,y,dx,pd,pv,m,d,rfl,zQ,λb z=>by obtain⟨o,e,mb⟩:=R2.o0 b z;exact⟨o,s3 _ _ e,mb⟩,nOy,ip3,e3,λw c vd H4 wc hw hc f1 f2 f3 k4 ol4 iv=>⟨rfl,?_⟩⟩;have sA:Same H H4:=λb o e=>k4 b o (s3 _ _ (s2 _ _ (s1 _ _ e))) λz=>by have:=s2 _ _ (s1 _ _ e);rw[z,ny] at this;cases this
  have hyi:(σ.set i (some (.ref y)))[i]?=some (some (.ref y)):=by
   have hi':i<σ.length:=by
    rw[<-hR.len];obtain⟨z,_⟩:=ar.mp hun;exact z
   exact zI hi'
  have R4:R X.K (Ox O y w c) H4 r (σ.set i (some (.ref y))):=by
   refine R.plain no (by rw[sk];exact hR.len) ol4 λj d' e=>?_
   have hj:i≠j:=λz=>by rw[<-z,hun] at e;cases e
   obtain⟨v,e5,q5⟩:=hR.valO no e;refine⟨v,by rw[ic hj];exact e5,Is.mono (O:=O) (H:=H) (λb o e _=>sA _ _ e) hR.o0 (λb z nn=>?_) _ _ q5⟩;rcases z with z|z|z|z
   ·exact z
   ·exact absurd (s1.free (s2.free (z ▸ ny))) nn
   ·exact absurd (s1.free (s2.free (s3.free (z ▸ hw)))) nn
   ·exact absurd (s1.free (s2.free (s3.free (z ▸ hc)))) nn
  have ms:Mch X.K (Ox O y w c) H4 C y w c ⟨m,0,[],[],.non,d⟩:=⟨⟨dx,[],[],.non,vd,f1,f2,f3,by rw[Is.non_iff],iv,.nil,.nil⟩,wc,.inr (.inl rfl),.inr (.inr (.inl rfl)),.inr (.inr (.inr rfl))⟩;refine⟨Ox O y w c,y,w,c,_,r,_,⟨ms,R4,no,hyi⟩,e4,λv σ' H' m' iv' k'=>?_⟩;have sB:Same H H':=λb o e=>by
   have hb:=s2 _ _ (s1 _ _ e);have hb3:=s3 _ _ hb;refine k' b o (sA _ _ e) (λz=>?_) (λz=>?_) (λz=>?_)
   ·rw[z,ny] at hb;cases hb
   ·rw[z,hw] at hb3;cases hb3
   ·rw[z,hc] at hb3;cases hb3
  have olB:jN O H':=λb z=>by obtain⟨o,e,mb⟩:=hR.o0 b z;exact⟨o,sB _ _ e,mb⟩
  have dn:∀{d:D} {v:V},Is X.K (Ox O y w c) H' d v->Is X.K O H' d v:=λiv=>Is.mono (λb o e _=>e) m'.ol (λ_ z _=>.inl z) _ _ iv
  refine q v σ' H' (R.plain no' m'.rr.len olB λj d' e=>?_) (Kp.plain sB no no') (dn iv');obtain⟨u,e5,q5⟩:=m'.rr.valO no' e;exact⟨u,e5,dn q5⟩
end
open PySem PySem.Spec PyProof.Rows L2 PySem.W
section
variable{X:Cx}{C:Addr}{z:Nat}{a b e:Expr}{es:List Expr}{m:MEf}{ms:MEa}{f g:ME}{x y:Str}{p pos apos npos:Pos}{k n:Nat}{fa:Addr}{fd:FuncData}{ps:List Str}{sts:List Stmt}
theorem McR.ows{O:Addr->Prop}{H:Hp}{a w c:Addr}{st:Mst}{r:En}{σ:St}(mr:McR X.K O H C z a w c st r σ):Ow O r σ=O:=funext λb=>propext mr.no.ow
theorem zGJ{x1}(h:DMa X C z es ms):DMe X C z (.Tuple es x1 pos) (λst r=>(ms st r).bind λp=>if p.1.length<=af then some (.tup p.1,p.2) else none):=by
 refine PE.conseq (zFS h) λσ H Q hq=>?_
 obtain⟨O,a,w,c,st,r,d,st',mr,e1,q⟩:=hq;obtain⟨⟨l,st1⟩,e2,e3⟩:=bnS e1;dsimp only at e3;split at e3
 case isFalse=>cases e3
 rename_i hl;cases e3;refine⟨O,a,w,c,st,r,l,_,mr,e2,λvs H1 m1 il k1=>⟨by rw[<-il.length];exact hl,λt ht=>?_⟩⟩;have s2:=yA (o:=.tup vs) ht;refine q _ _ (m1.same s2) ?_ (k1.trans (KeepM.same s2));rw[Is.tup_iff];exact⟨t,vs,rfl,SqT.of zQ,il.same s2 m1.ol⟩
theorem zMX(ha:DMe X C z a m)(hb:DE X b g)(hs:bJ b:=by intro _ _;rfl):DMe X C z (.Subscript a b pos) (λst r=>(m st r).bind λp=>(g r).bind λk=>(ixD p.1 k).map λd=>(d,p.2)):=by
 refine PE.conseq (zFX zG4 ha hb hs) λσ H Q hq=>?_
 obtain⟨O,a,w,c,st,r,d,st',mr,e1,q⟩:=hq;obtain⟨⟨d1,st1⟩,e2,e3⟩:=bnS e1;obtain⟨kd,e4,e5⟩:=bnS e3;obtain⟨d2,e6,e7⟩:=mpS e5;cases e7;refine⟨O,a,w,c,st,r,d1,st1,mr,e2,λv H1 m1 iv k1=>⟨O,r,kd,m1.rr,e4,λu H2 s2 iu=>?_⟩⟩;have m2:=m1.same s2;rw[m1.ows] at iu;exact zMS O H2 _ _ _ _ _ _ m2.ol (iv.same s2 m1.ol) iu e6 λv' H3 s3 iv'=>q v' H3 (m2.same s3) iv' ((k1.trans (KeepM.same s2)).trans (KeepM.same s3))
theorem zB2{mf:MF}(F:FnOk X.prog X.w X.K X.mg X.base CX0 k fa fd ps (spD X.K n mf))(hr:Room k X.A)(hg:Gl X x)(hm:X.mg x=some (.ref fa))(hk:PySem.W.keepIn X.K (.ref fa)=true)(hb:Binds X.K fd ps [])(ha:DMa X C z (e::es) ms)(hdb:(x == ("__debug__" : Str))=false:=by decide)(he:ae (e::es) X.env=(false,eval e X.env)::ae es X.env:=by rfl)(hpl:(dl pos (ae es X.env)).any (·.1)=false:=by rfl):DMe X C z (.Call (.Name x p) (e::es) [] pos) (λst r=>(ms st r).bind λp=>if p.1.length=n then (mf (p.1.map .v)).bind λq=>(match q.1 with | .v d=>some (d,p.2)|_=>none) else none):=by
 refine PE.conseq (v6 (E:=λ_ _ _=>False) (dvs:=[]) F hr hg hm hk hb .nil dC ha hdb he hpl) λσ H Q hq=>?_
 obtain⟨O,a,w,c,st,r,d,st',mr,e1,q⟩:=hq;obtain⟨⟨ds,st1⟩,e2,e3⟩:=bnS e1;dsimp only at e3;split at e3
 case isFalse=>cases e3
 rename_i hl;obtain⟨⟨rs,as'⟩,e4,e5⟩:=bnS e3;cases rs<;>first|(cases e5;done)|skip
 cases e5;refine⟨O,a,w,c,st,r,ds,_,mr,e2,λvs H1 m1 il k1=>?_⟩;refine c5 m1.rr (Same.refl H1) (by rw[m1.ows];exact il) hl e4 ?_;intro v H2 pf iv;rw[m1.ows] at iv;exact q v H2 (m1.same pf.same) iv (k1.trans (KeepM.same pf.same))
noncomputable def XA(g:ME):MEf:=λst r=>(g r).bind λkd=>(zM1 kd).bind λk=>match st.defs with
 |.dct ks l=>(yW ks l k).map λd=>(d,st)
 |_=>none
theorem JC(hu:X.A.units+1<cLine)(hv:PE X (.Name x npos) (kN z))(cl:Cls X.K C)(na:NoAttr X.K C "defs")(hk:DE X b g)(hs:zPH b:=by intro _ _;rfl)(hb:bt (.Name x npos) "defs" X.env (eval (.Name x npos) X.env)=eval (.Name x npos) X.env:=by rfl):DMe X C z (.Subscript (.Attribute (.Name x npos) "defs" apos) b pos) (XA g):=by
 refine PE.conseq (Q7 hu (bZ hv hb) hk hs) λσ H Q hq=>?_
 obtain⟨O,a,w,c,st,r,d,st',mr,e1,q⟩:=hq;obtain⟨kd,e2,e3⟩:=bnS e1;obtain⟨j,e4,e5⟩:=bnS e3;obtain⟨dx,xs,ys,ve,vd,g1,g2,g3,g4,g5,g6,g7⟩:=mr.ms.ex;split at e5
 case h_2=>cases e5
 rename_i ks l ed;obtain⟨d',e6,e7⟩:=mpS e5;cases e7;refine⟨.ref a,qM mr,a,C,dx,_,vd,rfl,g1,cl,na,rfl,O,r,kd,mr.rr,e2,λy H2 s2 iy=>?_⟩;have m2:=mr.same s2;have g5':=g5.same s2 mr.ol;rw[ed,Is.dct_iff] at g5';obtain⟨c',kvs,rfl,no,rd,rfl,il⟩:=g5';rw[mr.ows] at iy;rcases uU j il with⟨dd,v,p1,p2,p3⟩|⟨p1,p2⟩
 ·rw[p1] at e6;cases e6;exact⟨c',v,rfl,.inl ⟨kvs,j,rd,nW e4 iy,p2.symm⟩,q v H2 m2 p3 (KeepM.same s2)⟩
 ·rw[p1] at e6;cases e6
theorem uS:zDY X C z sts (λ_ _=>none):=λpZ s σ H Dn I h=>by
 obtain⟨O,a,w,c,st,r,fl,mr,e,q⟩:=h;cases e
end
section
variable{K:Fg}
theorem xK(F:FnOk P w K mg base CX0 k f fd ps (spM K C n m))(i:∀st ds p,ds.length=n->m' st ds=some p->m st ds=some p):FnOk P w K mg base CX0 k f fd ps (spM K C n m'):=F.imp λvs H Q E h=>by
 obtain⟨O,a,w,c,st,ds,us,d,st',e1,e2,e3,e4,e5,e6,q⟩:=h;exact⟨O,a,w,c,st,ds,us,d,st',e1,e2,e3,e4,e5,i _ _ _ e2 e6,q⟩
end
open PySem PySem.Spec PyProof.Rows L2 PySem.W
namespace RP
theorem boot_repr:bootBuiltins "repr" = some (.builtin "repr"):=by decide +kernel
end RP
noncomputable def mY(l:List D):Bool:=zF7 l && (toP (.lst l)).showable && !(toP (.lst l)).hasDict && decide ((toP (.lst l)).depth<=150) && decide ((toP (.lst l)).shown.length<=af)
noncomputable def mZ(l:List D):D:=.str (toP (.lst l)).shown.cps.toList
noncomputable def nM(fl:ML):ME:=λr=>(fl r).bind λl=>if mY l=true then some (mZ l) else none
theorem QC(hr:Room k X.A):CallR X (.builtin "repr") (λxs H Q=>∃O l p ys,xs=[.ref p]/\SqL X.K H p ys/\IsL X.K O H l ys/\mY l=true/\Q (.str (toP (.lst l)).shown) H):=by
 intro pZ s σ H xs us Q I r h;obtain⟨O,l,p,ys,rfl,hl,il,ok,q⟩:=h;obtain⟨u,rfl,rx⟩:=rZ r;cases rx;unfold mY at ok;simp only[bw,decide_eq_true_eq,Bool.not_eq_true'] at ok;obtain⟨⟨⟨⟨o1,o2⟩,o3⟩,o4⟩,o5⟩:=ok;obtain⟨its,rv,⟨ob,n,e,c,_,dt⟩,_⟩:=I.list hl;obtain⟨as,qa⟩:=vZ I l ys its o1 il rv;have rd:Reads s.heap (.ref p) (toP (.lst l)) (p::as):=by
  have:=Reads.list e c dt (by simpa using qa)
  unfold toP;exact this
 have:=hr.un
 exact repr_of_reads' rd o2 (PyData.noDict_hsm o3) hr.gd (by omega) (λ_ _ e=>e) (λh' u tk kp=>⟨.str _,H,I.kept (t':=tk) kp,⟨u,rfl⟩,q⟩) o5
theorem J5(hr:Room k X.A)(hg:Gl X "repr")(hm:X.mg "repr" = none)(ha:DB X a fl)(he:ae [a] X.env=(false,eval a X.env)::ae [] X.env:=by rfl)(hpl:(dl pos (ae [] X.env)).any (·.1)=false:=by rfl):DE X (.Call (.Name "repr" p') [a] [] pos) (nM fl):=by
 refine PE.conseq (j5 (QC hr) hg hm RP.boot_repr (yC ha xF he) (he:=he) (hpl:=hpl)) λσ H Q hq=>?_
 obtain⟨O0,r,d,hR,e,q⟩:=hq;obtain⟨l,e1,e2⟩:=bnS e;split at e2
 case isFalse=>cases e2
 rename_i ok;cases e2;refine⟨O0,r,l,hR,e1,λp xs H1 s1 sq il=>⟨_,l,p,xs,rfl,sq,il,ok,q _ H1 s1 ?_⟩⟩;unfold mZ;rw[Is.str_iff]
noncomputable def QZ(i:Nat)(f:ME):MS:=λr=>match r[i]? with
 |some (.v (.int a))=>(f r).bind λd=>match d with
  |.int b=>(yV i (.int (a+b)) r).map .nx
  |_=>none
 |_=>none
theorem zH3(i:Nat)(he:DE X e f)(hN:X.N.Nodup)(hi:X.N[i]?=some x:=by rfl)(hx:Loc X.env.scope x:=by first|exact Or.inl rfl|exact Or.inr rfl)(hf:X.fn x=true\/X.env.scope.names.lookup x=some .local:=by first|exact .inl rfl|exact .inr rfl):DS X (.AugAssign (.Name x pos') .Add e pos) (QZ i f):=by
 refine PS.conseq (zKK hN hi hx he zLN hf) λDn σ H hq=>?_
 obtain⟨O0,r,fl',hR,e,q⟩:=hq;unfold QZ at e;split at e
 case h_2=>cases e
 rename_i a er;obtain⟨d,e1,e2⟩:=bnS e;cases d<;>first|(cases e2;done)|skip
 rename_i b;obtain⟨r',e4,rfl⟩:=mpS e2;obtain⟨hl,np,rfl⟩:=qX e4;obtain⟨v,es,iv⟩:=hR.val i _ er;rw[Is.int_iff] at iv;subst iv;refine⟨.int a,es,O0,r,.int b,hR,e1,λu H1 s1 iu=>?_⟩;rw[Is.int_iff] at iu;subst iu;refine⟨a,b,rfl,rfl,?_⟩;obtain⟨R1,k1⟩:=(hR.same s1).setv (d:=.int (a+b)) (v:=.int (a+b)) hl np (by rw[Is.int_iff]);exact q _ H1 R1 ((Kp.of_same r σ s1).trans k1)
theorem sx0(h:0<n):seqIndex? 0 n=some 0:=by
 have hb:(decide ((0:Int)<=(if (0:Int)<0 then (0:Int)+n else 0)) && decide ((if (0:Int)<0 then (0:Int)+n else 0)<(n:Int)))=true:=by
  rw[if_neg (by decide)];simp only[bw,decide_eq_true_eq];omega
 show(if (decide ((0:Int)<=(if (0:Int)<0 then (0:Int)+n else 0)) && decide ((if (0:Int)<0 then (0:Int)+n else 0)<(n:Int)))=true then some (if (0:Int)<0 then (0:Int)+n else 0).toNat else none)=some 0;rw[if_pos hb,if_neg (by decide)];rfl
noncomputable def zDH(i:Nat):En->Option (D×En):=λr=>(zGF r i).bind λl=>(l[0]?).bind λd=>(zA8 i l.tail r).map λr'=>(d,r')
theorem zHS(i:Nat)(h:PE X (.Name x pn) (kN i))(hbase:bt (.Name x pn) "pop" X.env (eval (.Name x pn) X.env)=eval (.Name x pn) X.env:=by rfl)(hline:(apos.endLine == cpos.line)=true:=by rfl)(hfew:((dl cpos (ae [.Constant (.int 0) j kpos] X.env)).all (λx=>!x.1) && (ja cpos (gh [] X.env)).all (λx=>x.1.isSome) && decide ([Expr.Constant (.int 0) j kpos].length+([]:List Keyword).length+(if ([]:List Keyword).isEmpty then 0 else 1)<30))=true:=by rfl)(hs:ae [.Constant (.int 0) j kpos] X.env=(false,eval (.Constant (.int 0) j kpos) X.env)::ae [] X.env:=by rfl):DX X (.Call (.Attribute (.Name x pn) "pop" apos) [.Constant (.int 0) j kpos] [] cpos) (zDH i):=by
 refine PE.conseq (XX cz jr jq zB0 h (yC pX xF hs) hbase hfew hline hs) λσ H Q hq=>?_
 obtain⟨O0,r,d',r',hR,e,q⟩:=hq;obtain⟨l,e2,e⟩:=bnS e;obtain⟨d,e1,e⟩:=bnS e;obtain⟨r2,e3,e4⟩:=mpS e;have e5:d=d':=congrArg Prod.fst e4;have e6:r2=r':=congrArg Prod.snd e4;subst e5 e6;obtain⟨a,xs,q1,q2,q3⟩:=WE hR e2;obtain⟨v,ev,iv⟩:=q3.get e1;have hlen:0<xs.length:=by
  obtain⟨z,_⟩:=ar.mp ev;exact z
 have il:IsL X.K (Ow O0 r σ) H l.tail xs.tail:=by
  rw[<-List.drop_one,<-List.drop_one];exact q3.drop 1
 obtain⟨R2,k2⟩:=hR.upd (xs':=xs.tail) e3 q1 q2 il;refine⟨.ref a,q1,.inl ⟨rfl,xs,SqL.of q2⟩,a,xs,0,0,v,rfl,rfl,q2,by decide,by decide,sx0 hlen,ev,?_⟩;rw[List.eraseIdx_zero];refine q _ _ R2 k2 ?_;have own_a:Ow O0 r σ a:=by
  obtain⟨y,z1,z2⟩:=bnS e2;exact .inr ⟨i,l,by rw[z1];exact uB (zGH z2).1,q1⟩
 have ow2:∀b,Ow O0 r2 σ b->H b≠none->Ow O0 r σ b:=λb z n=>z.imp id λz=>(k2.new b z).elim id λz=>absurd z n
 exact Is.mono (λb o e1 n=>by rw[zN (λz=>n (by subst z;exact own_a))];exact e1) hR.ol ow2 _ _ iv
theorem J2:DE X (.Tuple [] k pos) (mC (.tup [])):=by
 have h:DE X (.Tuple [] k pos) (yY zT):=zY zL;have e:yY zT=mC (.tup []):=by
  funext r
  show(some ([]:List D)).bind _=_;rw[aa];exact if_pos (ck _)
 rw[<-e];exact h
section
variable{K:Fg}
theorem zAU(F:FnOk P w K mg base CX0 k f fd ps (spD K n m))(i:∀as p,as.length=n->m' as=some p->m as=some p):FnOk P w K mg base CX0 k f fd ps (spD K n m'):=F.imp λvs H Q E h=>by
 obtain⟨O0,as,rs,as',e1,e2,e3,e4,e5⟩:=h;exact⟨O0,as,rs,as',e1,e2,e3,i _ _ e1 e4,e5⟩
end
open PySem PySem.Spec PyProof.Rows L2 PySem.W
noncomputable abbrev y0(f:ME):MEf:=λst r=>(f r).map λd=>(d,st)
noncomputable abbrev zAP(sel:Mst->D):MEf:=λst _=>some (sel st,st)
noncomputable abbrev zDA(f:ME):MEf:=λst r=>(f r).bind λd=>if st.wait.length<af then some (.non,zFB st d) else none
noncomputable abbrev zMB(f:ME):MEf:=λst r=>(f r).bind λd=>if st.come.length<af then some (.non,zKH st d) else none
noncomputable abbrev zEJ:MEf:=λst _=>st.wait.getLast?.map λd=>(d,{ st with wait:=st.wait.dropLast })
noncomputable abbrev zL9:MEf:=λst _=>st.come.getLast?.map λd=>(d,{ st with come:=st.come.dropLast })
noncomputable abbrev d7(mm:Mst->List D->Option (D×Mst)):MEf:=λst _=>mm st []
noncomputable abbrev zEI(fs:ML):MEa:=λst r=>(fs r).map λl=>(l,st)
noncomputable abbrev zNV(ms:MEa):MEf:=λst r=>(ms st r).bind λp=>if p.1.length<=af then some (.tup p.1,p.2) else none
noncomputable abbrev uIx(m:MEf)(g:ME):MEf:=λst r=>(m st r).bind λp=>(g r).bind λk=>(ixD p.1 k).map λd=>(d,p.2)
noncomputable abbrev zEK(n:Nat)(mf:MF)(ms:MEa):MEf:=λst r=>(ms st r).bind λp=>if p.1.length=n then (mf (p.1.map .v)).bind λq=>(match q.1 with | .v d=>some (d,p.2)|_=>none) else none
noncomputable abbrev vQ(b:MB):MEt:=λst r=>(b r).map λz=>(z,st)
noncomputable abbrev vGe:MEt:=λst _=>some (decide (st.most<=st.steps),st)
noncomputable abbrev vBl(m:MEf):MEt:=λst r=>(m st r).bind λp=>match p.1 with | .bl b=>some (b,p.2)|_=>none
noncomputable abbrev zEF:MEt:=λst _=>some (!st.wait.isEmpty,st)
noncomputable abbrev zJV(m:MEf):MEt:=λst r=>(m st r).map λp=>(nonB p.1,p.2)
noncomputable abbrev zNT(t t':MEt):MEt:=λst r=>(t st r).bind λp=>if p.1=true then t' p.2 r else some (false,p.2)
noncomputable abbrev zMA:MEs:=λst r=>some (.nx { st with steps:=st.steps+1 } r)
noncomputable abbrev pI:MEs:=λ_ _=>none
open PySem PySem.Spec PyProof.Rows L2 PySem.W
theorem zEZ(S:KdlSrc prog w T r d n P OK)(hh:A.handled=none)(ok:OK s.heap)(hn:n<64)(h:∀(h':Heap) (tk:Nat) (acc:Array Value),(∀b o,s.heap.get? b=some o->h'.get? b=some o)->ItemsOf P acc n->∃ss:List Str,StrsAre acc.toList ss/\∀(out:Array Value) (ss':List Str),StrsAre out.toList ss'->ss'.Perm ss->sortedS ss'=true ->
   Q (.ref h'.objs.size) { s with heap:=sortedHeap (h'.push (seqObj "list" acc 0)) h'.objs.size acc.toList out,toks:=tk }):wpAny (model prog w) A (call (.builtin "sorted") [.ref r]) Q E s:=by
 refine Calls.call_function_entry (kind_sorted) plain_sorted entry_sorted (args_sorted1 _) ?_;unfold Builtin.«sorted»;refine ac (m:=checkCount "sorted" 1 1 _) (ag (ac (kdu_collect S hh ok (bq (kq hn) (by decide)) λh' tk acc hk hacc=>?_)));obtain⟨ss,hS,q⟩:=h h' tk acc hk hacc;have at1:(h'.push (seqObj "list" acc.toList.toArray 0)).get? h'.objs.size=some (seqObj "list" acc.toList.toArray 0):=ba _ rfl;have hl:acc.toList.length<64:=by
  have:=hacc.1
  rw[jx];omega
 refine ac (wpAny_newList ?_ (hsz:=bq (kq hl) (by decide)));refine ac (fu (dz slot_list_sort ⟨_,at1,rfl⟩ entry_list_sort (list_sort_treeK (κ:=PyProof.Rows.strKind) strKind_oneLt at1 hS.keysOf (λv₁ v₂ rest e=>?kk) hl λst' p1 p2=>⟨_,rfl,?_⟩) (args_list_sort _)))
 case kk=>
  rw[e] at hS;exact keyKind_strs hS
 obtain⟨ss',o1,o2,o3⟩:=sorted_out_str hS p1 p2
 have:=q _ ss' o1 o2 o3
 exact ag ⟨_,rfl,by simpa using this⟩
noncomputable def tM:List Key->Option (List (List Nat))
 |[]=>some []
 |.inr s::ks=>(tM ks).map (s.cps.toList::·)
 |.inl _::_=>none
theorem tK:∀{kvs:List (Key×V)} {ss:List (List Nat)},tM (kvs.map (·.1))=some ss->(kvs.map λkv=>kV kv.1)=ss.map λs=>V.str ⟨s.toArray⟩
 |[],ss,e=>by cases e;rfl
 |(.inl i,v)::kvs,ss,e=>by cases e
 |(.inr s,v)::kvs,ss,e=>by
  obtain⟨t,e1,rfl⟩:=mpS (show(tM (kvs.map (·.1))).map (s.cps.toList::·)=some ss from e);have ih:=tK e1;rw[aq,aq,ih];show V.str s::_=V.str ⟨s.cps.toList.toArray⟩::_;rw[qu]
theorem QB(hc:X.calm=true):CallR X (.builtin "sorted") (λxs H Q=>∃p kvs ss,xs=[.ref p]/\Rd H p (.dK kvs)/\tM (kvs.map (·.1))=some ss/\ss.length<64/\∀l,H l=none->Q (.ref l) (upd H l (.lst ((kJ ss).map λs=>V.str ⟨s.toArray⟩)))):=by
 intro pZ s σ H xs us Q I r h;obtain⟨p,kvs,ss,rfl,e,ek,hl,q⟩:=h;obtain⟨u,rfl,rx⟩:=rZ r;cases rx;obtain⟨z,hd,vs,rel,dd⟩:=gY I.hok e;obtain⟨ep,da⟩:=dd.dictAt;have hlen:=KV.length rel;have hkeys:=KV.keys rel;have hk0:=tK ek;have hlk:kvs.length=ss.length:=by have:=congrArg List.length hk0;simpa using this
 refine zEZ (kdl_dict (knd:=yM X.prog X.w) (kvs:=vs) (ep:=ep) hd) (I.ok.hd hc) da (by rw[<-hlen,hlk];exact hl) λh' tk acc hk hacc=>⟨ss.map λs=>(⟨s.toArray⟩:Str),?_,λout ss' h1 h2 h3=>?_⟩
 ·have vv:Vals (kvs.map λkv=>kV kv.1) acc.toList:=by
   refine QQ (by rw[ao,hlen,<-hacc.1];simp) λj u eu=>?_
   obtain⟨k,x,ev,is⟩:=hacc.2 j u (by rw[<-gv];exact eu);refine⟨kV k,?_,zLL is⟩;have e1:(kvs.map (·.1))[j]?=some k:=by rw[hkeys,ay,ev];rfl
   rw[ay] at e1 ⊢;cases e2:kvs[j]? with
   |none=>rw[e2] at e1;cases e1
   |some kv=>rw[e2] at e1;cases e1;rfl
  rw[hk0] at vv;exact vU vv
 ·have hp:(ss'.map λs=>s.cps.toList).Perm ss:=by
   have:=h2.map λs:Str=>s.cps.toList
   simpa [jf,Function.comp_def] using this
  have he:=tO hp (pP ss' h3);have v1:=vT h1;rw[he] at v1;have at1:(h'.push (seqObj "list" acc 0)).get? h'.objs.size=some (seqObj "list" acc 0):=ba _ rfl;obtain⟨e2,hh⟩:=sortedHeap_at (vs:=acc.toList) (out:=out) at1;have old:∀b o,h'.get? b=some o->(sortedHeap (h'.push (seqObj "list" acc 0)) h'.objs.size acc.toList out).get? b=some o:=λb o e3=>by
   have lb:=am e3;rw[sortedHeap_old (be lb) (by rw[size_push'];exact Nat.lt_succ_of_lt lb)];exact ad _ e3
  have I1:Inv X pZ σ H { s with heap:=h',toks:=tk }:=I.kept hk;exact⟨.ref h'.objs.size,_,I1.laid (t':=tk) old (ah _) (show ObjOk X.prog X.w _ _ _ (.lst ((kJ ss).map λs=>V.str ⟨s.toArray⟩)) from⟨by rw[ao,j3];exact bq (kq hl) (by decide),out.toList,e2,v1,by rw[qu];exact hh⟩),rfl,q _ (I1.hok.fresh (ah _))⟩
noncomputable def kG(fd:MD):ML:=λr=>(fd r).bind λq=>(tM q.1).bind λss=>if ss.length<64 then some ((kJ ss).map .str) else none
theorem dR(hc:X.calm=true)(hg:Gl X "sorted")(hm:X.mg "sorted" = none)(ha:DDc X a fd)(hs:ae [a] X.env=(false,eval a X.env)::ae [] X.env:=by rfl):DF X (.Call (.Name "sorted" p') [a] [] pos) (kG fd):=by
 refine PE.conseq (j5 (QB hc) hg hm PyProof.Rows.boot_sorted (yC ha xF hs) (he:=hs)) λσ H Q hq=>?_
 obtain⟨O0,r,d,hR,e,q⟩:=hq;obtain⟨⟨ks,l⟩,e1,e⟩:=bnS e;obtain⟨ss,e2,e⟩:=bnS e;split at e
 ·rename_i hz;cases e;refine⟨O0,r,ks,l,hR,e1,λc kvs H1 s1 rd ek il=>⟨c,kvs,ss,rfl,rd,by rw[ek];exact e2,hz,λt ht=>q t _ _ (s1.trans (yA ht)) (s1.free ht) zQ (ZW _)⟩⟩
 ·cases e
end DD
namespace ZZ
open PySem
theorem zC6(h:s.heap.get? a=o)(q:Q o s):wpAny (model prog w) A (loadIfAlive a) Q E s:=by
 unfold loadIfAlive;unfold wpAny at *
 intros
 rw[Sem.wp_loadIfAlive,h];exact q
abbrev uL(h:Heap)(z a b T:Addr)(f:Bool):Prop:=h.get? z=some { cls:=Value.type "zip",data:=Data.fields #[rawInt T,.bool f,.bool false,.ref a,.ref b] }
theorem ZK(hz:uL s.heap z a b T f)(hT:s.heap.get? T=some o)(q:∀g,uL g z a b T true->Heap.SameBut z s.heap g->Q false { s with heap:=g }):wpAny (model prog w) A (Builtin.SmallTypes.ownedTupleIsFree (.ref z)) Q E s:=by
 unfold Builtin.SmallTypes.ownedTupleIsFree;refine ac (bu hz rfl (x:=rawInt T) rfl ?_);show wpAny _ _ (loadIfAlive (T:Int).toNat >>= _) _ _ _;rw[kz];refine ac (zC6 hT ?_);simp only[Option.isNone_some,cr,if_false];refine ac (bu hz rfl (x:=.bool f) rfl ?_);cases f
 ·show wpAny _ _ (setField (.ref z) 1 (Value.bool true) >>= _) _ _ _;refine ac (iw hz (by simp) λg z1 t1=>?_);exact ag (q g z1 t1)
 ·show wpAny _ _ (pure false) _ _ _;exact ag (q s.heap hz (rp _ _))
section
variable{R:Nat->Value->Prop}
theorem zJQ{Q:Value->Shared->Prop}(D:Draws prog w A i f n P S)(C:Draws prog w A j g m R U)(ap:Ap z a b i j f g)(hz:uL s.heap z a b T fl)(hT:s.heap.get? T=some oT)(ha:IsPair s.heap a (.ref i) (.ref j))(hS:S k s.heap)(hU:U k s.heap)(hn:k<n)(hm:k<m)(h:∀x y g' tk,P k x->R k y->uL g' z a b T true->S (k+1) g'->U (k+1) g'->IsPair g' s.heap.objs.size x y->g'.objs.size=s.heap.objs.size+1 ->
   (∀c o,c≠z->c≠i->c≠j->s.heap.get? c=some o->g'.get? c=some o)->Q (.ref s.heap.objs.size) { s with heap:=g',toks:=tk }):wpAny (model prog w) A (Builtin.«zip.__next__» ⟨[.ref z],[]⟩) (λr s'=>∃y,r=.done (.ret y)/\Q y s') E s:=by
 show wpAny _ _ (field (.ref z) 2 >>= _) _ _ _;refine ac (bu hz rfl (x:=.bool false) rfl (?_));show wpAny _ _ (field (.ref z) 3 >>= _) _ _ _;refine ac (bu hz rfl (x:=.ref a) rfl (ac (gq ha rfl (?_))));show wpAny _ _ (Builtin.SmallTypes.ownedTupleIsFree (.ref z) >>= _) _ _ _;refine ac (ZK hz hT λg1 z1 t1=>?_);simp only[cr,if_false];have keep1:∀{c:Addr} {o:Obj},c≠z->s.heap.get? c=some o->g1.get? c=some o:=λn e=>t1.extBut _ _ n e
 refine ac ?_;simp only[<-Array.forIn_toList,ma,qr];refine ac (ac (fu ?_));show wpAny _ _ (Builtin.SmallTypes.nextOf (.ref i) >>= _) _ _ _;refine ac (D.item k _ _ _ hn (D.frame _ _ _ hS λc hc o e=>keep1 (λw'=>ap.fz (w' ▸ hc)) e) λx g2 tk2 Px S2 t2=>ag (?_));refine ag ?_;refine ac (ac (fu ?_));show wpAny _ _ (Builtin.SmallTypes.nextOf (.ref j) >>= _) _ _ _;have U2:U k g2:=C.frame _ _ _ hU λc hc o e=>t2.extBut _ _ (λw'=>ap.gi (w' ▸ hc)) (keep1 (λw'=>ap.gz (w' ▸ hc)) e)
 refine ac (C.item k _ _ _ hm U2 λy g3 tk3 Ry U3 t3=>ag (?_));refine ag (ag ?_);have sz:g3.objs.size=s.heap.objs.size:=by rw[t3.1,t2.1,t1.1]
 refine ac (wpAny_newTuple ?_ (hsz:=by show 2<=af;decide));refine ag ⟨_,rfl,?_⟩;show Q (.ref g3.objs.size) _;rw[sz];have z3:uL g3 z a b T true:=t3.extBut _ _ ap.jz.symm (t2.extBut _ _ ap.iz.symm z1);have S3:S (k+1) g3:=D.frame _ _ _ S2 λc hc o e=>t3.extBut _ _ (λw'=>ap.fj (w' ▸ hc)) e
 have up:∀c o,g3.get? c=some o->(g3.push (Obj.mk (.type "tuple") none (.seq #[x,y] 0) #[])).get? c=some o:=λc o e=>ad _ e
 refine h x y _ _ Px Ry (up _ _ z3) (D.frame _ _ _ S3 λc _ o e=>up c o e) (C.frame _ _ _ U3 λc _ o e=>up c o e) ?_ ?_ λc o c1 c2 c3 e=>up c o (t3.extBut _ _ c3 (t2.extBut _ _ c2 (keep1 c1 e)))
 ·rw[<-sz];exact ba _ rfl
 ·rw[ji,sz]
theorem zNO(D:Draws prog w A i f n P S)(C:Draws prog w A j g m R U)(ap:Ap z a b i j f g)(hz:uL s.heap z a b T fl)(hT:s.heap.get? T=some oT)(ha:IsPair s.heap a (.ref i) (.ref j))(hS:S k s.heap)(hU:U k s.heap)(hk:(k=n)\/(k<n/\k=m))(h:∀g' e,(∀c o,c≠z->c≠i->c≠j->s.heap.get? c=some o->g'.get? c=some o)->(∃o,g'.get? e=some o/\o.cls=.type "StopIteration")->∀tk,E (.ref e) { s with heap:=g',toks:=tk }):wpAny (model prog w) A (PySem.Builtin.«zip.__next__» ⟨[.ref z],[]⟩) Q E s:=by
 show wpAny _ _ (field (.ref z) 2 >>= _) _ _ _;refine ac (bu hz rfl (x:=.bool false) rfl (?_));show wpAny _ _ (field (.ref z) 3 >>= _) _ _ _;refine ac (bu hz rfl (x:=.ref a) rfl (ac (gq ha rfl (?_))));show wpAny _ _ (Builtin.SmallTypes.ownedTupleIsFree (.ref z) >>= _) _ _ _;refine ac (ZK hz hT λg1 z1 t1=>?_);simp only[cr,if_false];have keep1:∀{c:Addr} {o:Obj},c≠z->s.heap.get? c=some o->g1.get? c=some o:=λn e=>t1.extBut _ _ n e
 refine ac ?_;simp only[<-Array.forIn_toList,ma,qr];refine ac (ac (fu ?_));show wpAny _ _ (Builtin.SmallTypes.nextOf (.ref i) >>= _) _ _ _;have S1:S k g1:=D.frame _ _ _ hS λc hc o e=>keep1 (λw'=>ap.fz (w' ▸ hc)) e
 rcases hk with hk|⟨hn,hk⟩
 ·subst hk;exact ac (D.done _ _ _ S1 λg2 e t2 he=>h g2 e (λc o c1 c2 c3 x=>t2 _ _ c2 (keep1 c1 x)) he _)
 ·subst hk;refine ac (D.item k _ _ _ hn S1 λx g2 tk2 Px S2 t2=>ag (?_));refine ag ?_;refine ac (ac (fu ?_));show wpAny _ _ (Builtin.SmallTypes.nextOf (.ref j) >>= _) _ _ _;have U2:U k g2:=C.frame _ _ _ hU λc hc o e=>t2.extBut _ _ (λw'=>ap.gi (w' ▸ hc)) (keep1 (λw'=>ap.gz (w' ▸ hc)) e)
  exact ac (C.done _ _ _ U2 λg3 e t3 he=>h g3 e (λc o c1 c2 c3 x=>t3 _ _ c3 (t2.extBut _ _ c2 (keep1 c1 x))) he _)
end
open PySem
section
variable{R:Nat->Value->Prop}
theorem zD2(D:Draws prog w A.in1 i f n P S)(C:Draws prog w A.in1 j g m R U)(ap:Ap z a b i j f g)(hz:uL s.heap z a b T fl)(hT:s.heap.get? T=some oT)(ha:IsPair s.heap a (.ref i) (.ref j))(hS:S k s.heap)(hU:U k s.heap)(hn:k<n)(hm:k<m)(h:∀x y g' tk,P k x->R k y->uL g' z a b T true->S (k+1) g'->U (k+1) g'->IsPair g' s.heap.objs.size x y->g'.objs.size=s.heap.objs.size+1 ->
   (∀c o,c≠z->c≠i->c≠j->s.heap.get? c=some o->g'.get? c=some o)->Q (some (.ref s.heap.objs.size)) { s with heap:=g',toks:=tk }):wpAny (model prog w) A (pyNext (.ref z)) Q E s:=by
 have hty:s.TypeIs (.ref z) "zip" := ⟨_,hz,rfl⟩;unfold pyNext;refine ac (jy (cy (name:=Str.ofString "__next__") hty jd (dz jd hty oq (?_) (nj _))));refine gx (zJQ (Q:=λv s'=>Q (some v) s') D C ap hz hT ha hS hU hn hm h) (λfin s' hq=>?_) λ_ _ x=>x
 obtain⟨v,e,hq⟩:=hq;exact⟨v,e,ag hq⟩
theorem zD3(D:Draws prog w A.in1 i f n P S)(C:Draws prog w A.in1 j g m R U)(ap:Ap z a b i j f g)(hz:uL s.heap z a b T fl)(hT:s.heap.get? T=some oT)(ha:IsPair s.heap a (.ref i) (.ref j))(hS:S k s.heap)(hU:U k s.heap)(hk:(k=n)\/(k<n/\k=m))(h:∀g' tk,(∀c o,c≠z->c≠i->c≠j->s.heap.get? c=some o->g'.get? c=some o)->Q none { s with heap:=g',toks:=tk }):wpAny (model prog w) A (pyNext (.ref z)) Q E s:=by
 have hty:s.TypeIs (.ref z) "zip" := ⟨_,hz,rfl⟩;unfold pyNext;refine ac (jy (cy (name:=Str.ofString "__next__") hty jd (dz jd hty oq (zNO D C ap hz hT ha hS hU hk λg' e kp he tk=>?_) (nj _))));obtain⟨o,ho,hc⟩:=he;refine ac (nw (T:="StopIteration") (b:=true) ⟨o,ho,hc⟩ su (?_));exact ag (h _ _ kp)
structure ZS(z a b i j L:Addr)(S U:Nat->Heap->Prop)(k:Nat)(h:Heap):Prop where
 pr:IsPair h a (.ref i) (.ref j)
 s:S k h
 u:U k h
 bl:∃o,h.get? b=some o
 st:(IsZip h z a b .none/\∃p q,IsPair h b p q)\/∃T f o,uL h z a b T f/\h.get? T=some o/\T≠z/\T≠i/\T≠j/\T≠L
theorem ZS.mono(D:Draws prog w A i f n P S)(C:Draws prog w A j g m R U)(ap:Ap z a b i j f g)(x:ZS z a b i j L S U k h)(hf:L∉f)(hg:L∉g)(ha:a≠L)(hb:b≠L)(hz:z≠L)(kp:∀c o,c≠L->h.get? c=some o->h'.get? c=some o):ZS z a b i j L S U k h':=by
 refine⟨kp _ _ ha x.pr,D.frame _ _ _ x.s λc hc o e=>kp c o (λq=>hf (q ▸ hc)) e,C.frame _ _ _ x.u λc hc o e=>kp c o (λq=>hg (q ▸ hc)) e,by obtain⟨o,e⟩:=x.bl;exact⟨o,kp _ _ hb e⟩,?_⟩;rcases x.st with⟨h1,p,q,h2⟩|⟨T,fl,o,h1,h2,h3,h4,h5,h6⟩
 ·exact .inl ⟨kp _ _ hz h1,p,q,kp _ _ hb h2⟩
 ·exact .inr ⟨T,fl,o,kp _ _ hz h1,kp _ _ h6 h2,h3,h4,h5,h6⟩
theorem zD1(D:Draws prog w A.in1 i f n P S)(C:Draws prog w A.in1 j g m R U)(ap:Ap z a b i j f g)(x:ZS z a b i j L S U k s.heap)(hL:L<s.heap.objs.size)(hn:k<n)(hm:k<m)(h:∀x y g' tk,P k x->R k y->ZS z a b i j L S U (k+1) g'->IsPair g' s.heap.objs.size x y->(∀c o,c≠z->c≠b->c≠i->c≠j->s.heap.get? c=some o->g'.get? c=some o)->Q (some (.ref s.heap.objs.size)) { s with heap:=g',toks:=tk }):wpAny (model prog w) A (pyNext (.ref z)) Q E s:=by
 have li:i<s.heap.objs.size:=by obtain⟨o,e⟩:=D.live _ _ x.s;exact am e
 have lj:j<s.heap.objs.size:=by obtain⟨o,e⟩:=C.live _ _ x.u;exact am e
 rcases x.st with⟨h1,p,q,h2⟩|⟨T,fl,o,h1,h2,h3,h4,h5,h6⟩
 ·have lz:z<s.heap.objs.size:=am h1;refine znextI D C ap h1 x.pr h2 x.s x.u hn hm λx' y' g' tk px ry z1 b1 s1 u1 p1 sz kp=>?_
  refine h x' y' g' tk px ry ⟨kp _ _ ap.az ap.ab ap.ai ap.aj x.pr,s1,u1,⟨_,b1⟩,.inr ⟨s.heap.objs.size,false,_,z1,p1,?_,?_,?_,?_⟩⟩ p1 kp
  ·exact ge lz
  ·exact ge li
  ·exact ge lj
  ·exact ge hL
 ·refine zD2 D C ap h1 h2 x.pr x.s x.u hn hm λx' y' g' tk px ry z1 s1 u1 p1 sz kp=>?_
  exact h x' y' g' tk px ry ⟨kp _ _ ap.az ap.ai ap.aj x.pr,s1,u1,by obtain⟨o,e⟩:=x.bl;exact⟨o,kp _ _ ap.bz ap.bi ap.bj e⟩,.inr ⟨T,true,o,z1,kp _ _ h3 h4 h5 h2,h3,h4,h5,h6⟩⟩ p1 λc o c1 c2 c3 c4 e=>kp c o c1 c3 c4 e
theorem zJP(D:Draws prog w A.in1 i f n P S)(C:Draws prog w A.in1 j g m R U)(ap:Ap z a b i j f g)(x:ZS z a b i j L S U k s.heap)(hk:(k=n)\/(k<n/\k=m))(h:∀g' tk,(∀c o,c≠z->c≠b->c≠i->c≠j->s.heap.get? c=some o->g'.get? c=some o)->Q none { s with heap:=g',toks:=tk }):wpAny (model prog w) A (pyNext (.ref z)) Q E s:=by
 rcases x.st with⟨h1,p,q,h2⟩|⟨T,fl,o,h1,h2,h3,h4,h5,h6⟩
 ·exact znextE D C ap h1 x.pr h2 x.s x.u hk h
 ·exact zD3 D C ap h1 h2 x.pr x.s x.u hk λg' tk kp=>h g' tk λc o c1 c2 c3 c4 e=>kp c o c1 c3 c4 e
noncomputable abbrev lO(acc:Array Value)(c:Nat):Obj:={ cls:=.type "list",data:=.seq acc c }
structure Got(h:Heap)(lo z b i j L:Addr)(P R:Nat->Value->Prop)(acc:Array Value)(k:Nat):Prop where
 sz:acc.size=k
 at_:∀t v,acc[t]?=some v->∃T x y,v=.ref T/\IsPair h T x y/\P t x/\R t y/\T≠z/\T≠b/\T≠i/\T≠j/\L<T
 inj:∀(t t':Nat) v,acc[t]?=some v->acc[t']?=some v->t=t'
theorem zL7{L:Addr}{res:Value}{Rr:Result->Shared->Prop}{s0:Shared}(D:Draws prog w A.in1.in1 i f n P S)(C:Draws prog w A.in1.in1 j g m R U)(ap:Ap z a b i j f g)(hf:L∉f)(hg:L∉g)(haL:a≠L)(hbL:b≠L)(hzL:z≠L)(hiL:i≠L)(hjL:j≠L)(hnm:n=m)(hsz:n<af)(fin:∀h' tk acc c,(∀d o,d≠z->d≠b->d≠i->d≠j->d≠L->s0.heap.get? d=some o->h'.get? d=some o)->h'.get? L=some (lO acc c)->Got h' 0 z b i j L P R acc n->Rr (.ok (.ret res)) { s0 with heap:=h',toks:=tk }):∀(r k:Nat) (h:Heap) (tk:Nat) (acc:Array Value) (c:Nat),k+r=n->ZS z a b i j L S U k h->h.get? L=some (lO acc c)->Got h 0 z b i j L P R acc k->(∀d o,d≠z->d≠b->d≠i->d≠j->d≠L->s0.heap.get? d=some o->h.get? d=some o) ->
   codeAny (model prog w) A (Code.builtin "list.extend.loop" { pos:=[.ref L,.ref z,res] }) Rr { s0 with heap:=h,toks:=tk }
 |0,k,h,tk,acc,c,hk,zs,hL,hg',kp=>by
  refine jn xj ?_;rw[ie mj _];show wpAny _ A.in1 (pyNext (.ref z) >>= _) _ _ _;refine ac (zJP D C ap zs (.inl (by omega)) λg' tk' kp'=>ag ?_);have kk:k=n:=by omega
  subst kk;refine fin g' tk' acc c (λd o d1 d2 d3 d4 d5 e=>kp' d o d1 d2 d3 d4 (kp d o d1 d2 d3 d4 d5 e)) (kp' _ _ hzL.symm hbL.symm hiL.symm hjL.symm hL) ⟨hg'.sz,λt v e=>?_,hg'.inj⟩;obtain⟨T,x,y,e1,e2,e3,e4,n1,n2,n3,n4,n5⟩:=hg'.at_ t v e;exact⟨T,x,y,e1,kp' _ _ n1 n2 n3 n4 e2,e3,e4,n1,n2,n3,n4,n5⟩
 |r+1,k,h,tk,acc,c,hk,zs,hL,hg',kp=>by
  refine jn xj ?_;rw[ie mj _];show wpAny _ A.in1 (pyNext (.ref z) >>= _) _ _ _;have lL:L<h.objs.size:=am hL;refine ac (zD1 (s:={ s0 with heap:=h,toks:=tk }) D C ap zs lL (by omega) (by omega) λx y g' tk' px ry zs' pp kp'=>?_);have hL':g'.get? L=some (lO acc c):=kp' _ _ hzL.symm hbL.symm hiL.symm hjL.symm hL;show wpAny _ A.in1 (updateSeq L (λxs=>xs.push (.ref h.objs.size)) >>= _) _ _ _;refine ac (lw hL' rfl (hz:=by rw[hg'.sz];omega) (_hz':=by rw[Array.size_push,hg'.sz];omega) ?_);have hL2:=jb (Obj.mapSeq (λxs=>xs.push (.ref h.objs.size))) hL' rfl;have kp2:∀d o,d≠L->g'.get? d=some o->(g'.update L (Obj.mapSeq (λxs=>xs.push (.ref h.objs.size)))).get? d=some o:=λd o hd e=>(lc _ _ (lr hd)).trans e
  refine ag ⟨lq mj _,?_⟩;have lz:z<h.objs.size:=by
   rcases zs.st with⟨q,_⟩|⟨_,_,_,q,_⟩
   ·exact am q
   ·exact am q
  have li:i<h.objs.size:=by obtain⟨o,e⟩:=D.live _ _ zs.s;exact am e
  have lj:j<h.objs.size:=by obtain⟨o,e⟩:=C.live _ _ zs.u;exact am e
  refine zL7 D C ap hf hg haL hbL hzL hiL hjL hnm hsz fin r (k+1) _ tk' (acc.push (.ref h.objs.size)) _ (by omega) (zs'.mono D C ap hf hg haL hbL hzL kp2) hL2 ⟨by rw[Array.size_push,hg'.sz],λt v e=>?_,λt t' v e e'=>?_⟩ (λd o d1 d2 d3 d4 d5 e=>kp2 d o d5 (kp' d o d1 d2 d3 d4 (kp d o d1 d2 d3 d4 d5 e)))
  rotate_left
  ·have old:∀t,acc[t]?=some (Value.ref h.objs.size)->False:=λt e=>by
    obtain⟨T,x,y,e1,e2,_⟩:=hg'.at_ t _ e;cases e1;exact io _ (am e2)
   rw[xk] at e e';split at e
   ·cases e;split at e'
    ·rename_i q1 q2;rw[q1,q2]
    ·exact(old _ e').elim
   ·split at e'
    ·cases e';exact(old _ e).elim
    ·exact hg'.inj t t' v e e'
  rw[xk] at e;split at e
  ·rename_i ht;cases e;subst ht;rw[hg'.sz];have lb:b<h.objs.size:=by obtain⟨o,e⟩:=zs.bl;exact am e
   exact⟨h.objs.size,x,y,rfl,kp2 _ _ (ge lL) pp,px,ry,ge lz,ge lb,ge li,ge lj,lL⟩
  ·obtain⟨T,x,y,e1,e2,e3,e4,n1,n2,n3,n4,n5⟩:=hg'.at_ t v e;exact⟨T,x,y,e1,kp2 _ _ (ge n5) (kp' _ _ n1 n2 n3 n4 e2),e3,e4,n1,n2,n3,n4,n5⟩
theorem Y3:typeLookup (.type "zip") "__len__" = pure none:=by rw[jm,gu];kernel_rfl
theorem pE:typeLookup (.type "zip") "__length_hint__" = pure none:=by rw[jm,gu];kernel_rfl
theorem zQX{L:Addr}{res:Value}{Rr:Result->Shared->Prop}(D:Draws prog w A.in1.in1 i f n P S)(C:Draws prog w A.in1.in1 j g m R U)(ap:Ap z a b i j f g)(hf:L∉f)(hg:L∉g)(haL:a≠L)(hbL:b≠L)(hzL:z≠L)(hiL:i≠L)(hjL:j≠L)(hnm:n=m)(hsz:n<af)(zs:ZS z a b i j L S U 0 s.heap)(hz0:IsZip s.heap z a b .none)(hL:s.heap.get? L=some (lO #[] 0))(fin:∀h' tk acc c,(∀d o,d≠z->d≠b->d≠i->d≠j->d≠L->s.heap.get? d=some o->h'.get? d=some o)->h'.get? L=some (lO acc c)->Got h' 0 z b i j L P R acc n->Rr (.ok (.ret res)) { s with heap:=h',toks:=tk }):wpAny (model prog w) A.in1 (Builtin.List.listExtendWith (.ref L) (.ref z) res) (λfin s'=>match fin with | .done f=>Rr (.ok f) s' | .again c'=>c'.quiet=true/\codeAny (model prog w) A c' Rr s') (λe s'=>Rr (.error e) s') s:=by
 have hty:s.TypeIs (.ref z) "zip" := ⟨_,hz0,rfl⟩;have k1:Builtin.List.listSameRef (.ref L) (.ref z)=false:=by simp[Builtin.List.listSameRef,hzL.symm]
 rw[Builtin.List.listExtendWith];refine ac (mq hty ?_);rw[if_neg (by rw[k1];decide)];refine ac (se hz0 ?_);refine ac (fu (?_));rw[Builtin.List.listLengthHint];refine ac (ii hty Y3 ?_);show wpAny _ A.in1 ((specialOf (.ref z) (Str.ofString "__length_hint__")) >>= _) _ _ _;refine ac (ii hty pE ?_);refine ag ?_;rw[if_pos (by rfl)];refine ac (my ?_);refine ac ?_;unfold Builtin.List.listTouch;refine ac (m:=updateSeq L (λx=>x.push Value.none)) (lw hL rfl ?_);have hL1:=jb (Obj.mapSeq (λx=>x.push Value.none)) hL rfl;refine lw (f:=λx=>x.pop) hL1 rfl ?_;have hL2:=jb (Obj.mapSeq (λx=>x.pop)) hL1 rfl;have els:∀b o,b≠L->s.heap.get? b=some o->((s.heap.update L (Obj.mapSeq (λx=>x.push Value.none))).update L (Obj.mapSeq (λx=>x.pop))).get? b=some o:=λb o hb e=>(lc _ _ (lr hb)).trans ((lc _ _ (lr hb)).trans e)
 refine ag ⟨lq mj _,?_⟩;exact zL7 D C ap hf hg haL hbL hzL hiL hjL hnm hsz fin n 0 _ s.toks #[] _ (pb _) (zs.mono D C ap hf hg haL hbL hzL els) hL2 ⟨rfl,(λt v e=>by simp at e),λt t' v e=>by simp at e⟩ λd o _ _ _ _ d5 e=>els d o d5 e
end
open PySem
section
variable{R:Nat->Value->Prop}
structure ZNew(z a b i j:Addr)(f g:List Addr)(S U:Nat->Heap->Prop)(h:Heap):Prop where
 zp:IsZip h z a b .none
 pr:IsPair h a (.ref i) (.ref j)
 bp:∃p q,IsPair h b p q
 s:S 0 h
 u:U 0 h
 ff:∀c∈f,c<h.objs.size
 gg:∀c∈g,c<h.objs.size
 li:i<h.objs.size
 lj:j<h.objs.size
theorem zNP(D:Draws prog w A.in1.in1 i f n P S)(C:Draws prog w A.in1.in1 j g m R U)(ap:Ap z a b i j f g)(hnm:n=m)(hsz:n<af)(zn:ZNew z a b i j f g S U s.heap)(fin:∀h' tk acc L c,s.heap.objs.size<=L->(∀d o,d≠z->d≠b->d≠i->d≠j->s.heap.get? d=some o->h'.get? d=some o)->h'.get? L=some (lO acc c)->Got h' 0 z b i j L P R acc n->Rr (.ok (.ret (.ref L))) { s with heap:=h',toks:=tk }):codeAny (model prog w) A (Code.builtin "proto.collect" { pos:=[.ref z] }) Rr s:=by
 refine jn F.entry_proto_collect ?_;rw[ie F.plain_proto_collect _];show wpAny _ A.in1 (newList [] >>= _) _ _ _;refine ac (wpAny_newList ?_);refine ag ⟨lq F.plain_list_iadd _,jn F.entry_list_iadd ?_⟩;rw[ie F.plain_list_iadd _];show wpAny _ A.in1 (Builtin.List.listExtendWith (.ref s.heap.objs.size) (.ref z) (.ref s.heap.objs.size)) _ _ _;have up:∀c o,s.heap.get? c=some o->(s.heap.push (lO #[] 0)).get? c=some o:=λc o e=>ad _ e
 have lz:z<s.heap.objs.size:=am zn.zp;have la:a<s.heap.objs.size:=am zn.pr;obtain⟨p,q,bp⟩:=zn.bp;have lb:b<s.heap.objs.size:=am bp;have zs:ZS z a b i j s.heap.objs.size S U 0 (s.heap.push (lO #[] 0)):=⟨up _ _ zn.pr,D.frame _ _ _ zn.s λc _ o e=>up c o e,C.frame _ _ _ zn.u λc _ o e=>up c o e,⟨_,up _ _ bp⟩,.inl ⟨up _ _ zn.zp,p,q,up _ _ bp⟩⟩;refine zQX (s:={ s with heap:=s.heap.push (lO #[] 0) }) D C ap (λh=>io _ (zn.ff _ h)) (λh=>io _ (zn.gg _ h)) (be la) (be lb) (be lz) (be zn.li) (be zn.lj) hnm hsz zs (up _ _ zn.zp) (ba _ rfl) λh' tk acc c kp hL got=>?_
 exact fin h' tk acc _ c (ah _) (λd o d1 d2 d3 d4 e=>kp d o d1 d2 d3 d4 (be (am e)) (up d o e)) hL got
theorem zAH(D:Draws prog w A.in1.in1 i f n P S)(C:Draws prog w A.in1.in1 j g m R U)(ap:Ap z a b i j f g)(hnm:n=m)(hsz:n<af)(zn:ZNew z a b i j f g S U s.heap)(fin:∀h' tk acc L,s.heap.objs.size<=L->L<h'.objs.size->(∀d o,d≠z->d≠b->d≠i->d≠j->s.heap.get? d=some o->h'.get? d=some o)->Got h' 0 z b i j L P R acc n->Q acc.toList { s with heap:=h',toks:=tk }):wpAny (model prog w) A (collect (.ref z)) Q E s:=by
 unfold collect;refine ac (wpAny_runValue (zNP D C ap hnm hsz zn λh' tk acc L c lo kp hL got=>?_));refine ac (wpAny_load hL ?_);exact ag (fin h' tk acc L lo (am hL) kp got)
end
abbrev SL(i l:Addr)(ys:Array Value)(k:Nat)(h:Heap):Prop:=Heap.IsListIter h i l k/\∃o,h.get? l=some o/\o.cls=.type "list" /\ ∃n,o.data=.seq ys n
theorem zAG(hsz:xs.size<af)(hnm:xs.size=ys.size)(hi:l1≠i)(hj:l2≠j)(ap:Ap z a b i j [i,l1] [j,l2]):Meets (Builtin.«tuple.__new__» ⟨[.type "tuple",.ref z],[]⟩) (λA R s=>A.handled=none/\ZNew z a b i j [i,l1] [j,l2] (SL i l1 xs) (SL j l2 ys) s.heap /\
  ∀h' tk acc L,s.heap.objs.size<=L->L<h'.objs.size->(∀d o,d≠z->d≠b->d≠i->d≠j->s.heap.get? d=some o->h'.get? d=some o)->Got h' 0 z b i j L (λk v=>xs[k]?=some v) (λk v=>ys[k]?=some v) acc xs.size->R (.ok (.ret (.ref h'.objs.size))) { s with heap:=h'.push { cls:=.type "tuple",data:=.seq acc },toks:=tk }):=
 .of_wp λprog w A R s h=>by
  obtain⟨hh,zn,fin⟩:=h;have hty:s.TypeIs (.ref z) "zip" := ⟨_,zn.zp,rfl⟩;have D:=(DD.dw_list []).dr (prog:=prog) (w:=w) (A:=A.in1.in1.in1) hh i l1 hi xs;have C:=(DD.dw_list []).dr (prog:=prog) (w:=w) (A:=A.in1.in1.in1) hh j l2 hj ys;have hsub:isSubtype (.type "tuple") (.type "tuple")=pure true:=by rw[km];kernel_rfl
  unfold Builtin.«tuple.__new__»;dsimp only;refine ac (gp (a:=true) (by first|rfl|kernel_rfl) ?_);simp only[ui,cr,if_false];refine ac (gp hsub ?_);simp only[ui,cr,if_false];rw[if_neg (by decide +kernel)];refine ac (gp (a:=()) (by first|rfl|kernel_rfl) ?_);refine ac (gp F.called_tuple.init.lookup ?_);rw[if_pos (by rfl)];refine ac (gp (a:=()) (by first|rfl|kernel_rfl) ?_);refine ac (gp (a:=()) (by first|rfl|kernel_rfl) ?_);rw[if_pos (by rfl)];refine ac ?_;unfold Builtin.Tuple.tupleIsExact;refine ac (mq hty (ag ?_));rw[if_neg (by decide)];refine ac (zAH D C ap hnm hsz zn λh' tk acc L lo lo2 kp got=>?_);refine ac (ag ?_);unfold Builtin.Tuple.tupleExact;rw[qu];refine ac (cn ?_ ?_)
  ·exact ag ⟨_,rfl,fin h' tk acc L lo lo2 kp got⟩
  ·show acc.size<=af;rw[got.sz];exact kq hsz
theorem Y2(hh:A.handled=none)(hsz:xs.size<af)(hnm:xs.size=ys.size)(hi:l1≠i)(hj:l2≠j)(ap:Ap z a b i j [i,l1] [j,l2])(zn:ZNew z a b i j [i,l1] [j,l2] (SL i l1 xs) (SL j l2 ys) s.heap)(fin:∀h' tk acc L,s.heap.objs.size<=L->L<h'.objs.size->(∀d o,d≠z->d≠b->d≠i->d≠j->s.heap.get? d=some o->h'.get? d=some o)->Got h' 0 z b i j L (λk v=>xs[k]?=some v) (λk v=>ys[k]?=some v) acc xs.size->Q (.ref h'.objs.size) { s with heap:=h'.push { cls:=.type "tuple",data:=.seq acc },toks:=tk }):wpAny (model prog w) A (call (.type "tuple") [.ref z]) Q E s:=
 callType_new F.called_tuple (by decide) (F.typeCall_tuple_1 _) (F.newCall_tuple_1 _) (λobj=>wm obj _) F.entry_tuple_new (zAG hsz hnm hi hj ap) ⟨hh,zn,λh' tk acc L lo lo2 kp got=>⟨⟨_,ba _ rfl,rfl⟩,fin h' tk acc L lo lo2 kp got⟩⟩
theorem nm2(h1:x≠u)(h2:x≠v):x∉[u,v]:=λq=>by
 rcases bh.mp q with q|q
 ·exact h1 q
 ·exact h2 (cj.mp q)
theorem lt2{x u v:Nat}{l:List Nat}(hl:l=[u,v])(h1:u<x)(h2:v<x):∀c∈l,c<x:=λc q=>by
 subst hl;rcases bh.mp q with q|q
 ·rw[q];exact h1
 ·rw[cj.mp q];exact h2
theorem zip_tuple{prog:Program}{w:World}{A:Around}{E:Value->Shared->Prop}{s:Shared}{Q:Value->Shared->Prop}(hh:A.handled=none)(h1:s.heap.IsList l1 xs)(h2:s.heap.IsList l2 ys)(hsz:xs.size<af)(hnm:xs.size=ys.size)(fin:∀(h':Heap) (tk:Nat) (acc:Array Value),s.heap.objs.size<=h'.objs.size->(∀d o,s.heap.get? d=some o->h'.get? d=some o)->acc.size=xs.size->(∀(t:Nat) v,acc[t]?=some v->∃T x y,v=.ref T/\s.heap.objs.size<=T/\IsPair h' T x y/\xs[t]?=some x/\ys[t]?=some y)->(∀(t t':Nat) v,acc[t]?=some v->acc[t']?=some v->t=t')->Q (.ref h'.objs.size) { s with heap:=h'.push { cls:=.type "tuple",data:=.seq acc },toks:=tk }):wpAny (model prog w) A (call (.type "zip") [.ref l1,.ref l2]) (λv s1=>wpAny (model prog w) A (call (.type "tuple") [v]) Q E s1) E s:=by
 have lt1:l1<s.heap.objs.size:=by obtain⟨o,ho,_⟩:=id h1;exact am ho
 have lt2:l2<s.heap.objs.size:=by obtain⟨o,ho,_⟩:=id h2;exact am ho
 refine call_zip_2 h1 h2 λh' z1 z2 z3 z4 z5 sz kp=>?_
 have e1:h'.IsList l1 xs:=h1.at λo e=>kp _ _ e
 have e2:h'.IsList l2 ys:=h2.at λo e=>kp _ _ e
 obtain⟨o1,p1,c1,n1,d1⟩:=id e1;obtain⟨o2,p2,c2,n2,d2⟩:=id e2;have L:∀(x y:Nat),x<y->(x:Addr)≠y:=λx y h=>be h
 have G:∀(x y:Nat),y<x->(x:Addr)≠y:=λx y h=>ge h
 generalize hN:s.heap.objs.size=N at *;have N1:@LT.lt Nat _ l1 N:=lt1;have N2:@LT.lt Nat _ l2 N:=lt2;refine Y2 (s:={ s with heap:=h' }) (i:=N) (j:=N+1) (a:=N+2) (b:=N+3) hh hsz hnm (L _ _ N1) (L _ _ (Nat.lt_succ_of_lt N2)) ⟨L _ _ (by omega),L _ _ (by omega),L _ _ (by omega),L _ _ (by omega),L _ _ (by omega),G _ _ (by omega),G _ _ (by omega),G _ _ (by omega),G _ _ (by omega),L _ _ (by omega),nm2 (G _ _ (by omega)) (G _ _ (by omega)),nm2 (G _ _ (by omega)) (G _ _ (by omega)),nm2 (G _ _ (by omega)) (G _ _ (by omega)),nm2 (G _ _ (by omega)) (G _ _ (by omega)),nm2 (G _ _ (by omega)) (G _ _ (by omega)),nm2 (L _ _ (by omega)) (G _ _ (by omega))⟩
  ⟨z1,z2,⟨_,_,z3⟩,⟨z4,o1,p1,c1,n1,d1⟩,⟨z5,o2,p2,c2,n2,d2⟩,ZZ.lt2 rfl (by show N<h'.objs.size;rw[sz];omega) (by show @LT.lt Nat _ l1 h'.objs.size;rw[sz];exact bb N1 (iq _ _)),ZZ.lt2 rfl (by show N+1<h'.objs.size;rw[sz];omega) (by show @LT.lt Nat _ l2 h'.objs.size;rw[sz];exact bb N2 (iq _ _)),by show N<h'.objs.size;rw[sz];omega,by show N+1<h'.objs.size;rw[sz];omega⟩ λg' tk acc L' lo lo2 kp2 got=>?_
 have lo':@LE.le Nat _ (N+5) L':=sz ▸ lo;have lo3:@LT.lt Nat _ L' g'.objs.size:=lo2;refine fin g' tk acc (by show @LE.le Nat _ N g'.objs.size;omega) (λd o e=>?_) got.sz (λt v e=>?_) got.inj
 ·have ld:@LT.lt Nat _ d N:=hN ▸ am e;exact kp2 d o (L _ _ (by omega)) (L _ _ (by omega)) (L _ _ (by omega)) (L _ _ (by omega)) (kp d o e)
 ·obtain⟨T,x,y,q1,q2,q3,q4,_,_,_,_,q5⟩:=got.at_ t v e;have q5':@LT.lt Nat _ L' T:=q5;exact⟨T,x,y,q1,by show @LE.le Nat _ N T;omega,q2,q3,q4⟩
end ZZ
namespace DD
open PySem PySem.Spec PyProof.Rows L2 PySem.W
noncomputable def JI(ps:List (Addr×HO))(H:Hp):Hp:=λb=>match ps.find? λp=>decide (p.1=b) with
 |some p=>some p.2
 |none=>H b
theorem zG2(h:JI ps H b=some o):(∃p∈ps,p.1=b/\p.2=o)\/((∀p∈ps,p.1≠b)/\H b=some o):=by
 unfold JI at h;split at h
 ·rename_i p hp;cases h;exact .inl ⟨p,tz hp,by have:=List.find?_some hp;simpa using this,rfl⟩
 ·rename_i hp;exact .inr ⟨λp hm e=>by have:=List.find?_eq_none.mp hp p hm;simp[e] at this,h⟩
theorem ZQ(h:∀p∈ps,p.1≠b):JI ps H b=H b:=by
 unfold JI;rw[List.find?_eq_none.mpr λp hp=>by simp[h p hp]]
theorem ZR:∀{ps:List (Addr×HO)} {p:Addr×HO},p∈ps->(ps.map (·.1)).Nodup->JI ps H p.1=some p.2
 |q::ps,p,h,hn=>by
  rw[aq,dg] at hn;unfold JI;rw[gm];rcases bh.mp h with rfl|h
  ·simp
  ·have ne:q.1≠p.1:=λz=>hn.1 (z ▸ fg.mpr ⟨p,h,rfl⟩)
   rw[decide_eq_false ne];exact ZR h hn.2
theorem zB9(I:Inv X pZ σ H s)(k:∀b u,s.heap.get? b=some u->h'.get? b=some u)(hn:∀p∈ps,s.heap.objs.size<=p.1)(new:∀p∈ps,ObjOk X.prog X.w (JI ps H) h' p.1 p.2):Inv X pZ σ (JI ps H) { s with heap:=h',toks:=t' }:=by
 have old:∀b,b<s.heap.objs.size->JI ps H b=H b:=λb hb=>ZQ λp hp e=>absurd (hn p hp) (by rw[e];exact Nat.not_le_of_lt hb)
 have keepH:∀b o,H b=some o->JI ps H b=some o:=λb o e=>by rw[old b (I.hok.lt e)];exact e
 refine I.un ⟨λb u q _ _ _=>k b u q,λb u q _ _ _=>⟨u.slots,k b u q⟩,λb u q n _=>by rw[old b (am q)];exact n,λb u q _=>⟨u,k b u q⟩,λb xs q=>keepH _ _ q,λb u xs q=>keepH _ _ q,λb ps' q=>⟨#[],by rw[keepH _ _ q];simp⟩⟩ λa o e=>?_
 rcases zG2 e with⟨p,hp,rfl,rfl⟩|⟨_,e⟩
 ·exact new p hp
 ·exact(I.hok a o e).stay (λc v _ q=>k c v q) (λc q=>by rw[keepH _ _ q]) (λc xs q=>keepH _ _ q) λc o u q=>keepH _ _ q
theorem WO(I:Inv X pZ σ H s)(hn:∀p∈ps,s.heap.objs.size<=p.1):Same H (JI ps H):=λb o e=>by
 rw[ZQ λp hp z=>absurd (hn p hp) (by rw[z];exact Nat.not_le_of_lt (I.hok.lt e))];exact e
theorem QN{K:Fg}:∀{l m:List D} {xs ys:List V} {Ts:List Addr},Ts.length=l.length->l.length=m.length->IsL K O H l xs->IsL K O H m ys->(∀(t:Nat) T x y,Ts[t]?=some T->xs[t]?=some x->ys[t]?=some y->SqT K H T [x,y])->IsL K O H (Y4 l m) (Ts.map V.ref)
 |[],[],xs,ys,[],_,_,_,_,_=>IsL.nil
 |d::l,e::m,xs,ys,T::Ts,h1,h2,il,im,h=>by
  unfold IsL at il im;obtain⟨x,xs,rfl,ix,il⟩:=il;obtain⟨y,ys,rfl,iy,im⟩:=im;refine IsL.cons ?_ (QN (by simpa using h1) (by simpa using h2) il im λt T x y e1 e2 e3=>h (t+1) T x y (by simpa using e1) (by simpa using e2) (by simpa using e3));rw[Is.tup_iff];exact⟨T,[x,y],rfl,h 0 T x y rfl rfl rfl,.cons ix (.cons iy .nil)⟩
 |[],_::_,_,_,_,_,h,_,_,_=>by cases h
 |_::_,[],_,_,_,_,h,_,_,_=>by cases h
 |[],[],_,_,_::_,h,_,_,_,_=>by cases h
 |_::_,_::_,_,_,[],h,_,_,_,_=>by cases h
theorem Q1:∀(acc:List Value),(∀(t:Nat) v,acc[t]?=some v->∃T,v=.ref T)->∃Ts:List Addr,acc=Ts.map Value.ref
 |[],_=>⟨[],rfl⟩
 |v::acc,h=>by
  obtain⟨T,rfl⟩:=h 0 v rfl;obtain⟨Ts,rfl⟩:=Q1 acc λt v e=>h (t+1) v (by simpa using e)
  exact⟨T::Ts,rfl⟩
theorem mN:∀(Ts:List Addr),Vals (Ts.map V.ref) (Ts.map Value.ref)
 |[]=>.nil
 |T::Ts=>.cons rfl (mN Ts)
noncomputable def zJD(f g:ME):ME:=λr=>(f r).bind λx=>(g r).bind λy=>match x,y with
 |.lst l,.lst m=>if l.length=m.length/\l.length<1000 then some (.tup (Y4 l m)) else none
 |_,_=>none
theorem v9:∀{l:List α},(∀(t t':Nat) v,l[t]?=some v->l[t']?=some v->t=t')->l.Nodup
 |[],_=>ng
 |a::l,h=>by
  rw[dg];refine⟨λz=>?_,v9 λt t' v e e'=>by have:=h (t+1) (t'+1) v (by simpa using e) (by simpa using e');omega⟩;obtain⟨t,ht⟩:=qq z
  have:=h 0 (t+1) a rfl (by simpa using ht)
  omega
theorem W5(hc:X.calm=true)(hg1:Gl X "tuple")(hm1:X.mg "tuple" = none)(hg2:Gl X "zip")(hm2:X.mg "zip" = none)(ha:DE X a f)(hb:DE X b g)(hs:ae [a,b] X.env=[(false,eval a X.env),(false,eval b X.env)]:=by rfl)(hs2:ae [b] X.env=[(false,eval b X.env)]:=by rfl)(hs3:ae [.Call (.Name "zip" p2) [a,b] [] pos2] X.env=[(false,eval (.Call (.Name "zip" p2) [a,b] [] pos2) X.env)]:=by rfl):DE X (.Call (.Name "tuple" p1) [.Call (.Name "zip" p2) [a,b] [] pos2] [] pos) (zJD f g):=by
 intro pZ s σ H Q I hq;obtain⟨O0,r,d,hR,e,q⟩:=hq;obtain⟨x,e1,e⟩:=bnS e;obtain⟨y,e2,e⟩:=bnS e;obtain⟨l,m,rfl,rfl,hlm,rfl⟩:∃l m,x=.lst l/\y=.lst m/\(l.length=m.length/\l.length<1000)/\d=.tup (Y4 l m):=by
  clear e1 e2
  revert e
  split
  ·rename_i l m;intro e;by_cases h:l.length=m.length/\l.length<1000
   ·rw[if_pos h] at e;cases e;exact⟨l,m,rfl,rfl,h,rfl⟩
   ·rw[if_neg h] at e;cases e
  ·intro e;cases e
 have hA:PA X [a,b] (mQ (lE X.K f) (mQ (lE X.K g) zET)):=yC ha (yC hb xF (by rw[hs2];rfl)) (by rw[hs,hs2]);have inner:wpAny (model X.prog X.w) X.A (eval (.Call (.Name "zip" p2) [a,b] [] pos2) X.env) (λv s1=>wpAny (model X.prog X.w) X.A (call (.type "tuple") [v]) (EP X pZ σ Q) X.xe s1) X.xe s:=by
  refine Call_ (uD I hg2 hm2 vp (dq (thn (hA pos2 pZ s σ H (z2 λx y H1=>∃u v xs ys,x=.ref u/\y=.ref v/\Same H H1/\SqL X.K H1 u xs/\SqL X.K H1 v ys/\IsL X.K (Ow O0 r σ) H1 l xs/\IsL X.K (Ow O0 r σ) H1 m ys) I ⟨O0,r,.lst l,hR,e1,λv1 H1 s1 i1=>⟨O0,r,.lst m,hR.same s1,e2,λv2 H2 s2 i2=>?_⟩⟩) λus s1 ⟨vs,H1,I1,r1,q1⟩=>?_) (by rw[hs,hs2]) (by rw[hs2];rfl)))
  ·have i1':=i1.same s2 (hR.same s1).ol;rw[Is.lst_iff] at i1' i2;obtain⟨u,xs,rfl,hx,il⟩:=i1';obtain⟨v,ys,rfl,hy,im⟩:=i2;exact⟨u,v,xs,ys,rfl,rfl,s1.trans s2,hx.sq,hy.sq,il,im⟩
  ·obtain⟨_,_,rfl,u,v,xs,ys,rfl,rfl,s1',hx,hy,il,im⟩:=zD6 q1;cases r1 with
   |cons a1 r1=>cases r1 with
    |cons a2 r1=>
     cases r1;cases a1;cases a2;obtain⟨its,rv,pl,hz⟩:=I1.list hx;obtain⟨its2,rv2,pl2,hz2⟩:=I1.list hy;have lx:=il.length;have ly:=im.length;have l1:=rv.length;have l2:=rv2.length;have big:1000<af:=by decide
     refine ZZ.zip_tuple (I.ok.hd hc) pl.isList pl2.isList (by rw[ak];omega) (by rw[ak,ak];omega) λh' tk acc sF kp sz at_ inj=>?_
     obtain⟨Ts,hTs⟩:=Q1 acc.toList λt w e=>by
      obtain⟨T,x,y,rfl,_⟩:=at_ t w (by rw[<-gv];exact e);exact⟨T,rfl⟩
     have tl:Ts.length=l.length:=by
      have:=congrArg List.length hTs
      rw[ao,jx,sz,ak] at this;omega
     have tat:∀(t:Nat) T,Ts[t]?=some T->s1.heap.objs.size<=T/\∃x y,IsPair h' T x y/\its[t]?=some x/\its2[t]?=some y:=λt T e=>by
      obtain⟨T',x,y,e1,e2,e3,e4,e5⟩:=at_ t (.ref T) (by rw[<-gv,hTs,ay,e];rfl);cases e1;exact⟨e2,x,y,e3,by simpa using e4,by simpa using e5⟩
     have tn:Ts.Nodup:=v9 λt t' T e e'=>inj t t' (.ref T) (by rw[<-gv,hTs,ay,e];rfl) (by rw[<-gv,hTs,ay,e'];rfl)
     let ps0:List (Addr×HO):=List.zip Ts (List.zipWith (λx y=>HO.tup [x,y]) xs ys)
     let Fa:Addr:=h'.objs.size
     let ps:List (Addr×HO):=ps0++[(Fa,.tup (Ts.map V.ref))]
     have p0:∀p∈ps0,∃(t:Nat) (x y:V),Ts[t]?=some p.1/\xs[t]?=some x/\ys[t]?=some y/\p.2=.tup [x,y]:=λp hp=>by
      obtain⟨t,ht⟩:=qq hp
      have:=ua.mp ht
      have q2:=this.2;rw[qk] at q2;cases ex:xs[t]? with
      |none=>rw[ex] at q2;cases q2
      |some x=>
       cases ey:ys[t]? with
       |none=>rw[ex,ey] at q2;cases q2
       |some y=>
        rw[ex,ey] at q2;exact⟨t,x,y,this.1,ex,ey,(bg q2).symm⟩
     have m0:ps0.map (·.1)=Ts:=by
      show(List.zip Ts _).map Prod.fst=Ts;rw[List.map_fst_zip];rw[List.length_zipWith];omega
     have lF:∀T∈Ts,T<h'.objs.size:=λT hT=>by
      obtain⟨t,ht⟩:=qq hT;obtain⟨_,x,y,e3,_⟩:=tat t T ht;exact am e3
     have nd:(ps.map (·.1)).Nodup:=by
      show((ps0++[(Fa,HO.tup (Ts.map V.ref))]).map (·.1)).Nodup;rw[fo,m0];refine ro.mpr ⟨tn,dg.mpr ⟨(λz=>by cases z),ng⟩,λx hx y hy=>?_⟩;rw[cj.mp hy];exact be (lF x hx)
     have hn:∀p∈ps,s1.heap.objs.size<=p.1:=λp hp=>by
      rcases cq.mp hp with z|z
      ·obtain⟨t,x,y,e1,_⟩:=p0 p z;exact(tat t _ e1).1
      ·rw[cj.mp z];exact sF
     let h2:Heap:=h'.push { cls:=.type "tuple",data:=.seq acc }
     have up:∀b o,h'.get? b=some o->h2.get? b=some o:=λb o e=>ad _ e
     have I2:Inv X pZ σ (JI ps H1) { s1 with heap:=h2,toks:=tk }:=zB9 I1 (λb o e=>up b o (kp b o e)) hn λp hp=>by
      rcases cq.mp hp with z|z
      ·obtain⟨t,x,y,e1,e2,e3,e4⟩:=p0 p z;obtain⟨_,vx,vy,i3,i4,i5⟩:=tat t _ e1;rw[e4];obtain⟨wx,q1,q2⟩:=rv.get e2;obtain⟨wy,q3,q4⟩:=rv2.get e3;rw[i4] at q1;cases q1;rw[i5] at q3;cases q3;exact⟨by show 2<=af;decide,[vx,vy],.cons q2 (.cons q4 .nil),_,up _ _ i3,rfl,_,rfl⟩
      ·rw[cj.mp z];exact⟨by rw[ao];omega,Ts.map Value.ref,mN Ts,_,ba _ rfl,rfl,_,by show Data.seq acc _=_;rw[<-hTs]⟩
     have sm:Same H1 (JI ps H1):=WO I1 hn;refine⟨.ref Fa,JI ps H1,I2,rfl,q _ _ (s1'.trans sm) ?_⟩;have ol:=(hR.same s1').ol;rw[Is.tup_iff];refine⟨Fa,Ts.map V.ref,rfl,SqT.of (ZR (p:=(Fa,HO.tup (Ts.map V.ref))) (by simp[ps]) nd),QN tl hlm.1 (il.same sm ol) (im.same sm ol) λt T x y e1 e2 e3=>SqT.of ?_⟩;have hp:(T,HO.tup [x,y])∈ps:=by
      refine qp _ (lu (i:=t) ?_);show(List.zip Ts _)[t]?=_;exact ua.mpr ⟨e1,by rw[qk,e2,e3]⟩
     exact ZR hp nd
 refine Call_ (uD I hg1 hm1 ur (dq ?_ hs3 rfl));rw[hs3];show wpAny _ _ (spliced ((false,eval (.Call (.Name "zip" p2) [a,b] [] pos2) X.env)::dl pos [])) _ _ s;exact ki (thn inner λv s1 h1=>nr h1)
noncomputable def JE(neg:Bool)(fk:ME)(fd:MD):ME:=λr=>(zGT neg fk fd r).map D.bl
theorem zIG(hk:DE X k g)(ho:DDc X o fd)(hm:dh .In o=false:=by rfl):DE X (.Compare k [.In] [o] pos) (JE false g fd):=by
 refine PE.conseq (zFZ (t:=λσ H Q=>lE X.K g σ H λy H1=>lDc X.K fd σ H1 λx H2=>∃c kvs j,x=.ref c/\Rd H2 c (.dK kvs)/\y=vO j/\Q (.bl (valO kvs j).isSome) H2) ?_ hm) λσ H Q hq=>?_
 ·intro pZ s σ H Q I h;refine thn (hk pZ s σ H _ I h) λiv s1 ⟨y,H1,I1,ry,q1⟩=>thn (ho pZ s1 σ H1 _ I1 q1) λu s2 ⟨x,H2,I2,rx,c,kvs,j,ex,rd,ey,q2⟩=>?_
  subst ex ey;obtain rfl:u=Value.ref c:=rx;exact zQI I2 rd ry λs3 I3=>⟨.bl (valO kvs j).isSome,H2,I3,rfl,q2⟩
 ·obtain⟨O0,r,t,hR,e,q⟩:=hq;obtain⟨b,e0,rfl⟩:=mpS e;clear e;obtain⟨kd,e1,e⟩:=bnS e0;obtain⟨⟨ks,l⟩,e2,e⟩:=bnS e;obtain⟨j,e3,rfl⟩:=mpS e;refine⟨O0,r,kd,hR,e1,λy H1 s1 iy=>⟨O0,r,ks,l,hR.same s1,e2,λc kvs H2 s2 rd ek il=>⟨c,kvs,j,rfl,rd,ZT e3 iy,?_⟩⟩⟩;subst ek;have q':=q (.bl (valO kvs j).isSome) H2 (s1.trans s2);rcases hZ j il with⟨dd,v,p1,p2,p3⟩|⟨p1,p2⟩
  ·rw[p1] at q';rw[p2];rw[p2] at q';exact q' rfl
  ·rw[p1] at q';rw[p2];rw[p2] at q';exact q' rfl
theorem rQ(hk:DE X k g)(ho:DDc X o fd)(hm:dh .NotIn o=false:=by rfl):DE X (.Compare k [.NotIn] [o] pos) (JE true g fd):=by
 refine PE.conseq (zFZ (t:=λσ H Q=>lE X.K g σ H λy H1=>lDc X.K fd σ H1 λx H2=>∃c kvs j,x=.ref c/\Rd H2 c (.dK kvs)/\y=vO j/\Q (.bl (!(valO kvs j).isSome)) H2) ?_ hm) λσ H Q hq=>?_
 ·intro pZ s σ H Q I h;refine thn (hk pZ s σ H _ I h) λiv s1 ⟨y,H1,I1,ry,q1⟩=>thn (ho pZ s1 σ H1 _ I1 q1) λu s2 ⟨x,H2,I2,rx,c,kvs,j,ex,rd,ey,q2⟩=>?_
  subst ex ey;obtain rfl:u=Value.ref c:=rx;exact zF9 I2 rd ry λs3 I3=>⟨.bl (!(valO kvs j).isSome),H2,I3,rfl,q2⟩
 ·obtain⟨O0,r,t,hR,e,q⟩:=hq;obtain⟨b,e0,rfl⟩:=mpS e;clear e;obtain⟨kd,e1,e⟩:=bnS e0;obtain⟨⟨ks,l⟩,e2,e⟩:=bnS e;obtain⟨j,e3,rfl⟩:=mpS e;refine⟨O0,r,kd,hR,e1,λy H1 s1 iy=>⟨O0,r,ks,l,hR.same s1,e2,λc kvs H2 s2 rd ek il=>⟨c,kvs,j,rfl,rd,ZT e3 iy,?_⟩⟩⟩;subst ek;have q':=q (.bl (!(valO kvs j).isSome)) H2 (s1.trans s2);rcases hZ j il with⟨dd,v,p1,p2,p3⟩|⟨p1,p2⟩
  ·rw[p1] at q';rw[p2];rw[p2] at q';exact q' rfl
  ·rw[p1] at q';rw[p2];rw[p2] at q';exact q' rfl
namespace MX
end MX
noncomputable def qF:List Key->List D->Key->List Key×List D
 |k'::ks,d::l,k=>if k'=k then qF ks l k else (k'::(qF ks l k).1,d::(qF ks l k).2)
 |_,_,_=>([],[])
theorem YE{K:Fg}(k:Key):∀{kvs:List (Key×V)} {l:List D},IsL K O H l (kvs.map (·.2))->(YF kvs k).map (·.1)=(qF (kvs.map (·.1)) l k).1/\IsL K O H (qF (kvs.map (·.1)) l k).2 ((YF kvs k).map (·.2))
 |[],[],_=>⟨rfl,.nil⟩
 |[],d'::l,h=>by unfold IsL at h;obtain⟨_,_,e,_⟩:=h;cases e
 |p::kvs,[],h=>by unfold IsL at h;cases h
 |p::kvs,d'::l,h=>by
  unfold IsL at h;obtain⟨x,y,e,h1,h2⟩:=h;rw[aq] at e;cases e;obtain⟨i1,i2⟩:=YE k h2;rw[aq];unfold qF YF;by_cases q:p.1=k
  ·rw[if_pos q,uv (by simp[q])];exact⟨i1,i2⟩
  ·rw[if_neg q,ut (by simp[q]),aq,aq];exact⟨congrArg _ i1,.cons h1 i2⟩
noncomputable def WH(i:Nat)(fk:ME):En->Option (D×En):=λr=>(fk r).bind λkd=>(zM1 kd).bind λk=>match r[i]? with
 |some (.d f ks l)=>(yW ks l k).map λv=>(v,r.set i (.d f (qF ks l k).1 (qF ks l k).2))
 |_=>none
theorem JV(i:Nat)(h:PE X (.Name x pn) (kN i))(hk:DE X k g)(hbase:bt (.Name x pn) "pop" X.env (eval (.Name x pn) X.env)=eval (.Name x pn) X.env:=by rfl)(hfew:((dl cpos (ae [k] X.env)).all (λx=>!x.1) && (ja cpos (gh [] X.env)).all (λx=>x.1.isSome) && decide (([k]:List Expr).length+([]:List Keyword).length+(if ([]:List Keyword).isEmpty then 0 else 1)<30))=true:=by rfl)(hline:(apos.endLine == cpos.line)=true:=by rfl)(htr:dl cpos (ae [k] X.env)=[(false,eval k X.env)]:=by rfl):DX X (.Call (.Attribute (.Name x pn) "pop" apos) [k] [] cpos) (WH i g):=by
 refine PE.conseq (zBJ h hk ⟨hbase,hfew,hline,htr⟩) λσ H Q hq=>?_
 obtain⟨O0,r,d,r',hR,e,q⟩:=hq;obtain⟨kd,e2,e⟩:=bnS e;obtain⟨key,e3,e⟩:=bnS e;cases er:r[i]? with
 |none=>rw[er] at e;cases e
 |some y=>
  rw[er] at e;cases y<;>first|(cases e;done)|skip
  rename_i fb ks l;obtain⟨v',e4,e5⟩:=mpS e;cases e5;obtain⟨b,kvs,q1,q2,q4,q3⟩:=hR.dct i fb ks l er;refine⟨.ref b,q1,b,rfl,.inl ⟨kvs,.inl q2⟩,O0,r,kd,hR,e2,λu H2 s2 i2=>?_⟩;have hu2:=nW e3 i2;subst hu2;have R2:=hR.same s2;have q3':=q3.same s2 hR.ol;have q2':=s2 _ _ q2;subst q4;obtain⟨p1,p2⟩:=YE key q3';obtain⟨R3,k3⟩:=R2.updd er q1 q2' p1 p2;rcases uU key q3' with⟨dd,vv,w1,w2,w3⟩|⟨w1,_⟩
  ·rw[w1] at e4;cases e4;have k4:=(Kp.of_same r σ s2).trans k3;refine⟨kvs,key,vv,q2',rfl,w2,q _ _ R3 k4 ?_⟩;have own_b:Ow O0 r σ b:=.inr ⟨i,l,by rw[er];rfl,q1⟩;have ow2:∀c,Ow O0 (r.set i (.d fb (qF (kvs.map (·.1)) l key).1 (qF (kvs.map (·.1)) l key).2)) σ c->H2 c≠none->Ow O0 r σ c:=λc z n=>z.imp id λz=>(k3.new c z).elim id λz=>absurd z n
   exact Is.mono (λc o e1 n=>by rw[zN (λz=>n (by subst z;exact own_b))];exact e1) R2.ol ow2 _ _ w3
  ·rw[w1] at e4;cases e4
section
variable{X:Cx}{a:Expr}{es:List Expr}{f:ME}{fs:ML}{i:Nat}{pos p pn:Pos}
noncomputable def zI8(i:Nat)(ks:List Key)(l:List D)(r:En):Option En:=match r[i]? with
 |some (.d f _ _)=>some (r.set i (.d f ks l))
 |_=>none
noncomputable def lZd(K:Fg)(i:Nat)(f:MZ):TA:=λσ H Q=>∃O0 r ks l ds es,R K O0 H r σ/\zDJ i r=some (ks,l)/\f r=some (ds,es)/\∀vs a us H',Same H H'->σ[i]?=some (some (.ref a))->IsL K (Ow O0 r σ) H' ds vs->IsL K (Ow O0 r σ) H' es us->Q (vs++.ref a::us) H'
def DZd(X:Cx)(i:Nat)(es:List Expr)(f:MZ):Prop:=PA X es (lZd X.K i f)
theorem nO{r:En}{ks:List Key}{l:List D}(e:zDJ i r=some (ks,l)):∃fb,r[i]?=some (.d fb ks l):=by
 unfold zDJ at e;split at e
 ·rename_i fb _ _ h;cases e;exact⟨fb,h⟩
 ·cases e
theorem zO2{x:Str}(h:PE X (.Name x pn) (kN i))(hr:DA X es fs)(hs:ae (.Name x pn::es) X.env=(false,eval (.Name x pn) X.env)::ae es X.env:=by rfl):DZd X i (.Name x pn::es) (zP fs):=by
 refine PA.conseq (yC h hr hs) λσ H Q hq=>?_
 obtain⟨O0,r,ks,l,ds,us,hR,em,e,q⟩:=hq;obtain⟨us',e1,e2⟩:=mpS e;cases e2;obtain⟨fb,er⟩:=nO em;obtain⟨c,kvs,q1,q2,q4,q3⟩:=hR.dct i fb ks l er;exact⟨.ref c,q1,O0,r,_,hR,e1,λvs H1 s1 i1=>q [] c vs H1 s1 q1 .nil i1⟩
theorem zO3{z:MZ}(ha:DE X a f)(hr:DZd X i es z)(hs:ae (a::es) X.env=(false,eval a X.env)::ae es X.env:=by rfl):DZd X i (a::es) (zE f z):=by
 refine PA.conseq (yC ha hr hs) λσ H Q hq=>?_
 obtain⟨O0,r,ks,l,ds,us,hR,em,e,q⟩:=hq;obtain⟨d,e1,e⟩:=bnS e;obtain⟨⟨ds',us'⟩,e2,e3⟩:=mpS e;cases e3;exact⟨O0,r,d,hR,e1,λv H1 s1 i1=>⟨O0,r,ks,l,ds',us',hR.same s1,em,e2,λvs c ws H2 s2 hc i2 i3=>q (v::vs) c ws H2 (s1.trans s2) hc (.cons (i1.same s2 (hR.same s1).ol) i2) i3⟩⟩
noncomputable def cR(ds:List D)(ks:List Key)(l:List D)(es:List D):List Sl:=ds.map .v++.d true ks l::es.map .v
theorem qW{ks:List Key}{ds l es:List D}{j:Nat}{x:Sl}(e:(cR ds ks l es)[j]?=some x):(∃d,x=.v d/\(ds++.non::es)[j]?=some d/\j≠ds.length)\/(x=.d true ks l/\j=ds.length):=by
 unfold cR at e;by_cases h:j<ds.length
 ·rw[ax (by simpa using h),ay] at e;rw[ax h];cases e1:ds[j]? with
  |none=>rw[e1] at e;cases e
  |some d=>rw[e1] at e;cases e;exact .inl ⟨d,rfl,rfl,by omega⟩
 ·rw[bf (by simpa using h)] at e;rw[bf (by omega)];simp only[ao] at e;cases e2:j-ds.length with
  |zero=>rw[e2] at e;cases e;exact .inr ⟨rfl,by omega⟩
  |succ k=>
   rw[e2,ig,ay] at e;rw[ig];cases e1:es[k]? with
   |none=>rw[e1] at e;cases e
   |some d=>rw[e1] at e;cases e;exact .inl ⟨d,rfl,rfl,by omega⟩
theorem jR{α:Type}{ks:List Key}{ds l es:List D}{m:α}{j:Nat}{q:Sl->Option α}(hq:∀d,q (.v d)=none)(e:((cR ds ks l es)[j]?).bind q=some m):j=ds.length/\q (.d true ks l)=some m:=by
 obtain⟨x,e1,e2⟩:=bnS e;rcases qW e1 with⟨d,rfl,_⟩|⟨rfl,h⟩
 ·rw[hq] at e2;cases e2
 ·exact⟨h,e2⟩
theorem R.zargd{K:Fg}{O:Addr->Prop}{H:Hp}{ks:List Key}{ds l es:List D}{vs us:List V}{kvs:List (Key×V)}{c:Addr}(ol:jN O H)(hc:O c)(ec:H c=some (.dK kvs))(ek:kvs.map (·.1)=ks)(il:IsL K O H l (kvs.map (·.2)))(h1:IsL K O H ds vs)(h2:IsL K O H es us):R K O H (cR ds ks l es) ((vs++V.ref c::us).map some):=by
 have hl:=h1.length;have hl2:=h2.length;have ow:∀b,Ow O (cR ds ks l es) ((vs++V.ref c::us).map some) b->H b≠none->O b:=λb z _=>z.elim id λ⟨j,m,ej,qj⟩=>by
  obtain⟨rfl,_⟩:=jR (λ_=>rfl) ej;rw[ay,hl,cQ] at qj;cases qj;exact hc
 refine⟨by simp[cR,hl,hl2],λj d e=>?_,λj m e=>?_,λj k b m m' e1 e2 q1 q2=>?_,ol,λj m b e q=>?_,λj m b e q=>?_,λj fb ks' m e=>?_⟩
 ·rcases qW e with⟨d',e',e2,e3⟩|⟨e',_⟩
  ·cases e';obtain⟨v,e4,i4⟩:=zD5 (c:=c) h1 h2 e2 e3;exact⟨v,by rw[ay,e4];rfl,Is.mono (Same.kp (Same.refl H) _) ol ow _ _ i4⟩
  ·cases e'
 ·obtain⟨rfl,e2⟩:=jR (λ_=>rfl) e;cases e2
 ·rw[(jR (λ_=>rfl) e1).1,(jR (λ_=>rfl) e2).1]
 ·exfalso;rcases e with e|e|⟨_,e⟩<;>rcases qW e with⟨d',e',_⟩|⟨e',_⟩<;>cases e'
 ·obtain⟨rfl,_⟩:=jR (λ_=>rfl) e;rw[ay,hl,cQ] at q;cases q;exact hc
 ·rcases qW e with⟨d',e',_⟩|⟨e',ej⟩
  ·cases e'
  ·cases e';subst ej;exact⟨c,kvs,by rw[ay,hl,cQ];rfl,ec,ek,IsL.mono (Same.kp (Same.refl H) _) ol ow _ _ il⟩
noncomputable def nP(n:Nat)(m:MF)(i:Nat)(z:MZ):En->Option (D×En):=λr=>(zDJ i r).bind λkl=>(z r).bind λq=>if q.1.length+1+q.2.length=n then (m (cR q.1 kl.1 kl.2 q.2)).bind λp=>match p.1 with
 |.v d=>match p.2[q.1.length]? with
  |some (.d _ ks' l')=>(zI8 i ks' l' r).map λr'=>(d,r')
  |_=>none
 |_=>none
 else none
theorem zCP{k n:Nat}{fa:Addr}{fd:FuncData}{ps:List Str}{m:MF}{x:Str}{z:MZ}(F:FnOk X.prog X.w X.K X.mg X.base CX0 k fa fd ps (spD X.K n m))(hr:Room k X.A)(hg:Gl X x)(hm:X.mg x=some (.ref fa))(hk:PySem.W.keepIn X.K (.ref fa)=true)(hb:Binds X.K fd ps [])(ha:DZd X i (a::es) z)(hdb:(x == ("__debug__" : Str))=false:=by decide)(he:ae (a::es) X.env=(false,eval a X.env)::ae es X.env:=by rfl)(hpl:(dl pos (ae es X.env)).any (·.1)=false:=by rfl):DX X (.Call (.Name x p) (a::es) [] pos) (nP n m i z):=by
 refine PE.conseq (v6 (E:=λ_ _ _=>False) (dvs:=[]) F hr hg hm hk hb .nil dC ha hdb he hpl) λσ H Q hq=>?_
 obtain⟨O0,r,d,r',hR,e,q⟩:=hq;obtain⟨⟨ks,l⟩,e1,e⟩:=bnS e;obtain⟨⟨ds,us⟩,e2,e⟩:=bnS e;obtain⟨fb,er⟩:=nO e1;split at e
 ·rename_i hn;obtain⟨⟨rs,as'⟩,e3,e⟩:=bnS e;refine⟨O0,r,ks,l,ds,us,hR,e1,e2,λvs c ws H1 s1 hc i1 i2=>?_⟩;show spD X.K n m ((vs++.ref c::ws)++[]) H1 Q _;rw[gn];have R1:=hR.same s1;obtain⟨c',kvs,p1,p2,p4,p3⟩:=R1.dct i fb ks l er;rw[hc] at p1;cases p1;have hoc:Ow O0 r σ c:=.inr ⟨i,l,by rw[er];rfl,hc⟩;refine⟨Ow O0 r σ,cR ds ks l us,rs,as',by simp[cR];simp only at hn;omega,R.zargd R1.ol hoc p2 p4 p3 i1 i2,λj m'=>⟨λe=>?_,λe=>?_,λ_ e=>?_⟩,e3,?_⟩
  ·rcases qW e with⟨d',e',_⟩|⟨e',_⟩<;>cases e'
  ·rcases qW e with⟨d',e',_⟩|⟨e',_⟩<;>cases e'
  ·rcases qW e with⟨d',e',_⟩|⟨e',_⟩<;>cases e'
  ·cases rs with
   |f l=>cases e
   |g ks l=>cases e
   |v d'=>
    simp only at e;split at e
    ·rename_i fb' ks' l' ek;obtain⟨r2,e5,e6⟩:=mpS e;have hd1:d'=d:=congrArg Prod.fst e6;have hr1:r2=r':=congrArg Prod.snd e6;subst hd1 hr1;have e5':r2=r.set i (.d fb ks' l'):=by
      unfold zI8 at e5;rw[er] at e5;exact(bg e5).symm
     subst e5';refine λv H2 pf iv=>?_
     have hkk:(cR ds ks l us)[ds.length]?=some (.d true ks l):=by unfold cR;rw[bf (by simp)];simp
     obtain⟨ks2,l2,c2,kvs2,f1,f2,f3,f5,f4⟩:=pf.pad ds.length ks l hkk;rw[ek] at f1;cases f1;rw[i1.length,cQ] at f2;cases f2;have mutc:∀b,MutAt (cR ds ks l us) ((vs++V.ref c::ws).map some) b->b=c:=λb ⟨j,m',ej,qj⟩=>by
      obtain⟨rfl,_⟩:=jR (λ_=>rfl) ej;rw[ay,i1.length,cQ] at qj;cases qj;rfl
     obtain⟨R2,k2⟩:=R1.putd er hc (λb o hb eb=>pf.keep b o eb λz=>hb (mutc b z)) (λb hb eb=>pf.live b eb) f3 f5 f4;refine q v H2 R2 ((Kp.of_same r σ s1).trans k2) (Is.mono (Same.kp (Same.refl H2) _) (λb zb=>zb.elim (R2.o0 b) λzb=>by
      obtain⟨ys,ey,mb⟩:=R1.ol b (.inr zb);exact pf.lst b ys ey mb) (λb zb nn=>zb.imp id λzb=>?_) _ _ iv)
     obtain⟨j,m',ej,qj⟩:=zb;by_cases hj:i=j
     ·subst hj;exact⟨i,l,by rw[er];rfl,qj⟩
     ·rw[zD hj] at ej;exact⟨j,m',ej,qj⟩
    ·cases e
 ·cases e
end
open PySem PySem.Spec PyProof.Rows L2 PySem.W
noncomputable def rG(f:MD):ME:=λr=>(f r).map λq=>.int q.1.length
noncomputable def zDI(f:MD):MB:=λr=>(f r).map λq=>!q.1.isEmpty
theorem QF:CallR X (.builtin "len") (λxs H Q=>∃p kvs,xs=[.ref p]/\Rd H p (.dK kvs)/\Q (.int kvs.length) H):=by
 intro pZ s σ H xs us Q I r h;obtain⟨p,kvs,rfl,e,q⟩:=h;obtain⟨u,rfl,rx⟩:=rZ r;cases rx;obtain⟨z,hd,vs,rel,dd⟩:=gY I.hok e;have hlen:=KV.length rel;have hn:=gN;exact call_len_dict hd dd (by rw[<-hlen];omega) ⟨.int kvs.length,H,I.tok _,⟨s.toks+1,by rw[hlen]⟩,q⟩
theorem zC0(hg:Gl X "len")(hm:X.mg "len" = none)(ha:DDc X a fd)(hs:ae [a] X.env=(false,eval a X.env)::ae [] X.env:=by rfl):DE X (.Call (.Name "len" p') [a] [] pos) (rG fd):=by
 refine PE.conseq (j5 QF hg hm sy (yC ha xF hs) (he:=hs)) λσ H Q h=>?_
 obtain⟨O0,r,d,hR,e,q⟩:=h;obtain⟨⟨ks,l⟩,e1,rfl⟩:=mpS e;exact⟨O0,r,ks,l,hR,e1,λp kvs H1 s1 rd ek il=>⟨p,kvs,rfl,rd,q _ H1 s1 (by rw[Is.int_iff,<-ek,ao])⟩⟩
noncomputable def zN9:R2:=λx y H Q=>∃p q kvs,x=.ref p/\y=.ref q/\Rd H p (.dK kvs)/\Rd H q (.dK [])/\Q (.bl (!kvs.isEmpty)) H
theorem zF3(hu:X.A.units<cLine):OpR X (et .NotEq) zN9:=by
 intro pZ s σ H x y v u Q I rx ry h;obtain⟨p,q',kvs,rfl,rfl,h1,h2,q⟩:=h;cases rx;cases ry;obtain⟨z,hd,vs,rel,dd⟩:=gY I.hok h1;obtain⟨z',hd',vs',rel',dd'⟩:=gY I.hok h2;have n1:=KV.length rel;have n2:vs'=[]:=kj.mp (KV.length rel').symm;subst n2;refine keq_ne (r:=true) hd hd' dd dd' hu (λe=>?_) (yU I q ?_)
 ·have:vs=[]:=kj.mp e
  subst this;exact .nil
 ·rw[<-n1];cases kvs with
  |nil=>rfl
  |cons x t=>rfl
theorem zHX(hu:X.A.units+200<cLine)(ha:DDc X a fd)(hm:dh .NotEq (.Dict [] [] pd)=false:=by rfl):DT X (.Compare a [.NotEq] [.Dict [] [] pd] pos) (zDI fd):=by
 refine PT.conseq (dB (zF3 (by omega)) ha (rN (X:=X) (pos:=pd)) hm) λσ H Q h=>?_
 obtain⟨O0,r,d,hR,e,q⟩:=h;obtain⟨⟨ks,l⟩,e1,rfl⟩:=mpS e;refine⟨O0,r,ks,l,hR,e1,λp kvs H1 s1 rd ek il=>⟨O0,r,[],[],hR.same s1,rfl,λp' kvs' H2 s2 n2 e2 ek' il'=>?_⟩⟩;have hk:kvs'=[]:=List.map_eq_nil_iff.mp ek';subst hk;refine⟨p,p',kvs,rfl,rfl,Rd.same s2 rd,.inl e2,_,rfl,?_⟩
 have:kvs.isEmpty=ks.isEmpty:=by rw[<-ek];cases kvs<;>rfl
 rw[this];exact q H2 (s1.trans s2)
noncomputable def zNY(K:Fg)(ta tb:TE):TI:=λσ H R=>ta σ H λx H1=>tb σ H1 λy H2=>∃u v,x=.ref u/\y=.ref v/\(∃xs,SqT K H2 u xs)/\(∃ys,SqT K H2 v ys)/\R (ItZ (SqT K) u v) H2
theorem zFN(hg:Gl X "zip")(hm:X.mg "zip" = none)(ha:PE X a ta)(hb:PE X b tb)(hs:ae [a,b] X.env=[(false,eval a X.env),(false,eval b X.env)]:=by rfl)(hs2:ae [b] X.env=[(false,eval b X.env)]:=by rfl):PI X (.Tuple elts k tp) (.Call (.Name "zip" p) [a,b] [] pos) (zNY X.K ta tb):=by
 intro pZ s σ H R I h;have hA:PA X [a,b] (mQ ta (mQ tb zET)):=yC ha (yC hb xF (by rw[hs2];rfl)) (by rw[hs,hs2]);refine Call_ (uD I hg hm vp (dq (thn (hA pos pZ s σ H (z2 λx y H2=>∃u v,x=.ref u/\y=.ref v/\((∃xs,SqT X.K H2 u xs)/\(∃ys,SqT X.K H2 v ys)/\R (ItZ (SqT X.K) u v) H2)) I h) λus s1 ⟨vs,H1,I1,r1,q1⟩=>?_) (by rw[hs,hs2]) (by rw[hs2];rfl)));obtain⟨_,_,rfl,u,v,rfl,rfl,q5⟩:=zD6 q1;obtain⟨uu,vv,rfl,ru,rv⟩:=Vals.two r1;cases ru;cases rv;have fp5:∀b∈[s1.heap.objs.size+4,s1.heap.objs.size+2,s1.heap.objs.size+3,s1.heap.objs.size,s1.heap.objs.size+1],o8 X pZ H1 b:=λb hb=>by
  have hle:s1.heap.objs.size<=b:=by
   simp only[eg,bh,or_false] at hb;rcases hb with h|h|h|h|h
   ·rw[h];exact iq _ _
   ·rw[h];exact iq _ _
   ·rw[h];exact iq _ _
   ·rw[h];exact ah _
   ·rw[h];exact iq _ _
  exact I1.fpOk hle (I1.hok.fresh hle)
 obtain⟨⟨xs,hx⟩,⟨ys,hy⟩,q⟩:=q5;obtain⟨its,_,pl,_⟩:=I1.tuple hx;obtain⟨its2,_,pl2,_⟩:=I1.tuple hy;refine ZZ.zcall pl pl2 λh' z1 z2 z3 z4 z5 kp=>se z1 ?_
 exact⟨_,_,_,_,H1,rfl,I1.kept (t':=s1.toks) kp,zAQ (zLW X.K) u v _ _ _ _ _ (za5 _),⟨z1,z2,⟨_,_,z3⟩,z4,z5⟩,fp5,q⟩
noncomputable def zGR(f g:ME):ML:=λr=>(f r).bind λd=>(g r).bind λe=>match d,e with
 |.tup l,.tup m=>some (Y4 l m)
 |_,_=>none
theorem zH7(hg:Gl X "zip")(hm:X.mg "zip" = none)(ha:DE X a f)(hb:DE X b g)(hs:ae [a,b] X.env=[(false,eval a X.env),(false,eval b X.env)]:=by rfl)(hs2:ae [b] X.env=[(false,eval b X.env)]:=by rfl):DI X (.Tuple elts k tp) (.Call (.Name "zip" p) [a,b] [] pos) (zGR f g):=by
 refine PI.conseq (zFN hg hm ha hb hs hs2) λσ H Rr hq=>?_
 obtain⟨O0,r,ds,hR,e,q⟩:=hq;obtain⟨x,e1,e⟩:=bnS e;obtain⟨y,e2,e⟩:=bnS e;refine⟨O0,r,x,hR,e1,λv1 H1 s1 i1=>⟨O0,r,y,hR.same s1,e2,λv2 H2 s2 i2=>?_⟩⟩;have R2:=hR.same (s1.trans s2);have i1':=i1.same s2 (hR.same s1).ol;have mo:∀a,MutAt r σ a->Ow O0 r σ a:=λa z=>.inr z.own
 cases x<;>first|(simp only[reduceCtorEq] at e;done)|skip
 all_goals cases y<;>first|(simp only[reduceCtorEq] at e;done)|skip
 simp only[eh] at e;subst e;rw[Is.tup_iff] at i1' i2;obtain⟨u,xs,rfl,hx,il⟩:=i1';obtain⟨v,ys,rfl,hy,im⟩:=i2;exact⟨u,v,rfl,rfl,⟨xs,hx⟩,⟨ys,hy⟩,q _ H2 (s1.trans s2) (zJR mo R2.ol (zM2 mo R2.ol hx) (zM2 mo R2.ol hy) il im)⟩
end DD
namespace K43
open PySem PySem.Spec PyProof.Rows L2 DD
noncomputable def top(i:Nat):Stmt:=PySem.Challenge.pw_fieldrows_k43_records.main.body.getD i (.Pass ⟨0,0,0,0⟩)
noncomputable def RF:Nat:=40
noncomputable def WF:Nat:=100000
noncomputable def x3:Nat:=60
noncomputable def dN:MS:=(jD (qN (wS [] 1 (mIt (zF 0)) (yV 0) (kS (mUn (jW "tuple") (zF 0))) (zF 0))))
noncomputable def vG:MF:=mkF 1 1 dN
noncomputable def vA:MS:=(yL (zDC 1 (wD zT))
 (yL (zDC 2 (wD (zA (zF 0) zT)))
 (yL (j4 WF (ZN (o7 2))
 (yL (zDB 3 (pC 2))
 (yL (sX (QL 1 (zF 3)))
 (sX (zK6 2 (mUn zI6 (yD 1 vG (zA (zF 3) zT))))))))
 (mW 1))))
noncomputable def j9:MF:=mkF 1 4 vA
noncomputable def xG:MS:=(yL (zDC 2 (wD zT))
 (yL (qH 3 (zJ kZ (zF 1) (mC (.int 1))))
 (yL (o9 (yV 4) (mIt (yD 1 vG (zA (zF 0) zT)))
 (yL (sX (QL 2 (zF 3)))
 (QZ 3 (mUn gW (qN (cC 1 j9 (zA (zF 4) zT)))))))
 (mW 2))))
noncomputable def xI:MF:=mkF 2 5 xG
noncomputable def cF:MS:=(jD (mIf (kS (mUn (jW "int") (zF 0))) (mC (.str [110,117,109])) (zJ ixD (zF 0) (mC (.int 0)))))
noncomputable def xZ:MF:=mkF 1 1 cF
noncomputable def kW:MS:=(yL (tR 3 (qS (zF 0)))
 (yL (u4 3 (zF 1) (zF 2))
 (zI5 3)))
noncomputable def k7:MF:=mkF 3 4 kW
noncomputable def kU:MS:=(yL (sIf (mBl (zJ eqA (yD 1 xZ (zA (zF 0) zT)) (mC (.str [114,101,99]))))
 (jD (qN (vR [0] 2 (mIt (qN (kG (qS (zJ ixD (zF 0) (mC (.int 1))))))) (yV 1) (rH (qS (zJ ixD (zF 0) (mC (.int 1)))) (zF 1)))))
 wB)
 (yL (sIf (mBl (zJ eqA (yD 1 xZ (zA (zF 0) zT)) (mC (.str [111,110,101]))))
 (jD (qN (wD (zA (zJ ixD (zF 0) (mC (.int 2))) zT))))
 wB)
 (jD (qN (wD zT)))))
noncomputable def xS:MF:=mkF 1 1 kU
noncomputable def qO:MS:=(yL (sIf (mBl (zJ eqA (yD 1 xZ (zA (zF 0) zT)) (mC (.str [114,101,99]))))
 (jD (yY (zA (mC (.str [114,101,99])) (zA (zJD (qN (kG (qS (zJ ixD (zF 0) (mC (.int 1)))))) (zF 1)) zT))))
 wB)
 (yL (sIf (mBl (zJ eqA (yD 1 xZ (zA (zF 0) zT)) (mC (.str [111,110,101]))))
 (jD (yY (zA (mC (.str [111,110,101])) (zA (zJ ixD (zF 0) (mC (.int 1))) (zA (zJ ixD (zF 1) (mC (.int 0))) zT)))))
 wB)
 (yL (sIf (mBl (zJ eqA (yD 1 xZ (zA (zF 0) zT)) (mC (.str [102,110]))))
 (jD (yY (zA (mC (.str [102,110])) zT)))
 wB)
 (jD (zF 0)))))
noncomputable def wJ:MF:=mkF 2 2 qO
noncomputable def rL:MS:=(yL (zDC 1 (wD zT))
 (yL (zDC 2 (wD (zA (zF 0) zT)))
 (yL (j4 WF (ZN (o7 2))
 (yL (sX (gV 1 (pC 2)))
 (yL (sIf (mBl (zJ gtD (zGS (o7 1)) (mC (.int 200))))
 (jD (yY (zA (mC (.str [100,101,101,112])) zT)))
 wB)
 (sX (zK6 2 (mUn zI6 (yD 1 xS (zA (zMY (o7 1) (mUn zKZ (mC (.int 1)))) zT))))))))
 (yL (zDC 3 (wD zT))
 (yL (sZ 1 (o9 (yV 4) (WL (mZs 1))
 (sX (gV 3 (kH 2 wJ (jS (zF 4) (vS (cB 3 2 (mIt (yD 1 xS (zA (zF 4) zT))) (yV 1) (pC 0)))))))))
 (jD (zMY (o7 3) (mC (.int 0)))))))))
noncomputable def QJ:MF:=mkF 1 5 rL
noncomputable def uW(m:MF):MS:=(yL (zDC 3 (cC 2 xI (zA (zF 0) (zA (zF 2) zT))))
 (yL (zDC 4 (wD zT))
 (yL (o9 (yV 5) (mIt (zF 0))
 (sIf (kS (mUn (jW "tuple") (zF 5)))
 (sX (gV 4 (kH 3 m (jS (zF 5) (jS (zF 1) (vS (zDH 3)))))))
 (sX (QL 4 (zF 5)))))
 (jD (gM (zPW (o7 4) (wD (zA (yY (zA (zF 1) (zA (zF 2) zT))) zT))))))))
noncomputable def qG:Nat->MF
 |0=>λ_=>none
 |k+1=>mkF 3 6 (uW (qG k))
noncomputable def vB:MS:=(jD (zGU (zJ eqA (yD 1 xZ (zA (zF 0) zT)) (mC (.str [114,101,99]))) (JE false (zF 1) (qS (zJ ixD (zF 0) (mC (.int 1)))))))
noncomputable def y6:MF:=mkF 2 2 vB
noncomputable def qT:MS:=(jD (zGU (zJ eqA (yD 1 xZ (zA (zF 0) zT)) (mC (.str [114,101,99]))) (JE true (zF 1) (qS (zJ ixD (zF 0) (mC (.int 1)))))))
noncomputable def wA:MF:=mkF 2 2 qT
noncomputable def wY:MS:=(yL (tR 3 (qS (zJ ixD (zF 0) (mC (.int 1)))))
 (yL (u4 3 (zF 1) (zF 2))
 (sFz 3 (jD (yY (zA (mC (.str [114,101,99])) (zA (zF 3) zT)))))))
noncomputable def xR:MF:=mkF 3 4 wY
noncomputable def xX:MS:=(yL (tR 2 (qS (zJ ixD (zF 0) (mC (.int 1)))))
 (yL (sX (WH 2 (zF 1)))
 (sFz 2 (jD (yY (zA (mC (.str [114,101,99])) (zA (zF 2) zT)))))))
noncomputable def wI:MF:=mkF 2 3 xX
noncomputable def qP:MS:=(yL (sIf (mBl (zJ ltA (zF 1) (mUn gW (zF 0))))
 (jD (zJ ixD (zF 0) (zF 1)))
 wB)
 (jD (mC (.int 0))))
noncomputable def vH:MF:=mkF 2 2 qP
noncomputable def wZ:MS:=(yL (qH 2 (zJ jI (zJ kZ (zJ kZ (zJ jI (zF 0) (mC (.int 2147483647))) (zJ hI (mC (.int 16807)) (zF 1))) (mC (.int 7))) (mC (.int 2147483629))))
 (yL (qH 2 (zJ jI (zJ hI (zF 2) (zF 2)) (mC (.int 2147483587))))
 (jD (zJ xY (zJ jI (zJ hI (zF 2) (zJ kZ (zF 2) (mC (.int 48271)))) (mC (.int 2147483579))) (mC (.int 5))))))
noncomputable def xE:MF:=mkF 2 3 wZ
noncomputable def xD(m:MF):MS:=(yL (sIf (zJE (kS (mUn (jW "tuple") (zF 1))) (kS (mUn (jW "list") (zF 1))))
 (yL (sIf (zJE (mBl (zJ neA (mUn (jW "tuple") (zF 0)) (mUn (jW "tuple") (zF 1)))) (mBl (zJ neA (mUn (jW "list") (zF 0)) (mUn (jW "list") (zF 1)))))
 (jD (mC (.bl false)))
 wB)
 (yL (sIf (mBl (zJ neA (mUn gW (zF 0)) (mUn gW (zF 1))))
 (jD (mC (.bl false)))
 wB)
 (yL (o9 (qI 2 (yE (yV 2) (yE (yV 3) qZ))) (zGR (zF 0) (zF 1))
 (sIf (pD (kS (yD 2 m (zA (zF 2) (zA (zF 3) zT)))))
 (jD (mC (.bl false)))
 wB))
 (jD (mC (.bl true))))))
 wB)
 (yL (sIf (kS (mUn (jW "int") (zF 1)))
 (jD (zGU (mUn (jW "int") (zF 0)) (zGU (mUn zQJ (mUn (jW "bool") (zF 0))) (zJ eqA (zF 0) (zF 1)))))
 wB)
 (jD (zGU (mUn (jW "str") (zF 0)) (zJ eqA (zF 0) (zF 1))))))
noncomputable def yG:Nat->MF
 |0=>λ_=>none
 |k+1=>mkF 2 4 (xD (yG k))
noncomputable def wM:MS:=(yL (qH 1 (zJF (mC (.str [])) (vR [0] 2 (ZO (zJ kZ (mC (.int 2)) (zJ jI (zF 0) (mC (.int 5))))) (yV 1) (zJ ixD (mC (.str [113,120,122,106,118,107,97,101,105,109])) (zJ jI (yD 2 xE (zA (zF 0) (zA (zJ kZ (mC (.int 30)) (zF 1)) zT))) (mC (.int 10)))))))
 (yL (qH 2 (zJ jI (zJ xY (zF 0) (mC (.int 5))) (mUn gW (zF 1))))
 (yL (qH 3 (qN (vR [1,2] 3 (ZO (mC (.int 3))) (yV 2) (zJ kZ (zJ kZ (mSl (zF 0) ZJ (jZ (zF 1))) (zJ ixD (mC (.str [119,114,121])) (zF 2))) (mSl (zF 0) (jZ (zF 1)) ZJ)))))
 (jD (zJ kZ (zF 3) (qN (wD (zA (zJ kZ (zF 1) (mC (.str [113]))) (zA (zJ kZ (zF 1) (mC (.str [113,97]))) (zA (zJ kZ (mSl (zF 1) ZJ (jZ (mC (.int 1)))) (mC (.str [113,117]))) (zA (zJ kZ (mSl (zF 1) (jZ (mC (.int 1))) ZJ) (mC (.str [113,122]))) (zA (zJ kZ (zJ kZ (mC (.str [122])) (zF 1)) (mC (.str [113]))) zT))))))))))))
noncomputable def jO:MF:=mkF 1 4 wM
noncomputable def y4:MS:=(yL (qH 2 (zJ jI (zJ hI (zJ xY (zF 0) (mC (.int 20))) (mC (.int 7919))) (zJ zNG (mC (.int 10)) (mC (.int 6)))))
 (yL (qH 3 (zJ ixD (zF 1) (zJ jI (zJ xY (zF 0) (mC (.int 5))) (mC (.int 8)))))
 (yL (sIf (mBl (zJ ltA (zJ jI (zF 0) (mC (.int 5))) (mC (.int 2))))
 (jD (yY (zA (yY (zA (mC (.str [110,117,109])) (zA (zF 2) zT))) (zA (zF 2) zT))))
 wB)
 (yL (sIf (mBl (zJ eqA (zJ jI (zF 0) (mC (.int 5))) (mC (.int 2))))
 (jD (yY (zA (yY (zA (mC (.str [101,109,112,116,121])) zT)) (zA (yY (zA (mC (.str [114,101,99])) (zA (yY zT) zT))) zT))))
 wB)
 (yL (sIf (mBl (zJ eqA (zJ jI (zF 0) (mC (.int 5))) (mC (.int 3))))
 (jD (yY (zA (yY (zA (mC (.str [119,105,116,104])) (zA (zF 3) (zA (yY (zA (mC (.str [110,117,109])) (zA (zF 2) zT))) (zA (yY (zA (mC (.str [101,109,112,116,121])) zT)) zT))))) (zA (yY (zA (mC (.str [114,101,99])) (zA (yY (zA (yY (zA (zF 3) (zA (zF 2) zT))) zT)) zT))) zT))))
 wB)
 (jD (yY (zA (yY (zA (mC (.str [116,97,103])) (zA (zF 3) (zA (yY (zA (mC (.str [110,117,109])) (zA (zF 2) zT))) zT)))) (zA (yY (zA (mC (.str [111,110,101])) (zA (zF 3) (zA (zF 2) zT)))) zT)))))))))
noncomputable def xJ:MF:=mkF 2 4 y4
noncomputable def wE:MS:=(yL (qH 4 (qN (kG (zDJ 1))))
 (yL (qH 5 (qN (wS [4] 2 (mIt (zF 3)) (yV 1) (mBl (zJ (inD true) (zF 1) (zF 0))) (zF 1))))
 (yL (qH 6 (zJ jI (zF 2) (mC (.int 6))))
 (yL (qH 7 (zJ xY (zF 2) (mC (.int 6))))
 (yL (sIf (zJE (WJ (zIX (zF 4)) (wD zT)) (nR (mBl (zJ ltA (zF 6) (mC (.int 2)))) (WI (zIX (zF 5)) (wD zT))))
 (yL (qH 8 (zJ ixD (zF 5) (zJ jI (zF 7) (mUn gW (zF 5)))))
 (yL (zIW (yD 2 xJ (zA (zJ xY (zF 7) (mC (.int 8))) (zA (zF 3) zT))) (qI 2 (yE (yV 9) (yE (yV 10) qZ))))
 (yL (u4 1 (zF 8) (zF 10))
 (jD (yY (zA (yY (zA (mC (.str [119,105,116,104])) (zA (zF 8) (zA (zF 9) (zA (zF 0) zT))))) (zA (mC (.int 0)) zT)))))))
 wB)
 (yL (qH 8 (zJ ixD (zF 4) (zJ jI (zF 7) (mUn gW (zF 4)))))
 (yL (sIf (mBl (zJ eqA (zF 6) (mC (.int 3))))
 (yL (sX (WH 1 (zF 8)))
 (jD (yY (zA (yY (zA (mC (.str [108,101,115,115])) (zA (zF 8) (zA (zF 0) zT)))) (zA (mC (.int 0)) zT)))))
 wB)
 (yL (sIf (mBl (zJ eqA (zF 6) (mC (.int 4))))
 (yL (qH 11 (zJ ixD (zF 3) (zJ jI (zJ xY (zF 7) (mC (.int 64))) (mC (.int 8)))))
 (yL (qH 12 (zJ ixD (zF 3) (zJ jI (zJ xY (zF 7) (mC (.int 8))) (mC (.int 8)))))
 (yL (qH 13 (zJ ixD (qN (wD (zA (mC (.str [119,105,116,104])) (zA (mC (.str [112,117,116])) zT)))) (mUn zDL (zJ (inD false) (zF 12) (zF 4)))))
 (yL (zIW (yD 2 xJ (zA (zJ xY (zF 7) (mC (.int 1024))) (zA (zF 3) zT))) (qI 2 (yE (yV 9) (yE (yV 10) qZ))))
 (yL (qH 14 (zJ ixD (qN (wD (zA (yY (zA (mC (.str [110,97,109,101])) (zA (zF 11) zT))) (zA (yY (zA (mC (.str [112,117,116])) (zA (zF 8) (zA (zF 9) (zA (yY (zA (mC (.str [110,97,109,101])) (zA (zF 11) zT))) zT))))) zT)))) (zJ jI (zJ xY (zF 7) (mC (.int 512))) (mC (.int 2)))))
 (yL (u4 1 (zF 12) (zJ ixD (qN (wD (zA (rH (zDJ 1) (zF 8)) (zA (zF 10) zT)))) (zJ jI (zJ xY (zF 7) (mC (.int 512))) (mC (.int 2)))))
 (jD (yY (zA (yY (zA (mC (.str [100,111])) (zA (yY (zA (mC (.str [102,110])) (zA (zF 11) (zA (yY (zA (zF 13) (zA (zF 12) (zA (yY (zA (mC (.str [103,101,116])) (zA (zF 8) (zA (zF 14) zT)))) (zA (yY (zA (mC (.str [110,97,109,101])) (zA (zF 11) zT))) zT))))) zT)))) (zA (zF 0) zT)))) (zA (mC (.int 1)) zT))))))))))
 wB)
 (yL (zIW (yD 2 xJ (zA (zJ xY (zF 7) (mC (.int 8))) (zA (zF 3) zT))) (qI 2 (yE (yV 9) (yE (yV 10) qZ))))
 (yL (u4 1 (zF 8) (zF 10))
 (jD (yY (zA (yY (zA (mC (.str [112,117,116])) (zA (zF 8) (zA (zF 9) (zA (zF 0) zT))))) (zA (mC (.int 0)) zT))))))))))))))
noncomputable def x4:MF:=mkF 4 15 wE
noncomputable def cP(i j:Nat):Stmt:=match top i with
 |.ClassDef _ _ _ body _ _ _ _ _ _ _=>body.getD j (.Pass ⟨0,0,0,0⟩)
 |s=>s
structure Dm(K:Fg)(n q:Str)(st:Stmt)(ps:List Str) where
 a:Addr
 d:FuncData
 F:Fun K n q st a d
 b:Binds K d ps []
noncomputable def AH:List (List Nat×List Int):=[([100,111],[1,2]),([103,101,116],[2]),([119,105,116,104],[2,3]),([112,117,116],[2,3]),([108,101,115,115],[2]),([116,97,103],[2]),([119,105,100,101],[2]),([99,97,115,101],[1]),([110,101,118,101,114],[1]),([105,102],[1]),([43],[1,2]),([45],[1,2]),([42],[1,2]),([60],[1,2])]
noncomputable def xT(st:Mst):List D->Option (D×Mst)
 |[e,b]=>if st.wait.length<af then some (.non,zFB st (.tup [e,b,.bl false])) else none
 |_=>none
noncomputable def xH(st:Mst):List D->Option (D×Mst)
 |[v]=>if st.come.length<af then some (.non,zKH st v) else none
 |_=>none
noncomputable def bS:D:=.tup [.str [116,105,114,101,100],.non]
noncomputable def qY(st:Mst):List D->Option (D×Mst)
 |[]=>if st.most<=st.steps then some (.bl false,{ st with ended:=bS }) else some (.bl true,{ st with steps:=st.steps+1 })
 |_=>none
noncomputable def tW(e b:D):List Int->Mst->Option Mst
 |[],st=>some st
 |i::t,st=>(ixD e (.int i)).bind λp=>(xT st [p,b]).bind λq=>tW e b t q.2
noncomputable def bI:D->Option (List Int)
 |.tup (.str s::_)=>some ((bE AH s).getD [])
 |_=>none
noncomputable def yI(st:Mst):List D->Option (D×Mst)
 |[e,b]=>if st.wait.length<af then (bI e).bind λl=>(tW e b l.reverse (zFB st (.tup [e,b,.bl true]))).map λs=>(.non,s) else none
 |_=>none
noncomputable def yO(st:Mst):List D->Option (D×Mst)
 |[e]=>(bI e).bind λl=>if l.length<=st.come.length/\l.length<af then some (.lst (st.come.drop (st.come.length-l.length)),{ st with come:=st.come.take (st.come.length-l.length) }) else none
 |_=>none
noncomputable def jL(st:Mst):List D->Option (D×Mst)
 |[.tup [_,v,_],_,_]=>xH st [v]
 |_=>none
noncomputable def y8(st:Mst):List D->Option (D×Mst)
 |[.tup [_,.str s,_],.dct ks l,_]=>match yW ks l (.inr ⟨s.toArray⟩) with
  |some v=>xH st [v]
  |none=>(qY st []).bind λp=>match p.1,p.2.defs with
   |.bl true,.dct ks l=>(yW ks l (.inr ⟨s.toArray⟩)).bind λd=>xT p.2 [d,.dct [] []]
   |.bl false,_=>some (.non,p.2)
   |_,_=>none
 |_=>none
noncomputable def vC(st:Mst):List D->Option (D×Mst)
 |[.tup [_,x,e,_],b,_]=>xH st [.tup [.str [102,110],x,e,b]]
 |_=>none
noncomputable def qQ(st:Mst):List D->Option (D×Mst)
 |[_,_,.lst [.tup [.str w,.str x,e,.dct ks l],v]]=>if w=[102,110]/\ks.length<af then (qY st []).bind λp=>match p.1 with
  |.bl true=>xT p.2 [e,.dct (jQ ks l (.inr ⟨x.toArray⟩) v).1 (jQ ks l (.inr ⟨x.toArray⟩) v).2]
  |.bl false=>some (.non,p.2)
  |_=>none
  else none
 |_=>none
noncomputable def wN(st:Mst):List D->Option (D×Mst)
 |[_,_,_]=>xH st [.tup [.str [114,101,99],.dct [] []]]
 |_=>none
noncomputable def qU(st:Mst):List D->Option (D×Mst)
 |[.tup [_,s,_,_],_,.lst [v]]=>xH st [.tup [.str [111,110,101],s,v]]
 |_=>none
noncomputable def wT(st:Mst):List D->Option (D×Mst)
 |[.tup [_,.str s,_,_,_],_,.lst [v,.tup [.str w,.dct ks l]]]=>if w=[114,101,99]/\yW ks l (.inr ⟨s.toArray⟩)=none/\ks.length<af then xH st [.tup [.str [114,101,99],.dct (jQ ks l (.inr ⟨s.toArray⟩) v).1 (jQ ks l (.inr ⟨s.toArray⟩) v).2]] else none
 |_=>none
noncomputable def qD(st:Mst):List D->Option (D×Mst)
 |[.tup [_,.str s,_,_],_,.lst [.tup [.str w,.dct ks l]]]=>if w=[114,101,99] then (yW ks l (.inr ⟨s.toArray⟩)).bind λv=>xH st [v] else none
 |_=>none
noncomputable def qV(st:Mst):List D->Option (D×Mst)
 |[.tup [_,.str s,_,_,_],_,.lst [v,.tup [.str w,.dct ks l]]]=>if w=[114,101,99]/\(yW ks l (.inr ⟨s.toArray⟩)).isSome=true/\ks.length<af then xH st [.tup [.str [114,101,99],.dct (jQ ks l (.inr ⟨s.toArray⟩) v).1 (jQ ks l (.inr ⟨s.toArray⟩) v).2]] else none
 |_=>none
noncomputable def wF(st:Mst):List D->Option (D×Mst)
 |[.tup [_,.str s,_,_],_,.lst [.tup [.str w,.dct ks l]]]=>if w=[114,101,99]/\(yW ks l (.inr ⟨s.toArray⟩)).isSome=true then xH st [.tup [.str [114,101,99],.dct (qF ks l (.inr ⟨s.toArray⟩)).1 (qF ks l (.inr ⟨s.toArray⟩)).2]] else none
 |_=>none
noncomputable def ways(w:List Nat):Option (Mst->List D->Option (D×Mst)):=if w=[110,117,109] then some jL else if w=[110,97,109,101] then some y8 else if w=[102,110] then some vC else if w=[100,111] then some qQ else if w=[101,109,112,116,121] then some wN else if w=[103,101,116] then some qD else if w=[119,105,116,104] then some wT else if w=[112,117,116] then some qV else if w=[108,101,115,115] then some wF else if w=[116,97,103] then some qU else none
noncomputable def qE(st:Mst):List D->Option (D×Mst)
 |[.tup (.str w::r),b,ps]=>(ways w).bind λmm=>(mm st [.tup (.str w::r),b,ps]).map λq=>(.non,q.2)
 |_=>none
noncomputable def mP(st:Mst):Option Mst:=match st.wait.getLast? with
 |some (.tup [e,b,.bl true])=>(yO { st with wait:=st.wait.dropLast } [e]).bind λp=>(qE p.2 [e,b,p.1]).map (·.2)
 |some (.tup [e,b,.bl false])=>(yI { st with wait:=st.wait.dropLast } [e,b]).map (·.2)
 |_=>none
noncomputable def bK:Nat->Mst->Option Mst
 |0,_=>none
 |n+1,st=>if st.wait.isEmpty=false/\nonB st.ended=true then (mP st).bind (bK n) else some st
noncomputable def jK(st:Mst):List D->Option (D×Mst)
 |[]=>(bK WF st).map λs=>(.non,s)
 |_=>none
noncomputable def ddE:ME:=(zB4 (zB5 (vR [] 2 (mIt (zF 1)) (qI 2 (yE (yV 0) (yE (yV 1) qZ))) (yY (zA (zF 0) (zA (yD 3 (qG RF) (zA (zF 1) (zA (zF 0) (zA (mC (.int 0)) zT)))) zT))))))
noncomputable def dd(pd:D):Option D:=ddE [.un,.v pd,.v (.int 0)]
noncomputable def zNK(st:Mst):Option D:=match st.ended with
 |.non=>(st.come.getLast?).bind λv=>(QJ [.v v]).bind λq=>match q.1 with
  |.v d=>some (.tup [.str [118,97,108,117,101],.int st.steps,d])
  |_=>none
 |.tup [a,b]=>some (.tup [a,.int st.steps,b])
 |_=>none
noncomputable def zPT(m:Int)(d:D):Option D:=match d with
 |.dct ks l=>(yW ks l (.inr ⟨([109,97,105,110]:List Nat).toArray⟩)).bind λe=>(bK WF ⟨m,0,[.tup [e,.dct [] [],.bl false]],[],.non,d⟩).bind zNK
 |_=>none
noncomputable def dZ:MF:=λas=>match as with
 |[.v pd,.v (.int m)]=>(dd pd).bind λd=>(zPT m d).map λx=>(.v x,[.v pd,.v (.int m)])
 |_=>none
noncomputable def xO:MS:=(yL (sIf (nR (mBl (zJ gtD (zF 2) (mC (.int 0)))) (mBl (zJ (neN 400) (yD 2 dZ (zA (zF 0) (zA (zJ zIV (zF 2) (mC (.int 1))) zT))) (yY (zA (mC (.str [116,105,114,101,100])) (zA (zJ zIV (zF 2) (mC (.int 1))) (zA (mC .non) zT)))))))
 (jD (mC (.bl false)))
 wB)
 (jD (yD 2 (yG x3) (zA (yD 2 dZ (zA (zF 0) (zA (zF 2) zT))) (zA (zF 1) zT)))))
noncomputable def x6:MF:=mkF 3 3 xO
noncomputable def zDO:MS:=(yL (qH 1 (yD 2 xE (zA (yD 2 vH (zA (zF 0) (zA (mC (.int 0)) zT))) (zA (mC (.int 900)) zT))))
 (yL (qH 2 (yD 1 jO (zA (zF 1) zT)))
 (yL (qH 3 (mSl (zF 0) (jZ (mC (.int 1))) (jZ (mC (.int 71)))))
 (yL (qH 4 (zJ kZ (mC (.int 1)) (zJ xY (zOR (zA (mC (.int 0)) (zA (zJ zIV (mUn gW (zF 3)) (mC (.int 1))) zT))) (mC (.int 7)))))
 (yL (tR 5 mD0)
 (yL (qH 6 (yY (zA (mC (.str [101,109,112,116,121])) zT)))
 (yL (qH 7 (mC (.int 0)))
 (yL (zDC 8 (wD zT))
 (yL (o9 (yV 9) (ZO (zF 4))
 (yL (o9 (qI 2 (yE (yV 10) (yE (yV 11) qZ))) (JF (mSl (zF 3) (jZ (zJ hI (mC (.int 7)) (zF 9))) (jZ (zJ kZ (zJ hI (mC (.int 7)) (zF 9)) (mC (.int 7))))))
 (yL (zDE (nP 4 x4 5 (zE (zF 6) (zP (zA (yD 2 xE (zA (zF 11) (zA (zJ kZ (zJ hI (mC (.int 7)) (zF 9)) (zF 10)) zT))) (zA (zF 2) zT))))) (qI 2 (yE (yV 6) (yE (yV 12) qZ))))
 (qH 7 (zJ kZ (zF 7) (zF 12)))))
 (sIf (mBl (zJ ltA (zF 9) (zJ zIV (zF 4) (mC (.int 1)))))
 (yL (qH 13 (zJ kZ (mC (.str [100])) (zJ ixD (mC (.str [97,98,99,100,101,103,104,105,106,107])) (zF 9))))
 (yL (sX (QL 8 (yY (zA (zF 13) (zA (zF 6) zT)))))
 (yL (qH 6 (yY (zA (mC (.str [110,97,109,101])) (zA (zF 13) zT))))
 (qH 7 (zJ kZ (zF 7) (mC (.int 1)))))))
 wB)))
 (yL (sFz 5 (qH 14 (yY (zA (mC (.str [114,101,99])) (zA (gM (vR [5] 2 (mIt (qN (kG (qS (zF 5))))) (yV 1) (yY (zA (zF 1) (zA (rH (qS (zF 0)) (zF 1)) zT))))) zT)))))
 (yL (sIf (nR (mBl (zJ eqA (zJ jI (zJ xY (zF 1) (mC (.int 7))) (mC (.int 3))) (mC (.int 0)))) (zDI (qS (zF 5))))
 (yL (qH 15 (zJ ixD (qN (kG (qS (zF 5)))) (zJ jI (zJ xY (zF 1) (mC (.int 21))) (rG (qS (zF 5))))))
 (yL (qH 6 (yY (zA (mC (.str [103,101,116])) (zA (zF 15) (zA (zF 6) zT)))))
 (qH 14 (rH (qS (zF 5)) (zF 15)))))
 wB)
 (yL (sX (QL 8 (yY (zA (mC (.str [109,97,105,110])) (zA (zF 6) zT)))))
 (yL (qH 16 (nM (o7 8)))
 (yL (qH 17 (nQ 2 dZ 8 (zA (mC (.int 1000)) zT)))
 (yL (sIf (zJE (pD (kS (yD 2 (yG x3) (zA (zF 17) (zA (yY (zA (mC (.str [118,97,108,117,101])) (zA (zF 7) (zA (zF 14) zT)))) zT))))) (pD (kS (nQ 3 x6 8 (zA (zF 17) (zA (zF 7) zT))))))
 (jD (mC (.bl false)))
 wB)
 (zPS 8 (jD (zJ eqA (nM (zIX (zF 8))) (zF 16)))))))))))))))))))
noncomputable def YU:MF:=mkF 1 18 zDO
structure De(K:Fg)(mg:Str->Option Value)(n:Str)(i:Nat)(ps:List Str) where
 a:Addr
 d:FuncData
 F:Fun K n n (top i) a d
 m:mg n=some (.ref a)
 b:Binds K d ps []
abbrev Ok(P:Program)(w:World){K:Fg}{mg:Str->Option Value}(base:Heap){n:Str}{i:Nat}{ps:List Str}(D:De K mg n i ps)(k m:Nat)(F:MF):Prop:=FnOk P w K mg base CX0 k D.a D.d ps (spD K m F)
set_option genInjectivity false in
set_option genSizeOf false in
structure Txt(K:Fg)(mg:Str->Option Value)(Ps:Params) where
 d_inner:De K mg "inner" 2 ["expression"]
 d_places:De K mg "places" 1 ["E"]
 d_inner_numbers:De K mg "inner_numbers" 4 ["expression", "number"]
 d_sort_of:De K mg "sort_of" 9 ["value"]
 d_binding:De K mg "binding" 10 ["bound", "name", "value"]
 d_held_in:De K mg "held_in" 38 ["value"]
 d_told_part:De K mg "told_part" 39 ["value", "held"]
 d_told:De K mg "told" 37 ["value"]
 d_marked:De K mg "marked" 15 ["expression", "name", "number"]
 d_has_field:De K mg "has_field" 17 ["value", "label"]
 d_has_no_field:De K mg "has_no_field" 18 ["value", "label"]
 d_with_field:De K mg "with_field" 19 ["record", "label", "value"]
 d_without_field:De K mg "without_field" 20 ["record", "label"]
 d__law_cell:De K mg "_law_cell" 41 ["_law_script", "_law_k"]
 d__law_mixed:De K mg "_law_mixed" 42 ["_law_cell_here", "_law_k"]
 d__law_alike:De K mg "_law_alike" 43 ["_law_found", "_law_due"]
 d__law_labels:De K mg "_law_labels" 44 ["_law_cell_here"]
 d__law_laid:De K mg "_law_laid" 45 ["_law_number", "_law_labels_here"]
 d__law_done:De K mg "_law_done" 46 ["_law_told", "_law_fields", "_law_number", "_law_labels_here"]
 d__law_steps_fit:De K mg "_law_steps_fit" 47 ["_law_program", "_law_found", "_law_steps"]
 d_law:De K mg "law" 48 ["_law_script"]
 C:Addr
 B:Addr
 mC:mg "Plain" = some (.ref C)
 mB:mg "Reckoner" = some (.ref B)
 cl:Cls K C
 n_most:NoAttr K C "most"
 n_steps:NoAttr K C "steps"
 n_waiting:NoAttr K C "waiting"
 n_come:NoAttr K C "come"
 n_ended:NoAttr K C "ended"
 n_defs:NoAttr K C "defs"
 m_rinit:Dm K "__init__" "Reckoner.__init__" (cP 8 0) ["self", "most"]
 m_pinit:Dm K "__init__" "Plain.__init__" (cP 16 0) ["self", "program", "most"]
 m_begin:Dm K "begin" "Reckoner.begin" (cP 8 1) ["self", "expression", "around"]
 m_tell:Dm K "tell" "Reckoner.tell" (cP 8 2) ["self", "value"]
 m_step:Dm K "step" "Reckoner.step" (cP 8 3) ["self"]
 m_run_on:Dm K "run_on" "Reckoner.run_on" (cP 8 4) ["self"]
 m_begin_parts:Dm K "begin_parts" "Reckoner.begin_parts" (cP 8 5) ["self", "expression", "around"]
 m_parts_come:Dm K "parts_come" "Reckoner.parts_come" (cP 8 6) ["self", "expression"]
 m_go_on:Dm K "go_on" "Plain.go_on" (cP 16 1) ["self", "expression", "bound", "parts"]
 h_begin:Meth K C "begin" m_begin.a
 h_tell:Meth K C "tell" m_tell.a
 h_step:Meth K C "step" m_step.a
 h_run_on:Meth K C "run_on" m_run_on.a
 h_begin_parts:Meth K C "begin_parts" m_begin_parts.a
 h_parts_come:Meth K C "parts_come" m_parts_come.a
 h_go_on:Meth K C "go_on" m_go_on.a
 mkC:Mk K C m_pinit.a
 cm:CMeth K B "__init__" m_rinit.a
 d_run:De K mg "run" 14 ["program", "most"]
 d_of_num:De K mg "of_num" 21 ["plain", "expression", "bound", "parts"]
 d_of_name:De K mg "of_name" 22 ["plain", "expression", "bound", "parts"]
 d_of_fn:De K mg "of_fn" 23 ["plain", "expression", "bound", "parts"]
 d_of_do:De K mg "of_do" 24 ["plain", "expression", "bound", "parts"]
 d_of_empty:De K mg "of_empty" 25 ["plain", "expression", "bound", "parts"]
 d_of_get:De K mg "of_get" 26 ["plain", "expression", "bound", "parts"]
 d_of_with:De K mg "of_with" 27 ["plain", "expression", "bound", "parts"]
 d_of_put:De K mg "of_put" 28 ["plain", "expression", "bound", "parts"]
 d_of_less:De K mg "of_less" 29 ["plain", "expression", "bound", "parts"]
 d_of_tag:De K mg "of_tag" 30 ["plain", "expression", "bound", "parts"]
 wt:List (List Nat×Addr)
 ways:QI mg K Ps "WAYS" wt
 ahead:zIT mg K Ps "AHEAD" AH
 w_num:kT wt [110,117,109]=some d_of_num.a
 w_name:kT wt [110,97,109,101]=some d_of_name.a
 w_fn:kT wt [102,110]=some d_of_fn.a
 w_do:kT wt [100,111]=some d_of_do.a
 w_empty:kT wt [101,109,112,116,121]=some d_of_empty.a
 w_get:kT wt [103,101,116]=some d_of_get.a
 w_with:kT wt [119,105,116,104]=some d_of_with.a
 w_put:kT wt [112,117,116]=some d_of_put.a
 w_less:kT wt [108,101,115,115]=some d_of_less.a
 w_tag:kT wt [116,97,103]=some d_of_tag.a
 z_bool:mg "bool" = none
 z_dict:mg "dict" = none
 z_enumerate:mg "enumerate" = none
 z_int:mg "int" = none
 z_isinstance:mg "isinstance" = none
 z_len:mg "len" = none
 z_list:mg "list" = none
 z_max:mg "max" = none
 z_range:mg "range" = none
 z_repr:mg "repr" = none
 z_reversed:mg "reversed" = none
 z_sorted:mg "sorted" = none
 z_str:mg "str" = none
 z_tuple:mg "tuple" = none
 z_zip:mg "zip" = none
 c_MOST_PARTS:∃t,mg "MOST_PARTS" = some (.int 200 t)
section
variable{P:Program}{w:World}{K:Fg}{mg:Str->Option Value}{base:Heap}
theorem scM{N P:List Str}{sc:Scope}(a:sc.kind=.function:=by rfl)(b:sc.isCoroutine=false:=by rfl)(c:sc.isGenerator=false:=by rfl)(d:N.Nodup:=by decide +kernel)(e:N.take P.length=P:=by rfl)(f:∀x∈P,sc.names.lookup x=some .local\/sc.names.lookup x=some .cell:=by decide +kernel)(g:∀y∈sc.names,y.2≠.free:=by decide +kernel):FnScope N P sc:=⟨a,b,c,d,e,f,g⟩
theorem zAZ:FnScope ["expression"] ["expression"] (zO (top 2)):=scM
theorem ZI(T:Txt K mg w.params):Ok P w base T.d_inner 1 1 vG:=by
 refine n8 T.d_inner.F zAZ 1 1 rfl rfl (g:=dN) (λcdv A outer s H E hr=>?_);unfold dN;exact(by refine yB ?_;exact(by refine yS ?_;exact(by refine J8 ?_;exact(W4 (N':=["part"]) (cap:=[]) rfl bB (cJ (zC 0 (pv 0))) (λ_ _ _ _=>(yZ 0 (show(["part"]:List Str).Nodup by decide +kernel))) (λ_ _ _ _=>by exact(jY (xQ (by rfl) (by exact T.z_isinstance) (zC 0 (pv 0)) (qC (by rfl) (by exact T.z_tuple) ri rfl)))) (λ_ _ _ _=>by exact(zC 0 (pv 0))) 1))))
theorem sc_places:FnScope ["E", "found", "waiting", "place"] ["E"] (zO (top 1)):=scM
theorem X4(T:Txt K mg w.params):Ok P w base T.d_places 2 1 j9:=by
 refine n8 T.d_places.F sc_places 1 4 rfl rfl (g:=vA) (λcdv A outer s H E hr=>?_);unfold vA;exact(by refine zK ?_ ?_;exact(bA 1 (by refine qK ?_;exact zL) sc_places.nd);exact(by refine zK ?_ ?_;exact(bA 2 (by refine qK ?_;exact(zB (zC 0 (pv 0)) zL (hs:=zS))) sc_places.nd);exact(by refine zK ?_ ?_;exact(YD WF gt (JW (gP 2 (pv 2))) (by refine zK ?_ ?_;exact(zHZ 3 (zCN 2 (pv 2)) sc_places.nd);exact(by refine zK ?_ ?_;exact(zDQ (kY 1 (pv 1) (zC 3 (pv 3))));exact(by refine yB ?_;exact(zDQ (oC 2 (pv 2) (zIA (yJ (ZI T) (hr.mono (by decide)) (by rfl) T.d_inner.m T.d_inner.F.kp T.d_inner.b (zB (zC 3 (pv 3)) zL (hs:=zS))))))))));exact(by refine yB ?_;exact(oE 1 (pv 1))))))
theorem sc_inner_numbers:FnScope ["expression", "number", "found", "behind", "part"] ["expression", "number"] (zO (top 4)):=scM
theorem vM(T:Txt K mg w.params):Ok P w base T.d_inner_numbers 3 2 xI:=by
 refine n8 T.d_inner_numbers.F sc_inner_numbers 2 5 rfl rfl (g:=xG) (λcdv A outer s H E hr=>?_);unfold xG;exact(by refine zK ?_ ?_;exact(bA 2 (by refine qK ?_;exact zL) sc_inner_numbers.nd);exact(by refine zK ?_ ?_;exact(xA 3 (zU xL xM (zC 1 (pv 1)) zG) sc_inner_numbers.nd);exact(by refine zK ?_ ?_;exact(oG gt rfl (cJ (yJ (ZI T) (hr.mono (by decide)) (by rfl) T.d_inner.m T.d_inner.F.kp T.d_inner.b (zB (zC 0 (pv 0)) zL (hs:=zS)))) (yZ 4 sc_inner_numbers.nd) (by refine zK ?_ ?_;exact(zDQ (kY 2 (pv 2) (zC 3 (pv 3))));exact(by refine yB ?_;exact(zH3 3 (cK (by rfl) T.z_len (by refine J8 ?_;exact(JY (X4 T) (hr.mono (by decide)) (by rfl) T.d_places.m T.d_places.F.kp T.d_places.b (zB (zC 4 (pv 4)) zL (hs:=zS))))) sc_inner_numbers.nd))));exact(by refine yB ?_;exact(oE 2 (pv 2))))))
theorem pQ:FnScope ["value"] ["value"] (zO (top 9)):=scM
theorem wL(T:Txt K mg w.params):Ok P w base T.d_sort_of 1 1 xZ:=by
 refine n8 T.d_sort_of.F pQ 1 1 rfl rfl (g:=cF) (λcdv A outer s H E hr=>?_);unfold cF;exact(by refine yB ?_;exact(by refine yS ?_;exact(zO6 (jY (xQ (by rfl) T.z_isinstance (zC 0 (pv 0)) (qC (by rfl) T.z_int boot_int rfl))) (zW (s:=[110,117,109]) (by rfl)) (yH (zC 0 (pv 0)) zG))))
theorem sc_binding:FnScope ["bound", "name", "value", "more"] ["bound", "name", "value"] (zO (top 10)):=scM
theorem p9(T:Txt K mg w.params):Ok P w base T.d_binding 1 3 k7:=by
 refine n8 T.d_binding.F sc_binding 3 4 rfl rfl (g:=kW) (λcdv A outer s H E hr=>?_);unfold kW;exact(by refine zK ?_ ?_;exact(oF 3 (Z4 (by rfl) T.z_dict (YZ (zC 0 (pv 0)))) sc_binding.nd);exact(by refine zK ?_ ?_;exact(by refine dQ 3 (un1 hr) (pv 3) ?_ ?_;exact(zC 1 (pv 1));exact(zC 2 (pv 2)));exact(by refine yB ?_;exact(zH0 3 (pv 3)))))
theorem pU:FnScope ["value"] ["value"] (zO (top 38)):=scM
theorem dE(T:Txt K mg w.params):Ok P w base T.d_held_in 2 1 xS:=by
 refine n8 T.d_held_in.F pU 1 1 rfl rfl (g:=kU) (λcdv A outer s H E hr=>?_);unfold kU;exact(by refine zK ?_ ?_;exact(jM (wG (jB hr.units0) jC (yJ (wL T) (hr.mono (by decide)) (by rfl) T.d_sort_of.m T.d_sort_of.F.kp T.d_sort_of.b (zB (zC 0 (pv 0)) zL (hs:=zS))) (zW (s:=[114,101,99]) (by rfl)) (xU _)) (by refine yB ?_;exact(by refine yS ?_;exact(by refine J8 ?_;exact(oJ (N':=["value", "label"]) (cap:=[0]) rfl bB (cJ (by refine J8 ?_;exact(dR rfl (by rfl) T.z_sorted (YZ (yH (zC 0 (pv 0)) zG))))) (λ_ _ _ _=>(yZ 1 (show(["value", "label"]:List Str).Nodup by decide +kernel))) (λ_ _ _ _=>by exact(oP (un1 hr) (YZ (by refine yH ?_ ?_;exact(zC 0 (pv 0));exact zG)) (zC 1 (pv 1)))) 2)))) wH);exact(by refine zK ?_ ?_;exact(jM (wG (jB hr.units0) jC (yJ (wL T) (hr.mono (by decide)) (by rfl) T.d_sort_of.m T.d_sort_of.F.kp T.d_sort_of.b (zB (zC 0 (pv 0)) zL (hs:=zS))) (zW (s:=[111,110,101]) (by rfl)) (xU _)) (by refine yB ?_;exact(by refine yS ?_;exact(by refine J8 ?_;exact(by refine qK ?_;exact(zB (yH (zC 0 (pv 0)) zG) zL (hs:=w6)))))) wH);exact(by refine yB ?_;exact(by refine yS ?_;exact(by refine J8 ?_;exact(by refine qK ?_;exact zL))))))
theorem gB:FnScope ["value", "held"] ["value", "held"] (zO (top 39)):=scM
theorem gI(T:Txt K mg w.params):Ok P w base T.d_told_part 2 2 wJ:=by
 refine n8 T.d_told_part.F gB 2 2 rfl rfl (g:=qO) (λcdv A outer s H E hr=>?_);unfold qO;exact(by refine zK ?_ ?_;exact(jM (wG (jB hr.units0) jC (yJ (wL T) (hr.mono (by decide)) (by rfl) T.d_sort_of.m T.d_sort_of.F.kp T.d_sort_of.b (zB (zC 0 (pv 0)) zL (hs:=zS))) (zW (s:=[114,101,99]) (by rfl)) (xU _)) (by refine yB ?_;exact(by refine yS ?_;exact(by refine zY ?_;exact(by refine zB (zW (s:=[114,101,99]) (by rfl)) ?_ (hs:=zV);refine zB (by refine W5 rfl (by rfl) T.z_tuple (by rfl) T.z_zip ?_ ?_;exact(by refine J8 ?_;exact(dR rfl (by rfl) T.z_sorted (YZ (yH (zC 0 (pv 0)) zG))));exact(zC 1 (pv 1))) ?_ (hs:=pO);exact zL)))) wH);exact(by refine zK ?_ ?_;exact(jM (wG (jB hr.units0) jC (yJ (wL T) (hr.mono (by decide)) (by rfl) T.d_sort_of.m T.d_sort_of.F.kp T.d_sort_of.b (zB (zC 0 (pv 0)) zL (hs:=zS))) (zW (s:=[111,110,101]) (by rfl)) (xU _)) (by refine yB ?_;exact(by refine yS ?_;exact(by refine zY ?_;exact(by refine zB (zW (s:=[111,110,101]) (by rfl)) ?_ (hs:=zV);refine zB (yH (zC 0 (pv 0)) zG) ?_ (hs:=w6);refine zB (yH (zC 1 (pv 1)) zG) ?_ (hs:=w6);exact zL)))) wH);exact(by refine zK ?_ ?_;exact(jM (wG (jB hr.units0) jC (yJ (wL T) (hr.mono (by decide)) (by rfl) T.d_sort_of.m T.d_sort_of.F.kp T.d_sort_of.b (zB (zC 0 (pv 0)) zL (hs:=zS))) (zW (s:=[102,110]) (by rfl)) (xU _)) (by refine yB ?_;exact(by refine yS ?_;exact(by refine zY ?_;exact(zB (zW (s:=[102,110]) (by rfl)) zL (hs:=zV))))) wH);exact(by refine yB ?_;exact(by refine yS ?_;exact(zC 0 (pv 0)))))))
theorem sc_told:FnScope ["value", "found", "waiting", "done", "part"] ["value"] (zO (top 37)):=scM
theorem zF6(T:Txt K mg w.params):Ok P w base T.d_told 3 1 QJ:=by
 refine n8 T.d_told.F sc_told 1 5 rfl rfl (g:=rL) (λcdv A outer s H E hr=>?_);unfold rL;exact(by refine zK ?_ ?_;exact(bA 1 (by refine qK ?_;exact zL) sc_told.nd);exact(by refine zK ?_ ?_;exact(bA 2 (by refine qK ?_;exact(zB (zC 0 (pv 0)) zL (hs:=zS))) sc_told.nd);exact(by refine zK ?_ ?_;exact(YD WF gt (JW (gP 2 (pv 2))) (by refine zK ?_ ?_;exact(zDQ (uY 1 (pv 1) (zCN 2 (pv 2))));exact(by refine zK ?_ ?_;exact(jM (wG zMR zMU (zIC (by rfl) T.z_len (gP 1 (pv 1))) (zIH T.c_MOST_PARTS (by rfl)) (xU _)) (by refine yB ?_;exact(by refine yS ?_;exact(by refine zY ?_;exact(zB (zW (s:=[100,101,101,112]) (by rfl)) zL (hs:=zV))))) wH);exact(by refine yB ?_;exact(zDQ (oC 2 (pv 2) (zIA (yJ (dE T) (hr.mono (by decide)) (by rfl) T.d_held_in.m T.d_held_in.F.kp T.d_held_in.b (zB (zIE (gP 1 (pv 1)) (zL4 zG)) zL (hs:=w6))))))))));exact(by refine zK ?_ ?_;exact(bA 3 (by refine qK ?_;exact zL) sc_told.nd);exact(by refine zK ?_ ?_;exact(zRK 1 (oG gt rfl (zCZ (by rfl) T.z_reversed (zRL 1 (pv 1))) (yZ 4 sc_told.nd) (by refine yB ?_;exact(zDQ (uY 3 (pv 3) (YA (gI T) (hr.mono (by decide)) (by rfl) T.d_told_part.m T.d_told_part.F.kp T.d_told_part.b (mH (zC 4 (pv 4)) (Z9 (by refine zCO (N':=["done", "held"]) (i:=3) rfl bB ?_ ?_ ?_ zFH 2;exact(cJ (yJ (dE T) (hr.mono (by decide)) (by rfl) T.d_held_in.m T.d_held_in.F.kp T.d_held_in.b (zB (zC 4 (pv 4)) zL (hs:=zS))));exact(λ_ _ _ _=>(yZ 1 (show(["done", "held"]:List Str).Nodup by decide +kernel)));exact(λ_ _ _ _=>by exact(zCN 0 (pv 0))))))))))));exact(by refine yB ?_;exact(by refine yS ?_;exact(zIE (gP 3 (pv 3)) zG))))))))
theorem sc_marked:FnScope ["expression", "name", "number", "below", "parts", "part"] ["expression", "name", "number"] (zO (top 15)):=scM
theorem nG:∀(k:Nat) (T:Txt K mg w.params),Ok P w base T.d_marked (k+3) 3 (qG k)
 |0,T=>zQO 3
 |k+1,T=>by
  have G:=nG k T;rw[show k+1+3=(k+3)+1 by omega];refine n8 T.d_marked.F sc_marked 3 6 rfl rfl (g:=uW (qG k)) (λcdv A outer s H E hr=>?_);unfold uW;exact(by refine zK ?_ ?_;exact(bA 3 (JY (vM T) (hr.mono (by omega)) (by rfl) T.d_inner_numbers.m T.d_inner_numbers.F.kp T.d_inner_numbers.b (by refine zB (zC 0 (pv 0)) ?_ (hs:=zS);refine zB (zC 2 (pv 2)) ?_ (hs:=zS);exact zL)) sc_marked.nd);exact(by refine zK ?_ ?_;exact(bA 4 (by refine qK ?_;exact zL) sc_marked.nd);exact(by refine zK ?_ ?_;exact(oG gt rfl (cJ (zC 0 (pv 0))) (yZ 5 sc_marked.nd) (by refine yB ?_;exact(jM (jY (xQ (by rfl) T.z_isinstance (zC 5 (pv 5)) (qC (by rfl) T.z_tuple ri rfl))) (by refine yB ?_;exact(zDQ (uY 4 (pv 4) (YA G (hr.mono (by omega)) (by rfl) T.d_marked.m T.d_marked.F.kp T.d_marked.b (mH (zC 5 (pv 5)) (mH (zC 1 (pv 1)) (Z9 (zHS 3 (pv 3))))))))) (by refine yB ?_;exact(zDQ (kY 4 (pv 4) (zC 5 (pv 5))))))));exact(by refine yB ?_;exact(by refine yS ?_;exact(dS (by rfl) T.z_tuple (by refine zL6 ?_;exact(zL2 (gP 4 (pv 4)) (by refine zL6 ?_;exact(by refine qK ?_;exact(zB (by refine zY ?_;exact(by refine zB (zC 1 (pv 1)) ?_ (hs:=zS);refine zB (zC 2 (pv 2)) ?_ (hs:=zS);exact zL)) zL (hs:=yX))))))))))))
theorem gC:FnScope ["value", "label"] ["value", "label"] (zO (top 17)):=scM
theorem j6(T:Txt K mg w.params):Ok P w base T.d_has_field 2 2 y6:=by
 refine n8 T.d_has_field.F gC 2 2 rfl rfl (g:=vB) (λcdv A outer s H E hr=>?_);unfold vB;exact(by refine yB ?_;exact(by refine yS ?_;exact(rR (oN (jB hr.units0) jC (yJ (wL T) (hr.mono (by decide)) (by rfl) T.d_sort_of.m T.d_sort_of.F.kp T.d_sort_of.b (zB (zC 0 (pv 0)) zL (hs:=zS))) (zW (s:=[114,101,99]) (by rfl)) (xU _)) (W6 (zIG (zC 1 (pv 1)) (YZ (yH (zC 0 (pv 0)) zG)))))))
theorem vW:FnScope ["value", "label"] ["value", "label"] (zO (top 18)):=scM
theorem v7(T:Txt K mg w.params):Ok P w base T.d_has_no_field 2 2 wA:=by
 refine n8 T.d_has_no_field.F vW 2 2 rfl rfl (g:=qT) (λcdv A outer s H E hr=>?_);unfold qT;exact(by refine yB ?_;exact(by refine yS ?_;exact(rR (oN (jB hr.units0) jC (yJ (wL T) (hr.mono (by decide)) (by rfl) T.d_sort_of.m T.d_sort_of.F.kp T.d_sort_of.b (zB (zC 0 (pv 0)) zL (hs:=zS))) (zW (s:=[114,101,99]) (by rfl)) (xU _)) (W6 (rQ (zC 1 (pv 1)) (YZ (yH (zC 0 (pv 0)) zG)))))))
theorem sc_with_field:FnScope ["record", "label", "value", "fields"] ["record", "label", "value"] (zO (top 19)):=scM
theorem k8(T:Txt K mg w.params):Ok P w base T.d_with_field 1 3 xR:=by
 refine n8 T.d_with_field.F sc_with_field 3 4 rfl rfl (g:=wY) (λcdv A outer s H E hr=>?_);unfold wY;exact(by refine zK ?_ ?_;exact(oF 3 (Z4 (by rfl) T.z_dict (YZ (yH (zC 0 (pv 0)) zG))) sc_with_field.nd);exact(by refine zK ?_ ?_;exact(by refine dQ 3 (un1 hr) (pv 3) ?_ ?_;exact(zC 1 (pv 1));exact(zC 2 (pv 2)));exact(by refine yB ?_;exact(zJK 3 (by refine yS ?_;exact(by refine zY ?_;exact(by refine zB (zW (s:=[114,101,99]) (by rfl)) ?_ (hs:=zV);refine zB (zC 3 (pv 3)) ?_ (hs:=zS);exact zL)))))))
theorem sc_without_field:FnScope ["record", "label", "fields"] ["record", "label"] (zO (top 20)):=scM
theorem vL(T:Txt K mg w.params):Ok P w base T.d_without_field 1 2 wI:=by
 refine n8 T.d_without_field.F sc_without_field 2 3 rfl rfl (g:=xX) (λcdv A outer s H E hr=>?_);unfold xX;exact(by refine zK ?_ ?_;exact(oF 2 (Z4 (by rfl) T.z_dict (YZ (yH (zC 0 (pv 0)) zG))) sc_without_field.nd);exact(by refine zK ?_ ?_;exact(zDQ (JV 2 (pv 2) (zC 1 (pv 1))));exact(by refine yB ?_;exact(zJK 2 (by refine yS ?_;exact(by refine zY ?_;exact(by refine zB (zW (s:=[114,101,99]) (by rfl)) ?_ (hs:=zV);refine zB (zC 2 (pv 2)) ?_ (hs:=zS);exact zL)))))))
theorem gD:FnScope ["_law_script", "_law_k"] ["_law_script", "_law_k"] (zO (top 41)):=scM
theorem gK(T:Txt K mg w.params):Ok P w base T.d__law_cell 1 2 vH:=by
 refine n8 T.d__law_cell.F gD 2 2 rfl rfl (g:=qP) (λcdv A outer s H E hr=>?_);unfold qP;exact(by refine zK ?_ ?_;exact(jM (wG X1 WC (zC 1 (pv 1)) (cK (by rfl) T.z_len (zC 0 (pv 0))) (xU _)) (by refine yB ?_;exact(by refine yS ?_;exact(yH (zC 0 (pv 0)) (zC 1 (pv 1))))) wH);exact(by refine yB ?_;exact(by refine yS ?_;exact zG)))
theorem sc__law_mixed:FnScope ["_law_cell_here", "_law_k", "_law_number"] ["_law_cell_here", "_law_k"] (zO (top 42)):=scM
theorem jG(T:Txt K mg w.params):Ok P w base T.d__law_mixed 1 2 xE:=by
 refine n8 T.d__law_mixed.F sc__law_mixed 2 3 rfl rfl (g:=wZ) (λcdv A outer s H E hr=>?_);unfold wZ;exact(by refine zK ?_ ?_;exact(xA 2 (zU wO wP (zU xL xM (zU xL xM (zU wO wP (zC 0 (pv 0)) zG) (zU gH gL zG (zC 1 (pv 1)))) zG) zG) sc__law_mixed.nd);exact(by refine zK ?_ ?_;exact(xA 2 (zU wO wP (zU gH gL (zC 2 (pv 2)) (zC 2 (pv 2))) zG) sc__law_mixed.nd);exact(by refine yB ?_;exact(by refine yS ?_;exact(zU wQ wR (zU wO wP (zU gH gL (zC 2 (pv 2)) (zU xL xM (zC 2 (pv 2)) zG)) zG) zG)))))
theorem sc__law_alike:FnScope ["_law_found", "_law_due", "_law_one", "_law_other"] ["_law_found", "_law_due"] (zO (top 43)):=scM
theorem jH:∀(k:Nat) (T:Txt K mg w.params),Ok P w base T.d__law_alike (k+0) 2 (yG k)
 |0,T=>zQO 2
 |k+1,T=>by
  have G:=jH k T;rw[show k+1+0=(k+0)+1 by omega];refine n8 T.d__law_alike.F sc__law_alike 2 4 rfl rfl (g:=xD (yG k)) (λcdv A outer s H E hr=>?_);unfold xD;exact(by refine zK ?_ ?_;exact(jM (zLY (zHT (jY (xQ (by rfl) T.z_isinstance (zC 1 (pv 1)) (qC (by rfl) T.z_tuple ri rfl))) (W0 (jY (xQ (by rfl) T.z_isinstance (zC 1 (pv 1)) (qC (by rfl) T.z_list boot_list rfl)))))) (by refine zK ?_ ?_;exact(jM (zLY (zHT (wG (X0 hr.units0) WB (xQ (by rfl) T.z_isinstance (zC 0 (pv 0)) (qC (by rfl) T.z_tuple ri rfl)) (xQ (by rfl) T.z_isinstance (zC 1 (pv 1)) (qC (by rfl) T.z_tuple ri rfl)) (xU _)) (W0 (wG (X0 hr.units0) WB (xQ (by rfl) T.z_isinstance (zC 0 (pv 0)) (qC (by rfl) T.z_list boot_list rfl)) (xQ (by rfl) T.z_isinstance (zC 1 (pv 1)) (qC (by rfl) T.z_list boot_list rfl)) (xU _))))) (by refine yB ?_;exact(by refine yS ?_;exact oO)) wH);exact(by refine zK ?_ ?_;exact(jM (wG (X0 hr.units0) WB (cK (by rfl) T.z_len (zC 0 (pv 0))) (cK (by rfl) T.z_len (zC 1 (pv 1))) (xU _)) (by refine yB ?_;exact(by refine yS ?_;exact oO)) wH);exact(by refine zK ?_ ?_;exact(oG gt rfl (zH7 (by rfl) T.z_zip (zC 0 (pv 0)) (zC 1 (pv 1))) (gO rfl (x2 (yZ 2 sc__law_alike.nd) (x2 (yZ 3 sc__law_alike.nd) uI))) (by refine yB ?_;exact(jM (zCR (jY (yJ G (hr.mono (by omega)) (by rfl) T.d__law_alike.m T.d__law_alike.F.kp T.d__law_alike.b (by refine zB (zC 2 (pv 2)) ?_ (hs:=zS);refine zB (zC 3 (pv 3)) ?_ (hs:=zS);exact zL)))) (by refine yB ?_;exact(by refine yS ?_;exact oO)) wH)));exact(by refine yB ?_;exact(by refine yS ?_;exact oO))))) wH);exact(by refine zK ?_ ?_;exact(jM (jY (xQ (by rfl) T.z_isinstance (zC 1 (pv 1)) (qC (by rfl) T.z_int boot_int rfl))) (by refine yB ?_;exact(by refine yS ?_;exact(rR (xQ (by rfl) T.z_isinstance (zC 0 (pv 0)) (qC (by rfl) T.z_int boot_int rfl)) (rR (zL3 (xQ (by rfl) T.z_isinstance (zC 0 (pv 0)) (qC (by rfl) T.z_bool boot_bool rfl))) (W6 (oN (jB hr.units0) jC (zC 0 (pv 0)) (zC 1 (pv 1)) (xU _))))))) wH);exact(by refine yB ?_;exact(by refine yS ?_;exact(rR (xQ (by rfl) T.z_isinstance (zC 0 (pv 0)) (qC (by rfl) T.z_str boot_str rfl)) (W6 (oN (jB hr.units0) jC (zC 0 (pv 0)) (zC 1 (pv 1)) (xU _))))))))
theorem sc__law_labels:FnScope ["_law_cell_here", "_law_base", "_law_at", "_law_labels_here"] ["_law_cell_here"] (zO (top 44)):=scM
theorem u7(T:Txt K mg w.params):Ok P w base T.d__law_labels 2 1 jO:=by
 refine n8 T.d__law_labels.F sc__law_labels 1 4 rfl rfl (g:=wM) (λcdv A outer s H E hr=>?_);unfold wM;exact(by refine zK ?_ ?_;exact(xA 1 (zID (zW (s:=[]) (by rfl)) (by refine zL6 ?_;exact(oJ (N':=["_law_cell_here", "_law_k"]) (cap:=[0]) rfl bB (YG (by rfl) T.z_range (zU xL xM zG (zU wO wP (zC 0 (pv 0)) zG))) (λ_ _ _ _=>(yZ 1 (show(["_law_cell_here", "_law_k"]:List Str).Nodup by decide +kernel))) (λ_ _ _ _=>by exact(by refine yH ?_ ?_;exact(zW (s:=[113,120,122,106,118,107,97,101,105,109]) (by rfl));exact(zU wO wP (yJ (jG T) (hr.mono (by decide)) (by rfl) T.d__law_mixed.m T.d__law_mixed.F.kp T.d__law_mixed.b (by refine zB ?_ ?_;exact(zC 0 (pv 0));refine zB ?_ ?_;exact(zU xL xM zG (zC 1 (pv 1)));exact zL)) zG))) 2))) sc__law_labels.nd);exact(by refine zK ?_ ?_;exact(xA 2 (zU wO wP (zU wQ wR (zC 0 (pv 0)) zG) (cK (by rfl) T.z_len (zC 1 (pv 1)))) sc__law_labels.nd);exact(by refine zK ?_ ?_;exact(zH2 3 (N':=["_law_base", "_law_at", "_law_k"]) (cap:=[1,2]) rfl bB (YG (by rfl) T.z_range zG) (λ_ _ _ _=>(yZ 2 (show(["_law_base", "_law_at", "_law_k"]:List Str).Nodup by decide +kernel))) (λ_ _ _ _=>by exact(zU xL xM (zU xL xM (J3 (zC 0 (pv 0)) oH (vD (zC 1 (pv 1)))) (by refine yH ?_ ?_;exact(zW (s:=[119,114,121]) (by rfl));exact(zC 2 (pv 2)))) (J3 (zC 0 (pv 0)) (vD (zC 1 (pv 1))) oH))) 3 sc__law_labels.nd);exact(by refine yB ?_;exact(by refine yS ?_;exact(zU xL xM (zC 3 (pv 3)) (by refine J8 ?_;exact(by refine qK ?_;exact(by refine zB (zU xL xM (zC 1 (pv 1)) (zW (s:=[113]) (by rfl))) ?_ (hs:=cY);refine zB (zU xL xM (zC 1 (pv 1)) (zW (s:=[113,97]) (by rfl))) ?_ (hs:=cY);refine zB (zU xL xM (J3 (zC 1 (pv 1)) oH (vD zG)) (zW (s:=[113,117]) (by rfl))) ?_ (hs:=cY);refine zB (zU xL xM (J3 (zC 1 (pv 1)) (vD zG) oH) (zW (s:=[113,122]) (by rfl))) ?_ (hs:=cY);refine zB (zU xL xM (zU xL xM (zW (s:=[122]) (by rfl)) (zC 1 (pv 1))) (zW (s:=[113]) (by rfl))) ?_ (hs:=cY);exact zL)))))))))
theorem sc__law_laid:FnScope ["_law_number", "_law_labels_here", "_law_drawn", "_law_label"] ["_law_number", "_law_labels_here"] (zO (top 45)):=scM
theorem j7(T:Txt K mg w.params):Ok P w base T.d__law_laid 1 2 xJ:=by
 refine n8 T.d__law_laid.F sc__law_laid 2 4 rfl rfl (g:=y4) (λcdv A outer s H E hr=>?_);unfold y4;exact(by refine zK ?_ ?_;exact(xA 2 (zU wO wP (zU gH gL (zU wQ wR (zC 0 (pv 0)) zG) zG) (zU zKT zKX zG zG)) sc__law_laid.nd);exact(by refine zK ?_ ?_;exact(xA 3 (yH (zC 1 (pv 1)) (zU wO wP (zU wQ wR (zC 0 (pv 0)) zG) zG)) sc__law_laid.nd);exact(by refine zK ?_ ?_;exact(jM (wG X1 WC (zU wO wP (zC 0 (pv 0)) zG) zG (xU _)) (by refine yB ?_;exact(by refine yS ?_;exact(by refine zY ?_;exact(by refine zB (by refine zY ?_;exact(by refine zB (zW (s:=[110,117,109]) (by rfl)) ?_ (hs:=zV);refine zB (zC 2 (pv 2)) ?_ (hs:=zS);exact zL)) ?_ (hs:=yX);refine zB (zC 2 (pv 2)) ?_ (hs:=zS);exact zL)))) wH);exact(by refine zK ?_ ?_;exact(jM (wG (jB hr.units0) jC (zU wO wP (zC 0 (pv 0)) zG) zG (xU _)) (by refine yB ?_;exact(by refine yS ?_;exact(by refine zY ?_;exact(by refine zB (by refine zY ?_;exact(zB (zW (s:=[101,109,112,116,121]) (by rfl)) zL (hs:=zV))) ?_ (hs:=yX);refine zB (by refine zY ?_;exact(by refine zB (zW (s:=[114,101,99]) (by rfl)) ?_ (hs:=zV);refine zB (by refine zY ?_;exact zL) ?_ (hs:=yX);exact zL)) ?_ (hs:=yX);exact zL)))) wH);exact(by refine zK ?_ ?_;exact(jM (wG (jB hr.units0) jC (zU wO wP (zC 0 (pv 0)) zG) zG (xU _)) (by refine yB ?_;exact(by refine yS ?_;exact(by refine zY ?_;exact(by refine zB (by refine zY ?_;exact(by refine zB (zW (s:=[119,105,116,104]) (by rfl)) ?_ (hs:=zV);refine zB (zC 3 (pv 3)) ?_ (hs:=zS);refine zB (by refine zY ?_;exact(by refine zB (zW (s:=[110,117,109]) (by rfl)) ?_ (hs:=zV);refine zB (zC 2 (pv 2)) ?_ (hs:=zS);exact zL)) ?_ (hs:=yX);refine zB (by refine zY ?_;exact(zB (zW (s:=[101,109,112,116,121]) (by rfl)) zL (hs:=zV))) ?_ (hs:=yX);exact zL)) ?_ (hs:=yX);refine zB (by refine zY ?_;exact(by refine zB (zW (s:=[114,101,99]) (by rfl)) ?_ (hs:=zV);refine zB (by refine zY ?_;exact(zB (by refine zY ?_;exact(by refine zB (zC 3 (pv 3)) ?_ (hs:=zS);refine zB (zC 2 (pv 2)) ?_ (hs:=zS);exact zL)) zL (hs:=yX))) ?_ (hs:=yX);exact zL)) ?_ (hs:=yX);exact zL)))) wH);exact(by refine yB ?_;exact(by refine yS ?_;exact(by refine zY ?_;exact(by refine zB (by refine zY ?_;exact(by refine zB (zW (s:=[116,97,103]) (by rfl)) ?_ (hs:=zV);refine zB (zC 3 (pv 3)) ?_ (hs:=zS);refine zB (by refine zY ?_;exact(by refine zB (zW (s:=[110,117,109]) (by rfl)) ?_ (hs:=zV);refine zB (zC 2 (pv 2)) ?_ (hs:=zS);exact zL)) ?_ (hs:=yX);exact zL)) ?_ (hs:=yX);refine zB (by refine zY ?_;exact(by refine zB (zW (s:=[111,110,101]) (by rfl)) ?_ (hs:=zV);refine zB (zC 3 (pv 3)) ?_ (hs:=zS);refine zB (zC 2 (pv 2)) ?_ (hs:=zS);exact zL)) ?_ (hs:=yX);exact zL)))))))))
theorem sc__law_done:FnScope ["_law_told", "_law_fields", "_law_number", "_law_labels_here", "_law_there", "_law_lacking", "_law_way", "_law_more", "_law_label", "_law_one", "_law_due", "_law_x", "_law_other", "_law_word", "_law_held"] ["_law_told", "_law_fields", "_law_number", "_law_labels_here"] (zO (top 46)):=scM
theorem gJ(T:Txt K mg w.params):Ok P w base T.d__law_done 2 4 x4:=by
 refine n8 T.d__law_done.F sc__law_done 4 15 rfl rfl (g:=wE) (λcdv A outer s H E hr=>?_);unfold wE;exact(by refine zK ?_ ?_;exact(xA 4 (by refine J8 ?_;exact(dR rfl (by rfl) T.z_sorted (zIJ 1 (pv 1)))) sc__law_done.nd);exact(by refine zK ?_ ?_;exact(W1 5 (N':=["_law_there", "_law_label"]) (cap:=[4]) rfl bB (cJ (zC 3 (pv 3))) (λ_ _ _ _=>(yZ 1 (show(["_law_there", "_law_label"]:List Str).Nodup by decide +kernel))) (λ_ _ _ _=>by exact(wG gG (zMT true) (zC 1 (pv 1)) (zC 0 (pv 0)) rfl)) (λ_ _ _ _=>by exact(zC 1 (pv 1))) 2 sc__law_done.nd);exact(by refine zK ?_ ?_;exact(xA 6 (zU wO wP (zC 2 (pv 2)) zG) sc__law_done.nd);exact(by refine zK ?_ ?_;exact(xA 7 (zU wQ wR (zC 2 (pv 2)) zG) sc__law_done.nd);exact(by refine zK ?_ ?_;exact(jM (zLY (zHT (zCT hr.units0 (zPY (zC 4 (pv 4))) (by refine zL6 ?_;exact(by refine qK ?_;exact zL))) (W0 (zLY (zCQ (wG X1 WC (zC 6 (pv 6)) zG (xU _)) (YB (zCS hr.units0 (zPY (zC 5 (pv 5))) (by refine zL6 ?_;exact(by refine qK ?_;exact zL))))))))) (by refine zK ?_ ?_;exact(xA 8 (yH (zC 5 (pv 5)) (zU wO wP (zC 7 (pv 7)) (cK (by rfl) T.z_len (zC 5 (pv 5))))) sc__law_done.nd);exact(by refine zK ?_ ?_;exact(zCU (yJ (j7 T) (hr.mono (by decide)) (by rfl) T.d__law_laid.m T.d__law_laid.F.kp T.d__law_laid.b (by refine zB (zU wQ wR (zC 7 (pv 7)) zG) ?_ (hs:=cY);refine zB (zC 3 (pv 3)) ?_ (hs:=zS);exact zL)) (gO rfl (x2 (yZ 9 sc__law_done.nd) (x2 (yZ 10 sc__law_done.nd) uI))));exact(by refine zK ?_ ?_;exact(by refine dQ 1 (un1 hr) (pv 1) ?_ ?_;exact(zC 8 (pv 8));exact(zC 10 (pv 10)));exact(by refine yB ?_;exact(by refine yS ?_;exact(by refine zY ?_;exact(by refine zB (by refine zY ?_;exact(by refine zB (zW (s:=[119,105,116,104]) (by rfl)) ?_ (hs:=zV);refine zB (zC 8 (pv 8)) ?_ (hs:=zS);refine zB (zC 9 (pv 9)) ?_ (hs:=zS);refine zB (zC 0 (pv 0)) ?_ (hs:=zS);exact zL)) ?_ (hs:=yX);refine zB zG ?_ (hs:=zV);exact zL))))))) wH);exact(by refine zK ?_ ?_;exact(xA 8 (yH (zC 4 (pv 4)) (zU wO wP (zC 7 (pv 7)) (cK (by rfl) T.z_len (zC 4 (pv 4))))) sc__law_done.nd);exact(by refine zK ?_ ?_;exact(jM (wG (jB hr.units0) jC (zC 6 (pv 6)) zG (xU _)) (by refine zK ?_ ?_;exact(zDQ (JV 1 (pv 1) (zC 8 (pv 8))));exact(by refine yB ?_;exact(by refine yS ?_;exact(by refine zY ?_;exact(by refine zB (by refine zY ?_;exact(by refine zB (zW (s:=[108,101,115,115]) (by rfl)) ?_ (hs:=zV);refine zB (zC 8 (pv 8)) ?_ (hs:=zS);refine zB (zC 0 (pv 0)) ?_ (hs:=zS);exact zL)) ?_ (hs:=yX);refine zB zG ?_ (hs:=zV);exact zL))))) wH);exact(by refine zK ?_ ?_;exact(jM (wG (jB hr.units0) jC (zC 6 (pv 6)) zG (xU _)) (by refine zK ?_ ?_;exact(xA 11 (yH (zC 3 (pv 3)) (zU wO wP (zU wQ wR (zC 7 (pv 7)) zG) zG)) sc__law_done.nd);exact(by refine zK ?_ ?_;exact(xA 12 (yH (zC 3 (pv 3)) (zU wO wP (zU wQ wR (zC 7 (pv 7)) zG) zG)) sc__law_done.nd);exact(by refine zK ?_ ?_;exact(by refine xA 13 ?_ ?_ ?_ ?_ ?_ ?_;exact(by refine yH ?_ ?_;exact(by refine J8 ?_;exact(by refine qK ?_;exact(by refine zB (zW (s:=[119,105,116,104]) (by rfl)) ?_ (hs:=zV);refine zB (zW (s:=[112,117,116]) (by rfl)) ?_ (hs:=zV);exact zL)));exact(zIF (by rfl) T.z_int (oN X2 (zMT false) (zC 12 (pv 12)) (zC 4 (pv 4)) rfl)));exact(id sc__law_done.nd);rfl;(first|exact Or.inl rfl|exact Or.inr rfl);rfl;(first|exact Or.inl rfl|exact Or.inr rfl));exact(by refine zK ?_ ?_;exact(zCU (yJ (j7 T) (hr.mono (by decide)) (by rfl) T.d__law_laid.m T.d__law_laid.F.kp T.d__law_laid.b (by refine zB (zU wQ wR (zC 7 (pv 7)) zG) ?_ (hs:=cY);refine zB (zC 3 (pv 3)) ?_ (hs:=zS);exact zL)) (gO rfl (x2 (yZ 9 sc__law_done.nd) (x2 (yZ 10 sc__law_done.nd) uI))));exact(by refine zK ?_ ?_;exact(by refine xA 14 ?_ ?_ ?_ ?_ ?_ ?_;exact(by refine yH ?_ ?_;exact(by refine J8 ?_;exact(by refine qK ?_;exact(by refine zB (by refine zY ?_;exact(by refine zB (zW (s:=[110,97,109,101]) (by rfl)) ?_ (hs:=zV);refine zB (zC 11 (pv 11)) ?_ (hs:=zS);exact zL)) ?_ (hs:=yX);refine zB (by refine zY ?_;exact(by refine zB (zW (s:=[112,117,116]) (by rfl)) ?_ (hs:=zV);refine zB (zC 8 (pv 8)) ?_ (hs:=zS);refine zB (zC 9 (pv 9)) ?_ (hs:=zS);refine zB (by refine zY ?_;exact(by refine zB (zW (s:=[110,97,109,101]) (by rfl)) ?_ (hs:=zV);refine zB (zC 11 (pv 11)) ?_ (hs:=zS);exact zL)) ?_ (hs:=yX);exact zL)) ?_ (hs:=yX);exact zL)));exact(zU wO wP (zU wQ wR (zC 7 (pv 7)) zG) zG));exact(id sc__law_done.nd);rfl;(first|exact Or.inl rfl|exact Or.inr rfl);rfl;(first|exact Or.inl rfl|exact Or.inr rfl));exact(by refine zK ?_ ?_;exact(by refine dQ 1 (un1 hr) (pv 1) ?_ ?_;exact(zC 12 (pv 12));exact(by refine yH ?_ ?_;exact(by refine J8 ?_;exact(by refine qK ?_;exact(by refine zB (oP (un1 hr) (zIJ 1 (pv 1)) (zC 8 (pv 8))) ?_ (hs:=w6);refine zB (zC 10 (pv 10)) ?_ (hs:=zS);exact zL)));exact(zU wO wP (zU wQ wR (zC 7 (pv 7)) zG) zG)));exact(by refine yB ?_;exact(by refine yS ?_;exact(by refine zY ?_;exact(by refine zB (by refine zY ?_;exact(by refine zB (zW (s:=[100,111]) (by rfl)) ?_ (hs:=zV);refine zB (by refine zY ?_;exact(by refine zB (zW (s:=[102,110]) (by rfl)) ?_ (hs:=zV);refine zB (zC 11 (pv 11)) ?_ (hs:=zS);refine zB (by refine zY ?_;exact(by refine zB (zC 13 (pv 13)) ?_ (hs:=zS);refine zB (zC 12 (pv 12)) ?_ (hs:=zS);refine zB (by refine zY ?_;exact(by refine zB (zW (s:=[103,101,116]) (by rfl)) ?_ (hs:=zV);refine zB (zC 8 (pv 8)) ?_ (hs:=zS);refine zB (zC 14 (pv 14)) ?_ (hs:=zS);exact zL)) ?_ (hs:=yX);refine zB (by refine zY ?_;exact(by refine zB (zW (s:=[110,97,109,101]) (by rfl)) ?_ (hs:=zV);refine zB (zC 11 (pv 11)) ?_ (hs:=zS);exact zL)) ?_ (hs:=yX);exact zL)) ?_ (hs:=yX);exact zL)) ?_ (hs:=yX);refine zB (zC 0 (pv 0)) ?_ (hs:=zS);exact zL)) ?_ (hs:=yX);refine zB zG ?_ (hs:=zV);exact zL)))))))))) wH);exact(by refine zK ?_ ?_;exact(zCU (yJ (j7 T) (hr.mono (by decide)) (by rfl) T.d__law_laid.m T.d__law_laid.F.kp T.d__law_laid.b (by refine zB (zU wQ wR (zC 7 (pv 7)) zG) ?_ (hs:=cY);refine zB (zC 3 (pv 3)) ?_ (hs:=zS);exact zL)) (gO rfl (x2 (yZ 9 sc__law_done.nd) (x2 (yZ 10 sc__law_done.nd) uI))));exact(by refine zK ?_ ?_;exact(by refine dQ 1 (un1 hr) (pv 1) ?_ ?_;exact(zC 8 (pv 8));exact(zC 10 (pv 10)));exact(by refine yB ?_;exact(by refine yS ?_;exact(by refine zY ?_;exact(by refine zB (by refine zY ?_;exact(by refine zB (zW (s:=[112,117,116]) (by rfl)) ?_ (hs:=zV);refine zB (zC 8 (pv 8)) ?_ (hs:=zS);refine zB (zC 9 (pv 9)) ?_ (hs:=zS);refine zB (zC 0 (pv 0)) ?_ (hs:=zS);exact zL)) ?_ (hs:=yX);refine zB zG ?_ (hs:=zV);exact zL))))))))))))))
theorem zA1:FnScope ["self", "expression", "around"] ["self", "expression", "around"] (zO (cP 8 1)):=scM
noncomputable def cV:MEs:=(uDo (zDA (yY (zA (zF 1) (zA (zF 2) (zA (mC (.bl false)) zT))))))
theorem sz2:(2:Nat)<=af:=by decide
theorem sz3:(3:Nat)<=af:=by decide
theorem zEE(st:Mst)(ds:List D)(p:D×Mst)(hl:ds.length=2)(h:xT st ds=some p):mkU 2 3 cV st ds=some p:=by
 match ds,hl with
 |[e,b],_=>
  have h:(if st.wait.length<af then some (D.non,zFB st (.tup [e,b,.bl false])) else none)=some p:=h;by_cases hs:st.wait.length<af
  ·rw[if_pos hs] at h;cases h;show(cV st [.un,.v e,.v b]).bind _=_;unfold cV uDo;simp[zDA,yY,zA,zT,zF,mC,hs,sz3]
  ·rw[if_neg hs] at h;cases h
theorem b6(T:Txt K mg w.params):FnOk P w K mg base CX0 1 T.m_begin.a T.m_begin.d ["self", "expression", "around"] (spM K T.C 2 xT):=by
 refine xK (YY (k:=0) T.m_begin.F zA1 2 3 rfl rfl (g:=cV) (λcdv A outer s H E hr=>?_)) zEE;unfold cV;exact(by refine y3 ?_;exact(kD (JD (pv 0) T.cl T.n_waiting (by refine zY ?_;exact(by refine zB (zC 1 (pv 1)) ?_ (hs:=zS);refine zB (zC 2 (pv 2)) ?_ (hs:=zS);refine zB oO ?_ (hs:=zV);exact zL)))))
theorem zE1:FnScope ["self", "value"] ["self", "value"] (zO (cP 8 2)):=scM
noncomputable def pG:MEs:=(uDo (zMB (zF 1)))
theorem zJT(st:Mst)(ds:List D)(p:D×Mst)(hl:ds.length=1)(h:xH st ds=some p):mkU 1 2 pG st ds=some p:=by
 match ds,hl with
 |[e],_=>
  have h:(if st.come.length<af then some (D.non,zKH st e) else none)=some p:=h;by_cases hs:st.come.length<af
  ·rw[if_pos hs] at h;cases h;show(pG st [.un,.v e]).bind _=_;unfold pG uDo;simp[zMB,zF,hs]
  ·rw[if_neg hs] at h;cases h
theorem kC(T:Txt K mg w.params):FnOk P w K mg base CX0 1 T.m_tell.a T.m_tell.d ["self", "value"] (spM K T.C 1 xH):=by
 refine xK (YY (k:=0) T.m_tell.F zE1 1 2 rfl rfl (g:=pG) (λcdv A outer s H E hr=>?_)) zJT;unfold pG;exact(by refine y3 ?_;exact(kD (zGN (pv 0) T.cl T.n_come (zC 1 (pv 1)))))
theorem zE2:FnScope ["self"] ["self"] (zO (cP 8 3)):=scM
noncomputable def pH:MEs:=(YW (uIf vGe (YW (zNW (yY (zA (mC (.str [116,105,114,101,100])) (zA (mC .non) zT)))) (zDZ (y0 (mC (.bl false))))) tD) (YW zMA (zDZ (y0 (mC (.bl true))))))
theorem zJU(st:Mst)(ds:List D)(p:D×Mst)(hl:ds.length=0)(h:qY st ds=some p):mkU 0 1 pH st ds=some p:=by
 match ds,hl with
 |[],_=>
  have h:(if st.most<=st.steps then some (D.bl false,{ st with ended:=bS }) else some (.bl true,{ st with steps:=st.steps+1 }))=some p:=h;show(pH st [.un]).bind _=_;unfold pH YW uIf;by_cases hs:st.most<=st.steps
  ·rw[if_pos hs] at h;cases h;simp[hs,vGe,zNW,zDZ,y0,yY,zA,zT,mC,YW,bS,sz2]
  ·rw[if_neg hs] at h;cases h;simp[hs,vGe,zNW,zDZ,y0,yY,zA,zT,mC,YW,bS,tD,zMA]
theorem JA(T:Txt K mg w.params):FnOk P w K mg base CX0 1 T.m_step.a T.m_step.d ["self"] (spM K T.C 0 qY):=by
 refine xK (YY (k:=0) T.m_step.F zE2 0 1 rfl rfl (g:=pH) (λcdv A outer s H E hr=>?_)) zJU;unfold pH;exact(by refine k9 ?_ ?_;exact(gT (zOO (b9 (pv 0) T.cl T.n_steps mE) (b9 (pv 0) T.cl T.n_most zHG) rfl) (by refine k9 ?_ ?_;exact(zK4 (pv 0) T.cl T.n_ended (by refine zY ?_;exact(by refine zB (zW (s:=[116,105,114,101,100]) (by rfl)) ?_ (hs:=zV);refine zB zIB ?_ (hs:=zV);exact zL)));exact(by refine y3 ?_;exact(rC (xB oO)))) WG);exact(by refine k9 ?_ ?_;exact(zGG (pv 0) T.cl T.n_steps);exact(by refine y3 ?_;exact(rC (xB oO)))))
theorem sc_begin_parts:FnScope ["self", "expression", "around", "at"] ["self", "expression", "around"] (zO (cP 8 5)):=scM
noncomputable def wK:MEs:=(YW (uDo (zDA (yY (zA (zF 1) (zA (zF 2) (zA (mC (.bl true)) zT)))))) (zPJ 0 3 (zOQ (mUn (zNJ AH) (zJ ixD (zF 1) (mC (.int 0))))) (uDo (x0 2 xT (zX (y0 (zJ ixD (zF 1) (zF 3))) (zX (y0 (zF 2)) xP))))))
theorem dW{st:Mst}{e b:D}{q:D×Mst}(h:xT st [e,b]=some q):q=(.non,zFB st (.tup [e,b,.bl false])):=by
 have h:(if st.wait.length<af then some (D.non,zFB st (.tup [e,b,.bl false])) else none)=some q:=h;by_cases hs:st.wait.length<af
 ·rw[if_pos hs] at h;cases h;rfl
 ·rw[if_neg hs] at h;cases h
theorem zQP{α:Type}{x:α}{l:List α}:atI (x::l) 0=some x:=by
 unfold atI ixN;simp
theorem zIR{e:D}{l:List Int}(h:bI e=some l){r:En}{i:Nat}(hr:r[i]?=some (.v e)):mUn (zNJ AH) (zJ ixD (zF i) (mC (.int 0))) r=some (.tup (l.map .int)):=by
 unfold bI at h;split at h
 ·rename_i s' r';cases h;have e3:zJ ixD (zF i) (mC (.int 0)) r=some (.str s'):=by
   unfold zJ zF;rw[hr];exact zQP
  unfold mUn;rw[e3];rfl
 ·cases h
theorem bM(st:Mst)(ds:List D)(p:D×Mst)(hl:ds.length=2)(h:yI st ds=some p):mkU 2 4 wK st ds=some p:=by
 match ds,hl with
 |[e,b],_=>
  have h:(if st.wait.length<af then (bI e).bind λl=>(tW e b l.reverse (zFB st (.tup [e,b,.bl true]))).map λs=>(D.non,s) else none)=some p:=h;by_cases hs:st.wait.length<af
  ·rw[if_pos hs] at h;obtain⟨l,e1,h⟩:=bnS h;obtain⟨s,e2,rfl⟩:=mpS h;show(wK st [.un,.v e,.v b,.un]).bind _=_;have loop:∀(l:List Int) (st s:Mst) (x:Sl),(x=.un\/∃i,x=.v (.int i))->tW e b l st=some s->∃x',tE 0 3 (uDo (x0 2 xT (zX (y0 (zJ ixD (zF 1) (zF 3))) (zX (y0 (zF 2)) xP)))) (l.map D.int) st [.un,.v e,.v b,x]=some (.nx s [.un,.v e,.v b,x']):=by
    intro l
    induction l with
    |nil=>intro st s x _ h;cases h;exact⟨x,rfl⟩
    |cons i l ih=>
     intro st s x hx h;obtain⟨q,h1,h2⟩:=bnS (show(ixD e (.int i)).bind (λp=>(xT st [p,b]).bind λq=>tW e b l q.2)=some s from h);obtain⟨q2,h3,h4⟩:=bnS h2;obtain⟨x',hx'⟩:=ih q2.2 s (.v (.int i)) (.inr ⟨i,rfl⟩) h4;refine⟨x',?_⟩;have hset:yV 3 (.int i) [.un,.v e,.v b,x]=some [.un,.v e,.v b,.v (.int i)]:=by
      rcases hx with rfl|⟨j,rfl⟩<;>rfl
     have hm:x0 2 xT (zX (y0 (zJ ixD (zF 1) (zF 3))) (zX (y0 (zF 2)) xP)) st [.un,.v e,.v b,.v (.int i)]=some q2:=by
      have e1:zJ ixD (zF 1) (zF 3) [.un,.v e,.v b,.v (.int i)]=some q:=h1;have e2:zF 2 [.un,.v e,.v b,.v (.int i)]=some b:=rfl;unfold x0;simp only[zX,y0,xP,e1,e2,bm,aa,au,bo,if_true];exact h3
     rw[aq];unfold tE;rw[if_neg (by decide),hset,aa];unfold uDo;rw[hm];exact hx'
   obtain⟨x',hx'⟩:=loop l.reverse _ s .un (.inl rfl) e2;have ea:zOQ (mUn (zNJ AH) (zJ ixD (zF 1) (mC (.int 0)))) [.un,.v e,.v b,.un]=some (l.reverse.map D.int):=by
    unfold zOQ mTp;rw[zIR e1 rfl];show some ((l.map D.int).reverse)=_;rw[List.map_reverse]
   unfold wK YW;have e4:uDo (zDA (yY (zA (zF 1) (zA (zF 2) (zA (mC (.bl true)) zT))))) st [.un,.v e,.v b,.un]=some (.nx (zFB st (.tup [e,b,.bl true])) [.un,.v e,.v b,.un]):=by
    unfold uDo;simp[zDA,yY,zA,zT,zF,mC,hs,sz3]
   rw[e4,aa];unfold zPJ;dsimp only;rw[ea,aa];show(tE _ _ _ _ _ _).bind _=_;rw[hx'];rfl
  ·rw[if_neg hs] at h;cases h
theorem u6(T:Txt K mg w.params):FnOk P w K mg base CX0 2 T.m_begin_parts.a T.m_begin_parts.d ["self", "expression", "around"] (spM K T.C 2 yI):=by
 refine xK (YY (k:=1) T.m_begin_parts.F sc_begin_parts 2 4 rfl rfl (g:=wK) (λcdv A outer s H E hr=>?_)) bM;unfold wK;exact(by refine k9 ?_ ?_;exact(kD (JD (pv 0) T.cl T.n_waiting (by refine zY ?_;exact(by refine zB (zC 1 (pv 1)) ?_ (hs:=zS);refine zB (zC 2 (pv 2)) ?_ (hs:=zS);refine zB oO ?_ (hs:=zV);exact zL))));exact(by refine y3 ?_;exact(zK3 3 gt rfl (zL1 (by rfl) T.z_reversed (J7 T.ahead (by rfl) (yH (zC 1 (pv 1)) zG) J2)) sc_begin_parts.nd (by refine y3 ?_;exact(kD (wC (pv 0) T.cl T.h_begin (λ_ _ _ _ _ _=>rfl) (b6 T) (hr.mono (by omega)) T.m_begin.b (yN (xB (yH (zC 1 (pv 1)) (zC 3 (pv 3)))) (yN (xB (zC 2 (pv 2))) wX))))))))
theorem bV:FnScope ["self", "expression"] ["self", "expression"] (zO (cP 8 6)):=scM
noncomputable def wV:MEs:=(zDZ (zI1 (mUn (zNJ AH) (zJ ixD (zF 1) (mC (.int 0))))))
theorem d6(st:Mst)(ds:List D)(p:D×Mst)(hl:ds.length=1)(h:yO st ds=some p):mkU 1 2 wV st ds=some p:=by
 match ds,hl with
 |[e],_=>
  obtain⟨l,e1,h⟩:=bnS (show(bI e).bind _=some p from h);show(wV st [.un,.v e]).bind _=_;unfold wV zDZ zI1;rw[zIR e1 rfl,aa];dsimp only;rw[ao,h];rfl
theorem b0(T:Txt K mg w.params):FnOk P w K mg base CX0 1 T.m_parts_come.a T.m_parts_come.d ["self", "expression"] (spM K T.C 1 yO):=by
 refine xK (YY (k:=0) T.m_parts_come.F bV 1 2 rfl rfl (g:=wV) (λcdv A outer s H E hr=>?_)) d6;unfold wV;exact(by refine y3 ?_;exact(rC (zGK (N':=["self", "at"]) rfl bB (J7 T.ahead (by rfl) (yH (zC 1 (pv 1)) zG) J2) rfl (λ_ _ _ _=>ZG (show(["self", "at"]:List Str).Nodup by decide +kernel) rfl (Or.inl rfl)) (λ_ _ _ _=>pv 0) T.cl T.n_come (λ_ _ _ _=>rfl) (λ_ _ _ _=>rfl))))
theorem XN:FnScope ["plain", "expression", "bound", "parts"] ["plain", "expression", "bound", "parts"] (zO (top 21)):=scM
noncomputable def uP:MEs:=(uDo (x0 1 xH (zX (y0 (zJ ixD (zF 1) (mC (.int 1)))) xP)))
theorem zAM(st:Mst)(ds:List D)(p:D×Mst)(hl:ds.length=3)(h:jL st ds=some p):mkU 3 4 uP st ds=some p:=by
 unfold jL at h;split at h
 ·rename_i a v c b ps;show(uP st [.un,.v (.tup [a,v,c]),.v b,.v ps]).bind _=_;have e1:zJ ixD (zF 1) (mC (.int 1)) [.un,.v (.tup [a,v,c]),.v b,.v ps]=some v:=rfl;unfold uP uDo x0;simp only[zX,y0,xP,e1,bm,aa,au,bo,if_true];rw[h];have h:(if st.come.length<af then some (D.non,zKH st v) else none)=some p:=h;by_cases hs:st.come.length<af
  ·rw[if_pos hs] at h;cases h;rfl
  ·rw[if_neg hs] at h;cases h
 ·cases h
theorem X7(T:Txt K mg w.params):FnOk P w K mg base CX0 3 T.d_of_num.a T.d_of_num.d ["plain", "expression", "bound", "parts"] (spM K T.C 3 jL):=by
 refine xK (YY (k:=2) T.d_of_num.F XN 3 4 rfl rfl (g:=uP) (λcdv A outer s H E hr=>?_)) zAM;unfold uP;exact(by refine y3 ?_;exact(kD (wC (pv 0) T.cl T.h_tell (λ_ _ _ _ _ _=>rfl) (kC T) (hr.mono (by omega)) T.m_tell.b (yN (xB (yH (zC 1 (pv 1)) zG)) wX))))
theorem pS:FnScope ["plain", "expression", "bound", "parts"] ["plain", "expression", "bound", "parts"] (zO (top 22)):=scM
noncomputable def jT:MEs:=(uIf (vQ (zGT false (zJ ixD (zF 1) (mC (.int 1))) (qS (zF 2)))) (uDo (x0 1 xH (zX (y0 (rH (qS (zF 2)) (zJ ixD (zF 1) (mC (.int 1))))) xP))) (uIf (vBl (d7 qY)) (uDo (x0 2 xT (zX (XA (zJ ixD (zF 1) (mC (.int 1)))) (zX (y0 (zB4 mD0)) xP)))) tD))
theorem QV(st:Mst):qY st []=if st.most<=st.steps then some (D.bl false,{ st with ended:=bS }) else some (.bl true,{ st with steps:=st.steps+1 }):=rfl
theorem qA{st:Mst}{v:D}{q:D×Mst}(h:xH st [v]=some q):q=(.non,zKH st v):=by
 have h:(if st.come.length<af then some (D.non,zKH st v) else none)=some q:=h;by_cases hs:st.come.length<af
 ·rw[if_pos hs] at h;cases h;rfl
 ·rw[if_neg hs] at h;cases h
theorem Y7(st:Mst)(ds:List D)(p:D×Mst)(hl:ds.length=3)(h:y8 st ds=some p):mkU 3 4 jT st ds=some p:=by
 unfold y8 at h;split at h
 ·rename_i a s c ks0 l0 ps;show(jT st [.un,.v (.tup [a,.str s,c]),.v (.dct ks0 l0),.v ps]).bind _=_;have e2:zJ ixD (zF 1) (mC (.int 1)) [.un,.v (.tup [a,.str s,c]),.v (.dct ks0 l0),.v ps]=some (.str s):=rfl;have e3:zGT false (zJ ixD (zF 1) (mC (.int 1))) (qS (zF 2)) [.un,.v (.tup [a,.str s,c]),.v (.dct ks0 l0),.v ps]=some (yW ks0 l0 (.inr ⟨s.toArray⟩)).isSome:=rfl;have e6:rH (qS (zF 2)) (zJ ixD (zF 1) (mC (.int 1))) [.un,.v (.tup [a,.str s,c]),.v (.dct ks0 l0),.v ps]=yW ks0 l0 (.inr ⟨s.toArray⟩):=rfl;split at h
  ·rename_i v hv;have hb:=qA h;rw[hv] at e3 e6;unfold jT uIf;simp only[vQ,e3,e6,Option.isSome_some,bm,aa,if_true,uDo,x0,zX,xP,y0,au,bo];rw[h];subst hb;rfl
  rename_i hv;obtain⟨q,e1,h⟩:=bnS h;rw[hv] at e3;unfold jT uIf;simp only[vQ,e3,Option.isSome_none,bm,aa,cr,if_false,vBl,d7,e1];rw[QV] at e1;by_cases hs:st.most<=st.steps
  ·rw[if_pos hs] at e1;cases e1;cases h;rfl
  ·rw[if_neg hs] at e1;cases e1;dsimp only at h;split at h
   ·rename_i ks l _ hd;obtain⟨d,e4,h⟩:=bnS h;have hb:=dW h;subst hb;have e5:XA (zJ ixD (zF 1) (mC (.int 1))) { st with steps:=st.steps+1 } [.un,.v (.tup [a,.str s,c]),.v (.dct ks0 l0),.v ps]=some (d,{ st with steps:=st.steps+1 }):=by
     unfold XA;rw[e2,aa];show(match st.defs with | .dct ks l=>(yW ks l (.inr ⟨s.toArray⟩)).map λd=>(d,{ st with steps:=st.steps+1 })|_=>none)=_;rw[hd];dsimp only;rw[e4];rfl
    dsimp only[aa];simp only[if_true,uDo,x0,zX,xP,e5,aa,bm,y0,zB4,mD0,au,bo];rw[h];rfl
   ·rename_i z;cases z
   ·cases h
 ·cases h
theorem p6(T:Txt K mg w.params):FnOk P w K mg base CX0 3 T.d_of_name.a T.d_of_name.d ["plain", "expression", "bound", "parts"] (spM K T.C 3 y8):=by
 refine xK (YY (k:=2) T.d_of_name.F pS 3 4 rfl rfl (g:=jT) (λcdv A outer s H E hr=>?_)) Y7;unfold jT;exact(by refine y3 ?_;exact(gT (uA (zHY (yH (zC 1 (pv 1)) zG) (YZ (zC 2 (pv 2))))) (by refine y3 ?_;exact(kD (wC (pv 0) T.cl T.h_tell (λ_ _ _ _ _ _=>rfl) (kC T) (hr.mono (by omega)) T.m_tell.b (yN (xB (oP (un1 hr) (YZ (zC 2 (pv 2))) (yH (zC 1 (pv 1)) zG))) wX)))) (by refine y3 ?_;exact(gT (zMW (hV (pv 0) T.cl T.h_step (λ_ _ _ _ _ _=>rfl) (JA T) (hr.mono (by omega)) T.m_step.b)) (by refine y3 ?_;exact(kD (wC (pv 0) T.cl T.h_begin (λ_ _ _ _ _ _=>rfl) (b6 T) (hr.mono (by omega)) T.m_begin.b (yN (JC (un1 hr) (pv 0) T.cl T.n_defs (yH (zC 1 (pv 1)) zG)) (yN (xB (zDR rN)) wX))))) WG))))
theorem rV(ks:List Key)(l:List D)(x:List Nat)(v:D)(h:ks.length<af):∃as,k7 [.v (.dct ks l),.v (.str x),.v v]=some (.g (jQ ks l (.inr ⟨x.toArray⟩) v).1 (jQ ks l (.inr ⟨x.toArray⟩) v).2,as):=by
 refine⟨[.v (.dct ks l),.v (.str x),.v v],?_⟩;have e1:u4 3 (zF 1) (zF 2) [.v (.dct ks l),.v (.str x),.v v,.d false ks l]=some (.nx [.v (.dct ks l),.v (.str x),.v v,.d false (jQ ks l (.inr ⟨x.toArray⟩) v).1 (jQ ks l (.inr ⟨x.toArray⟩) v).2]):=if_pos h;have e0:tR 3 (qS (zF 0)) [.v (.dct ks l),.v (.str x),.v v,.un]=some (.nx [.v (.dct ks l),.v (.str x),.v v,.d false ks l]):=rfl;show(kW [.v (.dct ks l),.v (.str x),.v v,.un]).bind _=_;unfold kW yL;rw[e0,aa];show(((u4 3 (zF 1) (zF 2) [.v (.dct ks l),.v (.str x),.v v,.d false ks l]).bind _)).bind _=_;rw[e1];rfl
theorem zAX:FnScope ["plain", "expression", "bound", "parts"] ["plain", "expression", "bound", "parts"] (zO (top 23)):=scM
noncomputable def cS:MEs:=(uDo (x0 1 xH (zX (y0 (yY (zA (mC (.str [102,110])) (zA (zJ ixD (zF 1) (mC (.int 1))) (zA (zJ ixD (zF 1) (mC (.int 2))) (zA (zF 2) zT)))))) xP)))
theorem zEB(st:Mst)(ds:List D)(p:D×Mst)(hl:ds.length=3)(h:vC st ds=some p):mkU 3 4 cS st ds=some p:=by
 unfold vC at h;split at h
 ·rename_i a x e c b ps;show(cS st [.un,.v (.tup [a,x,e,c]),.v b,.v ps]).bind _=_;have e1:yY (zA (mC (.str [102,110])) (zA (zJ ixD (zF 1) (mC (.int 1))) (zA (zJ ixD (zF 1) (mC (.int 2))) (zA (zF 2) zT)))) [.un,.v (.tup [a,x,e,c]),.v b,.v ps]=some (.tup [.str [102,110],x,e,b]):=rfl;have hb:=qA h;unfold cS uDo x0;simp only[zX,y0,xP,e1,bm,aa,au,bo,if_true];rw[h];subst hb;rfl
 ·cases h
theorem zBT(T:Txt K mg w.params):FnOk P w K mg base CX0 3 T.d_of_fn.a T.d_of_fn.d ["plain", "expression", "bound", "parts"] (spM K T.C 3 vC):=by
 refine xK (YY (k:=2) T.d_of_fn.F zAX 3 4 rfl rfl (g:=cS) (λcdv A outer s H E hr=>?_)) zEB;unfold cS;exact(by refine y3 ?_;exact(kD (wC (pv 0) T.cl T.h_tell (λ_ _ _ _ _ _=>rfl) (kC T) (hr.mono (by omega)) T.m_tell.b (yN (xB (by refine zY ?_;exact(by refine zB (zW (s:=[102,110]) (by rfl)) ?_ (hs:=zV);refine zB (yH (zC 1 (pv 1)) zG) ?_ (hs:=w6);refine zB (yH (zC 1 (pv 1)) zG) ?_ (hs:=w6);refine zB (zC 2 (pv 2)) ?_ (hs:=zS);exact zL))) wX))))
theorem zAY:FnScope ["plain", "expression", "bound", "parts"] ["plain", "expression", "bound", "parts"] (zO (top 24)):=scM
noncomputable def cT:MEs:=(uIf (vQ (mBl (zJ neA (yD 1 xZ (zA (zJ ixD (zF 3) (mC (.int 0))) zT)) (mC (.str [102,110]))))) pI (uIf (vBl (d7 qY)) (uDo (x0 2 xT (zX (y0 (zJ ixD (zJ ixD (zF 3) (mC (.int 0))) (mC (.int 2)))) (zX (y0 (zB4 (WK 3 k7 (zA (zJ ixD (zJ ixD (zF 3) (mC (.int 0))) (mC (.int 3))) (zA (zJ ixD (zJ ixD (zF 3) (mC (.int 0))) (mC (.int 1))) (zA (zJ ixD (zF 3) (mC (.int 1))) zT)))))) xP)))) tD))
theorem zEC(st:Mst)(ds:List D)(p:D×Mst)(hl:ds.length=3)(h:qQ st ds=some p):mkU 3 4 cT st ds=some p:=by
 unfold qQ at h;split at h
 ·rename_i ex b w x e ks l v;split at h
  case isFalse=>cases h
  rename_i hw;obtain⟨rfl,hk⟩:=hw;obtain⟨q,e1,h⟩:=bnS h;show(cT st [.un,.v ex,.v b,.v (.lst [.tup [.str [102,110],.str x,e,.dct ks l],v])]).bind _=_;have e2:mBl (zJ neA (yD 1 xZ (zA (zJ ixD (zF 3) (mC (.int 0))) zT)) (mC (.str [102,110]))) [.un,.v ex,.v b,.v (.lst [.tup [.str [102,110],.str x,e,.dct ks l],v])]=some false:=rfl;have e3:zJ ixD (zJ ixD (zF 3) (mC (.int 0))) (mC (.int 2)) [.un,.v ex,.v b,.v (.lst [.tup [.str [102,110],.str x,e,.dct ks l],v])]=some e:=rfl;have e4:zB4 (WK 3 k7 (zA (zJ ixD (zJ ixD (zF 3) (mC (.int 0))) (mC (.int 3))) (zA (zJ ixD (zJ ixD (zF 3) (mC (.int 0))) (mC (.int 1))) (zA (zJ ixD (zF 3) (mC (.int 1))) zT)))) [.un,.v ex,.v b,.v (.lst [.tup [.str [102,110],.str x,e,.dct ks l],v])]=some (.dct (jQ ks l (.inr ⟨x.toArray⟩) v).1 (jQ ks l (.inr ⟨x.toArray⟩) v).2):=by
   obtain⟨as,hb⟩:=rV ks l x v hk;have ea:zA (zJ ixD (zJ ixD (zF 3) (mC (.int 0))) (mC (.int 3))) (zA (zJ ixD (zJ ixD (zF 3) (mC (.int 0))) (mC (.int 1))) (zA (zJ ixD (zF 3) (mC (.int 1))) zT)) [.un,.v ex,.v b,.v (.lst [.tup [.str [102,110],.str x,e,.dct ks l],v])]=some [.dct ks l,.str x,v]:=rfl;unfold zB4 WK;rw[ea];show((k7 [.v (.dct ks l),.v (.str x),.v v]).bind _).map _=_;rw[hb];rfl
  unfold cT uIf;simp only[vQ,e2,bm,aa,cr,if_false,vBl,d7,e1];rw[QV] at e1;by_cases hs:st.most<=st.steps
  ·rw[if_pos hs] at e1;cases e1;cases h;rfl
  ·rw[if_neg hs] at e1;cases e1;dsimp only at h;have hb:=dW h;subst hb;dsimp only[aa];simp only[if_true,uDo,x0,zX,xP,e3,e4,aa,bm,y0,au,bo];rw[h];rfl
 ·cases h
theorem zBU(T:Txt K mg w.params):FnOk P w K mg base CX0 3 T.d_of_do.a T.d_of_do.d ["plain", "expression", "bound", "parts"] (spM K T.C 3 qQ):=by
 refine xK (YY (k:=2) T.d_of_do.F zAY 3 4 rfl rfl (g:=cT) (λcdv A outer s H E hr=>?_)) zEC;unfold cT;exact(by refine y3 ?_;exact(gT (uA (wG (X0 hr.units0) WB (yJ (wL T) (hr.mono (by decide)) (by rfl) T.d_sort_of.m T.d_sort_of.F.kp T.d_sort_of.b (zB (yH (zC 3 (pv 3)) zG) zL (hs:=w6))) (zW (s:=[102,110]) (by rfl)) (xU _))) uS (by refine y3 ?_;exact(gT (zMW (hV (pv 0) T.cl T.h_step (λ_ _ _ _ _ _=>rfl) (JA T) (hr.mono (by omega)) T.m_step.b)) (by refine y3 ?_;exact(kD (wC (pv 0) T.cl T.h_begin (λ_ _ _ _ _ _=>rfl) (b6 T) (hr.mono (by omega)) T.m_begin.b (yN (xB (yH (yH (zC 3 (pv 3)) zG) zG)) (yN (xB (zDR (zHI (p9 T) (hr.mono (by decide)) (by rfl) T.d_binding.m T.d_binding.F.kp T.d_binding.b (by refine zB (yH (yH (zC 3 (pv 3)) zG) zG) ?_ (hs:=w6);refine zB (yH (yH (zC 3 (pv 3)) zG) zG) ?_ (hs:=w6);refine zB (yH (zC 3 (pv 3)) zG) ?_ (hs:=w6);exact zL)))) wX))))) WG))))
theorem mV:FnScope ["plain", "expression", "bound", "parts"] ["plain", "expression", "bound", "parts"] (zO (top 25)):=scM
noncomputable def jP:MEs:=(uDo (x0 1 xH (zX (y0 (yY (zA (mC (.str [114,101,99])) (zA (zB4 mD0) zT)))) xP)))
theorem pF(st:Mst)(ds:List D)(p:D×Mst)(hl:ds.length=3)(h:wN st ds=some p):mkU 3 4 jP st ds=some p:=by
 unfold wN at h;split at h
 ·rename_i x b ps;show(jP st [.un,.v x,.v b,.v ps]).bind _=_;have e1:yY (zA (mC (.str [114,101,99])) (zA (zB4 mD0) zT)) [.un,.v x,.v b,.v ps]=some (.tup [.str [114,101,99],.dct [] []]):=rfl;have hb:=qA h;unfold jP uDo x0;simp only[zX,y0,xP,e1,bm,aa,au,bo,if_true];rw[h];subst hb;rfl
 ·cases h
theorem nF(T:Txt K mg w.params):FnOk P w K mg base CX0 3 T.d_of_empty.a T.d_of_empty.d ["plain", "expression", "bound", "parts"] (spM K T.C 3 wN):=by
 refine xK (YY (k:=2) T.d_of_empty.F mV 3 4 rfl rfl (g:=jP) (λcdv A outer s H E hr=>?_)) pF;unfold jP;exact(by refine y3 ?_;exact(kD (wC (pv 0) T.cl T.h_tell (λ_ _ _ _ _ _=>rfl) (kC T) (hr.mono (by omega)) T.m_tell.b (yN (xB (by refine zY ?_;exact(by refine zB (zW (s:=[114,101,99]) (by rfl)) ?_ (hs:=zV);refine zB (zDR rN) ?_;exact zL))) wX))))
theorem XL:FnScope ["plain", "expression", "bound", "parts"] ["plain", "expression", "bound", "parts"] (zO (top 30)):=scM
noncomputable def uN:MEs:=(uDo (x0 1 xH (zX (y0 (yY (zA (mC (.str [111,110,101])) (zA (zJ ixD (zF 1) (mC (.int 1))) (zA (zJ ixD (zF 3) (mC (.int 0))) zT))))) xP)))
theorem zAK(st:Mst)(ds:List D)(p:D×Mst)(hl:ds.length=3)(h:qU st ds=some p):mkU 3 4 uN st ds=some p:=by
 unfold qU at h;split at h
 ·rename_i a s c d b v;show(uN st [.un,.v (.tup [a,s,c,d]),.v b,.v (.lst [v])]).bind _=_;have e1:yY (zA (mC (.str [111,110,101])) (zA (zJ ixD (zF 1) (mC (.int 1))) (zA (zJ ixD (zF 3) (mC (.int 0))) zT))) [.un,.v (.tup [a,s,c,d]),.v b,.v (.lst [v])]=some (.tup [.str [111,110,101],s,v]):=rfl;have hb:=qA h;unfold uN uDo x0;simp only[zX,y0,xP,e1,bm,aa,au,bo,if_true];rw[h];subst hb;rfl
 ·cases h
theorem X5(T:Txt K mg w.params):FnOk P w K mg base CX0 3 T.d_of_tag.a T.d_of_tag.d ["plain", "expression", "bound", "parts"] (spM K T.C 3 qU):=by
 refine xK (YY (k:=2) T.d_of_tag.F XL 3 4 rfl rfl (g:=uN) (λcdv A outer s H E hr=>?_)) zAK;unfold uN;exact(by refine y3 ?_;exact(kD (wC (pv 0) T.cl T.h_tell (λ_ _ _ _ _ _=>rfl) (kC T) (hr.mono (by omega)) T.m_tell.b (yN (xB (by refine zY ?_;exact(by refine zB (zW (s:=[111,110,101]) (by rfl)) ?_ (hs:=zV);refine zB (yH (zC 1 (pv 1)) zG) ?_ (hs:=w6);refine zB (yH (zC 3 (pv 3)) zG) ?_ (hs:=w6);exact zL))) wX))))
theorem pR:FnScope ["plain", "expression", "bound", "parts"] ["plain", "expression", "bound", "parts"] (zO (top 27)):=scM
noncomputable def kK:MEs:=(uIf (vQ (kS (yD 2 wA (zA (zJ ixD (zF 3) (mC (.int 1))) (zA (zJ ixD (zF 1) (mC (.int 1))) zT))))) (uDo (x0 1 xH (zX (y0 (yD 3 xR (zA (zJ ixD (zF 3) (mC (.int 1))) (zA (zJ ixD (zF 1) (mC (.int 1))) (zA (zJ ixD (zF 3) (mC (.int 0))) zT))))) xP))) pI)
theorem QP(w:D)(ks:List Key)(l:List D)(x:List Nat)(v:D)(h:ks.length<af):∃as,xR [.v (.tup [w,.dct ks l]),.v (.str x),.v v]=some (.v (.tup [.str [114,101,99],.dct (jQ ks l (.inr ⟨x.toArray⟩) v).1 (jQ ks l (.inr ⟨x.toArray⟩) v).2]),as):=by
 refine⟨[.v (.tup [w,.dct ks l]),.v (.str x),.v v],?_⟩;have e1:u4 3 (zF 1) (zF 2) [.v (.tup [w,.dct ks l]),.v (.str x),.v v,.d false ks l]=some (.nx [.v (.tup [w,.dct ks l]),.v (.str x),.v v,.d false (jQ ks l (.inr ⟨x.toArray⟩) v).1 (jQ ks l (.inr ⟨x.toArray⟩) v).2]):=if_pos h;have e0:tR 3 (qS (zJ ixD (zF 0) (mC (.int 1)))) [.v (.tup [w,.dct ks l]),.v (.str x),.v v,.un]=some (.nx [.v (.tup [w,.dct ks l]),.v (.str x),.v v,.d false ks l]):=rfl;show(wY [.v (.tup [w,.dct ks l]),.v (.str x),.v v,.un]).bind _=_;unfold wY yL;rw[e0,aa];show(((u4 3 (zF 1) (zF 2) [.v (.tup [w,.dct ks l]),.v (.str x),.v v,.d false ks l]).bind _)).bind _=_;rw[e1];rfl
theorem zCE(ks:List Key)(l:List D)(x:List Nat)(h:yW ks l (.inr ⟨x.toArray⟩)=none):∃as,wA [.v (.tup [.str [114,101,99],.dct ks l]),.v (.str x)]=some (.v (.bl true),as):=by
 have e1:JE true (zF 1) (qS (zJ ixD (zF 0) (mC (.int 1)))) [.v (.tup [.str [114,101,99],.dct ks l]),.v (.str x)]=some (.bl true):=by
  show some (D.bl (!(yW ks l (.inr ⟨x.toArray⟩)).isSome))=_;rw[h];rfl
 have e2:zJ eqA (yD 1 xZ (zA (zF 0) zT)) (mC (.str [114,101,99])) [.v (.tup [.str [114,101,99],.dct ks l]),.v (.str x)]=some (.bl true):=rfl;refine kF (r':=[.v (.tup [.str [114,101,99],.dct ks l]),.v (.str x)]) (x5 ?_);show zGU _ _ [.v (.tup [.str [114,101,99],.dct ks l]),.v (.str x)]=_;unfold zGU;rw[e2,aa];exact e1
theorem Y6(st:Mst)(ds:List D)(p:D×Mst)(hl:ds.length=3)(h:wT st ds=some p):mkU 3 4 kK st ds=some p:=by
 unfold wT at h;split at h
 ·rename_i a s c d f b v w ks l;split at h
  case isFalse=>cases h
  rename_i hw;obtain⟨rfl,hn,hk⟩:=hw;show(kK st [.un,.v (.tup [a,.str s,c,d,f]),.v b,.v (.lst [v,.tup [.str [114,101,99],.dct ks l]])]).bind _=_;have e1:kS (yD 2 wA (zA (zJ ixD (zF 3) (mC (.int 1))) (zA (zJ ixD (zF 1) (mC (.int 1))) zT))) [.un,.v (.tup [a,.str s,c,d,f]),.v b,.v (.lst [v,.tup [.str [114,101,99],.dct ks l]])]=some true:=by
   have hq:yD 2 wA (zA (zJ ixD (zF 3) (mC (.int 1))) (zA (zJ ixD (zF 1) (mC (.int 1))) zT)) [.un,.v (.tup [a,.str s,c,d,f]),.v b,.v (.lst [v,.tup [.str [114,101,99],.dct ks l]])]=some (.bl true):=xN (p:=.v (.bl true)) (zR (x:=.tup [.str [114,101,99],.dct ks l]) rfl (zR (x:=.str s) rfl yT)) rfl (zCE ks l s hn);unfold kS;rw[hq];rfl
  have e2:yD 3 xR (zA (zJ ixD (zF 3) (mC (.int 1))) (zA (zJ ixD (zF 1) (mC (.int 1))) (zA (zJ ixD (zF 3) (mC (.int 0))) zT))) [.un,.v (.tup [a,.str s,c,d,f]),.v b,.v (.lst [v,.tup [.str [114,101,99],.dct ks l]])]=some (.tup [.str [114,101,99],.dct (jQ ks l (.inr ⟨s.toArray⟩) v).1 (jQ ks l (.inr ⟨s.toArray⟩) v).2]):=by
   obtain⟨as,hq⟩:=QP (.str [114,101,99]) ks l s v hk;show(xR [.v (.tup [.str [114,101,99],.dct ks l]),.v (.str s),.v v]).map _=_;rw[hq];rfl
  have hb:=qA h;unfold kK uIf;simp only[vQ,e1,e2,bm,aa,uDo,x0,zX,xP,y0,au,bo,if_true];rw[h];subst hb;rfl
 ·cases h
theorem p5(T:Txt K mg w.params):FnOk P w K mg base CX0 3 T.d_of_with.a T.d_of_with.d ["plain", "expression", "bound", "parts"] (spM K T.C 3 wT):=by
 refine xK (YY (k:=2) T.d_of_with.F pR 3 4 rfl rfl (g:=kK) (λcdv A outer s H E hr=>?_)) Y6;unfold kK;exact(by refine y3 ?_;exact(gT (uA (jY (yJ (v7 T) (hr.mono (by decide)) (by rfl) T.d_has_no_field.m T.d_has_no_field.F.kp T.d_has_no_field.b (by refine zB (yH (zC 3 (pv 3)) zG) ?_ (hs:=w6);refine zB (yH (zC 1 (pv 1)) zG) ?_ (hs:=w6);exact zL)))) (by refine y3 ?_;exact(kD (wC (pv 0) T.cl T.h_tell (λ_ _ _ _ _ _=>rfl) (kC T) (hr.mono (by omega)) T.m_tell.b (yN (xB (yJ (k8 T) (hr.mono (by decide)) (by rfl) T.d_with_field.m T.d_with_field.F.kp T.d_with_field.b (by refine zB (yH (zC 3 (pv 3)) zG) ?_ (hs:=w6);refine zB (yH (zC 1 (pv 1)) zG) ?_ (hs:=w6);refine zB (yH (zC 3 (pv 3)) zG) ?_ (hs:=w6);exact zL))) wX)))) uS))
theorem XO:FnScope ["plain", "expression", "bound", "parts"] ["plain", "expression", "bound", "parts"] (zO (top 26)):=scM
noncomputable def uQ:MEs:=(uIf (vQ (kS (yD 2 y6 (zA (zJ ixD (zF 3) (mC (.int 0))) (zA (zJ ixD (zF 1) (mC (.int 1))) zT))))) (uDo (x0 1 xH (zX (y0 (rH (qS (zJ ixD (zJ ixD (zF 3) (mC (.int 0))) (mC (.int 1)))) (zJ ixD (zF 1) (mC (.int 1))))) xP))) pI)
theorem zCF(ks:List Key)(l:List D)(x:List Nat)(h:(yW ks l (.inr ⟨x.toArray⟩)).isSome=true):∃as,y6 [.v (.tup [.str [114,101,99],.dct ks l]),.v (.str x)]=some (.v (.bl true),as):=by
 have e1:JE false (zF 1) (qS (zJ ixD (zF 0) (mC (.int 1)))) [.v (.tup [.str [114,101,99],.dct ks l]),.v (.str x)]=some (.bl true):=by
  show some (D.bl ((yW ks l (.inr ⟨x.toArray⟩)).isSome))=_;rw[h]
 have e2:zJ eqA (yD 1 xZ (zA (zF 0) zT)) (mC (.str [114,101,99])) [.v (.tup [.str [114,101,99],.dct ks l]),.v (.str x)]=some (.bl true):=rfl;refine kF (r':=[.v (.tup [.str [114,101,99],.dct ks l]),.v (.str x)]) (x5 ?_);show zGU _ _ [.v (.tup [.str [114,101,99],.dct ks l]),.v (.str x)]=_;unfold zGU;rw[e2,aa];exact e1
theorem zAN(st:Mst)(ds:List D)(p:D×Mst)(hl:ds.length=3)(h:qD st ds=some p):mkU 3 4 uQ st ds=some p:=by
 unfold qD at h;split at h
 ·rename_i a s c d b w ks l;split at h
  case isFalse=>cases h
  rename_i hw;subst hw;obtain⟨v,hv,h⟩:=bnS h;show(uQ st [.un,.v (.tup [a,.str s,c,d]),.v b,.v (.lst [.tup [.str [114,101,99],.dct ks l]])]).bind _=_;have e1:kS (yD 2 y6 (zA (zJ ixD (zF 3) (mC (.int 0))) (zA (zJ ixD (zF 1) (mC (.int 1))) zT))) [.un,.v (.tup [a,.str s,c,d]),.v b,.v (.lst [.tup [.str [114,101,99],.dct ks l]])]=some true:=by
   have hq:yD 2 y6 (zA (zJ ixD (zF 3) (mC (.int 0))) (zA (zJ ixD (zF 1) (mC (.int 1))) zT)) [.un,.v (.tup [a,.str s,c,d]),.v b,.v (.lst [.tup [.str [114,101,99],.dct ks l]])]=some (.bl true):=xN (p:=.v (.bl true)) (zR (x:=.tup [.str [114,101,99],.dct ks l]) rfl (zR (x:=.str s) rfl yT)) rfl (zCF ks l s (by rw[hv];rfl));unfold kS;rw[hq];rfl
  have e2:rH (qS (zJ ixD (zJ ixD (zF 3) (mC (.int 0))) (mC (.int 1)))) (zJ ixD (zF 1) (mC (.int 1))) [.un,.v (.tup [a,.str s,c,d]),.v b,.v (.lst [.tup [.str [114,101,99],.dct ks l]])]=some v:=by
   show yW ks l (.inr ⟨s.toArray⟩)=_;exact hv
  have hb:=qA h;unfold uQ uIf;simp only[vQ,e1,e2,bm,aa,uDo,x0,zX,xP,y0,au,bo,if_true];rw[h];subst hb;rfl
 ·cases h
theorem X8(T:Txt K mg w.params):FnOk P w K mg base CX0 3 T.d_of_get.a T.d_of_get.d ["plain", "expression", "bound", "parts"] (spM K T.C 3 qD):=by
 refine xK (YY (k:=2) T.d_of_get.F XO 3 4 rfl rfl (g:=uQ) (λcdv A outer s H E hr=>?_)) zAN;unfold uQ;exact(by refine y3 ?_;exact(gT (uA (jY (yJ (j6 T) (hr.mono (by decide)) (by rfl) T.d_has_field.m T.d_has_field.F.kp T.d_has_field.b (by refine zB (yH (zC 3 (pv 3)) zG) ?_ (hs:=w6);refine zB (yH (zC 1 (pv 1)) zG) ?_ (hs:=w6);exact zL)))) (by refine y3 ?_;exact(kD (wC (pv 0) T.cl T.h_tell (λ_ _ _ _ _ _=>rfl) (kC T) (hr.mono (by omega)) T.m_tell.b (yN (xB (oP (un1 hr) (YZ (yH (yH (zC 3 (pv 3)) zG) zG)) (yH (zC 1 (pv 1)) zG))) wX)))) uS))
theorem XM:FnScope ["plain", "expression", "bound", "parts"] ["plain", "expression", "bound", "parts"] (zO (top 28)):=scM
noncomputable def uO:MEs:=(uIf (vQ (kS (yD 2 y6 (zA (zJ ixD (zF 3) (mC (.int 1))) (zA (zJ ixD (zF 1) (mC (.int 1))) zT))))) (uDo (x0 1 xH (zX (y0 (yD 3 xR (zA (zJ ixD (zF 3) (mC (.int 1))) (zA (zJ ixD (zF 1) (mC (.int 1))) (zA (zJ ixD (zF 3) (mC (.int 0))) zT))))) xP))) pI)
theorem zAL(st:Mst)(ds:List D)(p:D×Mst)(hl:ds.length=3)(h:qV st ds=some p):mkU 3 4 uO st ds=some p:=by
 unfold qV at h;split at h
 ·rename_i a s c d f b v w ks l;split at h
  case isFalse=>cases h
  rename_i hw;obtain⟨rfl,hn,hk⟩:=hw;show(uO st [.un,.v (.tup [a,.str s,c,d,f]),.v b,.v (.lst [v,.tup [.str [114,101,99],.dct ks l]])]).bind _=_;have e1:kS (yD 2 y6 (zA (zJ ixD (zF 3) (mC (.int 1))) (zA (zJ ixD (zF 1) (mC (.int 1))) zT))) [.un,.v (.tup [a,.str s,c,d,f]),.v b,.v (.lst [v,.tup [.str [114,101,99],.dct ks l]])]=some true:=by
   have hq:yD 2 y6 (zA (zJ ixD (zF 3) (mC (.int 1))) (zA (zJ ixD (zF 1) (mC (.int 1))) zT)) [.un,.v (.tup [a,.str s,c,d,f]),.v b,.v (.lst [v,.tup [.str [114,101,99],.dct ks l]])]=some (.bl true):=xN (p:=.v (.bl true)) (zR (x:=.tup [.str [114,101,99],.dct ks l]) rfl (zR (x:=.str s) rfl yT)) rfl (zCF ks l s hn);unfold kS;rw[hq];rfl
  have e2:yD 3 xR (zA (zJ ixD (zF 3) (mC (.int 1))) (zA (zJ ixD (zF 1) (mC (.int 1))) (zA (zJ ixD (zF 3) (mC (.int 0))) zT))) [.un,.v (.tup [a,.str s,c,d,f]),.v b,.v (.lst [v,.tup [.str [114,101,99],.dct ks l]])]=some (.tup [.str [114,101,99],.dct (jQ ks l (.inr ⟨s.toArray⟩) v).1 (jQ ks l (.inr ⟨s.toArray⟩) v).2]):=by
   obtain⟨as,hq⟩:=QP (.str [114,101,99]) ks l s v hk;show(xR [.v (.tup [.str [114,101,99],.dct ks l]),.v (.str s),.v v]).map _=_;rw[hq];rfl
  have hb:=qA h;unfold uO uIf;simp only[vQ,e1,e2,bm,aa,uDo,x0,zX,xP,y0,au,bo,if_true];rw[h];subst hb;rfl
 ·cases h
theorem X6(T:Txt K mg w.params):FnOk P w K mg base CX0 3 T.d_of_put.a T.d_of_put.d ["plain", "expression", "bound", "parts"] (spM K T.C 3 qV):=by
 refine xK (YY (k:=2) T.d_of_put.F XM 3 4 rfl rfl (g:=uO) (λcdv A outer s H E hr=>?_)) zAL;unfold uO;exact(by refine y3 ?_;exact(gT (uA (jY (yJ (j6 T) (hr.mono (by decide)) (by rfl) T.d_has_field.m T.d_has_field.F.kp T.d_has_field.b (by refine zB (yH (zC 3 (pv 3)) zG) ?_ (hs:=w6);refine zB (yH (zC 1 (pv 1)) zG) ?_ (hs:=w6);exact zL)))) (by refine y3 ?_;exact(kD (wC (pv 0) T.cl T.h_tell (λ_ _ _ _ _ _=>rfl) (kC T) (hr.mono (by omega)) T.m_tell.b (yN (xB (yJ (k8 T) (hr.mono (by decide)) (by rfl) T.d_with_field.m T.d_with_field.F.kp T.d_with_field.b (by refine zB (yH (zC 3 (pv 3)) zG) ?_ (hs:=w6);refine zB (yH (zC 1 (pv 1)) zG) ?_ (hs:=w6);refine zB (yH (zC 3 (pv 3)) zG) ?_ (hs:=w6);exact zL))) wX)))) uS))
theorem pT:FnScope ["plain", "expression", "bound", "parts"] ["plain", "expression", "bound", "parts"] (zO (top 29)):=scM
noncomputable def kL:MEs:=(uIf (vQ (kS (yD 2 y6 (zA (zJ ixD (zF 3) (mC (.int 0))) (zA (zJ ixD (zF 1) (mC (.int 1))) zT))))) (uDo (x0 1 xH (zX (y0 (yD 2 wI (zA (zJ ixD (zF 3) (mC (.int 0))) (zA (zJ ixD (zF 1) (mC (.int 1))) zT)))) xP))) pI)
theorem zGZ(w:D)(ks:List Key)(l:List D)(x:List Nat)(v:D)(h:yW ks l (.inr ⟨x.toArray⟩)=some v):∃as,wI [.v (.tup [w,.dct ks l]),.v (.str x)]=some (.v (.tup [.str [114,101,99],.dct (qF ks l (.inr ⟨x.toArray⟩)).1 (qF ks l (.inr ⟨x.toArray⟩)).2]),as):=by
 refine⟨[.v (.tup [w,.dct ks l]),.v (.str x)],?_⟩;have e1:sX (WH 2 (zF 1)) [.v (.tup [w,.dct ks l]),.v (.str x),.d false ks l]=some (.nx [.v (.tup [w,.dct ks l]),.v (.str x),.d false (qF ks l (.inr ⟨x.toArray⟩)).1 (qF ks l (.inr ⟨x.toArray⟩)).2]):=by
  refine c8 (d:=v) ?_;show((yW ks l (.inr ⟨x.toArray⟩)).map λv=>(v,_))=_;rw[h];rfl
 have e0:tR 2 (qS (zJ ixD (zF 0) (mC (.int 1)))) [.v (.tup [w,.dct ks l]),.v (.str x),.un]=some (.nx [.v (.tup [w,.dct ks l]),.v (.str x),.d false ks l]):=rfl;show(xX [.v (.tup [w,.dct ks l]),.v (.str x),.un]).bind _=_;unfold xX yL;rw[e0,aa];show(((sX (WH 2 (zF 1)) [.v (.tup [w,.dct ks l]),.v (.str x),.d false ks l]).bind _)).bind _=_;rw[e1];rfl
theorem Y8(st:Mst)(ds:List D)(p:D×Mst)(hl:ds.length=3)(h:wF st ds=some p):mkU 3 4 kL st ds=some p:=by
 unfold wF at h;split at h
 ·rename_i a s c d b w ks l;split at h
  case isFalse=>cases h
  rename_i hw;obtain⟨rfl,hn⟩:=hw;obtain⟨v,hv⟩:=uh.mp hn;show(kL st [.un,.v (.tup [a,.str s,c,d]),.v b,.v (.lst [.tup [.str [114,101,99],.dct ks l]])]).bind _=_;have e1:kS (yD 2 y6 (zA (zJ ixD (zF 3) (mC (.int 0))) (zA (zJ ixD (zF 1) (mC (.int 1))) zT))) [.un,.v (.tup [a,.str s,c,d]),.v b,.v (.lst [.tup [.str [114,101,99],.dct ks l]])]=some true:=by
   have hq:yD 2 y6 (zA (zJ ixD (zF 3) (mC (.int 0))) (zA (zJ ixD (zF 1) (mC (.int 1))) zT)) [.un,.v (.tup [a,.str s,c,d]),.v b,.v (.lst [.tup [.str [114,101,99],.dct ks l]])]=some (.bl true):=xN (p:=.v (.bl true)) (zR (x:=.tup [.str [114,101,99],.dct ks l]) rfl (zR (x:=.str s) rfl yT)) rfl (zCF ks l s hn);unfold kS;rw[hq];rfl
  have e2:yD 2 wI (zA (zJ ixD (zF 3) (mC (.int 0))) (zA (zJ ixD (zF 1) (mC (.int 1))) zT)) [.un,.v (.tup [a,.str s,c,d]),.v b,.v (.lst [.tup [.str [114,101,99],.dct ks l]])]=some (.tup [.str [114,101,99],.dct (qF ks l (.inr ⟨s.toArray⟩)).1 (qF ks l (.inr ⟨s.toArray⟩)).2]):=xN (p:=.v (.tup [.str [114,101,99],.dct (qF ks l (.inr ⟨s.toArray⟩)).1 (qF ks l (.inr ⟨s.toArray⟩)).2])) (zR (x:=.tup [.str [114,101,99],.dct ks l]) rfl (zR (x:=.str s) rfl yT)) rfl (zGZ (.str [114,101,99]) ks l s v hv);have hb:=qA h;unfold kL uIf;simp only[vQ,e1,e2,bm,aa,uDo,x0,zX,xP,y0,au,bo,if_true];rw[h];subst hb;rfl
 ·cases h
theorem p7(T:Txt K mg w.params):FnOk P w K mg base CX0 3 T.d_of_less.a T.d_of_less.d ["plain", "expression", "bound", "parts"] (spM K T.C 3 wF):=by
 refine xK (YY (k:=2) T.d_of_less.F pT 3 4 rfl rfl (g:=kL) (λcdv A outer s H E hr=>?_)) Y8;unfold kL;exact(by refine y3 ?_;exact(gT (uA (jY (yJ (j6 T) (hr.mono (by decide)) (by rfl) T.d_has_field.m T.d_has_field.F.kp T.d_has_field.b (by refine zB (yH (zC 3 (pv 3)) zG) ?_ (hs:=w6);refine zB (yH (zC 1 (pv 1)) zG) ?_ (hs:=w6);exact zL)))) (by refine y3 ?_;exact(kD (wC (pv 0) T.cl T.h_tell (λ_ _ _ _ _ _=>rfl) (kC T) (hr.mono (by omega)) T.m_tell.b (yN (xB (yJ (vL T) (hr.mono (by decide)) (by rfl) T.d_without_field.m T.d_without_field.F.kp T.d_without_field.b (by refine zB (yH (zC 3 (pv 3)) zG) ?_ (hs:=w6);refine zB (yH (zC 1 (pv 1)) zG) ?_ (hs:=w6);exact zL))) wX)))) uS))
theorem zA0:FnScope ["self", "expression", "bound", "parts"] ["self", "expression", "bound", "parts"] (zO (cP 16 1)):=scM
noncomputable def cU:MEs:=(uDo (zI0 3 ways (zJ ixD (zF 1) (mC (.int 0))) (zEI (zA (zF 1) (zA (zF 2) (zA (zF 3) zT))))))
theorem zED(st:Mst)(ds:List D)(p:D×Mst)(hl:ds.length=3)(h:qE st ds=some p):mkU 3 4 cU st ds=some p:=by
 unfold qE at h;split at h
 ·rename_i w r b ps;obtain⟨mm,e1,h⟩:=bnS h;have e2:zJ ixD (zF 1) (mC (.int 0)) [.un,.v (.tup (.str w::r)),.v b,.v ps]=some (.str w):=by
   show atI (.str w::r) 0=_;exact zQP
  have e3:zA (zF 1) (zA (zF 2) (zA (zF 3) zT)) [.un,.v (.tup (.str w::r)),.v b,.v ps]=some [.tup (.str w::r),b,ps]:=rfl;show(cU st [.un,.v (.tup (.str w::r)),.v b,.v ps]).bind _=_;unfold cU uDo zI0;rw[e2,aa];dsimp only;rw[e1,aa];simp only[zEI,e3,bm,aa,au,bo,if_true];obtain⟨q,h1,rfl⟩:=mpS h;rw[h1];rfl
 ·cases h
theorem zBV(T:Txt K mg w.params):FnOk P w K mg base CX0 4 T.m_go_on.a T.m_go_on.d ["self", "expression", "bound", "parts"] (spM K T.C 3 qE):=by
 refine xK (YY (k:=3) T.m_go_on.F zA0 3 4 rfl rfl (g:=cU) (λcdv A outer s H E hr=>?_)) zED;unfold cU;exact(by refine y3 ?_;exact(kD (zGI (k:=3) (n:=3) (ways:=ways) T.ways (by rfl) (yH (zC 1 (pv 1)) zG) (pv 0) (zGQ (zB (zC 1 (pv 1)) (zB (zC 2 (pv 2)) (zB (zC 3 (pv 3)) zL)))) (λkey mm e=>by
  unfold ways at e;split at e
  ·rename_i hk;subst hk;cases e;exact⟨_,_,_,T.w_num,X7 T,T.d_of_num.b,T.d_of_num.F.kp⟩
  split at e
  ·rename_i hk;subst hk;cases e;exact⟨_,_,_,T.w_name,p6 T,T.d_of_name.b,T.d_of_name.F.kp⟩
  split at e
  ·rename_i hk;subst hk;cases e;exact⟨_,_,_,T.w_fn,zBT T,T.d_of_fn.b,T.d_of_fn.F.kp⟩
  split at e
  ·rename_i hk;subst hk;cases e;exact⟨_,_,_,T.w_do,zBU T,T.d_of_do.b,T.d_of_do.F.kp⟩
  split at e
  ·rename_i hk;subst hk;cases e;exact⟨_,_,_,T.w_empty,nF T,T.d_of_empty.b,T.d_of_empty.F.kp⟩
  split at e
  ·rename_i hk;subst hk;cases e;exact⟨_,_,_,T.w_get,X8 T,T.d_of_get.b,T.d_of_get.F.kp⟩
  split at e
  ·rename_i hk;subst hk;cases e;exact⟨_,_,_,T.w_with,p5 T,T.d_of_with.b,T.d_of_with.F.kp⟩
  split at e
  ·rename_i hk;subst hk;cases e;exact⟨_,_,_,T.w_put,X6 T,T.d_of_put.b,T.d_of_put.F.kp⟩
  split at e
  ·rename_i hk;subst hk;cases e;exact⟨_,_,_,T.w_less,p7 T,T.d_of_less.b,T.d_of_less.F.kp⟩
  split at e
  ·rename_i hk;subst hk;cases e;exact⟨_,_,_,T.w_tag,X5 T,T.d_of_tag.b,T.d_of_tag.F.kp⟩
  ·cases e) hr)))
theorem sc_run_on:FnScope ["self", "task"] ["self"] (zO (cP 8 4)):=scM
noncomputable def uM:MEs:=(bQ WF (zNT zEF (zJV (zAP λst=>st.ended))) (YW (zNF 0 1 zEJ) (uIf (vQ (kS (zJ ixD (zF 1) (mC (.int 2))))) (uDo (x0 3 qE (zX (y0 (zJ ixD (zF 1) (mC (.int 0)))) (zX (y0 (zJ ixD (zF 1) (mC (.int 1)))) (zX (x0 1 yO (zX (y0 (zJ ixD (zF 1) (mC (.int 0)))) xP)) xP))))) (uDo (x0 2 yI (zX (y0 (zJ ixD (zF 1) (mC (.int 0)))) (zX (y0 (zJ ixD (zF 1) (mC (.int 1)))) xP)))))))
noncomputable def zDT:MEs:=(YW (zNF 0 1 zEJ) (uIf (vQ (kS (zJ ixD (zF 1) (mC (.int 2))))) (uDo (x0 3 qE (zX (y0 (zJ ixD (zF 1) (mC (.int 0)))) (zX (y0 (zJ ixD (zF 1) (mC (.int 1)))) (zX (x0 1 yO (zX (y0 (zJ ixD (zF 1) (mC (.int 0)))) xP)) xP))))) (uDo (x0 2 yI (zX (y0 (zJ ixD (zF 1) (mC (.int 0)))) (zX (y0 (zJ ixD (zF 1) (mC (.int 1)))) xP))))))
theorem zC3{st s:Mst}{x:Sl}(hx:x=.un\/∃d,x=.v d)(h:mP st=some s):∃d,zDT st [.un,x]=some (.nx s [.un,.v d]):=by
 unfold mP at h;have hset:∀d,yV 1 d [.un,x]=some [.un,.v d]:=λd=>by rcases hx with rfl|⟨d',rfl⟩<;>rfl
 have pop:∀d,st.wait.getLast?=some d->zNF 0 1 zEJ st [.un,x]=some (.nx { st with wait:=st.wait.dropLast } [.un,.v d]):=λd e=>by
  unfold zNF zEJ;rw[e];show(if 1=0 then none else (yV 1 d [.un,x]).map λr'=>MFl.nx { st with wait:=st.wait.dropLast } r')=_;rw[if_neg (by decide),hset];rfl
 split at h
 ·rename_i e b hl;refine⟨.tup [e,b,.bl true],?_⟩;obtain⟨p,h1,h⟩:=bnS h;obtain⟨q,h2,rfl⟩:=mpS h;have e0:zJ ixD (zF 1) (mC (.int 0)) [.un,.v (.tup [e,b,.bl true])]=some e:=rfl;have e1:zJ ixD (zF 1) (mC (.int 1)) [.un,.v (.tup [e,b,.bl true])]=some b:=rfl;have e2:kS (zJ ixD (zF 1) (mC (.int 2))) [.un,.v (.tup [e,b,.bl true])]=some true:=rfl;unfold zDT YW;rw[pop _ hl,aa];dsimp only;unfold uIf;simp only[vQ,e2,bm,aa,if_true];unfold uDo x0;simp only[zX,xP,y0,e0,e1,bm,aa,au,bo,if_true];rw[h1];simp only[bm,aa,au,bo,if_true];rw[h2];rfl
 ·rename_i e b hl;refine⟨.tup [e,b,.bl false],?_⟩;obtain⟨q,h2,rfl⟩:=mpS h;have e0:zJ ixD (zF 1) (mC (.int 0)) [.un,.v (.tup [e,b,.bl false])]=some e:=rfl;have e1:zJ ixD (zF 1) (mC (.int 1)) [.un,.v (.tup [e,b,.bl false])]=some b:=rfl;have e2:kS (zJ ixD (zF 1) (mC (.int 2))) [.un,.v (.tup [e,b,.bl false])]=some false:=rfl;unfold zDT YW;rw[pop _ hl,aa];dsimp only;unfold uIf;simp only[vQ,e2,bm,aa,if_false,cr];unfold uDo x0;simp only[zX,xP,y0,e0,e1,bm,aa,au,bo,if_true];rw[h2];rfl
 ·cases h
theorem Y5:∀(n:Nat) (st s:Mst) (x:Sl),(x=.un\/∃d,x=.v d)->bK n st=some s->∃x',bQ n (zNT zEF (zJV (zAP λst=>st.ended))) zDT st [.un,x]=some (.nx s [.un,x']):=by
 intro n
 induction n with
 |zero=>intro st s x _ h;cases h
 |succ n ih=>
  intro st s x hx h;have h:(if st.wait.isEmpty=false/\nonB st.ended=true then (mP st).bind (bK n) else some st)=some s:=h;have ht:zNT zEF (zJV (zAP λst=>st.ended)) st [.un,x]=some (!st.wait.isEmpty && nonB st.ended,st):=by
   show(if (!st.wait.isEmpty)=true then some (nonB st.ended,st) else some (false,st))=_;cases st.wait.isEmpty<;>simp
  unfold bQ;rw[ht,aa];by_cases hc:st.wait.isEmpty=false/\nonB st.ended=true
  ·rw[if_pos hc] at h;obtain⟨st1,h1,h2⟩:=bnS h;obtain⟨d,hb⟩:=zC3 hx h1;obtain⟨x',hx'⟩:=ih st1 s (.v d) (.inr ⟨d,rfl⟩) h2;refine⟨x',?_⟩;rw[if_pos (by simp[hc.1,hc.2]),hb,aa];exact hx'
  ·rw[if_neg hc] at h;cases h;refine⟨x,?_⟩;rw[if_neg (by simpa using hc)]
theorem zAJ(st:Mst)(ds:List D)(p:D×Mst)(hl:ds.length=0)(h:jK st ds=some p):mkU 0 2 uM st ds=some p:=by
 match ds,hl with
 |[],_=>
  obtain⟨s,h1,rfl⟩:=mpS (show(bK WF st).map (λs=>(D.non,s))=some p from h);obtain⟨x',hx'⟩:=Y5 WF st s .un (.inl rfl) h1;show(uM st [.un,.un]).bind _=_;have e:uM=bQ WF (zNT zEF (zJV (zAP λst=>st.ended))) zDT:=rfl;rw[e,hx'];rfl
theorem X3(T:Txt K mg w.params):FnOk P w K mg base CX0 5 T.m_run_on.a T.m_run_on.d ["self"] (spM K T.C 0 jK):=by
 refine xK (YY (k:=4) T.m_run_on.F sc_run_on 0 2 rfl rfl (g:=uM) (λcdv A outer s H E hr=>?_)) zAJ;unfold uM;exact(by refine y3 ?_;exact(zB1 WF gt (zK1 (zGB (pv 0) T.cl T.n_waiting) (zGD (b9 (pv 0) T.cl T.n_ended cH))) (by refine k9 ?_ ?_;exact(zK2 1 (zGL (pv 0) T.cl T.n_waiting) sc_run_on.nd);exact(by refine y3 ?_;exact(gT (uA (jY (yH (zC 1 (pv 1)) zG))) (by refine y3 ?_;exact(kD (wC (pv 0) T.cl T.h_go_on (λ_ _ _ _ _ _=>rfl) (zBV T) (hr.mono (by omega)) T.m_go_on.b (yN (xB (yH (zC 1 (pv 1)) zG)) (yN (xB (yH (zC 1 (pv 1)) zG)) (yN (wC (pv 0) T.cl T.h_parts_come (λ_ _ _ _ _ _=>rfl) (b0 T) (hr.mono (by omega)) T.m_parts_come.b (yN (xB (yH (zC 1 (pv 1)) zG)) wX)) wX)))))) (by refine y3 ?_;exact(kD (wC (pv 0) T.cl T.h_begin_parts (λ_ _ _ _ _ _=>rfl) (u6 T) (hr.mono (by omega)) T.m_begin_parts.b (yN (xB (yH (zC 1 (pv 1)) zG)) (yN (xB (yH (zC 1 (pv 1)) zG)) wX))))))))))
theorem zAV:FnScope ["self", "most"] ["self", "most"] (zO (cP 8 0)):=scM
theorem zBR(T:Txt K mg w.params):FnOk P w K mg base CX0 1 T.m_rinit.a T.m_rinit.d ["self", "most"] (zPN K T.C):=by
 refine Fun.ok (k:=0) T.m_rinit.F zAV (λvs H Q E h=>?_) (λcdv A outer s H vs Q E hr h=>⟨_,jE (gF (pv 0) (pv 1) rfl) (jE (gF (pv 0) pX rfl) (jE (gF (pv 0) (zBH xF) rfl) (jE (gF (pv 0) (zBH xF) rfl) (m9 (gF (pv 0) zFU rfl))))),zA5 rfl T.cl T.n_most T.n_steps T.n_waiting T.n_come T.n_ended h⟩);obtain⟨x,dx,m,rfl,_⟩:=h;rfl
theorem zAW:FnScope ["self", "program", "most"] ["self", "program", "most"] (zO (cP 16 0)):=scM
theorem zBS(T:Txt K mg w.params):FnOk P w K mg base CX0 44 T.m_pinit.a T.m_pinit.d ["self", "program", "most"] (zPO K T.C dd):=by
 refine Fun.ok (k:=43) T.m_pinit.F zAW (λvs H Q E h=>?_) (λcdv A outer s H vs Q E hr h=>⟨_,jE (ZB (zBL (dvs:=[]) (E:=E0) T.cm (zBR T) (hr.mono (by omega)) (by rfl) T.mB T.m_rinit.b .nil dC (yC (pv 0) (yC (pv 2) xF)))) (m9 (gF (tv:=lE K ddE) (pv 0) (show DE _ _ ddE by unfold ddE;exact(zDR (zCI rfl (by rfl) T.z_dict (by refine zL6 ?_;exact(oJ (N':=["name", "E"]) (cap:=[]) rfl bB (cJ (zC 1 (pv 1))) (λ_ _ _ _=>(gO rfl (x2 (yZ 0 (show(["name", "E"]:List Str).Nodup by decide +kernel)) (x2 (yZ 1 (show(["name", "E"]:List Str).Nodup by decide +kernel)) uI)))) (λ_ _ _ _=>by exact(by refine zY ?_;exact(by refine zB ?_ ?_;exact(zC 0 (pv 0));refine zB ?_ ?_;exact(yJ (nG RF T) (hr.mono (by decide)) (by rfl) T.d_marked.m T.d_marked.F.kp T.d_marked.b (by refine zB ?_ ?_;exact(zC 1 (pv 1));refine zB ?_ ?_;exact(zC 0 (pv 0));refine zB ?_ ?_;exact zG;exact zL));exact zL))) 2))))) rfl)),zBC rfl T.cl T.n_defs (λpd d e m=>e) h⟩);obtain⟨O,x,dx,pd,pv,m,d,rfl,_⟩:=h;rfl
theorem sc_run:FnScope ["program", "most", "plain"] ["program", "most"] (zO (top 14)):=scM
noncomputable def zC9:MEs:=(YW (uDo (x0 2 xT (zX (XA (mC (.str [109,97,105,110]))) (zX (y0 (zB4 mD0)) xP)))) (YW (uDo (d7 jK)) (YW (uIf (zJV (zAP λst=>st.ended)) (zDZ (zNV (zX (y0 (mC (.str [118,97,108,117,101]))) (zX (zAP λst=>.int st.steps) (zX (zEK 1 QJ (zX zL9 xP)) xP))))) tD) (zDZ (zNV (zX (uIx (zAP λst=>st.ended) (mC (.int 0))) (zX (zAP λst=>.int st.steps) (zX (uIx (zAP λst=>st.ended) (mC (.int 1))) xP))))))))
noncomputable def zDN:MS:=zN7 2 (zF 0) (zF 1) dd zC9
theorem zBX{l:List D}:nonB (.tup l)=false:=rfl
theorem zNR(as:List Sl)(p:Rs×List Sl)(hl:as.length=2)(h:dZ as=some p):mkF 2 3 zDN as=some p:=by
 unfold dZ at h;split at h
 ·rename_i pd m;obtain⟨d,e1,h⟩:=bnS h;obtain⟨x,e2,rfl⟩:=mpS h;unfold zPT at e2;split at e2
  case h_2=>cases e2
  rename_i ks l;obtain⟨e,e3,h⟩:=bnS e2;obtain⟨s,e4,e5⟩:=bnS h;show(zDN [.v pd,.v (.int m),.un]).bind _=_;obtain⟨s',key⟩:∃s',zC9 ⟨m,0,[],[],.non,.dct ks l⟩ [.v pd,.v (.int m),.un]=some (.rt x s' [.v pd,.v (.int m),.un]):=by
   have b1:uDo (x0 2 xT (zX (XA (mC (.str [109,97,105,110]))) (zX (y0 (zB4 mD0)) xP))) ⟨m,0,[],[],.non,.dct ks l⟩ [.v pd,.v (.int m),.un]=some (.nx ⟨m,0,[.tup [e,.dct [] [],.bl false]],[],.non,.dct ks l⟩ [.v pd,.v (.int m),.un]):=by
    have d1:XA (mC (.str [109,97,105,110])) ⟨m,0,[],[],.non,.dct ks l⟩ [.v pd,.v (.int m),.un]=some (e,⟨m,0,[],[],.non,.dct ks l⟩):=by
     show(yW ks l (.inr ⟨([109,97,105,110]:List Nat).toArray⟩)).map _=_;rw[e3];rfl
    unfold uDo x0;simp only[zX,xP,d1,y0,zB4,mD0,bm,aa,au,bo,if_true];rfl
   have b2:uDo (d7 jK) ⟨m,0,[.tup [e,.dct [] [],.bl false]],[],.non,.dct ks l⟩ [.v pd,.v (.int m),.un]=some (.nx s [.v pd,.v (.int m),.un]):=by
    unfold uDo d7;show((bK WF _).map _).map _=_;rw[e4];rfl
   unfold zC9 YW;rw[b1,aa];dsimp only;rw[b2,aa];dsimp only;unfold zNK at e5;split at e5
   ·rename_i he;obtain⟨v,f1,e5⟩:=bnS e5;obtain⟨⟨q,as'⟩,f2,e5⟩:=bnS e5;cases q<;>first|(cases e5;done)|skip
    cases e5;unfold uIf;simp only[zJV,zAP,he,nonB,bm,aa,if_true];unfold zDZ;simp only[zNV,zX,xP,y0,mC,zAP,zEK,zL9,f1,bm,aa,au,bo,aq,qd,f2,if_true];rw[if_pos sz3];exact⟨_,rfl⟩
   ·rename_i a b he;cases e5;unfold uIf;simp only[zJV,zAP,he,zBX,bm,aa,cr,if_false,tD];unfold zDZ;have i0:ixD (.tup [a,b]) (.int 0)=some a:=rfl;have i1:ixD (.tup [a,b]) (.int 1)=some b:=rfl;simp only[zNV,zX,xP,uIx,mC,zAP,he,i0,i1,bm,aa,au,bo];rw[if_pos sz3];exact⟨_,rfl⟩
   ·cases e5
  unfold zDN zN7;rw[if_pos ⟨rfl,rfl⟩];have v0:zF 0 [.v pd,.v (.int m),.un]=some pd:=rfl;have v1:zF 1 [.v pd,.v (.int m),.un]=some (.int m):=rfl;simp only[v0,v1,aa,e1,key];rfl
 ·cases h
theorem zBQ(T:Txt K mg w.params):Ok P w base T.d_run 46 2 dZ:=by
 refine zAU (n8 (k:=45) T.d_run.F sc_run 2 3 rfl rfl (g:=zDN) (λcdv A outer s H E hr=>?_)) zNR;unfold zDN;exact(zLZ 2 T.mkC (zBS T) (hr.mono (by omega)) (by rfl) T.mC T.m_pinit.b (zC 0 (pv 0)) (zC 1 (pv 1)) (show zDY _ _ 2 _ zC9 by unfold zC9;exact(by refine k9 ?_ ?_;exact(kD (wC (pv 2) T.cl T.h_begin (λ_ _ _ _ _ _=>rfl) (b6 T) (hr.mono (by omega)) T.m_begin.b (yN (JC (un1 hr) (pv 2) T.cl T.n_defs zW) (yN (xB (zDR rN)) wX))));exact(by refine k9 ?_ ?_;exact(kD (hV (pv 2) T.cl T.h_run_on (λ_ _ _ _ _ _=>rfl) (X3 T) (hr.mono (by omega)) T.m_run_on.b));exact(by refine k9 ?_ ?_;exact(gT (zGD (b9 (pv 2) T.cl T.n_ended cH)) (by refine y3 ?_;exact(rC (zGJ (yN (xB zW) (yN (b9 (pv 2) T.cl T.n_steps mE) (yN (zB2 (zF6 T) (hr.mono (by omega)) (by rfl) T.d_told.m T.d_told.F.kp T.d_told.b (yN (zGM (pv 2) T.cl T.n_come) wX)) wX)))))) WG);exact(by refine y3 ?_;exact(rC (zGJ (yN (zMX (b9 (pv 2) T.cl T.n_ended cH) zG) (yN (b9 (pv 2) T.cl T.n_steps mE) (yN (zMX (b9 (pv 2) T.cl T.n_ended cH) zG) wX)))))))))) sc_run.nd)
theorem kO:FnScope ["_law_program", "_law_found", "_law_steps"] ["_law_program", "_law_found", "_law_steps"] (zO (top 47)):=scM
theorem kP(T:Txt K mg w.params):Ok P w base T.d__law_steps_fit 61 3 x6:=by
 refine n8 T.d__law_steps_fit.F kO 3 3 rfl rfl (g:=xO) (λcdv A outer s H E hr=>?_);unfold xO;exact(by refine zK ?_ ?_;exact(jM (zLY (zCQ (wG zMR zMU (zC 2 (pv 2)) zG (xU _)) (YB (wG (zKU (n:=400) (zNU hr (by decide))) zKY (yJ (zBQ T) (hr.mono (by decide)) (by rfl) T.d_run.m T.d_run.F.kp T.d_run.b (by refine zB (zC 0 (pv 0)) ?_ (hs:=zS);refine zB (zU XZ WA (zC 2 (pv 2)) zG) ?_ (hs:=cY);exact zL)) (by refine zY ?_;exact(by refine zB (zW (s:=[116,105,114,101,100]) (by rfl)) ?_ (hs:=zV);refine zB (zU XZ WA (zC 2 (pv 2)) zG) ?_ (hs:=cY);refine zB zIB ?_ (hs:=zV);exact zL)) (xU _))))) (by refine yB ?_;exact(by refine yS ?_;exact oO)) wH);exact(by refine yB ?_;exact(by refine yS ?_;exact(yJ (jH x3 T) (hr.mono (by decide)) (by rfl) T.d__law_alike.m T.d__law_alike.F.kp T.d__law_alike.b (by refine zB (yJ (zBQ T) (hr.mono (by decide)) (by rfl) T.d_run.m T.d_run.F.kp T.d_run.b (by refine zB (zC 0 (pv 0)) ?_ (hs:=zS);refine zB (zC 2 (pv 2)) ?_ (hs:=zS);exact zL)) ?_ (hs:=pO);refine zB (zC 1 (pv 1)) ?_ (hs:=zS);exact zL)))))
theorem sc_law:FnScope ["_law_script", "_law_first", "_law_labels_here", "_law_cells", "_law_many", "_law_fields", "_law_told", "_law_steps", "_law_program", "_law_k", "_law_j", "_law_cell_here", "_law_more", "_law_name", "_law_due", "_law_label", "_law_kept", "_law_found"] ["_law_script"] (zO (top 48)):=scM
theorem zKW(T:Txt K mg w.params):Ok P w base T.d_law 62 1 YU:=by
 refine n8 T.d_law.F sc_law 1 18 rfl rfl (g:=zDO) (λcdv A outer s H E hr=>?_);unfold zDO;exact(by refine zK ?_ ?_;exact(xA 1 (yJ (jG T) (hr.mono (by decide)) (by rfl) T.d__law_mixed.m T.d__law_mixed.F.kp T.d__law_mixed.b (by refine zB (yJ (gK T) (hr.mono (by decide)) (by rfl) T.d__law_cell.m T.d__law_cell.F.kp T.d__law_cell.b (by refine zB (zC 0 (pv 0)) ?_ (hs:=zS);refine zB zG ?_ (hs:=zV);exact zL)) ?_ (hs:=pO);refine zB zG ?_ (hs:=zV);exact zL)) sc_law.nd);exact(by refine zK ?_ ?_;exact(xA 2 (yJ (u7 T) (hr.mono (by decide)) (by rfl) T.d__law_labels.m T.d__law_labels.F.kp T.d__law_labels.b (zB (zC 1 (pv 1)) zL (hs:=zS))) sc_law.nd);exact(by refine zK ?_ ?_;exact(xA 3 (J3 (zC 0 (pv 0)) (vD zG) (vD zG)) sc_law.nd);exact(by refine zK ?_ ?_;exact(xA 4 (zU xL xM zG (zU wQ wR (zL5 (by rfl) (by rfl) T.z_max (by refine zB zG ?_ (hs:=zV);refine zB (zU XZ WA (cK (by rfl) T.z_len (zC 3 (pv 3))) zG) ?_ (hs:=cY);exact zL)) zG)) sc_law.nd);exact(by refine zK ?_ ?_;exact(oF 5 rN sc_law.nd);exact(by refine zK ?_ ?_;exact(xA 6 (by refine zY ?_;exact(zB (zW (s:=[101,109,112,116,121]) (by rfl)) zL (hs:=zV))) sc_law.nd);exact(by refine zK ?_ ?_;exact(xA 7 zG sc_law.nd);exact(by refine zK ?_ ?_;exact(bA 8 (by refine qK ?_;exact zL) sc_law.nd);exact(by refine zK ?_ ?_;exact(oG gt rfl (YG (by rfl) T.z_range (zC 4 (pv 4))) (yZ 9 sc_law.nd) (by refine zK ?_ ?_;exact(oG gt rfl (zH8 (by rfl) T.z_enumerate (J3 (zC 3 (pv 3)) (vD (zU gH gL zG (zC 9 (pv 9)))) (vD (zU xL xM (zU gH gL zG (zC 9 (pv 9))) zG)))) (gO rfl (x2 (yZ 10 sc_law.nd) (x2 (yZ 11 sc_law.nd) uI))) (by refine zK ?_ ?_;exact(zH4 (zCP (gJ T) (hr.mono (by decide)) (by rfl) T.d__law_done.m T.d__law_done.F.kp T.d__law_done.b (zO3 (zC 6 (pv 6)) (zO2 (pv 5) (by refine zB (yJ (jG T) (hr.mono (by decide)) (by rfl) T.d__law_mixed.m T.d__law_mixed.F.kp T.d__law_mixed.b (by refine zB (zC 11 (pv 11)) ?_ (hs:=zS);refine zB (zU xL xM (zU gH gL zG (zC 9 (pv 9))) (zC 10 (pv 10))) ?_ (hs:=cY);exact zL)) ?_ (hs:=pO);refine zB (zC 2 (pv 2)) ?_ (hs:=zS);exact zL)))) (gO rfl (x2 (yZ 6 sc_law.nd) (x2 (yZ 12 sc_law.nd) uI))));exact(by refine yB ?_;exact(xA 7 (zU xL xM (zC 7 (pv 7)) (zC 12 (pv 12))) sc_law.nd))));exact(by refine yB ?_;exact(jM (wG X1 WC (zC 9 (pv 9)) (zU XZ WA (zC 4 (pv 4)) zG) (xU _)) (by refine zK ?_ ?_;exact(xA 13 (zU xL xM (zW (s:=[100]) (by rfl)) (yH (zW (s:=[97,98,99,100,101,103,104,105,106,107]) (by rfl)) (zC 9 (pv 9)))) sc_law.nd);exact(by refine zK ?_ ?_;exact(zDQ (kY 8 (pv 8) (by refine zY ?_;exact(by refine zB (zC 13 (pv 13)) ?_ (hs:=zS);refine zB (zC 6 (pv 6)) ?_ (hs:=zS);exact zL))));exact(by refine zK ?_ ?_;exact(xA 6 (by refine zY ?_;exact(by refine zB (zW (s:=[110,97,109,101]) (by rfl)) ?_ (hs:=zV);refine zB (zC 13 (pv 13)) ?_ (hs:=zS);exact zL)) sc_law.nd);exact(by refine yB ?_;exact(xA 7 (zU xL xM (zC 7 (pv 7)) zG) sc_law.nd))))) wH))));exact(by refine zK ?_ ?_;exact(zJK 5 (xA 14 (by refine zY ?_;exact(by refine zB (zW (s:=[114,101,99]) (by rfl)) ?_ (hs:=zV);refine zB (dS (by rfl) T.z_tuple (by refine zL6 ?_;exact(oJ (N':=["_law_fields", "_law_label"]) (cap:=[5]) rfl bB (cJ (by refine J8 ?_;exact(dR rfl (by rfl) T.z_sorted (YZ (zC 5 (pv 5)))))) (λ_ _ _ _=>(yZ 1 (show(["_law_fields", "_law_label"]:List Str).Nodup by decide +kernel))) (λ_ _ _ _=>by exact(by refine zY ?_;exact(by refine zB ?_ ?_;exact(zC 1 (pv 1));refine zB ?_ ?_;exact(oP (un1 hr) (YZ (zC 0 (pv 0))) (zC 1 (pv 1)));exact zL))) 2))) ?_ (hs:=pO);exact zL)) sc_law.nd));exact(by refine zK ?_ ?_;exact(jM (zLY (zCQ (wG (jB hr.units0) jC (zU wO wP (zU wQ wR (zC 1 (pv 1)) zG) zG) zG (xU _)) (YB (zHX (un2 hr) (YZ (zC 5 (pv 5))))))) (by refine zK ?_ ?_;exact(xA 15 (yH (by refine J8 ?_;exact(dR rfl (by rfl) T.z_sorted (YZ (zC 5 (pv 5))))) (zU wO wP (zU wQ wR (zC 1 (pv 1)) zG) (zC0 (by rfl) T.z_len (YZ (zC 5 (pv 5)))))) sc_law.nd);exact(by refine zK ?_ ?_;exact(xA 6 (by refine zY ?_;exact(by refine zB (zW (s:=[103,101,116]) (by rfl)) ?_ (hs:=zV);refine zB (zC 15 (pv 15)) ?_ (hs:=zS);refine zB (zC 6 (pv 6)) ?_ (hs:=zS);exact zL)) sc_law.nd);exact(by refine yB ?_;exact(xA 14 (oP (un1 hr) (YZ (zC 5 (pv 5))) (zC 15 (pv 15))) sc_law.nd)))) wH);exact(by refine zK ?_ ?_;exact(zDQ (kY 8 (pv 8) (by refine zY ?_;exact(by refine zB (zW (s:=[109,97,105,110]) (by rfl)) ?_ (hs:=zV);refine zB (zC 6 (pv 6)) ?_ (hs:=zS);exact zL))));exact(by refine zK ?_ ?_;exact(xA 16 (J5 hr rfl T.z_repr (gP 8 (pv 8))) sc_law.nd);exact(by refine zK ?_ ?_;exact(xA 17 (YH (zBQ T) (hr.mono (by decide)) (by rfl) T.d_run.m T.d_run.F.kp T.d_run.b (pv 8) (zB zG zL (hs:=zV))) sc_law.nd);exact(by refine zK ?_ ?_;exact(jM (zLY (zHT (zCR (jY (yJ (jH x3 T) (hr.mono (by decide)) (by rfl) T.d__law_alike.m T.d__law_alike.F.kp T.d__law_alike.b (by refine zB (zC 17 (pv 17)) ?_ (hs:=zS);refine zB (by refine zY ?_;exact(by refine zB (zW (s:=[118,97,108,117,101]) (by rfl)) ?_ (hs:=zV);refine zB (zC 7 (pv 7)) ?_ (hs:=zS);refine zB (zC 14 (pv 14)) ?_ (hs:=zS);exact zL)) ?_ (hs:=yX);exact zL)))) (W0 (zCR (jY (YH (kP T) (hr.mono (by decide)) (by rfl) T.d__law_steps_fit.m T.d__law_steps_fit.F.kp T.d__law_steps_fit.b (pv 8) (by refine zB (zC 17 (pv 17)) ?_ (hs:=zS);refine zB (zC 7 (pv 7)) ?_ (hs:=zS);exact zL))))))) (by refine yB ?_;exact(by refine yS ?_;exact oO)) wH);exact(zL0 8 (by refine yB ?_;exact(by refine yS ?_;exact(oN (jB hr.units0) jC (J5 hr rfl T.z_repr (zPY (zC 8 (pv 8)))) (zC 16 (pv 16)) (xU _))))))))))))))))))))
end
theorem hJ(c k:Int):∃n:Int,0<=n/\∃as,xE [.v (.int c),.v (.int k)]=some (.v (.int n),as):=by
 let n1:Int:=(c % 2147483647+16807*k+7) % 2147483629
 let n2:Int:=n1*n1 % 2147483587
 have h1:0<=n1/\n1<2147483629:=⟨fq _ (by decide),dm _ (by decide)⟩;have h2:0<=n2/\n2<2147483587:=⟨fq _ (by decide),dm _ (by decide)⟩;refine⟨n2*(n2+48271) % 2147483579 / 5,?_,?_⟩
 ·exact mh (fq _ (by decide)) (by decide)
 ·refine kF (r':=[.v (.int c),.v (.int k),.v (.int n2)]) ?_;show wZ [.v (.int c),.v (.int k),.un]=_;unfold wZ;rw[yP (vX (d:=.int n1) (r2:=[.v (.int c),.v (.int k),.v (.int n1)]) (qJ (vP (vP (qJ rfl zM (by decide)) (rB zM rfl (by decide))) zM) zM (by decide)) (by rfl))];rw[yP (vX (d:=.int n2) (r2:=[.v (.int c),.v (.int k),.v (.int n2)]) (qJ (rB rfl rfl (by lia)) zM (by decide)) (by rfl))];exact x5 (wU (qJ (rB rfl (vP rfl zM) (by lia)) zM (by decide)) zM (by decide))
theorem zIM(ns:List Int)(k:Nat):∃c:Int,∃as,vH [.v (.lst (ns.map .int)),.v (.int (k:Int))]=some (.v (.int c),as):=by
 let R:En:=[.v (.lst (ns.map .int)),.v (.int (k:Int))]
 have t:mBl (zJ ltA (zF 1) (mUn gW (zF 0))) R=some (decide ((k:Int)<(ns.length:Int))):=dU (yK (x:=.int (k:Int)) (y:=.int (ns.length:Int)) rfl (bP (x:=.lst (ns.map .int)) rfl (by show some (D.int ((ns.map D.int).length:Int))=_;rw[ao])) rfl);by_cases h:k<ns.length
 ·rw[decide_eq_true (by lia)] at t;refine⟨ns[k],kF (r':=R) ?_⟩;show qP R=_;unfold qP;refine vK t (x5 (yK (x:=.lst (ns.map .int)) (y:=.int (k:Int)) rfl rfl (oZ ?_)));rw[ay,bn h];rfl
 ·rw[decide_eq_false (by lia)] at t;exact⟨0,kF (r':=R) (wW t (x5 zM))⟩
theorem zAB{x:ME}{j:Nat}{mk:Sl->En}{p:Nat->Prop}(hj:∀s d,fre s->yV j d (mk s)=some (mk (.v d))):∀(L:List D) (s:Sl),fre s->(∀a∈L,∃c,p c/\x (mk (.v a))=some (.str [c]))->∃cs:List Nat,cs.length=L.length/\(∀c∈cs,p c)/\kI (yV j) gU x L (mk s)=some (cs.map λc=>D.str [c])
 |[],s,hs,h=>⟨[],rfl,(λ_ h=>by cases h),rfl⟩
 |a::L,s,hs,h=>by
  obtain⟨c,hc,e⟩:=h a (by simp);obtain⟨cs,h1,h2,h3⟩:=zAB hj L (.v a) trivial λb hb=>h b (by simp[hb])
  refine⟨c::cs,by simp[h1],λd hd=>?_,?_⟩
  ·rcases bh.mp hd with rfl|hd
   ·exact hc
   ·exact h2 d hd
  ·unfold kI;rw[hj s a hs,aa,show gU (mk (.v a))=some true from rfl,aa,if_pos rfl,e,aa,h3];rfl
theorem mI{α:Type}{x:ME}{j:Nat}{mk:Sl->En}{g y:α->D}(hj:∀s d,fre s->yV j d (mk s)=some (mk (.v d))):∀(L:List α) (s:Sl),fre s->(∀a∈L,x (mk (.v (g a)))=some (y a))->kI (yV j) gU x (L.map g) (mk s)=some (L.map y)
 |[],s,hs,h=>rfl
 |a::L,s,hs,h=>by
  have ih:=mI (y:=y) hj L (.v (g a)) trivial λb hb=>h b (by simp[hb])
  rw[aq];unfold kI;rw[hj s _ hs,aa,show gU (mk (.v (g a)))=some true from rfl,aa,if_pos rfl,h a (by simp),aa,ih];rfl
theorem tG:∀cs:List Nat,XG (cs.map λc=>D.str [c])=some (cs.map λc=>[c])
 |[]=>rfl
 |c::cs=>by simp[XG,tG cs]
theorem ZU:∀cs:List Nat,JM [] (cs.map λc=>[c])=cs
 |[]=>rfl
 |[c]=>rfl
 |c::d::cs=>by
  have ih:=ZU (d::cs);rw[aq,aq] at *;unfold JM;rw[ih];rfl
theorem zNC(hl:l.length<=100)(h0:0<=i)(h:i<l.length):∃c,c∈l/\ixD (.str l) (.int i)=some (.str [c]):=by
 obtain⟨j,rfl⟩:=ux h0;have hj:j<l.length:=by lia
 refine⟨l[j],List.getElem_mem hj,?_⟩;show(if l.length<=af then (atI l (j:Int)).map λc=>D.str [c] else none)=_;rw[if_pos (bq hl (by decide)),oZ (bn hj)];rfl
theorem YJ(s:List α)(k:Nat):rS s (some (k:Int)) none=s.drop k:=by
 unfold rS;rw[HT.sIx_nat,HT.sIx_none];by_cases h:k<=s.length
 ·rw[sg h,qc (by rw[jh];lia)]
 ·have e1:s.drop (min k s.length)=[]:=kt (by lia);have e2:s.drop k=[]:=kt (by lia);rw[e1,e2];simp
theorem mU{lo:Option Int}(h:s.length<=100):slD (.str s) lo hi=some (.str (rS s lo hi)):=if_pos (bq h (by decide))
def zI4(i:Int):Prop:=0<=i/\i<1000000
inductive Ex where
 |num (n:Int)
 |nm (s:List Nat)
 |emp
 |tag (l:List Nat) (e:Ex)
 |wth (l:List Nat) (a b:Ex)
 |fn (x:List Nat) (e:Ex)
 |doo (f a:Ex)
 |put (l:List Nat) (a b:Ex)
 |les (l:List Nat) (e:Ex)
 |get (l:List Nat) (e:Ex)
noncomputable def toD:Ex->D
 |.num n=>.tup [.str [110,117,109],.int n]
 |.nm s=>.tup [.str [110,97,109,101],.str s]
 |.emp=>.tup [.str [101,109,112,116,121]]
 |.tag l e=>.tup [.str [116,97,103],.str l,toD e]
 |.wth l a b=>.tup [.str [119,105,116,104],.str l,toD a,toD b]
 |.fn x e=>.tup [.str [102,110],.str x,toD e]
 |.doo f a=>.tup [.str [100,111],toD f,toD a]
 |.put l a b=>.tup [.str [112,117,116],.str l,toD a,toD b]
 |.les l e=>.tup [.str [108,101,115,115],.str l,toD e]
 |.get l e=>.tup [.str [103,101,116],.str l,toD e]
noncomputable def dp:Ex->Nat
 |.num _=>0
 |.nm _=>0
 |.emp=>0
 |.tag _ e=>dp e+1
 |.wth _ a b=>max (dp a) (dp b)+1
 |.fn _ e=>dp e+1
 |.doo f a=>max (dp f) (dp a)+1
 |.put _ a b=>max (dp a) (dp b)+1
 |.les _ e=>dp e+1
 |.get _ e=>dp e+1
noncomputable def nd:Ex->Nat
 |.num _=>1
 |.nm _=>1
 |.emp=>1
 |.tag _ e=>1+nd e
 |.wth _ a b=>1+nd a+nd b
 |.fn _ e=>1+nd e
 |.doo f a=>1+nd f+nd a
 |.put _ a b=>1+nd a+nd b
 |.les _ e=>1+nd e
 |.get _ e=>1+nd e
inductive Pt where
 |pl (d:D)
 |ex (e:Ex)
noncomputable def ptD:Pt->D
 |.pl d=>d
 |.ex e=>toD e
noncomputable def ptE:Pt->Option Ex
 |.pl _=>none
 |.ex e=>some e
noncomputable def pts:Ex->List Pt
 |.num n=>[.pl (.str [110,117,109]),.pl (.int n)]
 |.nm s=>[.pl (.str [110,97,109,101]),.pl (.str s)]
 |.emp=>[.pl (.str [101,109,112,116,121])]
 |.tag l e=>[.pl (.str [116,97,103]),.pl (.str l),.ex e]
 |.wth l a b=>[.pl (.str [119,105,116,104]),.pl (.str l),.ex a,.ex b]
 |.fn x e=>[.pl (.str [102,110]),.pl (.str x),.ex e]
 |.doo f a=>[.pl (.str [100,111]),.ex f,.ex a]
 |.put l a b=>[.pl (.str [112,117,116]),.pl (.str l),.ex a,.ex b]
 |.les l e=>[.pl (.str [108,101,115,115]),.pl (.str l),.ex e]
 |.get l e=>[.pl (.str [103,101,116]),.pl (.str l),.ex e]
def plain(d:D):Prop:=jW "tuple" d=some (.bl false)
def PtOk(l:List Pt):Prop:=∀d,Pt.pl d∈l->plain d
theorem tF(e:Ex):toD e=.tup ((pts e).map ptD):=by cases e<;>rfl
theorem zFC(e:Ex):PtOk (pts e):=by
 intro d h;cases e<;>simp[pts] at h
 ·rcases h with rfl|rfl<;>rfl
 ·rcases h with rfl|rfl<;>rfl
 ·subst h;rfl
 ·rcases h with rfl|rfl<;>rfl
 ·rcases h with rfl|rfl<;>rfl
 ·rcases h with rfl|rfl<;>rfl
 ·subst h;rfl
 ·rcases h with rfl|rfl<;>rfl
 ·rcases h with rfl|rfl<;>rfl
 ·rcases h with rfl|rfl<;>rfl
theorem JO(e:Ex):jW "tuple" (toD e)=some (.bl true):=by rw[tF];rfl
noncomputable def ch(e:Ex):List Ex:=(pts e).filterMap ptE
theorem PtOk.tail(h:PtOk (p::l)):PtOk l:=λd hd=>h d (bx _ hd)
theorem uV:∀(l:List Pt) (s:Sl),fre s->PtOk l->kI (yV 0) (kS (mUn (jW "tuple") (zF 0))) (zF 0) (l.map ptD) [s]=some ((l.filterMap ptE).map toD)
 |[],s,hs,h=>rfl
 |.pl d::l,s,hs,h=>by
  have ih:=uV l (.v d) trivial h.tail;have e1:yV 0 d [s]=some [.v d]:=yQ (r:=[s]) rfl hs;have e2:kS (mUn (jW "tuple") (zF 0)) [.v d]=some false:=by
   unfold kS;rw[bP (f:=zF 0) (r:=[.v d]) (x:=d) rfl (h d (by simp))];rfl
  show kI _ _ _ (d::l.map ptD) [s]=_;unfold kI;rw[e1,aa,e2,aa,if_neg (by decide),ih];rfl
 |.ex e::l,s,hs,h=>by
  have ih:=uV l (.v (toD e)) trivial h.tail;have e1:yV 0 (toD e) [s]=some [.v (toD e)]:=yQ (r:=[s]) rfl hs;have e2:kS (mUn (jW "tuple") (zF 0)) [.v (toD e)]=some true:=by
   unfold kS;rw[bP (f:=zF 0) (r:=[.v (toD e)]) (x:=toD e) rfl (JO e)];rfl
  have e3:zF 0 [.v (toD e)]=some (toD e):=rfl;show kI _ _ _ (toD e::l.map ptD) [s]=_;unfold kI;rw[e1,aa,e2,aa,if_pos rfl,e3,aa,ih];rfl
theorem tX(e:Ex):(pts e).length<=7:=by cases e<;>simp[pts]
theorem ZY(e:Ex):∃as,vG [.v (toD e)]=some (.v (.lst ((ch e).map toD)),as):=by
 refine kF (r':=[.v (toD e)]) ?_;show dN [.v (toD e)]=_;unfold dN;refine x5 ?_;unfold qN wS;have it:mIt (zF 0) [.v (toD e)]=some ((pts e).map ptD):=by
  unfold mIt;rw[show zF 0 [.v (toD e)]=some (toD e) from rfl,tF];rfl
 have:=tX e
 rw[it,aa,if_pos (by rw[ao];exact bb (show _<100 by lia) (by decide)),show Y0 [] 1 [.v (toD e)]=[.un] from rfl,uV _ .un trivial (zFC e)];rfl
noncomputable def tn(es:List Ex):Nat:=(es.map nd).sum
theorem zER(a b:List Ex):tn (a++b)=tn a+tn b:=by simp[tn]
theorem zGA(e:Ex):nd e=1+tn (ch e):=by cases e<;>simp[nd,tn,ch,pts,ptE,List.filterMap]<;>lia
theorem zEQ(l:List Ex):l.length<=tn l:=by
 induction l with
 |nil=>exact ah 0
 |cons a l ih=>have:=zGA a;show l.length+1<=nd a+(l.map nd).sum;unfold tn at ih;lia
noncomputable def zJM:MS:=(yL (zDB 3 (pC 2)) (yL (sX (QL 1 (zF 3))) (sX (zK6 2 (mUn zI6 (yD 1 vG (zA (zF 3) zT)))))))
theorem bC(x:Sl):∀(n:Nat) (es:List Ex) (F:List D) (s:Sl),fre s->tn es<=n->F.length+n<=10000->∃F' s',F'.length<=F.length+n/\∀m,j4 (n+1+m) (ZN (o7 2)) zJM [x,.o F,.o (es.map toD),s]=some (.nx [x,.o F',.o [],s'])
 |n,[],F,s,hs,h1,h2=>⟨F,s,iq ..,λm=>by rw[show n+1+m=(n+m)+1 by lia];exact mM rfl⟩
 |0,e::es,F,s,hs,h1,h2=>by
  have:=zGA e
  have:tn (e::es)=nd e+tn es:=by simp[tn]
  lia
 |n+1,e0::es0,F,s,hs,h1,h2=>by
  obtain⟨es,e,he⟩:∃es e,e0::es0=es++[e]:=⟨(e0::es0).dropLast,(e0::es0).getLast (by simp),(sn (by simp)).symm⟩;rw[he] at h1 ⊢;rw[zER] at h1;have hn:=zGA e;have h1':tn es+nd e<=n+1:=by simpa [tn] using h1
  have hc:tn ((ch e).reverse)=tn (ch e):=by simp[tn,List.sum_reverse]
  have cl:=zEQ (ch e);have le:=zEQ es;obtain⟨F',s',q1,q2⟩:=bC x n (es++(ch e).reverse) (F++[toD e]) (.v (toD e)) trivial (by rw[zER,hc];lia) (by simp;lia);refine⟨F',s',by simp at q1;lia,λm=>?_⟩;rw[show n+1+1+m=(n+1+m)+1 by lia];have em:(es++[e]).map toD=es.map toD++[toD e]:=by simp
  have cd:ZN (o7 2) [x,.o F,.o ((es++[e]).map toD),s]=some true:=by rw[em];show some (!(es.map toD++[toD e]).isEmpty)=_;simp
  rw[rY (r':=[x,.o (F++[toD e]),.o ((es++(ch e).reverse).map toD),.v (toD e)]) cd ?_,q2 m];unfold zJM;rw[em];have p1:zDB 3 (pC 2) [x,.o F,.o (es.map toD++[toD e]),s]=some (.nx [x,.o F,.o (es.map toD),.v (toD e)]):=by
   unfold zDB;rw[zFI (S:=es.map toD) (d:=toD e) rfl,aa];show(yV 3 (toD e) [x,.o F,.o (es.map toD),s]).map Fl.nx=_;rw[yQ (r:=[x,.o F,.o (es.map toD),s]) (x:=s) rfl hs];rfl
  rw[yP p1];have p2:sX (QL 1 (zF 3)) [x,.o F,.o (es.map toD),.v (toD e)]=some (.nx [x,.o (F++[toD e]),.o (es.map toD),.v (toD e)]):=c8 (rW (S:=F) rfl rfl (bb (show F.length<20000 by lia) (by decide)));rw[yP p2];refine c8 (d:=.non) ?_;unfold zK6;have ci:yD 1 vG (zA (zF 3) zT) [x,.o (F++[toD e]),.o (es.map toD),.v (toD e)]=some (.lst ((ch e).map toD)):=xN (p:=.v (.lst ((ch e).map toD))) (zR (x:=toD e) rfl yT) rfl (ZY e);rw[bP (d:=.lst ((ch e).map toD).reverse) ci rfl,aa];show(some ((ch e).map toD).reverse).bind _=_;rw[aa];show(some (es.map toD)).bind _=_;rw[aa,if_pos (by simp;exact bq (show _<=20000 by lia) (by decide))];show some (D.non,[x,Sl.o (F++[toD e]),.o (es.map toD++((ch e).map toD).reverse),.v (toD e)])=_;simp
theorem XU(h:nd e<=5000):∃F:List D,F.length<=5000/\∃as,j9 [.v (toD e)]=some (.f F,as):=by
 have t1:tn [e]=nd e:=by simp[tn]
 obtain⟨F',s',q1,q2⟩:=bC (.v (toD e)) (nd e) [e] [] .un trivial (by lia) (by simp;lia);refine⟨F',by simp at q1;lia,?_⟩;have w:=q2 (WF-(nd e+1));rw[show nd e+1+(WF-(nd e+1))=WF by unfold WF;lia] at w;unfold zJM at w;refine⟨([.v (toD e),.o F',.o [],s']:En).take 1,?_⟩;unfold j9 mkF;have b:vA [.v (toD e),.un,.un,.un]=some (.rf F' [.v (toD e),.o F',.o [],s']):=by
  unfold vA;rw[yP (r':=[.v (toD e),.o [],.un,.un]) (by rfl),yP (r':=[.v (toD e),.o [],.o ([e].map toD),.un]) (by rfl),yP w];rfl
 show(vA [.v (toD e),.un,.un,.un]).bind _=_;rw[b];rfl
noncomputable def zJN:MS:=(yL (sX (QL 2 (zF 3))) (QZ 3 (mUn gW (qN (cC 1 j9 (zA (zF 4) zT))))))
theorem v8(x y:Sl):∀(es:List Ex) (F:List Int) (i:Int) (s:Sl),fre s->(∀e∈es,nd e<=5000)->F.length+es.length<=1000->∃(F':List Int) (i':Int) (s':Sl),F'.length=F.length+es.length/\rM (yV 4) zJN (es.map toD) [x,y,.o (F.map D.int),.v (.int i),s]=some (.nx [x,y,.o (F'.map D.int),.v (.int i'),s'])
 |[],F,i,s,hs,h,hl=>⟨F,i,s,rfl,rfl⟩
 |e::es,F,i,s,hs,h,hl=>by
  obtain⟨P,p1,as,p2⟩:=XU (h e (by simp));obtain⟨F',i',s',q1,q2⟩:=v8 x y es (F++[i]) (i+(P.length:Int)) (.v (toD e)) trivial (λa ha=>h a (by simp[ha])) (by simp at hl ⊢;lia);refine⟨F',i',s',by simp at q1 ⊢;lia,?_⟩;rw[aq,cG (r1:=[x,y,.o (F.map D.int),.v (.int i),.v (toD e)]) (yQ (i:=4) (x:=s) rfl hs) (r':=[x,y,.o ((F++[i]).map D.int),.v (.int (i+(P.length:Int))),.v (toD e)]) ?_,q2];unfold zJN;rw[yP (c8 (rW (i:=2) (S:=F.map D.int) (d:=.int i) rfl rfl (by rw[ao];exact bb (show F.length<2000 by simp at hl;lia) (by decide))))];have l1:mUn gW (qN (cC 1 j9 (zA (zF 4) zT))) [x,y,.o (F.map D.int++[D.int i]),.v (.int i),.v (toD e)]=some (.int (P.length:Int)):=by
   refine bP (x:=.lst P) ?_ rfl;have p2':j9 (([toD e]:List D).map Sl.v)=some (.f P,as):=p2;unfold qN cC;rw[zR (x:=toD e) (l:=[]) rfl yT,aa,if_pos (show([toD e]:List D).length=1 from rfl),p2'];rfl
  show QZ 3 _ [x,y,.o (F.map D.int++[D.int i]),.v (.int i),.v (toD e)]=_;unfold QZ;show(mUn gW _ _).bind _=_;rw[l1,fo];rfl
theorem rA(e:Ex)(i:Int)(h:nd e<=5000):∃F:List Int,F.length=(ch e).length/\∃as,xI [.v (toD e),.v (.int i)]=some (.f (F.map D.int),as):=by
 have hn:=zGA e;have cm:∀(l:List Ex),∀a∈l,nd a<=tn l:=λl=>by
  induction l with
  |nil=>intro a ha;cases ha
  |cons b l ih=>
   intro a ha;have e0:tn (b::l)=nd b+tn l:=by simp[tn]
   rcases bh.mp ha with rfl|ha
   ·lia
   ·have:=ih a ha;lia
 have cl:(ch e).length<=7:=bq (List.length_filterMap_le ..) (tX e);obtain⟨F',i',s',q1,q2⟩:=v8 (.v (toD e)) (.v (.int i)) (ch e) [] (i+1) .un trivial (λa ha=>by have:=cm _ a ha;lia) (by simp;lia);refine⟨F',by simpa using q1,([.v (toD e),.v (.int i),.o (F'.map D.int),.v (.int i'),s']:En).take 2,?_⟩;unfold xI mkF;have b:xG [.v (toD e),.v (.int i),.un,.un,.un]=some (.rf (F'.map D.int) [.v (toD e),.v (.int i),.o (F'.map D.int),.v (.int i'),s']):=by
  unfold xG;rw[yP (r':=[.v (toD e),.v (.int i),.o [],.un,.un]) (by rfl)];refine yF (.int (i+1)) (r2:=[.v (toD e),.v (.int i),.o [],.v (.int (i+1)),.un]) (vP rfl zM) (by rfl) ?_;rw[yP (r':=[.v (toD e),.v (.int i),.o (F'.map D.int),.v (.int i'),s']) ?_]
  ·rfl
  ·unfold o9;have it:mIt (yD 1 vG (zA (zF 0) zT)) [.v (toD e),.v (.int i),.o [],.v (.int (i+1)),.un]=some ((ch e).map toD):=by
    have ci:yD 1 vG (zA (zF 0) zT) [.v (toD e),.v (.int i),.o [],.v (.int (i+1)),.un]=some (.lst ((ch e).map toD)):=xN (p:=.v (.lst ((ch e).map toD))) (zR (x:=toD e) rfl yT) rfl (ZY e);unfold mIt;rw[ci];rfl
   rw[it];unfold zJN at q2;exact q2
 show(xG [.v (toD e),.v (.int i),.un,.un,.un]).bind _=_;rw[b];rfl
inductive Mk:Ex->D->Prop
 |num (n:Int) (m:D):Mk (.num n) (.tup [.str [110,117,109],.int n,m])
 |nm (s:List Nat) (m:D):Mk (.nm s) (.tup [.str [110,97,109,101],.str s,m])
 |emp (m:D):Mk .emp (.tup [.str [101,109,112,116,121],m])
 |tag (s:List Nat) {e:Ex} {x:D} (m:D):Mk e x->Mk (.tag s e) (.tup [.str [116,97,103],.str s,x,m])
 |wth (s:List Nat) {a b:Ex} {x y:D} (m:D):Mk a x->Mk b y->Mk (.wth s a b) (.tup [.str [119,105,116,104],.str s,x,y,m])
 |fn (s:List Nat) {e:Ex} {x:D} (m:D):Mk e x->Mk (.fn s e) (.tup [.str [102,110],.str s,x,m])
 |doo {a b:Ex} {x y:D} (m:D):Mk a x->Mk b y->Mk (.doo a b) (.tup [.str [100,111],x,y,m])
 |put (s:List Nat) {a b:Ex} {x y:D} (m:D):Mk a x->Mk b y->Mk (.put s a b) (.tup [.str [112,117,116],.str s,x,y,m])
 |les (s:List Nat) {e:Ex} {x:D} (m:D):Mk e x->Mk (.les s e) (.tup [.str [108,101,115,115],.str s,x,m])
 |get (s:List Nat) {e:Ex} {x:D} (m:D):Mk e x->Mk (.get s e) (.tup [.str [103,101,116],.str s,x,m])
def PR:List Pt->List D->Prop
 |[],ys=>ys=[]
 |.pl d::l,ys=>∃t,ys=d::t/\PR l t
 |.ex e::l,ys=>∃y t,ys=y::t/\Mk e y/\PR l t
theorem zOP(h:PR (pts e) ys):Mk e (.tup (ys++[m])):=by
 cases e with
 |num n=>
  obtain⟨t,rfl,u,rfl,h⟩:=h;cases (show u=[] from h);exact .num n m
 |nm s=>
  obtain⟨t,rfl,u,rfl,h⟩:=h;cases (show u=[] from h);exact .nm s m
 |emp=>
  obtain⟨t,rfl,h⟩:=h;cases (show t=[] from h);exact .emp m
 |tag s e=>
  obtain⟨t,rfl,u,rfl,y,v,rfl,hy,h⟩:=h;cases (show v=[] from h);exact .tag s m hy
 |wth s a b=>
  obtain⟨t,rfl,u,rfl,x,w,rfl,hx,y,v,rfl,hy,h⟩:=h;cases (show v=[] from h);exact .wth s m hx hy
 |fn s e=>
  obtain⟨t,rfl,u,rfl,y,v,rfl,hy,h⟩:=h;cases (show v=[] from h);exact .fn s m hy
 |doo a b=>
  obtain⟨t,rfl,x,u,rfl,hx,y,v,rfl,hy,h⟩:=h;cases (show v=[] from h);exact .doo m hx hy
 |put s a b=>
  obtain⟨t,rfl,u,rfl,x,w,rfl,hx,y,v,rfl,hy,h⟩:=h;cases (show v=[] from h);exact .put s m hx hy
 |les s e=>
  obtain⟨t,rfl,u,rfl,y,v,rfl,hy,h⟩:=h;cases (show v=[] from h);exact .les s m hy
 |get s e=>
  obtain⟨t,rfl,u,rfl,y,v,rfl,hy,h⟩:=h;cases (show v=[] from h);exact .get s m hy
theorem zBA:∀{l:List Pt} {ys:List D},PR l ys->ys.length=l.length
 |[],ys,h=>by cases (show ys=[] from h);rfl
 |.pl d::l,ys,h=>by obtain⟨t,rfl,h⟩:=h;simp[zBA h]
 |.ex e::l,ys,h=>by obtain⟨y,t,rfl,_,h⟩:=h;simp[zBA h]
noncomputable def zDU(m:MF):MS:=(sIf (kS (mUn (jW "tuple") (zF 5))) (sX (gV 4 (kH 3 m (jS (zF 5) (jS (zF 1) (vS (zDH 3))))))) (sX (QL 4 (zF 5))))
theorem zJC:∀(l:List Pt) (B:List Int) (P:List D) (s:Sl),fre s->PtOk l->(l.filterMap ptE).length<=B.length->P.length+l.length<=1000->(∀e,Pt.ex e∈l->∀i:Int,∃y,Mk e y/\∃as,m [.v (toD e),.v N,.v (.int i)]=some (.v y,as)) ->
  ∃(ys:List D) (B':List Int) (s':Sl),PR l ys/\rM (yV 5) (zDU m) (l.map ptD) [E,.v N,I,.o (B.map D.int),.o P,s]=some (.nx [E,.v N,I,.o (B'.map D.int),.o (P++ys),s'])
 |[],B,P,s,hs,h1,h2,h3,h4=>⟨[],B,s,rfl,by rw[gn];rfl⟩
 |.pl d::l,B,P,s,hs,h1,h2,h3,h4=>by
  obtain⟨ys,B',s',q1,q2⟩:=zJC (E:=E) (I:=I) l B (P++[d]) (.v d) trivial h1.tail h2 (by simp at h3 ⊢;lia) (λe he=>h4 e (by simp[he]));refine⟨d::ys,B',s',⟨ys,rfl,q1⟩,?_⟩;show rM _ _ (d::l.map ptD) _=_;rw[cG (r1:=[E,.v N,I,.o (B.map D.int),.o P,.v d]) (yQ (i:=5) (x:=s) rfl hs) (r':=[E,.v N,I,.o (B.map D.int),.o (P++[d]),.v d]) ?_,q2,cw];rfl;have e2:kS (mUn (jW "tuple") (zF 5)) [E,.v N,I,.o (B.map D.int),.o P,.v d]=some false:=by
   unfold kS;rw[bP (f:=zF 5) (r:=[E,.v N,I,.o (B.map D.int),.o P,.v d]) (x:=d) rfl (h1 d (by simp))];rfl
  unfold zDU;rw[zDD e2];exact c8 (rW (i:=4) (S:=P) rfl rfl (bb (show P.length<2000 by simp at h3;lia) (by decide)))
 |.ex e::l,B,P,s,hs,h1,h2,h3,h4=>by
  match B,h2 with
  |[],h2=>simp[ptE] at h2
  |b::B,h2=>
   obtain⟨y,hy,as,ey⟩:=h4 e (by simp) b;obtain⟨ys,B',s',q1,q2⟩:=zJC (E:=E) (I:=I) l B (P++[y]) (.v (toD e)) trivial h1.tail (by simpa [ptE] using h2) (by simp at h3 ⊢;lia) (λe he=>h4 e (by simp[he]));refine⟨y::ys,B',s',⟨y,ys,rfl,hy,q1⟩,?_⟩;show rM _ _ (toD e::l.map ptD) _=_
   let R:En:=[E,.v N,I,.o ((b::B).map D.int),.o P,.v (toD e)]
   rw[cG (r1:=R) (yQ (i:=5) (x:=s) rfl hs) (r':=[E,.v N,I,.o (B.map D.int),.o (P++[y]),.v (toD e)]) ?_,q2,cw];rfl;have e2:kS (mUn (jW "tuple") (zF 5)) R=some true:=by
    unfold kS;rw[bP (f:=zF 5) (r:=R) (x:=toD e) rfl (JO e)];rfl
   unfold zDU;rw[zE3 e2];have cx:kH 3 m (jS (zF 5) (jS (zF 1) (vS (zDH 3)))) R=some (y,[E,.v N,I,.o (B.map D.int),.o P,.v (toD e)]):=by
    have xa:jS (zF 5) (jS (zF 1) (vS (zDH 3))) R=some ([toD e,N,.int b],[E,.v N,I,.o (B.map D.int),.o P,.v (toD e)]):=rfl;have ey':m (([toD e,N,.int b]:List D).map Sl.v)=some (.v y,as):=ey;unfold kH;rw[xa,aa,if_pos (show([toD e,N,.int b]:List D).length=3 from rfl),ey'];rfl
   refine c8 (d:=.non) ?_;unfold gV;rw[cx,aa];show(some P).bind _=_;rw[aa];show(some P).bind _=_;rw[aa,if_pos (bb (show P.length<2000 by simp at h3;lia) (by decide))];rfl
theorem zO9(h:Pt.ex a∈pts e):dp a<dp e/\nd a<nd e:=by
 cases e<;>simp[pts] at h
 ·subst h;exact⟨by show dp a<dp a+1;lia,by show nd a<1+nd a;lia⟩
 ·rcases h with rfl|rfl
  ·exact⟨by show dp a<max (dp a) _+1;lia,by show nd a<1+nd a+_;lia⟩
  ·exact⟨by show dp a<max _ (dp a)+1;lia,by show nd a<1+_+nd a;lia⟩
 ·subst h;exact⟨by show dp a<dp a+1;lia,by show nd a<1+nd a;lia⟩
 ·rcases h with rfl|rfl
  ·exact⟨by show dp a<max (dp a) _+1;lia,by show nd a<1+nd a+_;lia⟩
  ·exact⟨by show dp a<max _ (dp a)+1;lia,by show nd a<1+_+nd a;lia⟩
 ·rcases h with rfl|rfl
  ·exact⟨by show dp a<max (dp a) _+1;lia,by show nd a<1+nd a+_;lia⟩
  ·exact⟨by show dp a<max _ (dp a)+1;lia,by show nd a<1+_+nd a;lia⟩
 ·subst h;exact⟨by show dp a<dp a+1;lia,by show nd a<1+nd a;lia⟩
 ·subst h;exact⟨by show dp a<dp a+1;lia,by show nd a<1+nd a;lia⟩
theorem nL(N:D):∀(k:Nat) (e:Ex) (i:Int),dp e<k->nd e<=5000->∃d,Mk e d/\∃as,qG k [.v (toD e),.v N,.v (.int i)]=some (.v d,as)
 |0,e,i,h,_=>by lia
 |k+1,e,i,h,hn=>by
  obtain⟨F,f1,fs,f2⟩:=rA e i hn;have pl:=tX e;obtain⟨ys,B',s',q1,q2⟩:=zJC (m:=qG k) (E:=.v (toD e)) (I:=.v (.int i)) (N:=N) (pts e) F [] .un trivial (zFC e) (mw f1.symm) (by simp;lia) (λa ha j=>by
   have:=zO9 ha
   exact nL N k a j (by lia) (by lia))
  have yl:=zBA q1
  let M:D:=.tup [N,.int i]
  refine⟨.tup (ys++[M]),zOP q1,kF (r':=[.v (toD e),.v N,.v (.int i),.o (B'.map D.int),.o ys,s']) ?_⟩;show uW (qG k) [.v (toD e),.v N,.v (.int i),.un,.un,.un]=_;unfold uW;have f2':xI (([toD e,.int i]:List D).map Sl.v)=some (.f (F.map D.int),fs):=f2;have s1:zDC 3 (cC 2 xI (zA (zF 0) (zA (zF 2) zT))) [.v (toD e),.v N,.v (.int i),.un,.un,.un]=some (.nx [.v (toD e),.v N,.v (.int i),.o (F.map D.int),.un,.un]):=by
   unfold zDC cC;rw[zR (x:=toD e) (l:=[.int i]) rfl (zR rfl yT),aa,if_pos (show([toD e,.int i]:List D).length=2 from rfl),f2'];rfl
  rw[yP s1,yP (r':=[.v (toD e),.v N,.v (.int i),.o (F.map D.int),.o [],.un]) (by rfl)];have s2:o9 (yV 5) (mIt (zF 0)) (zDU (qG k)) [.v (toD e),.v N,.v (.int i),.o (F.map D.int),.o [],.un]=some (.nx [.v (toD e),.v N,.v (.int i),.o (B'.map D.int),.o ys,s']):=by
   unfold o9;have it:mIt (zF 0) [.v (toD e),.v N,.v (.int i),.o (F.map D.int),.o [],.un]=some ((pts e).map ptD):=by
    unfold mIt;rw[show zF 0 [.v (toD e),.v N,.v (.int i),.o (F.map D.int),.o [],.un]=some (toD e) from rfl,tF];rfl
   rw[it];exact q2
  unfold zDU at s2;rw[yP s2];refine x5 ?_;unfold gM zPW;have o4:o7 4 [.v (toD e),.v N,.v (.int i),.o (B'.map D.int),.o ys,s']=some ys:=rfl;have l1:wD (zA (yY (zA (zF 1) (zA (zF 2) zT))) zT) [.v (toD e),.v N,.v (.int i),.o (B'.map D.int),.o ys,s']=some [M]:=rfl;rw[o4,aa,l1,aa,if_pos (bq (show ys.length+([M]:List D).length<=100 by show ys.length+1<=100;lia) (by decide))];rfl
noncomputable abbrev tsk(d e:D)(b:Bool):D:=.tup [d,e,.bl b]
noncomputable def ky(s:List Nat):Key:=.inr ⟨s.toArray⟩
theorem nV(h:ky s=ky t):s=t:=by
 have h1:(⟨s.toArray⟩:Str)=⟨t.toArray⟩:=Sum.inr.inj h;have h2:=congrArg (λx:Str=>x.cps.toList) h1;simpa using h2
theorem tT{st:Mst}(h:mP ⟨mo,s,w++[t],c,.non,df⟩=some st):bK (n+1) ⟨mo,s,w++[t],c,.non,df⟩=bK n st:=by
 show(if (w++[t]).isEmpty=false/\nonB .non=true then (mP _).bind (bK n) else _)=_;rw[if_pos ⟨by simp,rfl⟩,h];rfl
theorem zJ0:mP ⟨mo,s,w++[tsk e env false],c,.non,df⟩=(yI ⟨mo,s,w,c,.non,df⟩ [e,env]).map (·.2):=by
 unfold mP;rw[show(w++[tsk e env false]).getLast?=some (tsk e env false) by simp];show(yI ⟨mo,s,(w++[tsk e env false]).dropLast,c,.non,df⟩ _).map _=_;rw[wj]
theorem zJZ:mP ⟨mo,s,w++[tsk e env true],c,.non,df⟩=(yO ⟨mo,s,w,c,.non,df⟩ [e]).bind λp=>(qE p.2 [e,env,p.1]).map (·.2):=by
 unfold mP;rw[show(w++[tsk e env true]).getLast?=some (tsk e env true) by simp];show(yO ⟨mo,s,(w++[tsk e env true]).dropLast,c,.non,df⟩ _).bind _=_;rw[wj]
theorem xW(h:n<=100000):n<af:=Nat.lt_of_le_of_lt h (by decide)
theorem beg(h:w.length<=100000):xT ⟨mo,s,w,c,.non,df⟩ [e,env]=some (.non,⟨mo,s,w++[tsk e env false],c,.non,df⟩):=if_pos (xW h)
theorem zLQ{s:Int}{w c:List D}{W:List Nat}{r:List D}{n:Nat}{l:List Int}{ps:List D}(hl:(bE AH W).getD []=l)(hp:l.reverse.map (λi=>ixD (.tup (.str W::r)) (.int i))=ps.map some)(hw:w.length+l.length<=90000):bK (n+1) ⟨mo,s,w++[tsk (.tup (.str W::r)) env false],c,.non,df⟩=bK n ⟨mo,s,w++tsk (.tup (.str W::r)) env true::ps.map (tsk · env false),c,.non,df⟩:=by
 refine tT ?_;rw[zJ0];unfold yI;show Option.map _ (if w.length<af then _ else none)=_;rw[if_pos (show w.length<af from xW (by lia))];show((some ((bE AH W).getD [])).bind _).map _=_;rw[hl,aa];have hll:l.reverse.length=l.length:=fw;have push:∀(is:List Int) (ps w:List D),is.map (λi=>ixD (.tup (.str W::r)) (.int i))=ps.map some->w.length+is.length<=95000->tW (.tup (.str W::r)) env is ⟨mo,s,w,c,.non,df⟩=some ⟨mo,s,w++ps.map (tsk · env false),c,.non,df⟩:=by
  intro is
  induction is with
  |nil=>intro ps w h _;cases ps with
   |nil=>simp[tW]
   |cons=>cases h
  |cons i is ih=>
   intro ps w h hw;cases ps with
   |nil=>cases h
   |cons p ps=>
    rw[aq,aq] at h;obtain⟨h1,h2⟩:=re h;rw[au] at hw;unfold tW;rw[h1,aa,beg (by lia),aa,ih ps _ h2 (by simp;lia)];simp
 rw[show zFB ⟨mo,s,w,c,.non,df⟩ (.tup [.tup (.str W::r),env,.bl true])=⟨mo,s,w++[tsk (.tup (.str W::r)) env true],c,.non,df⟩ from rfl,push _ ps _ hp (by simp;lia)];simp
theorem zJJ{st:Mst}(hl:(bE AH W).getD []=l)(hq:q.length=l.length)(h4:l.length<=4)(hm:ways W=some mm)(h:mm ⟨mo,s,w,c,.non,df⟩ [.tup (.str W::r),env,.lst q]=some (x,st)):bK (n+1) ⟨mo,s,w++[tsk (.tup (.str W::r)) env true],c++q,.non,df⟩=bK n st:=by
 refine tT ?_;rw[zJZ];unfold yO;show((some ((bE AH W).getD [])).bind _).bind _=_;rw[hl,aa,if_pos ⟨by show l.length<=(c++q).length;rw[bv];lia,xW (by lia)⟩,aa];have e1:(c++q).length-l.length=c.length:=by rw[bv];lia
 show(qE ⟨mo,s,w,(c++q).take ((c++q).length-l.length),.non,df⟩ [_,_,.lst ((c++q).drop ((c++q).length-l.length))]).map _=_;rw[e1,List.take_left,List.drop_left];unfold qE;show(((ways W).bind λmm=>(mm _ _).map _)).map _=_;rw[hm,aa,h];rfl
theorem tel(h:c.length<=100000):xH ⟨mo,s,w,c,.non,df⟩ [v]=some (.non,⟨mo,s,w,c++[v],.non,df⟩):=if_pos (xW h)
theorem mX:bK (n+1) ⟨mo,s,w,c,bS,df⟩=some ⟨mo,s,w,c,bS,df⟩:=by
 show(if _/\nonB bS=true then _ else _)=_;rw[if_neg (λz=>by have:=z.2;revert this;decide)]
structure Ev(df env d:D)(c:Nat)(v:D)(t h:Nat):Prop where
 run:∀(mo s0:Int) (w cm:List D) (n:Nat),w.length+h<=80000->cm.length+h<=80000->s0+c<=mo->bK (t+n) ⟨mo,s0,w++[tsk d env false],cm,.non,df⟩=bK n ⟨mo,s0+c,w,cm++[v],.non,df⟩
 tire:∀(mo s0:Int) (w cm:List D) (n:Nat),w.length+h<=80000->cm.length+h<=80000->s0<=mo->mo<s0+c->∃w' c',bK (t+1+n) ⟨mo,s0,w++[tsk d env false],cm,.non,df⟩=some ⟨mo,mo,w',c',bS,df⟩
theorem Ev.mono(r:Ev df env d c v t h)(hh:h<=h'):Ev df env d c v t h':=⟨λmo s0 w cm n h1 h2=>r.run mo s0 w cm n (by lia) (by lia),λmo s0 w cm n h1 h2=>r.tire mo s0 w cm n (by lia) (by lia)⟩
theorem oB{W:List Nat}{r:List D}{v:D}{mm:Mst->List D->Option (D×Mst)}(hl:(bE AH W).getD []=[])(hm:ways W=some mm)(h:∀(st:Mst),mm st [.tup (.str W::r),env,.lst []]=xH st [v]):Ev df env (.tup (.str W::r)) 0 v 2 2:=by
 refine⟨λmo s0 w cm n h1 h2 _=>?_,λmo s0 w cm n h1 h2 h3 h4=>by simp at h4;lia⟩;rw[show 2+n=(n+1)+1 by lia,zLQ (l:=[]) (ps:=[]) hl rfl (by simp;lia)]
 have:=zJJ (mo:=mo) (df:=df) (env:=env) (s:=s0) (w:=w) (c:=cm) (q:=[]) (W:=W) (r:=r) (n:=n) (l:=[]) (x:=.non) hl rfl (by decide) hm ((h _).trans (tel (by lia)))
 rw[gn] at this;rw[show s0+((0:Nat):Int)=s0 by simp];exact this
theorem zCK(i:Int)(m:D):Ev df env (.tup [.str [110,117,109],.int i,m]) 0 (.int i) 2 2:=oB rfl rfl λ_=>rfl
theorem zCM(m:D):Ev df env (.tup [.str [101,109,112,116,121],m]) 0 (.tup [.str [114,101,99],.dct [] []]) 2 2:=oB rfl rfl λ_=>rfl
theorem cI(m:D)(h:yW ks l (ky s)=some v):Ev df (.dct ks l) (.tup [.str [110,97,109,101],.str s,m]) 0 v 2 2:=oB (mm:=y8) rfl rfl λst=>by
 unfold y8;show(match yW ks l (ky s) with|some v=>xH st [v]|none=>_)=_;rw[h]
theorem zLV{ks kd:List Key}{l ld:List D}{s:List Nat}{d v:D}{c t h:Nat}(m:D)(h0:yW ks l (ky s)=none)(h1:yW kd ld (ky s)=some d)(r:Ev (.dct kd ld) (.dct [] []) d c v t h):Ev (.dct kd ld) (.dct ks l) (.tup [.str [110,97,109,101],.str s,m]) (c+1) v (t+2) (h+3):=by
 have st:∀(mo s0:Int) (w cm:List D) (n:Nat) (st:Mst),w.length+3<=80000->y8 ⟨mo,s0,w,cm,.non,.dct kd ld⟩ [.tup [.str [110,97,109,101],.str s,m],.dct ks l,.lst []]=some (.non,st)->bK ((n+1)+1) ⟨mo,s0,w++[tsk (.tup [.str [110,97,109,101],.str s,m]) (.dct ks l) false],cm,.non,.dct kd ld⟩=bK n st:=λmo s0 w cm n st hw q=>by
  rw[zLQ (l:=[]) (ps:=[]) rfl rfl (by simp;lia)]
  have:=zJJ (mo:=mo) (df:=.dct kd ld) (env:=.dct ks l) (s:=s0) (w:=w) (c:=cm) (q:=[]) (W:=[110,97,109,101]) (r:=[.str s,m]) (n:=n) (l:=[]) (x:=.non) (mm:=y8) rfl rfl (by decide) rfl q
  rw[gn] at this;exact this
 have fe:∀(mo s0:Int) (w cm:List D),y8 ⟨mo,s0,w,cm,.non,.dct kd ld⟩ [.tup [.str [110,97,109,101],.str s,m],.dct ks l,.lst []]=(qY ⟨mo,s0,w,cm,.non,.dct kd ld⟩ []).bind λp=>match p.1,p.2.defs with
   |.bl true,.dct ks l=>(yW ks l (ky s)).bind λd=>xT p.2 [d,.dct [] []]
   |.bl false,_=>some (.non,p.2)
   |_,_=>none:=λmo s0 w cm=>by
  unfold y8;show(match yW ks l (ky s) with|some v=>xH _ [v]|none=>_)=_;rw[h0];rfl
 have go:∀(mo s0:Int) (w cm:List D),w.length<=80000->s0<mo->y8 ⟨mo,s0,w,cm,.non,.dct kd ld⟩ [.tup [.str [110,97,109,101],.str s,m],.dct ks l,.lst []]=some (.non,⟨mo,s0+1,w++[tsk d (.dct [] []) false],cm,.non,.dct kd ld⟩):=λmo s0 w cm hw hs=>by
  rw[fe];unfold qY;show Option.bind (if mo<=s0 then _ else _) _=_;rw[if_neg (show ¬mo<=s0 by lia),aa];show(yW kd ld (ky s)).bind _=_;rw[h1,aa];exact beg (by lia)
 refine⟨λmo s0 w cm n q1 q2 q3=>?_,λmo s0 w cm n q1 q2 q3 q4=>?_⟩
 ·rw[show t+2+n=((t+n)+1)+1 by lia,st mo s0 w cm (t+n) _ (by lia) (go mo s0 w cm (by lia) (by lia)),r.run mo (s0+1) w cm n (by lia) (by lia) (by lia)];rw[show s0+1+(c:Int)=s0+((c+1:Nat):Int) by lia]
 ·by_cases z:s0<mo
  ·obtain⟨w',c',e⟩:=r.tire mo (s0+1) w cm n (by lia) (by lia) (by lia) (by lia);refine⟨w',c',?_⟩;rw[show t+2+1+n=((t+1+n)+1)+1 by lia,st mo s0 w cm (t+1+n) _ (by lia) (go mo s0 w cm (by lia) z)];exact e
  ·obtain rfl:mo=s0:=by lia
   refine⟨w,cm,?_⟩;rw[show t+2+1+n=((t+n+1)+1)+1 by lia,st mo mo w cm (t+n+1) ⟨mo,mo,w,cm,bS,.dct kd ld⟩ (by lia) (by
    rw[fe];unfold qY;show Option.bind (if mo<=mo then _ else _) _=_;rw[if_pos (wk _)];rfl)]
   exact mX
theorem zBP{W:List Nat}{r:List D}{x:D}{i:Int}{c:Nat}{v:D}{t h:Nat}(hl:(bE AH W).getD []=[i])(hx:ixD (.tup (.str W::r)) (.int i)=some x)(rx:Ev df env x c v t h):(∀(mo s0:Int) (w cm:List D) (n:Nat),w.length+(h+3)<=80000->cm.length+(h+3)<=80000->s0+c<=mo->bK (1+t+n) ⟨mo,s0,w++[tsk (.tup (.str W::r)) env false],cm,.non,df⟩=bK n ⟨mo,s0+c,w++[tsk (.tup (.str W::r)) env true],cm++[v],.non,df⟩) /\
  ∀(mo s0:Int) (w cm:List D) (n:Nat),w.length+(h+3)<=80000->cm.length+(h+3)<=80000->s0<=mo->mo<s0+c->∃w' c',bK (1+t+1+n) ⟨mo,s0,w++[tsk (.tup (.str W::r)) env false],cm,.non,df⟩=some ⟨mo,mo,w',c',bS,df⟩:=by
 have hp:([i]:List Int).reverse.map (λi=>ixD (.tup (.str W::r)) (.int i))=[x].map some:=by
  show[ixD (.tup (.str W::r)) (.int i)]=[some x];rw[hx]
 refine⟨λmo s0 w cm n h1 h2 h3=>?_,λmo s0 w cm n h1 h2 h3 h4=>?_⟩
 ·rw[show 1+t+n=(t+n)+1 by lia,zLQ (l:=[i]) (ps:=[x]) hl hp (by simp;lia)];have e1:=rx.run mo s0 (w++[tsk (.tup (.str W::r)) env true]) cm n (by simp;lia) (by lia) (by lia);rw[cw] at e1;exact e1
 ·obtain⟨w',c',e1⟩:=rx.tire mo s0 (w++[tsk (.tup (.str W::r)) env true]) cm n (by simp;lia) (by lia) h3 h4;refine⟨w',c',?_⟩;rw[show 1+t+1+n=(t+1+n)+1 by lia,zLQ (l:=[i]) (ps:=[x]) hl hp (by simp;lia)];rw[cw] at e1;exact e1
theorem zCJ(hl:(bE AH W).getD []=[i])(hx:ixD (.tup (.str W::r)) (.int i)=some x)(hm:ways W=some mm)(hv:∀st:Mst,mm st [.tup (.str W::r),env,.lst [v]]=xH st [v'])(rx:Ev df env x c v t h):Ev df env (.tup (.str W::r)) c v' (t+2) (h+3):=by
 obtain⟨p1,p2⟩:=zBP hl hx rx;refine⟨λmo s0 w cm n h1 h2 h3=>?_,λmo s0 w cm n h1 h2 h3 h4=>?_⟩
 ·rw[show t+2+n=1+t+(n+1) by lia,p1 mo s0 w cm (n+1) h1 h2 h3];rw[zJJ (q:=[v]) (l:=[i]) (x:=.non) hl rfl (by show 1<=4;decide) hm (st:=⟨mo,s0+c,w,cm++[v'],.non,df⟩) ((hv _).trans (tel (by lia)))]
 ·obtain⟨w',c',e⟩:=p2 mo s0 w cm (n+1) h1 h2 h3 h4;refine⟨w',c',?_⟩;rw[show t+2+1+n=1+t+1+(n+1) by lia];exact e
theorem zLS(r:Ev df env x c v t h):Ev df env (.tup [.str [116,97,103],.str s,x,m]) c (.tup [.str [111,110,101],.str s,v]) (t+2) (h+3):=zCJ (i:=2) (mm:=qU) rfl rfl rfl (λ_=>rfl) r
theorem zOZ(s:List Nat)(x m:D):Ev df env (.tup [.str [102,110],.str s,x,m]) 0 (.tup [.str [102,110],.str s,x,env]) 2 2:=oB rfl rfl λ_=>rfl
theorem bR{W:List Nat}{r:List D}{i j:Int}{x y:D}{c1 c2:Nat}{v1 v2:D}{t1 t2 h:Nat}(hl:(bE AH W).getD []=[i,j])(hx:ixD (.tup (.str W::r)) (.int i)=some x)(hy:ixD (.tup (.str W::r)) (.int j)=some y)(rx:Ev df env x c1 v1 t1 h)(ry:Ev df env y c2 v2 t2 h):(∀(mo s0:Int) (w cm:List D) (n:Nat),w.length+(h+3)<=80000->cm.length+(h+3)<=80000->s0+c1+c2<=mo->bK (1+t1+t2+n) ⟨mo,s0,w++[tsk (.tup (.str W::r)) env false],cm,.non,df⟩=bK n ⟨mo,s0+c1+c2,w++[tsk (.tup (.str W::r)) env true],cm++[v1,v2],.non,df⟩) /\
  ∀(mo s0:Int) (w cm:List D) (n:Nat),w.length+(h+3)<=80000->cm.length+(h+3)<=80000->s0<=mo->mo<s0+c1+c2->∃w' c',bK (1+t1+t2+1+n) ⟨mo,s0,w++[tsk (.tup (.str W::r)) env false],cm,.non,df⟩=some ⟨mo,mo,w',c',bS,df⟩:=by
 have hp:([i,j]:List Int).reverse.map (λi=>ixD (.tup (.str W::r)) (.int i))=[y,x].map some:=by
  show[ixD (.tup (.str W::r)) (.int j),ixD (.tup (.str W::r)) (.int i)]=[some y,some x];rw[hx,hy]
 refine⟨λmo s0 w cm n h1 h2 h3=>?_,λmo s0 w cm n h1 h2 h3 h4=>?_⟩
 ·rw[show 1+t1+t2+n=(t1+(t2+n))+1 by lia,zLQ (l:=[i,j]) (ps:=[y,x]) hl hp (by simp;lia)];have e1:=rx.run mo s0 (w++[tsk (.tup (.str W::r)) env true,tsk y env false]) cm (t2+n) (by simp;lia) (by lia) (by lia);rw[cw] at e1;refine e1.trans ?_;have e2:=ry.run mo (s0+c1) (w++[tsk (.tup (.str W::r)) env true]) (cm++[v1]) n (by simp;lia) (by simp;lia) (by lia);rw[cw,cw] at e2;exact e2
 ·by_cases z:mo<s0+c1
  ·obtain⟨w',c',e1⟩:=rx.tire mo s0 (w++[tsk (.tup (.str W::r)) env true,tsk y env false]) cm (t2+n) (by simp;lia) (by lia) h3 z;refine⟨w',c',?_⟩;rw[show 1+t1+t2+1+n=(t1+1+(t2+n))+1 by lia,zLQ (l:=[i,j]) (ps:=[y,x]) hl hp (by simp;lia)];rw[cw] at e1;exact e1
  ·obtain⟨w',c',e2⟩:=ry.tire mo (s0+c1) (w++[tsk (.tup (.str W::r)) env true]) (cm++[v1]) n (by simp;lia) (by simp;lia) (by lia) (by lia);refine⟨w',c',?_⟩;rw[show 1+t1+t2+1+n=(t1+(t2+1+n))+1 by lia,zLQ (l:=[i,j]) (ps:=[y,x]) hl hp (by simp;lia)];have e1:=rx.run mo s0 (w++[tsk (.tup (.str W::r)) env true,tsk y env false]) cm (t2+1+n) (by simp;lia) (by lia) (by lia);rw[cw] at e1;refine e1.trans ?_;rw[cw] at e2;exact e2
theorem zO0{t1 t2 t3:Nat}(hk:ks.length<=100000)(rf:Ev df env f c1 (.tup [.str [102,110],.str s,body,.dct ks l]) t1 h)(ra:Ev df env a c2 va t2 h)(rb:Ev df (.dct (jQ ks l (ky s) va).1 (jQ ks l (ky s) va).2) body c3 v t3 h):Ev df env (.tup [.str [100,111],f,a,m]) (c1+c2+1+c3) v (t1+t2+t3+2) (h+3):=by
 obtain⟨p1,p2⟩:=bR (W:=[100,111]) (r:=[f,a,m]) (i:=1) (j:=2) rfl rfl rfl rf ra;have go:∀(mo s0:Int) (w cm:List D),w.length<=80000->s0<mo->qQ ⟨mo,s0,w,cm,.non,df⟩ [.tup [.str [100,111],f,a,m],env,.lst [.tup [.str [102,110],.str s,body,.dct ks l],va]]=some (.non,⟨mo,s0+1,w++[tsk body (.dct (jQ ks l (ky s) va).1 (jQ ks l (ky s) va).2) false],cm,.non,df⟩):=λmo s0 w cm hw hs=>by
  unfold qQ;show(if ([102,110]:List Nat)=[102,110]/\ks.length<af then _ else none)=_;rw[if_pos ⟨rfl,xW hk⟩];unfold qY;show Option.bind (if mo<=s0 then _ else _) _=_;rw[if_neg (show ¬mo<=s0 by lia),aa];exact beg (by lia)
 refine⟨λmo s0 w cm n h1 h2 h3=>?_,λmo s0 w cm n h1 h2 h3 h4=>?_⟩
 ·rw[show t1+t2+t3+2+n=1+t1+t2+((t3+n)+1) by lia,p1 mo s0 w cm ((t3+n)+1) h1 h2 (by lia)];rw[zJJ (q:=[.tup [.str [102,110],.str s,body,.dct ks l],va]) (l:=[1,2]) (x:=.non) rfl rfl (by show 2<=4;decide) rfl (go mo (s0+c1+c2) w cm (by lia) (by lia))];rw[rb.run mo (s0+c1+c2+1) w cm n (by lia) (by lia) (by lia),show s0+(c1:Int)+(c2:Int)+1+(c3:Int)=s0+((c1+c2+1+c3:Nat):Int) by lia]
 ·by_cases z:mo<s0+c1+c2
  ·obtain⟨w',c',e⟩:=p2 mo s0 w cm (t3+1+n) h1 h2 h3 (by lia);refine⟨w',c',?_⟩;rw[show t1+t2+t3+2+1+n=1+t1+t2+1+(t3+1+n) by lia];exact e
  ·by_cases z2:s0+c1+c2<mo
   ·obtain⟨w',c',e⟩:=rb.tire mo (s0+c1+c2+1) w cm n (by lia) (by lia) (by lia) (by lia);refine⟨w',c',?_⟩;rw[show t1+t2+t3+2+1+n=1+t1+t2+((t3+1+n)+1) by lia,p1 mo s0 w cm ((t3+1+n)+1) h1 h2 (by lia)];rw[zJJ (q:=[.tup [.str [102,110],.str s,body,.dct ks l],va]) (l:=[1,2]) (x:=.non) rfl rfl (by show 2<=4;decide) rfl (go mo (s0+c1+c2) w cm (by lia) z2)];exact e
   ·have em:s0+(c1:Int)+(c2:Int)=mo:=by lia
    refine⟨w,cm,?_⟩;rw[show t1+t2+t3+2+1+n=1+t1+t2+((t3+n+1)+1) by lia,p1 mo s0 w cm ((t3+n+1)+1) h1 h2 (by lia),em];rw[zJJ (q:=[.tup [.str [102,110],.str s,body,.dct ks l],va]) (l:=[1,2]) (x:=.non) rfl rfl (by show 2<=4;decide) (mm:=qQ) rfl (st:=⟨mo,mo,w,cm,bS,df⟩) (by
     unfold qQ;show(if ([102,110]:List Nat)=[102,110]/\ks.length<af then _ else none)=_;rw[if_pos ⟨rfl,xW hk⟩];unfold qY;show Option.bind (if mo<=mo then _ else _) _=_;rw[if_pos (wk _)];rfl)]
    exact mX
theorem JR{t1 t2:Nat}(hk:ks.length<=100000)(hn:yW ks l (ky f)=none)(ra:Ev df env a c1 va t1 h)(rb:Ev df env b c2 (.tup [.str [114,101,99],.dct ks l]) t2 h):Ev df env (.tup [.str [119,105,116,104],.str f,a,b,m]) (c1+c2) (.tup [.str [114,101,99],.dct (jQ ks l (ky f) va).1 (jQ ks l (ky f) va).2]) (t1+t2+2) (h+3):=by
 obtain⟨p1,p2⟩:=bR (W:=[119,105,116,104]) (r:=[.str f,a,b,m]) (i:=2) (j:=3) rfl rfl rfl ra rb;refine⟨λmo s0 w cm n h1 h2 h3=>?_,λmo s0 w cm n h1 h2 h3 h4=>?_⟩
 ·rw[show t1+t2+2+n=1+t1+t2+(n+1) by lia,p1 mo s0 w cm (n+1) h1 h2 (by lia)];rw[zJJ (q:=[va,.tup [.str [114,101,99],.dct ks l]]) (l:=[2,3]) (x:=.non) rfl rfl (by show 2<=4;decide) rfl (st:=⟨mo,s0+c1+c2,w,cm++[.tup [.str [114,101,99],.dct (jQ ks l (ky f) va).1 (jQ ks l (ky f) va).2]],.non,df⟩) (by
   unfold wT;dsimp only;rw[if_pos ⟨rfl,hn,xW hk⟩];exact tel (by lia))]
  rw[show s0+(c1:Int)+(c2:Int)=s0+((c1+c2:Nat):Int) by lia]
 ·obtain⟨w',c',e⟩:=p2 mo s0 w cm (n+1) h1 h2 h3 (by lia);refine⟨w',c',?_⟩;rw[show t1+t2+2+1+n=1+t1+t2+1+(n+1) by lia];exact e
theorem zLT{t1 t2:Nat}(hk:ks.length<=100000)(hn:(yW ks l (ky f)).isSome=true)(ra:Ev df env a c1 va t1 h)(rb:Ev df env b c2 (.tup [.str [114,101,99],.dct ks l]) t2 h):Ev df env (.tup [.str [112,117,116],.str f,a,b,m]) (c1+c2) (.tup [.str [114,101,99],.dct (jQ ks l (ky f) va).1 (jQ ks l (ky f) va).2]) (t1+t2+2) (h+3):=by
 obtain⟨p1,p2⟩:=bR (W:=[112,117,116]) (r:=[.str f,a,b,m]) (i:=2) (j:=3) rfl rfl rfl ra rb;refine⟨λmo s0 w cm n h1 h2 h3=>?_,λmo s0 w cm n h1 h2 h3 h4=>?_⟩
 ·rw[show t1+t2+2+n=1+t1+t2+(n+1) by lia,p1 mo s0 w cm (n+1) h1 h2 (by lia)];rw[zJJ (q:=[va,.tup [.str [114,101,99],.dct ks l]]) (l:=[2,3]) (x:=.non) rfl rfl (by show 2<=4;decide) rfl (st:=⟨mo,s0+c1+c2,w,cm++[.tup [.str [114,101,99],.dct (jQ ks l (ky f) va).1 (jQ ks l (ky f) va).2]],.non,df⟩) (by
   unfold qV;dsimp only;rw[if_pos ⟨rfl,hn,xW hk⟩];exact tel (by lia))]
  rw[show s0+(c1:Int)+(c2:Int)=s0+((c1+c2:Nat):Int) by lia]
 ·obtain⟨w',c',e⟩:=p2 mo s0 w cm (n+1) h1 h2 h3 (by lia);refine⟨w',c',?_⟩;rw[show t1+t2+2+1+n=1+t1+t2+1+(n+1) by lia];exact e
theorem zHJ(hn:(yW ks l (ky f)).isSome=true)(rb:Ev df env b c (.tup [.str [114,101,99],.dct ks l]) t h):Ev df env (.tup [.str [108,101,115,115],.str f,b,m]) c (.tup [.str [114,101,99],.dct (qF ks l (ky f)).1 (qF ks l (ky f)).2]) (t+2) (h+3):=zCJ (i:=2) (mm:=wF) rfl rfl rfl (λst=>by
 unfold wF;dsimp only;rw[if_pos ⟨rfl,hn⟩];rfl) rb
theorem zLU(hn:yW ks l (ky f)=some v)(rb:Ev df env b c (.tup [.str [114,101,99],.dct ks l]) t h):Ev df env (.tup [.str [103,101,116],.str f,b,m]) c v (t+2) (h+3):=zCJ (i:=2) (mm:=qD) rfl rfl rfl (λst=>by
 unfold qD;dsimp only;rw[if_pos rfl];show(yW ks l (ky f)).bind _=_;rw[hn];rfl) rb
theorem tL:∀ss:List (List Nat),tM (ss.map ky)=some ss
 |[]=>rfl
 |s::ss=>by
  show(tM (ss.map ky)).map _=_;rw[tL ss];simp
theorem mS(l:List (List Nat)):(kJ l).Perm l:=by
 unfold kJ;split
 ·rename_i h;exact h.choose_spec.1
 ·exact tw _
noncomputable abbrev Fs(α:Type):=List (List Nat×α)
noncomputable def ksF(fs:Fs α):List Key:=fs.map λp=>ky p.1
noncomputable def vsF(g:α->D)(fs:Fs α):List D:=fs.map λp=>g p.2
noncomputable def nsF(fs:Fs α):List (List Nat):=fs.map (·.1)
noncomputable def lkF:Fs α->List Nat->Option α
 |[],_=>none
 |p::fs,s=>if p.1=s then some p.2 else lkF fs s
noncomputable def pnF:Fs α->List Nat->α->Fs α
 |[],s,v=>[(s,v)]
 |p::fs,s,v=>if p.1=s then (s,v)::fs else p::pnF fs s v
noncomputable def drF:Fs α->List Nat->Fs α
 |[],_=>[]
 |p::fs,s=>if p.1=s then drF fs s else p::drF fs s
theorem JJ(fs:Fs α):ksF fs=(nsF fs).map ky:=by unfold ksF nsF;rw[jf];rfl
theorem uC(g:α->D)(s:List Nat):∀fs:Fs α,yW (ksF fs) (vsF g fs) (ky s)=(lkF fs s).map g
 |[]=>rfl
 |p::fs=>by
  have ih:=uC g s fs;show(if ky p.1=ky s then some (g p.2) else yW (ksF fs) (vsF g fs) (ky s))=_;unfold lkF;by_cases h:p.1=s
  ·rw[if_pos h,if_pos (by rw[h])];rfl
  ·rw[if_neg h,if_neg (λz=>h (nV z)),ih]
theorem lk_none:∀{fs:Fs α},lkF fs s=none↔s∉nsF fs
 |[]=>by simp[lkF,nsF]
 |p::fs=>by
  have ih:=lk_none (s:=s) (fs:=fs);unfold lkF;by_cases h:p.1=s
  ·rw[if_pos h];simp[nsF,h]
  ·rw[if_neg h,ih];have h':¬s=p.1:=λz=>h z.symm
   simp[nsF,h']
theorem jV(h:s∈nsF fs):∃v,lkF fs s=some v:=by
 cases e:lkF fs s with
 |none=>exact absurd h (lk_none.mp e)
 |some v=>exact⟨v,rfl⟩
theorem zPC(s:List Nat)(fs:Fs α):((ksF fs).any λj=>decide (j=ky s))=decide (s∈nsF fs):=by
 rw[mi,List.any_eq_true,decide_eq_true_iff];constructor
 ·rintro ⟨k,hk,e⟩;obtain⟨p,hp,rfl⟩:=fg.mp hk;exact fg.mpr ⟨p,hp,nV (of_decide_eq_true e)⟩
 ·intro h;obtain⟨p,hp,e⟩:=fg.mp h;exact⟨ky p.1,fg.mpr ⟨p,hp,rfl⟩,decide_eq_true (by rw[e])⟩
theorem zFM:∀{fs:Fs α},s∉nsF fs->pnF fs s v=fs++[(s,v)]
 |[],_=>rfl
 |p::fs,h=>by
  have h1:¬p.1=s:=λz=>h (by simp[nsF,z])
  have h2:s∉nsF fs:=λz=>h (by show s∈p.1::nsF fs;exact bx _ z)
  unfold pnF;rw[if_neg h1,zFM h2];rfl
theorem QM(g:α->D)(s:List Nat)(d:D):∀{fs:Fs α},s∉nsF fs->List.zipWith (λj e=>if j=ky s then d else e) (ksF fs) (vsF g fs)=vsF g fs
 |[],_=>rfl
 |p::fs,h=>by
  have h1:¬ky p.1=ky s:=λz=>h (by simp[nsF,nV z])
  have h2:s∉nsF fs:=λz=>h (by show s∈p.1::nsF fs;exact bx _ z)
  show(if ky p.1=ky s then d else g p.2)::List.zipWith _ (ksF fs) (vsF g fs)=_;rw[if_neg h1,QM g s d h2];rfl
theorem zFL(g:α->D):∀{fs:Fs α},(nsF fs).Nodup->s∈nsF fs->ksF (pnF fs s v)=ksF fs/\vsF g (pnF fs s v)=List.zipWith (λj e=>if j=ky s then g v else e) (ksF fs) (vsF g fs)
 |[],_,h=>by simp[nsF] at h
 |p::fs,hn,h=>by
  have hn':p.1∉nsF fs/\(nsF fs).Nodup:=dg.mp hn;have hz:List.zipWith (λj e=>if j=ky s then g v else e) (ksF (p::fs)) (vsF g (p::fs))=(if ky p.1=ky s then g v else g p.2)::List.zipWith (λj e=>if j=ky s then g v else e) (ksF fs) (vsF g fs):=rfl;rw[hz];unfold pnF;by_cases e:p.1=s
  ·rw[if_pos e,if_pos (by rw[e]),QM g s (g v) (by rw[<-e];exact hn'.1)];exact⟨by show ky s::ksF fs=ky p.1::ksF fs;rw[e],rfl⟩
  ·have hs:s∈nsF fs:=by
    rcases bh.mp h with z|z
    ·exact absurd z.symm e
    ·exact z
   obtain⟨i1,i2⟩:=zFL g (v:=v) hn'.2 hs;rw[if_neg e,if_neg (λz=>e (nV z)),<-i2];exact⟨by show ky p.1::ksF (pnF fs s v)=_;rw[i1];rfl,rfl⟩
theorem zI7(g:α->D)(hn:(nsF fs).Nodup):jQ (ksF fs) (vsF g fs) (ky s) (g v)=(ksF (pnF fs s v),vsF g (pnF fs s v)):=by
 unfold jQ;rw[zPC];by_cases h:s∈nsF fs
 ·obtain⟨e1,e2⟩:=zFL g (v:=v) hn h;rw[if_pos (decide_eq_true h),e1,e2]
 ·rw[if_neg (by rw[decide_eq_false h];decide),zFM h];unfold ksF vsF;rw[fo,fo];rfl
theorem zCV(g:α->D)(s:List Nat):∀fs:Fs α,qF (ksF fs) (vsF g fs) (ky s)=(ksF (drF fs s),vsF g (drF fs s))
 |[]=>rfl
 |p::fs=>by
  have ih:=zCV g s fs;show(if ky p.1=ky s then qF (ksF fs) (vsF g fs) (ky s) else (ky p.1::(qF (ksF fs) (vsF g fs) (ky s)).1,g p.2::(qF (ksF fs) (vsF g fs) (ky s)).2))=_;unfold drF;by_cases h:p.1=s
  ·rw[if_pos h,if_pos (by rw[h]),ih]
  ·rw[if_neg h,if_neg (λz=>h (nV z)),ih];rfl
theorem W2(s:List Nat):∀fs:Fs α,(nsF (drF fs s)).Sublist (nsF fs)
 |[]=>List.Sublist.refl _
 |p::fs=>by
  unfold drF;by_cases h:p.1=s
  ·rw[if_pos h];exact(W2 s fs).cons _
  ·rw[if_neg h];exact(W2 s fs).cons_cons _
theorem zI9:∀(fs:Fs α),nsF (pnF fs s v)=if s∈nsF fs then nsF fs else nsF fs++[s]
 |[]=>by simp[pnF,nsF]
 |p::fs=>by
  have ih:=zI9 (s:=s) (v:=v) fs;unfold pnF;by_cases h:p.1=s
  ·rw[if_pos h,if_pos (by simp[nsF,h])];simp[nsF,h]
  ·rw[if_neg h];show p.1::nsF (pnF fs s v)=_;have h':¬s=p.1:=λz=>h z.symm
   have hm:s∈nsF (p::fs)↔s∈nsF fs:=by simp[nsF,h']
   rw[ih];by_cases q:s∈nsF fs
   ·rw[if_pos q,if_pos (hm.mpr q)];rfl
   ·rw[if_neg q,if_neg (λz=>q (hm.mp z))];rfl
theorem zBB(h:(nsF fs).Nodup):(nsF (pnF fs s v)).Nodup:=by
 rw[zI9];by_cases q:s∈nsF fs
 ·rw[if_pos q];exact h
 ·rw[if_neg q];exact ro.mpr ⟨h,by simp,λx hx y hy z=>q (by rw[cj.mp hy] at z;exact z ▸ hx)⟩
noncomputable def sv(fs:Fs α):List α:=(kJ (nsF fs)).filterMap (lkF fs)
theorem zAT(fs:Fs α):∀(ss:List (List Nat)),(∀s∈ss,s∈nsF fs)->(ss.filterMap (lkF fs)).map some=ss.map (lkF fs)
 |[],_=>rfl
 |s::ss,h=>by
  obtain⟨v,e⟩:=jV (h s (by simp));have ih:=zAT fs ss λt ht=>h t (by simp[ht])
  rw[gs,e,aq,aq,ih,e]
theorem d9:∀s∈kJ (nsF fs),s∈nsF fs:=λs h=>(mS _).mem_iff.mp h
theorem XF(fs:Fs α):(sv fs).length=fs.length:=by
 have h:=congrArg List.length (zAT fs (kJ (nsF fs)) d9);rw[ao,ao,j3] at h;unfold sv;rw[h];unfold nsF;rw[ao]
inductive Lv where
 |int (n:Int)
 |rc0
 |rc1 (l:List Nat) (n:Int)
 |one (l:List Nat) (n:Int)
noncomputable def mr(ks:List Key)(l:List D):D:=.tup [.str [114,101,99],.dct ks l]
noncomputable def lm:Lv->D
 |.int n=>.int n
 |.rc0=>mr [] []
 |.rc1 l n=>mr [ky l] [.int n]
 |.one l n=>.tup [.str [111,110,101],.str l,.int n]
noncomputable def ld:Lv->D
 |.int n=>.int n
 |.rc0=>.tup [.str [114,101,99],.tup []]
 |.rc1 l n=>.tup [.str [114,101,99],.tup [.tup [.str l,.int n]]]
 |.one l n=>.tup [.str [111,110,101],.str l,.int n]
inductive Wo where
 |l (v:Lv)
 |r (fs:Fs Lv)
noncomputable def mv:Wo->D
 |.l v=>lm v
 |.r fs=>mr (ksF fs) (vsF lm fs)
noncomputable def du:Wo->D
 |.l v=>ld v
 |.r fs=>.tup [.str [114,101,99],.tup ((kJ (nsF fs)).filterMap λs=>(lkF fs s).map λv=>.tup [.str s,ld v])]
noncomputable def il:Lv->List Lv
 |.int _=>[]
 |.rc0=>[]
 |.rc1 _ n=>[.int n]
 |.one _ n=>[.int n]
noncomputable def inn:Wo->List Wo
 |.l v=>(il v).map .l
 |.r fs=>(sv fs).map .l
def gw:Wo->Prop
 |.l _=>True
 |.r fs=>(nsF fs).Nodup/\fs.length<=8
theorem cZ(h:f r=some (ss.map ky,l))(hl:ss.length<64):kG f r=some ((kJ ss).map .str):=by
 unfold kG;rw[h,aa];show((tM (ss.map ky)).bind _)=_;rw[tL,aa,if_pos hl]
theorem mD(g:α->D)(hl:fs.length<=8):∃as,xS [.v (mr (ksF fs) (vsF g fs))]=some (.v (.lst ((sv fs).map g)),as):=by
 let W:D:=mr (ksF fs) (vsF g fs)
 refine kF (r':=[.v W]) ?_;show kU [.v W]=_;unfold kU;refine vK (by rfl) (x5 ?_);have nl:(nsF fs).length=fs.length:=by unfold nsF;rw[ao]
 have sd:kG (qS (zJ ixD (zF 0) (mC (.int 1)))) [.v W]=some ((kJ (nsF fs)).map .str):=cZ (l:=vsF g fs) (by rw[<-JJ];rfl) (by lia);have it:mIt (qN (kG (qS (zJ ixD (zF 0) (mC (.int 1)))))) [.v W]=some ((kJ (nsF fs)).map .str):=by
  unfold mIt qN;rw[sd];rfl
 have e:qN (vR [0] 2 (mIt (qN (kG (qS (zJ ixD (zF 0) (mC (.int 1))))))) (yV 1) (rH (qS (zJ ixD (zF 0) (mC (.int 1)))) (zF 1))) [.v W]=Option.map D.lst (vR [0] 2 (mIt (qN (kG (qS (zJ ixD (zF 0) (mC (.int 1))))))) (yV 1) (rH (qS (zJ ixD (zF 0) (mC (.int 1)))) (zF 1)) [.v W]):=rfl;rw[e];unfold vR wS;rw[it,aa,if_pos (by rw[ao,j3];exact xW (by lia)),show Y0 [0] 2 [.v W]=[.v W,.un] from rfl]
 let y:List Nat->D:=λs=>((lkF fs s).map g).getD .non
 have:=mI (x:=rH (qS (zJ ixD (zF 0) (mC (.int 1)))) (zF 1)) (j:=1) (mk:=λs=>[.v W,s]) (g:=D.str) (y:=y) (λs d hs=>yQ (i:=1) (x:=s) rfl hs) (kJ (nsF fs)) .un trivial (λs hs=>by
  show yW (ksF fs) (vsF g fs) (ky s)=_;obtain⟨v,e⟩:=jV (d9 s hs);rw[uC,e];show _=some (((lkF fs s).map g).getD .non);rw[e];rfl)
 rw[this];have q:(kJ (nsF fs)).map y=(sv fs).map g:=by
  have h:=zAT fs (kJ (nsF fs)) d9;have h2:(kJ (nsF fs)).map y=((kJ (nsF fs)).map (lkF fs)).map λo=>(o.map g).getD .non:=by rw[jf];rfl
  rw[h2,<-h,jf];rfl
 rw[q];rfl
theorem QW(l:List Nat):kJ [l]=[l]:=(tO (tw _) (by unfold pA;simp)).symm
theorem JQ:∀w:Wo,gw w->∃as,xS [.v (mv w)]=some (.v (.lst ((inn w).map mv)),as)
 |.l (.int n),_=>⟨_,rfl⟩
 |.l .rc0,_=>by
  obtain⟨as,h⟩:=mD (fs:=([]:Fs Lv)) lm (by decide);refine⟨as,h.trans ?_⟩
  have:sv ([]:Fs Lv)=[]:=kj.mp (XF _)
  rw[this];rfl
 |.l (.rc1 l n),_=>by
  obtain⟨as,h⟩:=mD (fs:=([(l,Lv.int n)]:Fs Lv)) lm (by show 1<=8;decide);refine⟨as,h.trans ?_⟩
  have:sv ([(l,Lv.int n)]:Fs Lv)=[.int n]:=by
   have e:kJ (nsF ([(l,Lv.int n)]:Fs Lv))=[l]:=QW l;unfold sv;rw[e];simp[lkF]
  rw[this];rfl
 |.l (.one l n),_=>⟨_,rfl⟩
 |.r fs,h=>by
  obtain⟨as,e⟩:=mD (fs:=fs) lm h.2;refine⟨as,e.trans ?_⟩;unfold inn;rw[jf];rfl
theorem hC(g:α->D)(hl:fs.length<=8)(hh:hs.length=fs.length):∃as,wJ [.v (mr (ksF fs) (vsF g fs)),.v (.lst hs)]=some (.v (.tup [.str [114,101,99],.tup (Y4 ((kJ (nsF fs)).map .str) hs)]),as):=by
 let W:D:=mr (ksF fs) (vsF g fs)
 refine kF (r':=[.v W,.v (.lst hs)]) ?_;show qO [.v W,.v (.lst hs)]=_;unfold qO;refine vK (by rfl) (x5 (d8 (zR zM (zR ?_ yT)) (by show 2<=100;decide)));have nl:(nsF fs).length=fs.length:=by unfold nsF;rw[ao]
 have sd:qN (kG (qS (zJ ixD (zF 0) (mC (.int 1))))) [.v W,.v (.lst hs)]=some (.lst ((kJ (nsF fs)).map .str)):=by
  unfold qN;rw[cZ (ss:=nsF fs) (l:=vsF g fs) (by rw[<-JJ];rfl) (by lia)];rfl
 unfold zJD;rw[sd,aa];show(if ((kJ (nsF fs)).map D.str).length=hs.length/\((kJ (nsF fs)).map D.str).length<1000 then some (D.tup (Y4 ((kJ (nsF fs)).map .str) hs)) else none)=_;rw[if_pos ⟨by rw[ao,j3,nl,hh],by rw[ao,j3];lia⟩]
theorem zD4(fs:Fs α)(g:α->D):∀ss:List (List Nat),(∀s∈ss,s∈nsF fs)->Y4 (ss.map .str) ((ss.filterMap (lkF fs)).map g)=ss.filterMap λs=>(lkF fs s).map λv=>.tup [.str s,g v]
 |[],_=>rfl
 |s::ss,h=>by
  obtain⟨v,e⟩:=jV (h s (by simp));have ih:=zD4 fs g ss λt ht=>h t (by simp[ht])
  rw[gs,e,gs,e];show D.tup [.str s,g v]::Y4 (ss.map .str) ((ss.filterMap (lkF fs)).map g)=_;rw[ih];rfl
theorem zF0:∀w:Wo,gw w->∃as,wJ [.v (mv w),.v (.lst ((inn w).map du))]=some (.v (du w),as)
 |.l (.int n),_=>⟨_,rfl⟩
 |.l .rc0,_=>by
  obtain⟨as,h⟩:=hC (fs:=([]:Fs Lv)) lm (hs:=[]) (by decide) rfl;refine⟨as,h.trans ?_⟩;have e:kJ (nsF ([]:Fs Lv))=[]:=(tO (tw _) (by unfold pA nsF;simp)).symm;rw[e];rfl
 |.l (.rc1 l n),_=>by
  obtain⟨as,h⟩:=hC (fs:=([(l,Lv.int n)]:Fs Lv)) lm (hs:=[.int n]) (by show 1<=8;decide) rfl;refine⟨as,h.trans ?_⟩;have e:kJ (nsF ([(l,Lv.int n)]:Fs Lv))=[l]:=QW l;rw[e];rfl
 |.l (.one l n),_=>⟨_,rfl⟩
 |.r fs,h=>by
  obtain⟨as,e⟩:=hC (fs:=fs) lm (hs:=(inn (.r fs)).map du) h.2 (by unfold inn;rw[ao,ao,XF]);refine⟨as,e.trans ?_⟩;have q:(inn (.r fs)).map du=(sv fs).map ld:=by unfold inn;rw[jf];rfl
  rw[q];unfold sv;rw[zD4 fs ld _ d9];rfl
noncomputable def pl(v:Lv):List Wo:=.l v::(il v).map .l
noncomputable def pre:Wo->List Wo
 |.l v=>pl v
 |.r fs=>.r fs::(sv fs).flatMap pl
noncomputable def sz(w:Wo):Nat:=(pre w).length
noncomputable def szs(l:List Wo):Nat:=(l.map sz).sum
noncomputable def pB(l:List Wo):List Wo:=l.flatMap pre
theorem QU(a b:List Wo):szs (a++b)=szs a+szs b:=by simp[szs]
theorem uR(a:Wo)(b:List Wo):szs (a::b)=sz a+szs b:=by simp[szs]
theorem zA9(a b:List Wo):pB (a++b)=pB a++pB b:=by simp[pB]
theorem v4(a:Wo)(b:List Wo):pB (a::b)=pre a++pB b:=by simp[pB]
theorem zHD(v:Lv):∀u∈il v,∃n,u=.int n:=by
 intro u hu;cases v<;>simp[il] at hu
 ·exact⟨_,hu⟩
 ·exact⟨_,hu⟩
theorem Q5:∀l:List Lv,(∀u∈l,∃n,u=Lv.int n)->pB (l.map .l)=l.map .l
 |[],_=>rfl
 |u::l,h=>by
  obtain⟨n,rfl⟩:=h u (by simp);rw[aq,v4,Q5 l λv hv=>h v (by simp[hv])];rfl
theorem ZF:∀w:Wo,pre w=w::pB (inn w)
 |.l v=>by
  show Wo.l v::(il v).map .l=Wo.l v::pB ((il v).map .l);rw[Q5 _ (zHD v)]
 |.r fs=>by
  show Wo.r fs::(sv fs).flatMap pl=Wo.r fs::pB ((sv fs).map .l);unfold pB;rw[List.flatMap_map];rfl
theorem ZE:∀l:List Wo,(pB l).length=szs l
 |[]=>rfl
 |a::l=>by rw[v4,uR,bv,ZE l];rfl
theorem zAS(w:Wo):sz w=1+szs (inn w):=by
 unfold sz;rw[ZF,au,ZE];lia
theorem zEV(w:Wo):0<sz w:=by have:=zAS w;lia
theorem zHC(v:Lv):(il v).length<=1:=by cases v<;>simp[il]
theorem Z0:∀(w:Wo),gw w->(inn w).length<=8
 |.l v,_=>by unfold inn;rw[ao];have:=zHC v;lia
 |.r fs,h=>by unfold inn;rw[ao,XF];exact h.2
theorem zLP(w:Wo)(h:gw w):∀v∈inn w,gw v:=by
 intro v hv;cases w with
 |l u=>obtain⟨a,_,rfl⟩:=fg.mp hv;trivial
 |r fs=>obtain⟨a,_,rfl⟩:=fg.mp hv;trivial
theorem zP5(v:Lv):sz (.l v)<=2:=by
 show((il v).map Wo.l).length+1<=2;rw[ao];have:=zHC v;lia
theorem zMF:∀l:List Lv,szs (l.map .l)<=2*l.length
 |[]=>ah _
 |v::l=>by rw[aq,uR,au];have:=zMF l;have:=zP5 v;lia
theorem zN6:∀w:Wo,gw w->sz w<=20
 |.l v,_=>by have:=zP5 v;lia
 |.r fs,h=>by
  rw[zAS];show 1+szs ((sv fs).map .l)<=20
  have:=zMF (sv fs)
  rw[XF] at this
  have:=h.2
  lia
theorem QT:∀l:List Wo,l.length<=szs l
 |[]=>ah _
 |a::l=>by have:=QT l;have:=zEV a;rw[uR,au];lia
noncomputable def zIN:MS:=(yL (sX (gV 1 (pC 2))) (yL (sIf (mBl (zJ gtD (zGS (o7 1)) (mC (.int 200)))) (jD (yY (zA (mC (.str [100,101,101,112])) zT))) wB) (sX (zK6 2 (mUn zI6 (yD 1 xS (zA (zMY (o7 1) (mUn zKZ (mC (.int 1)))) zT)))))))
noncomputable def stk(ts:List Wo):List D:=(ts.map mv).reverse
theorem tN(w:Wo)(ts:List Wo):stk (w::ts)=stk ts++[mv w]:=by simp[stk]
theorem zEY(a b:List Wo):stk (a++b)=stk b++stk a:=by simp[stk]
theorem pL(w:Wo)(ts:List Wo)(F:List D)(hF:F.length<=200):sX (gV 1 (pC 2)) [v0,.o F,.o (stk (w::ts)),.un,.un]=some (.nx [v0,.o (F++[mv w]),.o (stk ts),.un,.un]):=by
 refine c8 (d:=.non) ?_;unfold gV;rw[tN,zFI (i:=2) (S:=stk ts) (d:=mv w) rfl,aa];show(if F.length<af then some (D.non,[v0,Sl.o (F++[mv w]),.o (stk ts),.un,.un]) else none)=_;rw[if_pos (xW (by lia))]
theorem XE(w:Wo)(hg:gw w)(ts:List Wo)(hts:ts.length<=1000)(F:List D)(hF:F.length<200):zIN [v0,.o F,.o (stk (w::ts)),.un,.un]=some (.nx [v0,.o (F++[mv w]),.o (stk (inn w++ts)),.un,.un]):=by
 unfold zIN;rw[yP (pL w ts F (by lia))];have c1:mBl (zJ gtD (zGS (o7 1)) (mC (.int 200))) [v0,.o (F++[mv w]),.o (stk ts),.un,.un]=some (decide ((200:Int)<((F++[mv w]).length:Int))):=zM3 rfl zM;rw[decide_eq_false (by rw[bv];show ¬(200:Int)<((F.length+1:Nat):Int);lia)] at c1;refine wW c1 (c8 (d:=.non) ?_);have ix:zMY (o7 1) (mUn zKZ (mC (.int 1))) [v0,.o (F++[mv w]),.o (stk ts),.un,.un]=some (mv w):=by
  show atI (F++[mv w]) (-1)=_;exact zC4 ..
 have ci:yD 1 xS (zA (zMY (o7 1) (mUn zKZ (mC (.int 1)))) zT) [v0,.o (F++[mv w]),.o (stk ts),.un,.un]=some (.lst ((inn w).map mv)):=xN (p:=.v (.lst ((inn w).map mv))) (zR ix yT) rfl (JQ w hg);unfold zK6;rw[bP (d:=.lst ((inn w).map mv).reverse) ci rfl,aa];show(some ((inn w).map mv).reverse).bind _=_;rw[aa];show(some (stk ts)).bind _=_;have hil:=Z0 w hg;have sl:(stk ts).length=ts.length:=by simp[stk]
 rw[aa,if_pos (by rw[fw,ao,sl];exact bq (show _<=20000 by lia) (by decide)),zEY];rfl
theorem zEN:ZN (o7 2) [v0,a,.o (stk (w::ts)),b,c]=some true:=by
 rw[tN];show some (!(stk ts++[mv w]).isEmpty)=_;simp
theorem cW:∀(n:Nat) (ts:List Wo) (F:List D),(∀w∈ts,gw w)->szs ts<=n->F.length+szs ts<=200->∀m,j4 (n+1+m) (ZN (o7 2)) zIN [v0,.o F,.o (stk ts),.un,.un]=some (.nx [v0,.o (F++(pB ts).map mv),.o [],.un,.un])
 |n,[],F,hg,hn,h,m=>by
  rw[show n+1+m=(n+m)+1 by lia];have e:F++(pB []).map mv=F:=by simp[pB]
  rw[e];exact mM rfl
 |0,w::ts,F,hg,hn,h,m=>by rw[uR] at hn;have:=zEV w;lia
 |n+1,w::ts,F,hg,hn,h,m=>by
  rw[uR] at hn h;have hs:=zAS w;have hl:=QT ts;have ih:=cW (v0:=v0) n (inn w++ts) (F++[mv w]) (λv hv=>by
   rcases cq.mp hv with q|q
   ·exact zLP w (hg w (by simp)) v q
   ·exact hg v (by simp[q])) (by rw[QU];lia) (by rw[QU,bv];show F.length+1+_<=200;lia) m
  rw[show n+1+1+m=(n+1+m)+1 by lia,rY zEN (XE w (hg w (by simp)) ts (by lia) F (by lia)),ih,zA9,v4,ZF w];simp
noncomputable def YR:MS:=(sX (gV 3 (kH 2 wJ (jS (zF 4) (vS (cB 3 2 (mIt (yD 1 xS (zA (zF 4) zT))) (yV 1) (pC 0)))))))
theorem zOE:pC 0 [.p (S++[d]),x]=some (d,[.p S,x]):=by
 show(((S++[d])[(S++[d]).length-1]?).bind λe=>some (e,[Sl.p (S++[d]).dropLast,x]))=_;simp
theorem YK:∀(K L:List D) (S:List D) (x:Sl),fre x->L.length=K.length->∃x',cL (yV 1) (pC 0) L [.p (S++K.reverse),x]=some (K,[.p S,x'])
 |[],[],S,x,_,_=>⟨x,by simp[cL]⟩
 |[],_::_,S,x,_,h=>by cases h
 |_::_,[],S,x,_,h=>by cases h
 |k::K,d::L,S,x,hx,h=>by
  obtain⟨x',e⟩:=YK K L S (.v d) trivial (by simpa using h);refine⟨x',?_⟩;rw[je,<-cw];unfold cL;rw[yQ (i:=1) (r:=[.p (S++K.reverse++[k]),x]) (x:=x) rfl hx,aa];show(pC 0 [.p (S++K.reverse++[k]),.v d]).bind _=_;rw[zOE,aa];show(cL (yV 1) (pC 0) L [.p (S++K.reverse),.v d]).map _=_;rw[e];rfl
theorem XY{z1 z2:Sl}(w:Wo)(hg:gw w)(S:List D)(hS:S.length<=1000):YR [v0,z1,z2,.o (S++((inn w).map du).reverse),.v (mv w)]=some (.nx [v0,z1,z2,.o (S++[du w]),.v (mv w)]):=by
 unfold YR;refine c8 (d:=.non) ?_
 let R:En:=[v0,z1,z2,.o (S++((inn w).map du).reverse),.v (mv w)]
 have ci:yD 1 xS (zA (zF 4) zT) R=some (.lst ((inn w).map mv)):=xN (p:=.v (.lst ((inn w).map mv))) (zR (x:=mv w) rfl yT) rfl (JQ w hg);have it:mIt (yD 1 xS (zA (zF 4) zT)) R=some ((inn w).map mv):=by
  unfold mIt;rw[ci];rfl
 have hil:=Z0 w hg;obtain⟨x,cp⟩:=YK ((inn w).map du) ((inn w).map mv) S .un trivial (by rw[ao,ao]);have cx:cB 3 2 (mIt (yD 1 xS (zA (zF 4) zT))) (yV 1) (pC 0) R=some (.lst ((inn w).map du),[v0,z1,z2,.o S,.v (mv w)]):=by
  unfold cB;rw[it,aa];show(some (S++((inn w).map du).reverse)).bind _=_;rw[aa,if_pos (by rw[ao];exact xW (by lia))];show(cL (yV 1) (pC 0) ((inn w).map mv) [.p (S++((inn w).map du).reverse),.un]).bind _=_;rw[cp];rfl
 have xa:jS (zF 4) (vS (cB 3 2 (mIt (yD 1 xS (zA (zF 4) zT))) (yV 1) (pC 0))) R=some ([mv w,.lst ((inn w).map du)],[v0,z1,z2,.o S,.v (mv w)]):=by
  unfold jS vS;rw[cx];rfl
 obtain⟨as,hp⟩:=zF0 w hg;have hp':wJ (([mv w,.lst ((inn w).map du)]:List D).map Sl.v)=some (.v (du w),as):=hp;have cc:kH 2 wJ (jS (zF 4) (vS (cB 3 2 (mIt (yD 1 xS (zA (zF 4) zT))) (yV 1) (pC 0)))) R=some (du w,[v0,z1,z2,.o S,.v (mv w)]):=by
  unfold kH;rw[xa,aa,if_pos (show([mv w,.lst ((inn w).map du)]:List D).length=2 from rfl),hp'];rfl
 unfold gV;rw[cc,aa];show(some (S++((inn w).map du).reverse)).bind _=_;rw[aa];show(some S).bind _=_;rw[aa,if_pos (xW (by lia))];rfl
def Tl(b:Nat)(w:Wo):Prop:=∀(v0 z1 z2:Sl) (rest:List D) (S:List D) (s:Sl),S.length<=b->fre s->rM (yV 4) YR ((pre w).reverse.map mv++rest) [v0,z1,z2,.o S,s]=rM (yV 4) YR rest [v0,z1,z2,.o (S++[du w]),.v (mv w)]
theorem QS{z1 z2:Sl}:∀(ts:List Wo),(∀w∈ts,Tl b w)->∀(rest:List D) (S:List D) (s:Sl),S.length+ts.length<=b->fre s->∃s',fre s'/\rM (yV 4) YR ((pB ts).reverse.map mv++rest) [v0,z1,z2,.o S,s]=rM (yV 4) YR rest [v0,z1,z2,.o (S++(ts.map du).reverse),s']
 |[],h,rest,S,s,hb,hs=>⟨s,hs,by simp[pB]⟩
 |w::ts,h,rest,S,s,hb,hs=>by
  rw[au] at hb;rw[v4,List.reverse_append,fo,cw];obtain⟨s',hs',e⟩:=QS ts (λv hv=>h v (by simp[hv])) ((pre w).reverse.map mv++rest) S s (by lia) hs;refine⟨.v (mv w),trivial,?_⟩;rw[e,h w (by simp) v0 z1 z2 rest _ s' (by rw[bv,fw,ao];lia) hs',aq,je,cw]
theorem zI2(hb:b<=900)(w:Wo)(hg:gw w)(h:∀v∈inn w,Tl (b+10) v):Tl b w:=by
 intro v0 z1 z2 rest S s hS hs;have hl:=Z0 w hg;rw[ZF,je,fo,cw];obtain⟨s',hs',e⟩:=QS (v0:=v0) (z1:=z1) (z2:=z2) (inn w) h ([w].map mv++rest) S s (by lia) hs;rw[e];exact cG (yQ (i:=4) (x:=s') rfl hs') (XY w hg S (by lia))
theorem zJY(hb:b<=900)(n:Int):Tl b (.l (.int n)):=zI2 hb _ trivial λv hv=>by simp[inn,il] at hv
theorem zP2(hb:b<=800)(v:Lv):Tl b (.l v):=zI2 (by lia) _ trivial λu hu=>by
 obtain⟨a,ha,rfl⟩:=fg.mp hu;obtain⟨n,rfl⟩:=zHD v a ha;exact zJY (by lia) n
theorem zQZ(hb:b<=700):∀w:Wo,gw w->Tl b w
 |.l v,_=>zP2 (by lia) v
 |.r fs,h=>zI2 (by lia) _ h λu hu=>by
  obtain⟨a,ha,rfl⟩:=fg.mp hu;exact zP2 (by lia) a
theorem zEP(w:Wo)(hg:gw w):∃as,QJ [.v (mv w)]=some (.v (du w),as):=by
 have h:=zN6 w hg
 let F:List D:=(pre w).map mv
 have s1:=cW (v0:=.v (mv w)) (sz w) [w] [] (λv hv=>by rw[cj.mp hv];exact hg) (by simp[szs]) (by simp[szs];lia) (WF-(sz w+1));rw[show sz w+1+(WF-(sz w+1))=WF by unfold WF;lia,List.nil_append,show pB [w]=pre w by simp[pB]] at s1;refine kF (r':=[.v (mv w),.o F,.o [],.o [du w],.v (mv w)]) ?_;show rL [.v (mv w),.un,.un,.un,.un]=_;unfold rL;rw[yP (r':=[.v (mv w),.o [],.un,.un,.un]) (by rfl),yP (r':=[.v (mv w),.o [],.o [mv w],.un,.un]) (by rfl)];unfold zIN at s1;have s1':j4 WF _ _ [.v (mv w),.o [],.o [mv w],.un,.un]=some (.nx [.v (mv w),.o F,.o [],.un,.un]):=s1;rw[yP s1',yP (r':=[.v (mv w),.o F,.o [],.o [],.un]) (by rfl)];have s2:sZ 1 (o9 (yV 4) (WL (mZs 1)) YR) [.v (mv w),.o F,.o [],.o [],.un]=some (.nx [.v (mv w),.o F,.o [],.o [du w],.v (mv w)]):=by
  unfold sZ;show((o9 _ _ _ [.v (mv w),.z F,.o [],.o [],.un])).bind _=_;unfold o9;rw[show WL (mZs 1) [.v (mv w),.z F,.o [],.o [],.un]=some F.reverse from rfl,aa]
  have:=zQZ (b:=0) (by lia) w hg (.v (mv w)) (.z F) (.o []) [] [] .un (by show 0<=0;lia) trivial
  rw[gn,List.map_reverse] at this;rw[this];rfl
 unfold YR at s2;rw[yP s2];exact x5 rfl
inductive Al:Nat->D->Prop
 |int {n:Nat} (i:Int):Al n (.int i)
 |str {n:Nat} (s:List Nat):Al n (.str s)
 |tup {n:Nat} {l:List D}:(∀d∈l,Al n d)->Al (n+1) (.tup l)
noncomputable def zIO(m:MF):MS:=(sIf (pD (kS (yD 2 m (zA (zF 2) (zA (zF 3) zT))))) (jD (mC (.bl false))) wB)
theorem dY:∀(l:List D) (x y:Sl),fre x->fre y->(∀d∈l,∃as,m [.v d,.v d]=some (.v (.bl true),as))->∃x' y',rM (qI 2 (yE (yV 2) (yE (yV 3) qZ))) (zIO m) (Y4 l l) [a,b,x,y]=some (.nx [a,b,x',y'])
 |[],x,y,_,_,_=>⟨x,y,rfl⟩
 |d::l,x,y,hx,hy,h=>by
  obtain⟨x',y',q⟩:=dY (a:=a) (b:=b) l (.v d) (.v d) trivial trivial λe he=>h e (by simp[he])
  refine⟨x',y',?_⟩;show rM _ _ (.tup [d,d]::Y4 l l) _=_;rw[cG (d:=.tup [d,d]) (r1:=[a,b,.v d,.v d]) (bdP (r1:=[a,b,.v d,y]) (yQ (i:=2) (x:=x) rfl hx) (yQ (i:=3) (x:=y) rfl hy)) (r':=[a,b,.v d,.v d]) ?_]
  ·exact q
  ·unfold zIO;have hc:yD 2 m (zA (zF 2) (zA (zF 3) zT)) [a,b,.v d,.v d]=some (.bl true):=xN (p:=.v (.bl true)) (zR (x:=d) rfl (zR (x:=d) rfl yT)) rfl (h d (by simp));have hn:pD (kS (yD 2 m (zA (zF 2) (zA (zF 3) zT)))) [a,b,.v d,.v d]=some false:=by
    unfold pD kS;rw[hc];rfl
   rw[zDD hn];rfl
theorem zC7(h:Al n d):∀k,n<k->∃as,yG k [.v d,.v d]=some (.v (.bl true),as):=by
 induction h with
 |int i=>
  intro k hk;cases k with
  |zero=>lia
  |succ k=>
   refine kF (r':=[.v (.int i),.v (.int i),.un,.un]) ?_;show xD (yG k) [.v (.int i),.v (.int i),.un,.un]=_;unfold xD;refine wW (by rfl) (vK (by rfl) (x5 ?_));show some (D.bl (decide (i=i)))=_;rw[decide_eq_true rfl]
 |str s=>
  intro k hk;cases k with
  |zero=>lia
  |succ k=>
   refine kF (r':=[.v (.str s),.v (.str s),.un,.un]) ?_;show xD (yG k) [.v (.str s),.v (.str s),.un,.un]=_;unfold xD;refine wW (by rfl) (wW (by rfl) (x5 ?_));show some (D.bl (decide (s=s)))=_;rw[decide_eq_true rfl]
 |tup hl ih=>
  rename_i n l;intro k hk;cases k with
  |zero=>lia
  |succ k=>
   obtain⟨x',y',q⟩:=dY (m:=yG k) (a:=.v (.tup l)) (b:=.v (.tup l)) l .un .un trivial trivial λd hd=>ih d hd k (by lia)
   refine kF (r':=[.v (.tup l),.v (.tup l),x',y']) ?_;show xD (yG k) [.v (.tup l),.v (.tup l),.un,.un]=_;unfold xD;refine vK (by rfl) ?_;refine wW (by rfl) ?_;have ln:mBl (zJ neA (mUn gW (zF 0)) (mUn gW (zF 1))) [.v (.tup l),.v (.tup l),.un,.un]=some false:=by
    show some (!decide ((l.length:Int)=(l.length:Int)))=_;rw[decide_eq_true rfl];rfl
   refine wW ln ?_;have s1:o9 (qI 2 (yE (yV 2) (yE (yV 3) qZ))) (zGR (zF 0) (zF 1)) (zIO (yG k)) [.v (.tup l),.v (.tup l),.un,.un]=some (.nx [.v (.tup l),.v (.tup l),x',y']):=by
    unfold o9;rw[show zGR (zF 0) (zF 1) [.v (.tup l),.v (.tup l),.un,.un]=some (Y4 l l) from rfl];exact q
   unfold zIO at s1;rw[yP s1];exact x5 zM
theorem Al.mono(h:Al n d):n<=m->Al m d:=by
 induction h generalizing m with
 |int i=>intro _;exact .int i
 |str s=>intro _;exact .str s
 |tup hl ih=>
  rename_i n l;intro hm;cases m with
  |zero=>lia
  |succ m=>exact .tup λd hd=>ih d hd (by lia)
theorem zQR:∀v:Lv,Al 4 (ld v)
 |.int n=>.int n
 |.rc0=>.tup (n:=3) λd hd=>by
  simp only[bh,eg,or_false] at hd;rcases hd with rfl|rfl
  ·exact .str _
  ·exact .tup (n:=2) λd hd=>by cases hd
 |.rc1 l n=>.tup (n:=3) λd hd=>by
  simp only[bh,eg,or_false] at hd;rcases hd with rfl|rfl
  ·exact .str _
  ·refine .tup (n:=2) λd hd=>?_
   rw[cj.mp hd];refine .tup (n:=1) λd hd=>?_
   simp only[bh,eg,or_false] at hd;rcases hd with rfl|rfl
   ·exact .str _
   ·exact .int _
 |.one l n=>.tup (n:=3) λd hd=>by
  simp only[bh,eg,or_false] at hd;rcases hd with rfl|rfl|rfl
  ·exact .str _
  ·exact .str _
  ·exact .int _
theorem zPD:∀w:Wo,Al 7 (du w)
 |.l v=>(zQR v).mono (by decide)
 |.r fs=>.tup (n:=6) λd hd=>by
  simp only[bh,eg,or_false] at hd;rcases hd with rfl|rfl
  ·exact .str _
  ·refine .tup (n:=5) λd hd=>?_
   obtain⟨s,_,e⟩:=nh.mp hd;obtain⟨v,_,rfl⟩:=oz.mp e;refine .tup (n:=4) λd hd=>?_
   simp only[bh,eg,or_false] at hd;rcases hd with rfl|rfl
   ·exact .str _
   ·exact zQR v
theorem zQQ(P:List D):∀v:Lv,apD P (ld v)=true
 |.int n=>rfl
 |.rc0=>rfl
 |.rc1 l n=>rfl
 |.one l n=>rfl
theorem o6(P:List D):∀l:List D,(∀d∈l,apD P d=true)->apL P l=true
 |[],_=>rfl
 |d::l,h=>by
  show(apD P d && apL P l)=true;rw[h d (by simp),o6 P l λe he=>h e (by simp[he])];rfl
theorem zPB(P:List D):∀w:Wo,apD P (du w)=true
 |.l v=>zQQ P v
 |.r fs=>by
  refine o6 P _ λd hd=>?_
  simp only[bh,eg,or_false] at hd;rcases hd with rfl|rfl
  ·rfl
  ·refine o6 P _ λd hd=>?_
   obtain⟨s,_,e⟩:=nh.mp hd;obtain⟨v,_,rfl⟩:=oz.mp e;refine o6 P _ λd hd=>?_
   simp only[bh,eg,or_false] at hd;rcases hd with rfl|rfl
   ·rfl
   ·exact zQQ P v
structure NmC(s:List Nat):Prop where
 len:s.length<=9
 ch:∀x∈s,x<1114112
def gr:Ex->Prop
 |.num n=>zI4 n
 |.nm s=>NmC s
 |.emp=>True
 |.tag l e=>NmC l/\gr e
 |.wth l a b=>NmC l/\gr a/\gr b
 |.fn x e=>NmC x/\gr e
 |.doo f a=>gr f/\gr a
 |.put l a b=>NmC l/\gr a/\gr b
 |.les l e=>NmC l/\gr e
 |.get l e=>NmC l/\gr e
structure Lbs(ls:List (List Nat)):Prop where
 len:ls.length=8
 ok:∀s∈ls,NmC s
theorem pN{l:List (List Nat)}{r:En}{f g:ME}{i:Int}(hf:f r=some (.lst (l.map .str)))(hg:g r=some (.int i))(h0:0<=i)(h1:i<l.length):∃s∈l,zJ ixD f g r=some (.str s):=by
 obtain⟨j,rfl⟩:=ux h0;have hj:j<l.length:=by lia
 refine⟨l[j],List.getElem_mem hj,yK hf hg ?_⟩;show atI (l.map D.str) (j:Int)=_;refine oZ ?_;rw[ay,bn hj];rfl
theorem YM{x:ME}{j:Nat}{mk:Sl->En}{p:List Nat->Prop}(hj:∀s d,fre s->yV j d (mk s)=some (mk (.v d))):∀(L:List D) (s:Sl),fre s->(∀a∈L,∃c,p c/\x (mk (.v a))=some (.str c))->∃cs:List (List Nat),cs.length=L.length/\(∀c∈cs,p c)/\kI (yV j) gU x L (mk s)=some (cs.map .str)
 |[],s,hs,h=>⟨[],rfl,(λ_ h=>by cases h),rfl⟩
 |a::L,s,hs,h=>by
  obtain⟨c,hc,e⟩:=h a (by simp);obtain⟨cs,h1,h2,h3⟩:=YM hj L (.v a) trivial λb hb=>h b (by simp[hb])
  refine⟨c::cs,by simp[h1],λd hd=>?_,?_⟩
  ·rcases bh.mp hd with rfl|hd
   ·exact hc
   ·exact h2 d hd
  ·unfold kI;rw[hj s a hs,aa,show gU (mk (.v a))=some true from rfl,aa,if_pos rfl,e,aa,h3];rfl
noncomputable def zPA:List Nat:=[113,120,122,106,118,107,97,101,105,109]
noncomputable def wry:List Nat:=[119,114,121]
theorem zIK(s:List α)(k:Nat):rS s none (some (k:Int))=s.take k:=by
 unfold rS;rw[HT.sIx_nat,HT.sIx_none,List.drop_zero,Nat.sub_zero];by_cases h:k<=s.length
 ·rw[sg h]
 ·rw[Nat.min_eq_right (by lia),List.take_length,qc (by lia)]
theorem WP{c:Int}(hc:0<=c):∃ls:List (List Nat),Lbs ls/\∃as,jO [.v (.int c)]=some (.v (.lst (ls.map .str)),as):=by
 have z0:0<=c % 5:=fq _ (by decide);have z7:c % 5<5:=dm _ (by decide);obtain⟨n,hn⟩:∃n:Nat,2+c % 5=(n:Int):=⟨(2+c % 5).toNat,by lia⟩
 let C:Sl:=.v (.int c)
 obtain⟨cs,c1,c2,c3⟩:=zAB (x:=zJ ixD (mC (.str [113,120,122,106,118,107,97,101,105,109])) (zJ jI (yD 2 xE (zA (zF 0) (zA (zJ kZ (mC (.int 30)) (zF 1)) zT))) (mC (.int 10)))) (j:=1) (mk:=λs=>[C,s]) (p:=(·∈zPA)) (λs d hs=>yQ (x:=s) rfl hs) ((List.range n).map λi=>D.int ((0:Int)+(i:Nat))) .un trivial (λd hd=>by
  obtain⟨i,_,rfl⟩:=fg.mp hd;obtain⟨m,m0,hm⟩:=hJ c (30+((0:Int)+(i:Nat)));obtain⟨ch,h1,h2⟩:=zNC (l:=zPA) (by decide) (i:=m % 10) (fq _ (by decide)) (dm _ (by decide));exact⟨ch,h1,yK (x:=.str zPA) zM (qJ (xN (p:=.v (.int m)) (zR rfl (zR (vP zM rfl) yT)) rfl hm) zM (by decide)) h2⟩)
 rw[ao,ni] at c1;have low:∀x∈zPA,x<1114112:=by decide
 have cl:∀x∈cs,x<1114112:=λx hx=>low x (c2 x hx)
 have len:cs.length<=6:=by lia
 have WN:2<=cs.length:=by lia
 have a0:0<=c / 5 % (cs.length:Int):=fq _ (by lia);have a1:c / 5 % (cs.length:Int)<(cs.length:Int):=dm _ (by lia);obtain⟨a,ha⟩:∃a:Nat,c / 5 % (cs.length:Int)=(a:Int):=⟨(c / 5 % (cs.length:Int)).toNat,by lia⟩;have al:a<cs.length:=by lia
 let B:Sl:=.v (.str cs)
 let A:Sl:=.v (.int (a:Int))
 obtain⟨ls,l1,l2,l3⟩:=YM (x:=zJ kZ (zJ kZ (mSl (zF 0) ZJ (jZ (zF 1))) (zJ ixD (mC (.str [119,114,121])) (zF 2))) (mSl (zF 0) (jZ (zF 1)) ZJ)) (j:=2) (mk:=λs=>[B,A,s]) (p:=NmC) (λs d hs=>yQ (i:=2) (x:=s) rfl hs) ((List.range 3).map λi=>D.int ((0:Int)+(i:Nat))) .un trivial (λd hd=>by
  obtain⟨i,hi,rfl⟩:=fg.mp hd;have hi:=kr.mp hi;obtain⟨ch,h1,h2⟩:=zNC (l:=wry) (by decide) (i:=(0:Int)+(i:Nat)) (by lia) (by show _<(3:Int);lia);refine⟨cs.take a++[ch]++cs.drop a,⟨by simp;lia,λx hx=>?_⟩,?_⟩
  ·rcases cq.mp hx with q|q
   ·rcases cq.mp q with q|q
    ·exact cl x (we q)
    ·rw[cj.mp q]
     have:∀x∈wry,x<1114112:=by decide
     exact this ch h1
   ·exact cl x (wf q)
  ·refine yK (x:=.str (cs.take a++[ch])) (y:=.str (cs.drop a)) (yK (x:=.str (cs.take a)) (y:=.str [ch]) (QX (x:=.str cs) (a:=none) (b:=some (a:Int)) rfl (by rfl) (jF rfl) (by rw[mU (by lia),zIK])) (yK (x:=.str wry) zM rfl h2) (kB (by simp;lia))) (QX (x:=.str cs) (a:=some (a:Int)) (b:=none) rfl (jF rfl) (by rfl) (by rw[mU (by lia),YJ])) (kB (by simp;lia)))
 rw[ao,ni] at l1;have q1:NmC (cs++[113]):=⟨by simp;lia,λx hx=>by
  rcases cq.mp hx with q|q
  ·exact cl x q
  ·rw[cj.mp q];decide⟩
 have q2:NmC (cs++[113,97]):=⟨by simp;lia,λx hx=>by
  rcases cq.mp hx with q|q
  ·exact cl x q
  ·have:∀x∈([113,97]:List Nat),x<1114112:=by decide
   exact this x q⟩
 have q3:NmC (cs.take 1++[113,117]):=⟨by simp;lia,λx hx=>by
  rcases cq.mp hx with q|q
  ·exact cl x (we q)
  ·have:∀x∈([113,117]:List Nat),x<1114112:=by decide
   exact this x q⟩
 have q4:NmC (cs.drop 1++[113,122]):=⟨by simp;lia,λx hx=>by
  rcases cq.mp hx with q|q
  ·exact cl x (wf q)
  ·have:∀x∈([113,122]:List Nat),x<1114112:=by decide
   exact this x q⟩
 have q5:NmC ([122]++cs++[113]):=⟨by simp;lia,λx hx=>by
  rcases cq.mp hx with q|q
  ·rcases cq.mp q with q|q
   ·rw[cj.mp q];decide
   ·exact cl x q
  ·rw[cj.mp q];decide⟩
 let W:List (List Nat):=ls++[cs++[113],cs++[113,97],cs.take 1++[113,117],cs.drop 1++[113,122],[122]++cs++[113]]
 refine⟨W,⟨by show(ls++_).length=8;rw[bv,l1];rfl,λs hs=>?_⟩,kF (r':=[C,B,A,.v (.lst (ls.map .str))]) ?_⟩
 ·rcases cq.mp hs with q|q
  ·exact l2 s q
  ·simp only[bh,eg,or_false] at q;rcases q with rfl|rfl|rfl|rfl|rfl
   ·exact q1
   ·exact q2
   ·exact q3
   ·exact q4
   ·exact q5
 ·show wM [C,.un,.un,.un]=_;unfold wM;refine yF (.str cs) (r2:=[C,B,.un,.un]) ?_ (by rfl) ?_
  ·unfold zJF;rw[zM,aa];show(vR _ _ _ _ _ _).bind _=_;unfold vR wS;rw[zA4 (n:=n) (hn ▸ vP zM (qJ rfl zM (by decide))) (by lia),aa,if_pos (by rw[ao,ni];exact xW (by lia))];rw[show Y0 [0] 2 [C,.un,.un,.un]=[C,.un] from rfl,c3,aa,tG,aa,if_pos,ZU];have e:((cs.map λc=>[c]).map List.length).sum=cs.length:=by
    rw[jf];clear l3 q1 q2 q3 q4 q5 W A B al ha a0 a1 WN c2 c3 c1 cl len
    induction cs with
    |nil=>rfl
    |cons x t ih=>simp at ih ⊢;lia
   rw[e];simp;lia
  ·refine yF (.int (a:Int)) (r2:=[C,B,A,.un]) (ha ▸ qJ (wU rfl zM (by decide)) (bP (x:=.str cs) rfl (if_pos (bq (show cs.length<=100 by lia) (by decide)))) (by lia)) (by rfl) ?_;refine yF (.lst (ls.map .str)) (r2:=[C,B,A,.v (.lst (ls.map .str))]) ?_ (by rfl) (x5 ?_)
   ·unfold qN vR wS;have r3:ZO (mC (.int 3)) [C,B,A,.un]=some ((List.range 3).map λk=>.int ((0:Int)+(k:Nat))):=zA4 (n:=3) zM (by decide);rw[r3,aa,if_pos (by rw[ao,ni];exact xW (by decide)),show Y0 [1,2] 3 [C,B,A,.un]=[B,A,.un] from rfl,l3];rfl
   ·show _=some (D.lst (W.map .str));rw[fo];refine zRF (l:=ls.map .str) rfl (ZP (zR (yK (x:=.str cs) (y:=.str [113]) rfl zM (kB (by simp;lia))) (zR (yK (x:=.str cs) (y:=.str [113,97]) rfl zM (kB (by simp;lia))) (zR (yK (x:=.str (cs.take 1)) (y:=.str [113,117]) (QX (x:=.str cs) (a:=none) (b:=some ((1:Nat):Int)) rfl (by rfl) (jF zM) (by rw[mU (by lia),zIK])) zM (kB (by simp;lia))) (zR (yK (x:=.str (cs.drop 1)) (y:=.str [113,122]) (QX (x:=.str cs) (a:=some ((1:Nat):Int)) (b:=none) rfl (jF zM) (by rfl) (by rw[mU (by lia),YJ])) zM (kB (by simp;lia))) (zR (yK (x:=.str ([122]++cs)) (y:=.str [113]) (yK (x:=.str [122]) (y:=.str cs) zM rfl (kB (by simp;lia))) zM (kB (by simp;lia))) yT))))) (by show 5<=100;decide)) (by simp[l1])
theorem pw6:zJ zNG (mC (.int 10)) (mC (.int 6)) r=some (.int 1000000):=rfl
structure Laid(e:Ex)(v:Lv):Prop where
 g:gr e
 d:dp e<=1
 n:nd e<=3
 ev:∀df env d,Mk e d->∃t,t<=10/\Ev df env d 0 (lm v) t 10
theorem t1(e1:f z=some a):yY (zA f zT) z=some (.tup [a]):=d8 (zR e1 yT) (by show 1<=100;decide)
theorem t2(e1:f z=some a)(e2:g z=some b):yY (zA f (zA g zT)) z=some (.tup [a,b]):=d8 (zR e1 (zR e2 yT)) (by show 2<=100;decide)
theorem t3(e1:f z=some a)(e2:g z=some b)(e3:h z=some c):yY (zA f (zA g (zA h zT))) z=some (.tup [a,b,c]):=d8 (zR e1 (zR e2 (zR e3 yT))) (by show 3<=100;decide)
theorem t4(e1:f z=some a)(e2:g z=some b)(e3:h z=some c)(e4:k z=some d):yY (zA f (zA g (zA h (zA k zT)))) z=some (.tup [a,b,c,d]):=d8 (zR e1 (zR e2 (zR e3 (zR e4 yT)))) (by show 4<=100;decide)
theorem zG3{n:Int}(hn:0<=n){ls:List (List Nat)}(hL:Lbs ls):∃e v,Laid e v/\∃as,xJ [.v (.int n),.v (.lst (ls.map .str))]=some (.v (.tup [toD e,ld v]),as):=by
 let N:Sl:=.v (.int n)
 let L:Sl:=.v (.lst (ls.map .str))
 let x:Int:=n / 20*7919 % 1000000
 have xs:zI4 x:=⟨fq _ (by decide),dm _ (by decide)⟩
 let X:Sl:=.v (.int x)
 have e8:0<=n / 5 % 8/\n / 5 % 8<(ls.length:Int):=⟨fq _ (by decide),by rw[hL.len];exact dm _ (by decide)⟩;obtain⟨l,hl,el⟩:=pN (l:=ls) (r:=[N,L,X,.un]) (f:=zF 1) (g:=zJ jI (zJ xY (zF 0) (mC (.int 5))) (mC (.int 8))) (i:=n / 5 % 8) rfl (qJ (wU rfl zM (by decide)) zM (by decide)) e8.1 e8.2;have lk:=hL.ok l hl
 let R:En:=[N,L,X,.v (.str l)]
 have z0:0<=n % 5:=fq _ (by decide);have z5:n % 5<5:=dm _ (by decide);have m5:zJ jI (zF 0) (mC (.int 5)) R=some (.int (n % 5)):=qJ rfl zM (by decide);have c1:mBl (zJ ltA (zJ jI (zF 0) (mC (.int 5))) (mC (.int 2))) R=some (decide (n % 5<2)):=dU (yK (x:=.int (n % 5)) (y:=.int 2) m5 zM rfl);have c2:mBl (zJ eqA (zJ jI (zF 0) (mC (.int 5))) (mC (.int 2))) R=some (decide (n % 5=2)):=dU (yK (x:=.int (n % 5)) (y:=.int 2) m5 zM rfl);have c3:mBl (zJ eqA (zJ jI (zF 0) (mC (.int 5))) (mC (.int 3))) R=some (decide (n % 5=3)):=dU (yK (x:=.int (n % 5)) (y:=.int 3) m5 zM rfl);have s2:zJ jI (zJ hI (zJ xY (zF 0) (mC (.int 20))) (mC (.int 7919))) (zJ zNG (mC (.int 10)) (mC (.int 6))) [N,L,.un,.un]=some (.int x):=qJ (yK (x:=.int (n / 20)) (y:=.int 7919) (wU rfl zM (by decide)) zM (if_pos (.inr (by decide)))) pw6 (by decide);by_cases h1:n % 5<2
 ·rw[decide_eq_true h1] at c1;refine⟨.num x,.int x,⟨xs,by show 0<=1;decide,by show 1<=3;decide,λdf env d hm=>?_⟩,kF (r':=R) ?_⟩
  ·cases hm with
   |num _ m=>exact⟨2,by decide,(zCK (df:=df) (env:=env) x m).mono (by decide)⟩
  ·show y4 [N,L,.un,.un]=_;unfold y4;refine yF (.int x) (r2:=[N,L,X,.un]) s2 (by rfl) (yF (.str l) (r2:=R) el (by rfl) ?_);exact vK c1 (x5 (t2 (t2 zM rfl) rfl))
 ·rw[decide_eq_false h1] at c1;by_cases h2:n % 5=2
  ·rw[decide_eq_true h2] at c2;refine⟨.emp,.rc0,⟨trivial,by show 0<=1;decide,by show 1<=3;decide,λdf env d hm=>?_⟩,kF (r':=R) ?_⟩
   ·cases hm with
    |emp m=>exact⟨2,by decide,(zCM (df:=df) (env:=env) m).mono (by decide)⟩
   ·show y4 [N,L,.un,.un]=_;unfold y4;refine yF (.int x) (r2:=[N,L,X,.un]) s2 (by rfl) (yF (.str l) (r2:=R) el (by rfl) ?_);exact wW c1 (vK c2 (x5 (t2 (t1 zM) (t2 zM (d8 yT (by show 0<=100;decide))))))
  ·rw[decide_eq_false h2] at c2;by_cases h3:n % 5=3
   ·rw[decide_eq_true h3] at c3;refine⟨.wth l (.num x) .emp,.rc1 l x,⟨⟨lk,xs,trivial⟩,by show max 0 0+1<=1;decide,by show 1+1+1<=3;decide,λdf env d hm=>?_⟩,kF (r':=R) ?_⟩
    ·cases hm with
     |wth _ m ha hb=>cases ha with
      |num _ m1=>cases hb with
       |emp m2=>exact⟨6,by decide,(JR (m:=m) (f:=l) (ks:=[]) (l:=[]) (by show 0<=100000;decide) rfl (zCK (df:=df) (env:=env) x m1) (zCM (df:=df) (env:=env) m2)).mono (by decide)⟩
    ·show y4 [N,L,.un,.un]=_;unfold y4;refine yF (.int x) (r2:=[N,L,X,.un]) s2 (by rfl) (yF (.str l) (r2:=R) el (by rfl) ?_);exact wW c1 (wW c2 (vK c3 (x5 (t2 (t4 zM rfl (t2 zM rfl) (t1 zM)) (t2 zM (t1 (t2 rfl rfl)))))))
   ·rw[decide_eq_false h3] at c3;refine⟨.tag l (.num x),.one l x,⟨⟨lk,xs⟩,by show 0+1<=1;decide,by show 1+1<=3;decide,λdf env d hm=>?_⟩,kF (r':=R) ?_⟩
    ·cases hm with
     |tag _ m ha=>cases ha with
      |num _ m1=>exact⟨4,by decide,(zLS (zCK (df:=df) (env:=env) x m1)).mono (by decide)⟩
    ·show y4 [N,L,.un,.un]=_;unfold y4;refine yF (.int x) (r2:=[N,L,X,.un]) s2 (by rfl) (yF (.str l) (r2:=R) el (by rfl) ?_);exact wW c1 (wW c2 (wW c3 (x5 (t2 (t3 zM rfl (t2 zM rfl)) (t3 zM rfl rfl)))))
noncomputable abbrev Hd:=Option (List Nat×Wo×Nat)
def zC8(df:D)(T H:Nat):Hd->Prop
 |none=>True
 |some (nm,w,c)=>∃kd ld d t,df=.dct kd ld/\yW kd ld (ky nm)=some d/\t<=T/\Ev df (.dct [] []) d c (mv w) t H
structure Iv(hd:Hd)(j c:Nat)(told:Ex)(w:Wo):Prop where
 g:gr told
 d:dp told<=j+6
 n:nd told<=10*j+2
 ev:∀df T H,zC8 df T H hd->∀d,Mk told d->∃t,t<=T+30*(j+1)/\Ev df (.dct [] []) d c (mv w) t (H+30*(j+1))
structure FOk(ls:List (List Nat))(fs:Fs Lv):Prop where
 nd:(nsF fs).Nodup
 sub:∀s∈nsF fs,s∈ls
theorem JH:∀(l m:List (List Nat)),l.Nodup->(∀s∈l,s∈m)->l.length<=m.length
 |[],m,_,_=>ck _
 |a::l,m,hn,hs=>by
  rw[dg] at hn;have ha:=hs a (by simp);have ih:=JH l (m.erase a) hn.2 λs h=>(List.mem_erase_of_ne (λz=>by subst z;exact hn.1 h)).mpr (hs s (by simp[h]))
  rw[List.length_erase_of_mem ha] at ih
  have:=List.length_pos_of_mem ha
  rw[au];lia
theorem FOk.len(hL:Lbs ls)(h:FOk ls fs):fs.length<=8:=by
 have:=JH _ _ h.nd h.sub
 rw[hL.len] at this;unfold nsF at this
 rwa [ao] at this
theorem FOk.pn(h:FOk ls fs)(hs:s∈ls)(v:Lv):FOk ls (pnF fs s v):=⟨zBB h.nd,λt ht=>by
 rw[zI9] at ht;split at ht
 ·exact h.sub t ht
 ·rcases cq.mp ht with z|z
  ·exact h.sub t z
  ·rw[cj.mp z];exact hs⟩
theorem FOk.dr(h:FOk ls fs)(s:List Nat):FOk ls (drF fs s):=⟨h.nd.sublist (W2 s fs),λt ht=>h.sub t ((W2 s fs).subset ht)⟩
theorem WQ(fs:Fs α):(ksF fs).length=fs.length:=by unfold ksF;rw[ao]
theorem Z5{t1 t2:Nat}(hl:fs.length<=8)(hn:(nsF fs).Nodup)(hf:f∉nsF fs)(ra:Ev df env a c1 (lm v) t1 h)(rb:Ev df env b c2 (mv (.r fs)) t2 h):Ev df env (.tup [.str [119,105,116,104],.str f,a,b,m]) (c1+c2) (mv (.r (pnF fs f v))) (t1+t2+2) (h+3):=by
 have q:=JR (m:=m) (f:=f) (ks:=ksF fs) (l:=vsF lm fs) (by rw[WQ];lia) (by rw[uC,lk_none.mpr hf];rfl) ra rb;rw[zI7 lm hn] at q;exact q
theorem Z6{t1 t2:Nat}(hl:fs.length<=8)(hn:(nsF fs).Nodup)(hf:f∈nsF fs)(ra:Ev df env a c1 (lm v) t1 h)(rb:Ev df env b c2 (mv (.r fs)) t2 h):Ev df env (.tup [.str [112,117,116],.str f,a,b,m]) (c1+c2) (mv (.r (pnF fs f v))) (t1+t2+2) (h+3):=by
 obtain⟨u,e⟩:=jV hf;have q:=zLT (m:=m) (f:=f) (ks:=ksF fs) (l:=vsF lm fs) (by rw[WQ];lia) (by rw[uC,e];rfl) ra rb;rw[zI7 lm hn] at q;exact q
theorem Z7(hf:lkF fs f=some v)(rb:Ev df env b c (mv (.r fs)) t h):Ev df env (.tup [.str [103,101,116],.str f,b,m]) c (lm v) (t+2) (h+3):=
 zLU (m:=m) (f:=f) (ks:=ksF fs) (l:=vsF lm fs) (by rw[uC,hf];rfl) rb
theorem zCL(hf:f∈nsF fs)(rb:Ev df env b c (mv (.r fs)) t h):Ev df env (.tup [.str [108,101,115,115],.str f,b,m]) c (mv (.r (drF fs f))) (t+2) (h+3):=by
 obtain⟨u,e⟩:=jV hf;have q:=zHJ (m:=m) (f:=f) (ks:=ksF fs) (l:=vsF lm fs) (by rw[uC,e];rfl) rb;rw[zCV] at q;exact q
theorem zMZ:∀fs:Fs α,lkF (pnF fs s v) s=some v
 |[]=>by unfold pnF lkF;rw[if_pos rfl]
 |p::fs=>by
  unfold pnF;by_cases h:p.1=s
  ·rw[if_pos h];unfold lkF;rw[if_pos rfl]
  ·rw[if_neg h];unfold lkF;rw[if_neg h,zMZ fs]
theorem zG6(h:Iv hd j c told (.r fs))(hl:fs.length<=8)(hn:(nsF fs).Nodup)(kf:NmC f)(hf:f∉nsF fs)(le:Laid e v):Iv hd (j+1) (c+0) (.wth f e told) (.r (pnF fs f v)):=by
 have hd':=h.d;have hn':=h.n
 have:=le.d
 have:=le.n
 refine⟨⟨kf,le.g,h.g⟩,by show max (dp e) (dp told)+1<=_;lia,by show 1+nd e+nd told<=_;lia,λdf T H hh d hm=>?_⟩;cases hm with
 |wth _ m ha hb=>
  obtain⟨t1,a1,a2⟩:=le.ev df (.dct [] []) _ ha;obtain⟨t2,b1,b2⟩:=h.ev df T H hh _ hb;have q:=Z5 (m:=m) hl hn hf (a2.mono (show 10<=H+30*(j+1) by lia)) b2;rw[pb] at q;exact⟨t1+t2+2,by lia,q.mono (by lia)⟩
theorem zLJ(h:Iv hd j c told (.r fs))(hl:fs.length<=8)(hn:(nsF fs).Nodup)(kf:NmC f)(hf:f∈nsF fs)(le:Laid e v):Iv hd (j+1) (c+0) (.put f e told) (.r (pnF fs f v)):=by
 have hd':=h.d;have hn':=h.n
 have:=le.d
 have:=le.n
 refine⟨⟨kf,le.g,h.g⟩,by show max (dp e) (dp told)+1<=_;lia,by show 1+nd e+nd told<=_;lia,λdf T H hh d hm=>?_⟩;cases hm with
 |put _ m ha hb=>
  obtain⟨t1,a1,a2⟩:=le.ev df (.dct [] []) _ ha;obtain⟨t2,b1,b2⟩:=h.ev df T H hh _ hb;have q:=Z6 (m:=m) hl hn hf (a2.mono (show 10<=H+30*(j+1) by lia)) b2;rw[pb] at q;exact⟨t1+t2+2,by lia,q.mono (by lia)⟩
theorem zG8(h:Iv hd j c told (.r fs))(kf:NmC f)(hf:f∈nsF fs):Iv hd (j+1) (c+0) (.les f told) (.r (drF fs f)):=by
 have hd':=h.d;have hn':=h.n;refine⟨⟨kf,h.g⟩,by show dp told+1<=_;lia,by show 1+nd told<=_;lia,λdf T H hh d hm=>?_⟩;cases hm with
 |les _ m hb=>
  obtain⟨t2,b1,b2⟩:=h.ev df T H hh _ hb;exact⟨t2+2,by lia,(zCL (m:=m) hf b2).mono (by lia)⟩
theorem zLK(h:Iv hd j c told (.r fs))(kf:NmC f)(hf:lkF fs f=some v):Iv hd (j+1) c (.get f told) (.l v):=by
 have hd':=h.d;have hn':=h.n;refine⟨⟨kf,h.g⟩,by show dp told+1<=_;lia,by show 1+nd told<=_;lia,λdf T H hh d hm=>?_⟩;cases hm with
 |get _ m hb=>
  obtain⟨t2,b1,b2⟩:=h.ev df T H hh _ hb;exact⟨t2+2,by lia,(Z7 (m:=m) hf b2).mono (by lia)⟩
structure Held(x label:List Nat)(fs:Fs Lv)(e:Ex)(u:Lv):Prop where
 g:gr e
 d:dp e<=2
 n:nd e<=5
 ev:∀df d,Mk e d->∃t g,t<=14/\lkF g label=some u/\Ev df (.dct [ky x] [mv (.r fs)]) d 0 (mv (.r g)) t 13
theorem zGY(s:List Nat)(v:D):yW [ky s] [v] (ky s)=some v:=by
 unfold yW;rw[if_pos rfl]
theorem zHE(kx:NmC x)(hu:lkF fs label=some u):Held x label fs (.nm x) u:=⟨kx,by show 0<=2;decide,by show 1<=5;decide,λdf d hm=>by
 cases hm with
 |nm _ m=>exact⟨2,fs,by decide,hu,(cI (df:=df) m (zGY x _)).mono (by decide)⟩⟩
theorem zCD(kx:NmC x)(kl:NmC label)(hl:fs.length<=8)(hn:(nsF fs).Nodup)(hi:label∈nsF fs)(le:Laid e v):Held x label fs (.put label e (.nm x)) v:=by
 have:=le.d
 have:=le.n
 refine⟨⟨kl,le.g,kx⟩,by show max (dp e) 0+1<=2;lia,by show 1+nd e+1<=5;lia,λdf d hm=>?_⟩;cases hm with
 |put _ m ha hb=>cases hb with
  |nm _ m2=>
   obtain⟨t1,a1,a2⟩:=le.ev df (.dct [ky x] [mv (.r fs)]) _ ha;have q:=Z6 (m:=m) hl hn hi a2 ((cI (df:=df) m2 (zGY x (mv (.r fs)))).mono (show 2<=10 by decide));exact⟨t1+2+2,pnF fs label v,by lia,zMZ fs,q⟩
noncomputable def wp(b:Bool)(o:List Nat)(a e:Ex):Ex:=if b then .put o a e else .wth o a e
theorem zOU(h:Iv hd j c told (.r fs))(hl:fs.length<=8)(hn:(nsF fs).Nodup)(kx:NmC x)(kl:NmC label)(ko:NmC o)(he:Held x label fs e u):Iv hd (j+1) (c+1) (.doo (.fn x (wp (decide (o∈nsF fs)) o (.get label e) (.nm x))) told) (.r (pnF fs o u)):=by
 have hd':=h.d;have hn':=h.n;have h1:=he.d;have h2:=he.n;have fin:∀(df d db:D) (T H:Nat) (m m1:D),zC8 df T H hd->Mk told d->(∃t,t<=20/\Ev df (.dct [ky x] [mv (.r fs)]) db 0 (mv (.r (pnF fs o u))) t 20)->∃t,t<=T+30*(j+1+1)/\Ev df (.dct [] []) (.tup [.str [100,111],.tup [.str [102,110],.str x,db,m1],d,m]) (c+1) (mv (.r (pnF fs o u))) t (H+30*(j+1+1)):=λdf d db T H m m1 hh hm hb=>by
  obtain⟨t2,b1,b2⟩:=h.ev df T H hh _ hm;obtain⟨t3,c1,c2⟩:=hb;have q:=zO0 (m:=m) (h:=H+30*(j+1)) (s:=x) (ks:=[]) (l:=[]) (by show 0<=100000;decide) ((zOZ (df:=df) (env:=.dct [] []) x db m1).mono (by lia)) b2 (c2.mono (by lia));rw[show 0+c+1+0=c+1 by lia] at q;exact⟨_,by lia,q.mono (by lia)⟩
 by_cases z:o∈nsF fs
 ·have ew:wp (decide (o∈nsF fs)) o (.get label e) (.nm x)=.put o (.get label e) (.nm x):=by unfold wp;rw[if_pos (decide_eq_true z)]
  rw[ew];refine⟨⟨⟨kx,ko,⟨kl,he.g⟩,kx⟩,h.g⟩,by show max (max (dp e+1) 0+1+1) (dp told)+1<=_;lia,by show 1+(1+(1+(1+nd e)+1))+nd told<=_;lia,λdf T H hh d hm=>?_⟩;cases hm with
  |doo m hf hq=>cases hf with
   |fn _ m1 hb=>
    refine fin df _ _ T H m m1 hh hq ?_;cases hb with
    |put _ m2 ha hb=>cases ha with
     |get _ m3 ha=>cases hb with
      |nm _ m4=>
       obtain⟨t,g,g1,g2,g3⟩:=he.ev df _ ha;have q:=Z6 (m:=m2) hl hn z (Z7 (m:=m3) g2 g3) ((cI (df:=df) m4 (zGY x (mv (.r fs)))).mono (show 2<=13+3 by decide));exact⟨t+2+2+2,by lia,q.mono (by decide)⟩
 ·have ew:wp (decide (o∈nsF fs)) o (.get label e) (.nm x)=.wth o (.get label e) (.nm x):=by unfold wp;rw[decide_eq_false z];rfl
  rw[ew];refine⟨⟨⟨kx,ko,⟨kl,he.g⟩,kx⟩,h.g⟩,by show max (max (dp e+1) 0+1+1) (dp told)+1<=_;lia,by show 1+(1+(1+(1+nd e)+1))+nd told<=_;lia,λdf T H hh d hm=>?_⟩;cases hm with
  |doo m hf hq=>cases hf with
   |fn _ m1 hb=>
    refine fin df _ _ T H m m1 hh hq ?_;cases hb with
    |wth _ m2 ha hb=>cases ha with
     |get _ m3 ha=>cases hb with
      |nm _ m4=>
       obtain⟨t,g,g1,g2,g3⟩:=he.ev df _ ha;have q:=Z5 (m:=m2) hl hn z (Z7 (m:=m3) g2 g3) ((cI (df:=df) m4 (zGY x (mv (.r fs)))).mono (show 2<=13+3 by decide));exact⟨t+2+2+2,by lia,q.mono (by decide)⟩
theorem zC5:∀{kn:List (List Nat)},((kn.map D.str).any λz=>eqF z (.str x))=decide (x∈kn)
 |[]=>rfl
 |a::kn=>by
  have ih:=zC5 (x:=x) (kn:=kn);rw[aq,jo,ih];show(decide (a=x) || decide (x∈kn))=_;by_cases h:a=x
  ·rw[decide_eq_true h,decide_eq_true (show x∈a::kn by simp[h])];rfl
  ·have h':¬x=a:=λz=>h z.symm
   rw[decide_eq_false h,Bool.false_or];simp[h']
theorem n9(l:List (List Nat)):(l.map D.str).all jJ=true:=by
 rw[on];intro d hd;obtain⟨s,_,rfl⟩:=fg.mp hd;rfl
theorem zCB{x:List Nat}{kn:List (List Nat)}:inD true (.str x) (.lst (kn.map D.str))=some (.bl (decide (x∉kn))):=by
 show(if jJ (.str x)=true/\(kn.map D.str).all jJ=true then some (D.bl (!((kn.map D.str).any λz=>eqF z (.str x)))) else none)=_;rw[if_pos ⟨rfl,n9 _⟩,zC5];by_cases h:x∈kn
 ·rw[decide_eq_true h,decide_eq_false (by simpa using h)];rfl
 ·rw[decide_eq_false h,decide_eq_true h];rfl
theorem zOV{x:List Nat}{kn:List (List Nat)}:inD false (.str x) (.lst (kn.map D.str))=some (.bl (decide (x∈kn))):=by
 show(if jJ (.str x)=true/\(kn.map D.str).all jJ=true then some (D.bl ((kn.map D.str).any λz=>eqF z (.str x))) else none)=_;rw[if_pos ⟨rfl,n9 _⟩,zC5]
theorem YL{c:MB}{x:ME}{j:Nat}{mk:Sl->En}{p:List Nat->Bool}(hj:∀s d,fre s->yV j d (mk s)=some (mk (.v d))):∀(L:List (List Nat)) (s:Sl),fre s->(∀a∈L,c (mk (.v (.str a)))=some (p a)/\x (mk (.v (.str a)))=some (.str a))->kI (yV j) c x (L.map .str) (mk s)=some ((L.filter p).map .str)
 |[],s,hs,h=>rfl
 |a::L,s,hs,h=>by
  obtain⟨h1,h2⟩:=h a (by simp);have ih:=YL (p:=p) hj L (.v (.str a)) trivial λb hb=>h b (by simp[hb])
  rw[aq];unfold kI;rw[hj s _ hs,aa,h1,aa];cases hp:p a with
  |true=>rw[if_pos rfl,h2,aa,ih,ut hp];rfl
  |false=>rw[if_neg (by decide),ih,uv (by rw[hp];decide)]
noncomputable def dA:MS:=(yL (qH 8 (zJ ixD (zF 5) (zJ jI (zF 7) (mUn gW (zF 5))))) (yL (zIW (yD 2 xJ (zA (zJ xY (zF 7) (mC (.int 8))) (zA (zF 3) zT))) (qI 2 (yE (yV 9) (yE (yV 10) qZ)))) (yL (u4 1 (zF 8) (zF 10)) (jD (yY (zA (yY (zA (mC (.str [119,105,116,104])) (zA (zF 8) (zA (zF 9) (zA (zF 0) zT))))) (zA (mC (.int 0)) zT)))))))
noncomputable def dL:MS:=(yL (sX (WH 1 (zF 8))) (jD (yY (zA (yY (zA (mC (.str [108,101,115,115])) (zA (zF 8) (zA (zF 0) zT)))) (zA (mC (.int 0)) zT)))))
noncomputable def dD:MS:=(yL (qH 11 (zJ ixD (zF 3) (zJ jI (zJ xY (zF 7) (mC (.int 64))) (mC (.int 8))))) (yL (qH 12 (zJ ixD (zF 3) (zJ jI (zJ xY (zF 7) (mC (.int 8))) (mC (.int 8))))) (yL (qH 13 (zJ ixD (qN (wD (zA (mC (.str [119,105,116,104])) (zA (mC (.str [112,117,116])) zT)))) (mUn zDL (zJ (inD false) (zF 12) (zF 4))))) (yL (zIW (yD 2 xJ (zA (zJ xY (zF 7) (mC (.int 1024))) (zA (zF 3) zT))) (qI 2 (yE (yV 9) (yE (yV 10) qZ)))) (yL (qH 14 (zJ ixD (qN (wD (zA (yY (zA (mC (.str [110,97,109,101])) (zA (zF 11) zT))) (zA (yY (zA (mC (.str [112,117,116])) (zA (zF 8) (zA (zF 9) (zA (yY (zA (mC (.str [110,97,109,101])) (zA (zF 11) zT))) zT))))) zT)))) (zJ jI (zJ xY (zF 7) (mC (.int 512))) (mC (.int 2))))) (yL (u4 1 (zF 12) (zJ ixD (qN (wD (zA (rH (zDJ 1) (zF 8)) (zA (zF 10) zT)))) (zJ jI (zJ xY (zF 7) (mC (.int 512))) (mC (.int 2))))) (jD (yY (zA (yY (zA (mC (.str [100,111])) (zA (yY (zA (mC (.str [102,110])) (zA (zF 11) (zA (yY (zA (zF 13) (zA (zF 12) (zA (yY (zA (mC (.str [103,101,116])) (zA (zF 8) (zA (zF 14) zT)))) (zA (yY (zA (mC (.str [110,97,109,101])) (zA (zF 11) zT))) zT))))) zT)))) (zA (zF 0) zT)))) (zA (mC (.int 1)) zT))))))))))
noncomputable def dP:MS:=(yL (zIW (yD 2 xJ (zA (zJ xY (zF 7) (mC (.int 8))) (zA (zF 3) zT))) (qI 2 (yE (yV 9) (yE (yV 10) qZ)))) (yL (u4 1 (zF 8) (zF 10)) (jD (yY (zA (yY (zA (mC (.str [112,117,116])) (zA (zF 8) (zA (zF 9) (zA (zF 0) zT))))) (zA (mC (.int 0)) zT))))))
noncomputable def cA:MB:=(zJE (WJ (zIX (zF 4)) (wD zT)) (nR (mBl (zJ ltA (zF 6) (mC (.int 2)))) (WI (zIX (zF 5)) (wD zT))))
noncomputable def zMH:MS:=(yL (qH 8 (zJ ixD (zF 4) (zJ jI (zF 7) (mUn gW (zF 4))))) (yL (sIf (mBl (zJ eqA (zF 6) (mC (.int 3)))) dL wB) (yL (sIf (mBl (zJ eqA (zF 6) (mC (.int 4)))) dD wB) dP)))
noncomputable def zDG:MS:=(yL (sIf cA dA wB) zMH)
noncomputable abbrev Er(T dk:Sl)(n:Int)(ls th la:List (List Nat))(x8 x9 x10 x11 x12 x13 x14:Sl):En:=[T,dk,.v (.int n),.v (.lst (ls.map .str)),.v (.lst (th.map .str)),.v (.lst (la.map .str)),.v (.int (n % 6)),.v (.int (n / 6)),x8,x9,x10,x11,x12,x13,x14]
noncomputable def zM0(ls th:List (List Nat)):List (List Nat):=ls.filter λs=>decide (s∉th)
theorem rP{T:Sl}{fs:Fs Lv}(hl:fs.length<=8)(n:Int){ls:List (List Nat)}(hL:Lbs ls):wE [T,.d true (ksF fs) (vsF ld fs),.v (.int n),.v (.lst (ls.map .str)),.un,.un,.un,.un,.un,.un,.un,.un,.un,.un,.un]=zDG (Er T (.d true (ksF fs) (vsF ld fs)) n ls (kJ (nsF fs)) (zM0 ls (kJ (nsF fs))) .un .un .un .un .un .un .un):=by
 let th:=kJ (nsF fs)
 let A:Sl:=.d true (ksF fs) (vsF ld fs)
 let N:Sl:=.v (.int n)
 let L:Sl:=.v (.lst (ls.map .str))
 let TH:Sl:=.v (.lst (th.map .str))
 have nl:(nsF fs).length=fs.length:=by unfold nsF;rw[ao]
 unfold wE;refine yF (.lst (th.map .str)) (r2:=[T,A,N,L,TH,.un,.un,.un,.un,.un,.un,.un,.un,.un,.un]) ?_ (by rfl) ?_
 ·unfold qN;rw[cZ (ss:=nsF fs) (l:=vsF ld fs) (by rw[<-JJ];rfl) (by lia)];rfl
 refine yF (.lst ((zM0 ls th).map .str)) (r2:=[T,A,N,L,TH,.v (.lst ((zM0 ls th).map .str)),.un,.un,.un,.un,.un,.un,.un,.un,.un]) ?_ (by rfl) ?_
 ·have e:qN (wS [4] 2 (mIt (zF 3)) (yV 1) (mBl (zJ (inD true) (zF 1) (zF 0))) (zF 1)) [T,A,N,L,TH,.un,.un,.un,.un,.un,.un,.un,.un,.un,.un]=Option.map D.lst (wS [4] 2 (mIt (zF 3)) (yV 1) (mBl (zJ (inD true) (zF 1) (zF 0))) (zF 1) [T,A,N,L,TH,.un,.un,.un,.un,.un,.un,.un,.un,.un,.un]):=rfl;rw[e];unfold wS;have it:mIt (zF 3) [T,A,N,L,TH,.un,.un,.un,.un,.un,.un,.un,.un,.un,.un]=some (ls.map .str):=rfl;have l8:=hL.len;rw[it,aa,if_pos (by rw[ao];exact xW (by lia)),show Y0 [4] 2 [T,A,N,L,TH,.un,.un,.un,.un,.un,.un,.un,.un,.un,.un]=[TH,.un] from rfl];rw[YL (c:=mBl (zJ (inD true) (zF 1) (zF 0))) (x:=zF 1) (j:=1) (mk:=λs=>[TH,s]) (p:=λs=>decide (s∉th)) (λs d hs=>yQ (i:=1) (x:=s) rfl hs) ls .un trivial λa _=>⟨dU (yK (x:=.str a) (y:=.lst (th.map .str)) rfl rfl zCB),rfl⟩];rfl
 refine yF (.int (n % 6)) (r2:=[T,A,N,L,TH,.v (.lst ((zM0 ls th).map .str)),.v (.int (n % 6)),.un,.un,.un,.un,.un,.un,.un,.un]) (qJ rfl zM (by decide)) (by rfl) ?_;refine yF (.int (n / 6)) (r2:=Er T A n ls th (zM0 ls th) .un .un .un .un .un .un .un) (wU rfl zM (by decide)) (by rfl) ?_;rfl
theorem zB6{r:En}{f:ME}{l:List (List Nat)}(h:f r=some (.lst (l.map .str))):mUn gW f r=some (.int (l.length:Int)):=bP h (by show some (D.int ((l.map D.str).length:Int))=_;rw[ao])
theorem zIQ(hf:f r=some (.lst (l.map .str)))(hg:g r=some (.int i))(h:l≠[]):∃s∈l,zJ ixD f (zJ jI g (mUn gW f)) r=some (.str s):=by
 have hp:0<l.length:=qx.mpr h;exact pN (l:=l) (i:=i % (l.length:Int)) hf (qJ hg (zB6 hf) (by lia)) (fq _ (by lia)) (dm _ (by lia))
theorem h8(hL:Lbs ls)(hi:0<=i)(hg:g (Er T dk n ls th la x8 .un .un x11 x12 x13 x14)=some (.int i)):∃e v,Laid e v/\zIW (yD 2 xJ (zA g (zA (zF 3) zT))) (qI 2 (yE (yV 9) (yE (yV 10) qZ))) (Er T dk n ls th la x8 .un .un x11 x12 x13 x14)=some (.nx (Er T dk n ls th la x8 (.v (toD e)) (.v (ld v)) x11 x12 x13 x14)):=by
 obtain⟨e,v,le,q⟩:=zG3 hi hL;refine⟨e,v,le,?_⟩;unfold zIW;have cc:yD 2 xJ (zA g (zA (zF 3) zT)) (Er T dk n ls th la x8 .un .un x11 x12 x13 x14)=some (.tup [toD e,ld v]):=xN (p:=.v (.tup [toD e,ld v])) (zR hg (zR rfl yT)) rfl q;rw[cc,aa];show Option.map Fl.nx (qI 2 (yE (yV 9) (yE (yV 10) qZ)) (.tup [toD e,ld v]) _)=_;rw[bdP (r1:=Er T dk n ls th la x8 (.v (toD e)) .un x11 x12 x13 x14) (by rfl) (by rfl)];rfl
theorem YC(hl:fs.length<=8)(hn:(nsF fs).Nodup)(hk:fk (Er T (.d true (ksF fs) (vsF ld fs)) n ls th la x8 x9 x10 x11 x12 x13 x14)=some (.str s))(he:fe (Er T (.d true (ksF fs) (vsF ld fs)) n ls th la x8 x9 x10 x11 x12 x13 x14)=some (ld v)):u4 1 fk fe (Er T (.d true (ksF fs) (vsF ld fs)) n ls th la x8 x9 x10 x11 x12 x13 x14)=some (.nx (Er T (.d true (ksF (pnF fs s v)) (vsF ld (pnF fs s v))) n ls th la x8 x9 x10 x11 x12 x13 x14)):=by
 unfold u4;rw[he,aa,hk,aa];show(if (ksF fs).length<af then some (Fl.nx (Er T (.d true (jQ (ksF fs) (vsF ld fs) (ky s) (ld v)).1 (jQ (ksF fs) (vsF ld fs) (ky s) (ld v)).2) n ls th la x8 x9 x10 x11 x12 x13 x14)) else none)=_;rw[if_pos (by rw[WQ];exact xW (by lia)),zI7 ld hn]
theorem zCX(h:wE (as++List.replicate 11 .un)=some (.rt d r'))(h1:(r'.take 4)[1]?=some dk):∃bs,x4 as=some (.v d,bs)/\bs[1]?=some dk:=by
 refine⟨r'.take 4,?_,h1⟩;show(wE (as++List.replicate (15-4) .un)).bind _=_;rw[h];rfl
theorem zH5{hd:Hd}{j c:Nat}{told:Ex}{fs:Fs Lv}(h:Iv hd j c told (.r fs)){ls:List (List Nat)}(hL:Lbs ls)(hF:FOk ls fs){n:Int}(hn:0<=n):∃(told':Ex) (fs':Fs Lv) (k:Nat),k<=1/\Iv hd (j+1) (c+k) told' (.r fs')/\FOk ls fs' /\
  ∃bs,x4 [.v (toD told),.d true (ksF fs) (vsF ld fs),.v (.int n),.v (.lst (ls.map .str))]=some (.v (.tup [toD told',.int (k:Int)]),bs)/\bs[1]?=some (.d true (ksF fs') (vsF ld fs')):=by
 have hl:=hF.len hL
 let T:Sl:=.v (toD told)
 let A:Sl:=.d true (ksF fs) (vsF ld fs)
 let th:=kJ (nsF fs)
 let la:=zM0 ls th
 have hth:∀s,s∈th↔s∈nsF fs:=λs=>(mS _).mem_iff
 have m6:0<=n / 6:=mh hn (by decide)
 let R:Sl->Sl->Sl->Sl->Sl->Sl->Sl->Sl->En:=λdk x8 x9 x10 x11 x12 x13 x14=>Er T dk n ls th la x8 x9 x10 x11 x12 x13 x14
 have start:∀{d:D} {r':En} {dk:Sl},zDG (R A .un .un .un .un .un .un .un)=some (.rt d r')->(r'.take 4)[1]?=some dk->∃bs,x4 [T,A,.v (.int n),.v (.lst (ls.map .str))]=some (.v d,bs)/\bs[1]?=some dk:=λ{d r' dk} q1 q2=>zCX ((rP (T:=T) hl n hL).trans q1) q2
 have c1:WJ (zIX (zF 4)) (wD zT) (R A .un .un .un .un .un .un .un)=some th.isEmpty:=by
  show(if ([]:List D).isEmpty=true then some (th.map D.str).isEmpty else none)=_;rw[if_pos (show([]:List D).isEmpty=true from rfl)];cases th<;>rfl
 have c2:mBl (zJ ltA (zF 6) (mC (.int 2))) (R A .un .un .un .un .un .un .un)=some (decide (n % 6<2)):=dU (yK (x:=.int (n % 6)) (y:=.int 2) rfl zM rfl);have c3:WI (zIX (zF 5)) (wD zT) (R A .un .un .un .un .un .un .un)=some (!la.isEmpty):=by
  show(if ([]:List D).isEmpty=true then some (!(la.map D.str).isEmpty) else none)=_;rw[if_pos (show([]:List D).isEmpty=true from rfl)];cases la<;>rfl
 have ca:cA (R A .un .un .un .un .un .un .un)=some (th.isEmpty || (decide (n % 6<2) && !la.isEmpty)):=by
  unfold cA zJE nR;rw[c1,aa];cases th.isEmpty with
  |true=>rfl
  |false=>
   rw[if_neg (by decide),c2,aa];cases decide (n % 6<2) with
   |true=>rw[if_pos rfl,c3];rfl
   |false=>rfl
 by_cases hA:(th.isEmpty || (decide (n % 6<2) && !la.isEmpty))=true
 ·rw[hA] at ca;have hne:la≠[]:=λz=>by
   rw[Bool.or_eq_true,bw] at hA;rcases hA with q|⟨_,q⟩
   ·have:th=[]:=List.isEmpty_iff.mp q
    have e:la=ls:=by show ls.filter (λs=>decide (s∉th))=ls;rw[this];simp
    rw[e] at z
    have:=hL.len
    rw[z] at this;cases this
   ·rw[z] at q;cases q
  obtain⟨s,hs,es⟩:=zIQ (l:=la) (r:=R A .un .un .un .un .un .un .un) (f:=zF 5) (g:=zF 7) (i:=n / 6) rfl rfl hne;obtain⟨hsl,hsn⟩:=sj.mp hs;have hsn:s∉nsF fs:=λz=>of_decide_eq_true hsn ((hth s).mpr z)
  obtain⟨e,v,le,ea⟩:=h8 (T:=T) (dk:=A) (n:=n) (th:=th) (la:=la) hL (x8:=.v (.str s)) (x11:=.un) (x12:=.un) (x13:=.un) (x14:=.un) (g:=zJ xY (zF 7) (mC (.int 8))) (i:=n / 6 / 8) (mh m6 (by decide)) (wU rfl zM (by decide));refine⟨.wth s e told,pnF fs s v,0,by decide,zG6 h hl hF.nd (hL.ok s hsl) hsn le,hF.pn hsl v,start (r':=R (.d true (ksF (pnF fs s v)) (vsF ld (pnF fs s v))) (.v (.str s)) (.v (toD e)) (.v (ld v)) .un .un .un .un) ?_ rfl⟩;unfold zDG;refine vK ca ?_;unfold dA;refine yF (.str s) (r2:=R A (.v (.str s)) .un .un .un .un .un .un) es (by rfl) ?_;rw[yP ea,yP (YC hl hF.nd (s:=s) (v:=v) rfl rfl)];exact x5 (t2 (t4 zM rfl rfl rfl) zM)
 ·have hA':(th.isEmpty || (decide (n % 6<2) && !la.isEmpty))=false:=by
   cases q:(th.isEmpty || (decide (n % 6<2) && !la.isEmpty)) with
   |true=>exact absurd q hA
   |false=>rfl
  rw[hA'] at ca;have hne:th≠[]:=λz=>by rw[z] at hA';cases hA'
  obtain⟨s,hs,es⟩:=zIQ (l:=th) (r:=R A .un .un .un .un .un .un .un) (f:=zF 4) (g:=zF 7) (i:=n / 6) rfl rfl hne;have hsn:s∈nsF fs:=(hth s).mp hs;have hsl:=hF.sub s hsn;have ks:=hL.ok s hsl
  let S:Sl:=.v (.str s)
  have cl:mBl (zJ eqA (zF 6) (mC (.int 3))) (R A S .un .un .un .un .un .un)=some (decide (n % 6=3)):=dU (yK (x:=.int (n % 6)) (y:=.int 3) rfl zM rfl);have cd:mBl (zJ eqA (zF 6) (mC (.int 4))) (R A S .un .un .un .un .un .un)=some (decide (n % 6=4)):=dU (yK (x:=.int (n % 6)) (y:=.int 4) rfl zM rfl);have go:∀{z:Option Fl},(yL (sIf (mBl (zJ eqA (zF 6) (mC (.int 3)))) dL wB) (yL (sIf (mBl (zJ eqA (zF 6) (mC (.int 4)))) dD wB) dP)) (R A S .un .un .un .un .un .un)=z->zDG (R A .un .un .un .un .un .un .un)=z:=λ{z} q=>by
   unfold zDG;refine wW ca ?_;unfold zMH;exact yF (.str s) (r2:=R A S .un .un .un .un .un .un) es (by rfl) q
  by_cases h3:n % 6=3
  ·rw[decide_eq_true h3] at cl;obtain⟨u,hu⟩:=jV hsn;refine⟨.les s told,drF fs s,0,by decide,zG8 h ks hsn,hF.dr s,start (r':=R (.d true (ksF (drF fs s)) (vsF ld (drF fs s))) S .un .un .un .un .un .un) (go (vK cl ?_)) rfl⟩;unfold dL;have ep:sX (WH 1 (zF 8)) (R A S .un .un .un .un .un .un)=some (.nx (R (.d true (ksF (drF fs s)) (vsF ld (drF fs s))) S .un .un .un .un .un .un)):=by
    refine c8 (d:=ld u) ?_;show((yW (ksF fs) (vsF ld fs) (ky s)).map λv=>(v,R (.d true (qF (ksF fs) (vsF ld fs) (ky s)).1 (qF (ksF fs) (vsF ld fs) (ky s)).2) S .un .un .un .un .un .un))=_;rw[uC,hu,zCV];rfl
   rw[yP ep];exact x5 (t2 (t3 zM rfl rfl) zM)
  ·rw[decide_eq_false h3] at cl;by_cases h4:n % 6=4
   ·rw[decide_eq_true h4] at cd;have e8:∀m:Int,0<=m % 8/\m % 8<(ls.length:Int):=λm=>⟨fq _ (by decide),by rw[hL.len];exact dm _ (by decide)⟩
    obtain⟨x,hx,ex⟩:=pN (l:=ls) (r:=R A S .un .un .un .un .un .un) (f:=zF 3) (g:=zJ jI (zJ xY (zF 7) (mC (.int 64))) (mC (.int 8))) (i:=n / 6 / 64 % 8) rfl (qJ (wU rfl zM (by decide)) zM (by decide)) (e8 _).1 (e8 _).2
    let X:Sl:=.v (.str x)
    obtain⟨o,ho,eo⟩:=pN (l:=ls) (r:=R A S .un .un X .un .un .un) (f:=zF 3) (g:=zJ jI (zJ xY (zF 7) (mC (.int 8))) (mC (.int 8))) (i:=n / 6 / 8 % 8) rfl (qJ (wU rfl zM (by decide)) zM (by decide)) (e8 _).1 (e8 _).2
    let O:Sl:=.v (.str o)
    let b:Bool:=decide (o∈nsF fs)
    let wd:List Nat:=if b then [112,117,116] else [119,105,116,104]
    let Wd:Sl:=.v (.str wd)
    have ew:zJ ixD (qN (wD (zA (mC (.str [119,105,116,104])) (zA (mC (.str [112,117,116])) zT)))) (mUn zDL (zJ (inD false) (zF 12) (zF 4))) (R A S .un .un X O .un .un)=some (.str wd):=by
     have i1:zJ (inD false) (zF 12) (zF 4) (R A S .un .un X O .un .un)=some (.bl (decide (o∈th))):=yK (x:=.str o) (y:=.lst (th.map .str)) rfl rfl zOV;have eb:decide (o∈th)=b:=by show _=decide (o∈nsF fs);rw[decide_eq_decide];exact hth o
     rw[eb] at i1;have l2:qN (wD (zA (mC (.str [119,105,116,104])) (zA (mC (.str [112,117,116])) zT))) (R A S .un .un X O .un .un)=some (.lst [.str [119,105,116,104],.str [112,117,116]]):=rfl;cases hb:b with
     |true=>rw[hb] at i1;rw[show wd=[112,117,116] from if_pos hb];exact yK l2 (bP (d:=.int 1) i1 rfl) rfl
     |false=>rw[hb] at i1;rw[show wd=[119,105,116,104] from if_neg (by rw[hb];decide)];exact yK l2 (bP (d:=.int 0) i1 rfl) rfl
    obtain⟨e,v,le,ea⟩:=h8 (T:=T) (dk:=A) (n:=n) (th:=th) (la:=la) hL (x8:=S) (x11:=X) (x12:=O) (x13:=Wd) (x14:=.un) (g:=zJ xY (zF 7) (mC (.int 1024))) (i:=n / 6 / 1024) (mh m6 (by decide)) (wU rfl zM (by decide));obtain⟨u0,hu0⟩:=jV hsn;have hz:n / 6 / 512 % 2=0\/n / 6 / 512 % 2=1:=by
     have:=fq (n / 6 / 512) (show(2:Int)≠0 by decide)
     have:=dm (n / 6 / 512) (show(0:Int)<2 by decide)
     lia
    have md:∀r:En,r[7]?=some (.v (.int (n / 6)))->zJ jI (zJ xY (zF 7) (mC (.int 512))) (mC (.int 2)) r=some (.int (n / 6 / 512 % 2)):=λr hr=>qJ (wU (Y9 hr) zM (by decide)) zM (by decide)
    have fin:∀(he:Ex) (u:Lv),Held x s fs he u->zJ ixD (qN (wD (zA (yY (zA (mC (.str [110,97,109,101])) (zA (zF 11) zT))) (zA (yY (zA (mC (.str [112,117,116])) (zA (zF 8) (zA (zF 9) (zA (yY (zA (mC (.str [110,97,109,101])) (zA (zF 11) zT))) zT))))) zT)))) (zJ jI (zJ xY (zF 7) (mC (.int 512))) (mC (.int 2))) (R A S (.v (toD e)) (.v (ld v)) X O Wd .un)=some (toD he) ->
      zJ ixD (qN (wD (zA (rH (zDJ 1) (zF 8)) (zA (zF 10) zT)))) (zJ jI (zJ xY (zF 7) (mC (.int 512))) (mC (.int 2))) (R A S (.v (toD e)) (.v (ld v)) X O Wd (.v (toD he)))=some (ld u) ->
      ∃(told':Ex) (fs':Fs Lv) (k:Nat),k<=1/\Iv hd (j+1) (c+k) told' (.r fs')/\FOk ls fs'/\∃bs,x4 [.v (toD told),.d true (ksF fs) (vsF ld fs),.v (.int n),.v (.lst (ls.map .str))]=some (.v (.tup [toD told',.int (k:Int)]),bs)/\bs[1]?=some (.d true (ksF fs') (vsF ld fs')):=λhe u hh e14 e10=>by
     refine⟨.doo (.fn x (wp b o (.get s he) (.nm x))) told,pnF fs o u,1,by decide,zOU h hl hF.nd (hL.ok x hx) ks (hL.ok o ho) hh,hF.pn ho u,start (r':=R (.d true (ksF (pnF fs o u)) (vsF ld (pnF fs o u))) S (.v (toD e)) (.v (ld v)) X O Wd (.v (toD he))) (go (wW cl (vK cd ?_))) rfl⟩;unfold dD;refine yF (.str x) (r2:=R A S .un .un X .un .un .un) ex (by rfl) ?_;refine yF (.str o) (r2:=R A S .un .un X O .un .un) eo (by rfl) ?_;refine yF (.str wd) (r2:=R A S .un .un X O Wd .un) ew (by rfl) ?_;rw[yP ea];refine yF (toD he) (r2:=R A S (.v (toD e)) (.v (ld v)) X O Wd (.v (toD he))) e14 (by rfl) ?_;rw[yP (YC hl hF.nd (s:=o) (v:=u) rfl e10)];have ed:toD (wp b o (.get s he) (.nm x))=.tup [.str wd,.str o,.tup [.str [103,101,116],.str s,toD he],.tup [.str [110,97,109,101],.str x]]:=by
      cases hb:b with
      |true=>rw[show wd=[112,117,116] from if_pos hb];rfl
      |false=>rw[show wd=[119,105,116,104] from if_neg (by rw[hb];decide)];rfl
     refine x5 (t2 ?_ zM);show _=some (D.tup [.str [100,111],.tup [.str [102,110],.str x,toD (wp b o (.get s he) (.nm x))],toD told]);rw[ed];exact t3 zM (t3 zM rfl (t4 rfl rfl (t3 zM rfl rfl) (t2 zM rfl))) rfl
    have a14:∀x14:Sl,qN (wD (zA (yY (zA (mC (.str [110,97,109,101])) (zA (zF 11) zT))) (zA (yY (zA (mC (.str [112,117,116])) (zA (zF 8) (zA (zF 9) (zA (yY (zA (mC (.str [110,97,109,101])) (zA (zF 11) zT))) zT))))) zT))) (R A S (.v (toD e)) (.v (ld v)) X O Wd x14)=some (.lst [toD (.nm x),toD (.put s e (.nm x))]):=λx14=>ZP (zR (t2 zM rfl) (zR (t4 zM rfl rfl (t2 zM rfl)) yT)) (by show 2<=100;decide)
    have a10:∀x14:Sl,qN (wD (zA (rH (zDJ 1) (zF 8)) (zA (zF 10) zT))) (R A S (.v (toD e)) (.v (ld v)) X O Wd x14)=some (.lst [ld u0,ld v]):=λx14=>ZP (zR (by
     show yW (ksF fs) (vsF ld fs) (ky s)=_;rw[uC,hu0];rfl) (zR rfl yT)) (by show 2<=100;decide)
    rcases hz with hz|hz
    ·exact fin (.nm x) u0 (zHE (hL.ok x hx) hu0) (yK (a14 _) (md _ rfl) (by rw[hz];rfl)) (yK (a10 _) (md _ rfl) (by rw[hz];rfl))
    ·exact fin (.put s e (.nm x)) v (zCD (hL.ok x hx) ks hl hF.nd hsn le) (yK (a14 _) (md _ rfl) (by rw[hz];rfl)) (yK (a10 _) (md _ rfl) (by rw[hz];rfl))
   ·rw[decide_eq_false h4] at cd;obtain⟨e,v,le,ea⟩:=h8 (T:=T) (dk:=A) (n:=n) (th:=th) (la:=la) hL (x8:=S) (x11:=.un) (x12:=.un) (x13:=.un) (x14:=.un) (g:=zJ xY (zF 7) (mC (.int 8))) (i:=n / 6 / 8) (mh m6 (by decide)) (wU rfl zM (by decide));refine⟨.put s e told,pnF fs s v,0,by decide,zLJ h hl hF.nd ks hsn le,hF.pn hsl v,start (r':=R (.d true (ksF (pnF fs s v)) (vsF ld (pnF fs s v))) S (.v (toD e)) (.v (ld v)) .un .un .un .un) (go (wW cl (wW cd ?_))) rfl⟩;unfold dP;rw[yP ea,yP (YC hl hF.nd (s:=s) (v:=v) rfl rfl)];exact x5 (t2 (t4 zM rfl rfl rfl) zM)
noncomputable abbrev Pr:=List (List Nat×Ex)
noncomputable def prog(ps:Pr):List D:=ps.map λp=>.tup [.str p.1,toD p.2]
def MkP:Pr->List D->Prop
 |[],l=>l=[]
 |p::ps,l=>∃d t,l=d::t/\Mk p.2 d/\MkP ps t
def zQS(ps:Pr):Prop:=∀p∈ps,dp p.2<40/\nd p.2<=200
theorem J9:∀(ps:Pr) (x y:Sl),fre x->fre y->zQS ps->∃l:List D,MkP ps l/\kI (qI 2 (yE (yV 0) (yE (yV 1) qZ))) gU (yY (zA (zF 0) (zA (yD 3 (qG RF) (zA (zF 1) (zA (zF 0) (zA (mC (.int 0)) zT)))) zT))) (prog ps) [x,y]=some (List.zipWith (λp d=>.tup [.str p.1,d]) ps l)
 |[],x,y,hx,hy,h=>⟨[],rfl,rfl⟩
 |p::ps,x,y,hx,hy,h=>by
  obtain⟨d,hd,e⟩:=nL (.str p.1) RF p.2 0 (h p (by simp)).1 (bq (h p (by simp)).2 (by decide));obtain⟨l,h1,h2⟩:=J9 ps (.v (.str p.1)) (.v (toD p.2)) trivial trivial λq hq=>h q (by simp[hq])
  refine⟨d::l,⟨d,l,rfl,hd,h1⟩,?_⟩;have e1:qI 2 (yE (yV 0) (yE (yV 1) qZ)) (.tup [.str p.1,toD p.2]) [x,y]=some [.v (.str p.1),.v (toD p.2)]:=bdP (r1:=[.v (.str p.1),y]) (yQ (i:=0) (x:=x) rfl hx) (yQ (i:=1) (x:=y) rfl hy);have e2:yY (zA (zF 0) (zA (yD 3 (qG RF) (zA (zF 1) (zA (zF 0) (zA (mC (.int 0)) zT)))) zT)) [.v (.str p.1),.v (toD p.2)]=some (.tup [.str p.1,d]):=d8 (zR rfl (zR (xN (p:=.v d) (zR rfl (zR rfl (zR zM yT))) rfl e) yT)) (by show 2<=100;decide);show kI _ _ _ (D.tup [.str p.1,toD p.2]::prog ps) [x,y]=_;unfold kI;rw[e1,aa,show gU [.v (.str p.1),.v (toD p.2)]=some true from rfl,aa,if_pos rfl,e2,aa,h2];rfl
noncomputable def Ds(ps:Pr)(l:List D):List (Key×D):=List.zipWith (λp d=>(ky p.1,d)) ps l
theorem ZH:∀(ps:Pr) (l:List D),nD (List.zipWith (λp d=>.tup [.str p.1,d]) ps l)=some (Ds ps l)
 |[],l=>rfl
 |p::ps,[]=>rfl
 |p::ps,d::l=>by
  have ih:=ZH ps l;show(nD (D.tup [.str p.1,d]::List.zipWith _ ps l))=_;unfold nD;rw[ih];rfl
theorem Z3:∀(q:List (Key×D)) (ks:List Key) (l:List D),(∀p∈q,p.1∉ks)->(q.map (·.1)).Nodup->q.foldl (λz p=>jQ z.1 z.2 p.1 p.2) (ks,l)=(ks++q.map (·.1),l++q.map (·.2))
 |[],ks,l,h,hn=>by simp
 |p::q,ks,l,h,hn=>by
  have e:jQ ks l p.1 p.2=(ks++[p.1],l++[p.2]):=by
   unfold jQ;rw[if_neg];intro z;obtain⟨j,h1,h2⟩:=List.any_eq_true.mp z;exact h p (by simp) (of_decide_eq_true h2 ▸ h1)
  rw[aq,dg] at hn;rw[kg,e,Z3 q _ _ (λp' hp hm=>by
   rcases cq.mp hm with z|z
   ·exact h p' (by simp[hp]) z
   ·have z':p'.1=p.1:=by simpa using z
    exact hn.1 (z' ▸ fg.mpr ⟨p',hp,rfl⟩)) hn.2]
  simp
theorem JG:∀(q:List (Key×D)) (p:Key×D),p∈q->(q.map (·.1)).Nodup->yW (q.map (·.1)) (q.map (·.2)) p.1=some p.2
 |a::q,p,h,hn=>by
  rw[aq,dg] at hn;rw[aq,aq];unfold yW;rcases bh.mp h with rfl|h
  ·rw[if_pos rfl]
  ·have ne:¬a.1=p.1:=λz=>hn.1 (z ▸ fg.mpr ⟨p,h,rfl⟩)
   rw[if_neg ne];exact JG q p h hn.2
theorem JX:∀{ps:Pr} {l:List D},MkP ps l->(Ds ps l).map (·.1)=ps.map λp=>ky p.1
 |[],l,h=>by cases (show l=[] from h);rfl
 |p::ps,l,h=>by obtain⟨d,t,rfl,_,h⟩:=h;show ky p.1::(Ds ps t).map _=_;rw[JX h];rfl
theorem zH1:∀{ps:Pr} {l:List D},MkP ps l->∀p∈ps,∃d,Mk p.2 d/\(ky p.1,d)∈Ds ps l
 |[],l,h,p,hp=>by cases hp
 |q::ps,l,h,p,hp=>by
  obtain⟨d,t,rfl,hd,h⟩:=h;rcases bh.mp hp with rfl|hp
  ·exact⟨d,hd,by show _∈(ky p.1,d)::Ds ps t;simp⟩
  ·obtain⟨d',h1,h2⟩:=zH1 h p hp;exact⟨d',h1,by show _∈(ky q.1,d)::Ds ps t;simp[h2]⟩
theorem zBY{ps:Pr}(h:(ps.map (·.1)).Nodup):(ps.map λp=>ky p.1).Nodup:=by
 rw[show(ps.map λp=>ky p.1)=(ps.map (·.1)).map ky by rw[jf];rfl];generalize ps.map (·.1)=l at h
 induction l with
 |nil=>exact ng
 |cons a l ih=>
  rw[dg] at h;rw[aq,dg];refine⟨λz=>?_,ih h.2⟩;obtain⟨b,h1,h2⟩:=fg.mp z;exact h.1 (nV h2 ▸ h1)
theorem zO7{ps:Pr}(hp:zQS ps)(hl:ps.length<=1000)(hn:(ps.map (·.1)).Nodup):∃(ks:List Key) (l:List D),dd (.lst (prog ps))=some (.dct ks l)/\∀p∈ps,∃d,Mk p.2 d/\yW ks l (ky p.1)=some d:=by
 obtain⟨l,h1,h2⟩:=J9 ps .un .un trivial trivial hp;have nk:((Ds ps l).map (·.1)).Nodup:=by rw[JX h1];exact zBY hn
 refine⟨(Ds ps l).map (·.1),(Ds ps l).map (·.2),?_,λp hp=>?_⟩
 ·unfold dd ddE zB4 zB5 vR wS;have it:mIt (zF 1) [.un,.v (.lst (prog ps)),.v (.int 0)]=some (prog ps):=rfl;rw[it,aa,if_pos (show(prog ps).length<af by unfold prog;rw[ao];exact Nat.lt_of_le_of_lt hl (by decide)),show Y0 [] 2 [.un,.v (.lst (prog ps)),.v (.int 0)]=[.un,.un] from rfl,h2,aa,ZH];show some (D.dct (zDP (Ds ps l)).1 (zDP (Ds ps l)).2)=_;unfold zDP;rw[Z3 _ _ _ (λ_ _ z=>by cases z) nk];rfl
 ·obtain⟨d,q1,q2⟩:=zH1 h1 p hp;exact⟨d,q1,JG _ _ q2 nk⟩
theorem zHR(h:gw w):zNK ⟨mo,s,[],[mv w],.non,df⟩=some (.tup [.str [118,97,108,117,101],.int s,du w]):=by
 obtain⟨as,ht⟩:=zEP w h;have e:([mv w]:List D).getLast?=some (mv w):=rfl;unfold zNK;show(([mv w]:List D).getLast?.bind _)=_;rw[e,aa,ht];rfl
structure Sh(d:D)(n b:Nat):Prop where
 ok:okD d=true
 sh:(toP d).showable=true
 nd:(toP d).hasDict=false
 dp:(toP d).depth<=n
 ls:PyData.leavesShort 13 (toP d)=true
 bk:(toP d).bulk<=b
structure ShL(l:List D)(n b:Nat):Prop where
 ok:zF7 l=true
 sh:PyData.showableAll (pM l)=true
 nd:PyData.hasDictAll (pM l)=false
 dp:PyData.depthAll (pM l)<=n
 ls:PyData.leavesShortAll 13 (pM l)=true
 bk:PyData.bulkAll (pM l)<=b
theorem qL:ShL [] n 0:=⟨rfl,rfl,rfl,ck _,rfl,ah _⟩
theorem zZ(h:Sh d m b)(hl:ShL l n c)(hm:m<=n)(hk:b+1+c<=k):ShL (d::l) n k:=by
 refine⟨?_,?_,?_,?_,?_,?_⟩
 ·show(okD d && zF7 l)=true;rw[h.ok,hl.ok];rfl
 ·show((toP d).showable && PyData.showableAll (pM l))=true;rw[h.sh,hl.sh];rfl
 ·show((toP d).hasDict || PyData.hasDictAll (pM l))=false;rw[h.nd,hl.nd];rfl
 ·show max (toP d).depth (PyData.depthAll (pM l))<=n;have:=h.dp;have:=hl.dp;lia
 ·show(PyData.leavesShort 13 (toP d) && PyData.leavesShortAll 13 (pM l))=true;rw[h.ls,hl.ls];rfl
 ·show(toP d).bulk+1+PyData.bulkAll (pM l)<=k;have:=h.bk;have:=hl.bk;lia
theorem vJ(h:ShL l n b):Sh (.tup l) (n+1) b:=⟨h.ok,h.sh,h.nd,oh h.dp,h.ls,h.bk⟩
theorem qB(h:∀c∈s,c<16 ^ 8):Sh (.str s) 0 s.length:=by
 refine⟨rfl,rfl,rfl,ah _,?_,ah _⟩;show(s.all λc=>decide (c<16 ^ 8))=true;exact on.mpr λc hc=>decide_eq_true (h c hc)
theorem zJ4(h:zI4 i):Sh (.int i) 0 0:=by
 refine⟨rfl,?_,rfl,ah _,?_,ah _⟩
 ·show decide (i.natAbs.log2<1920)=true;refine decide_eq_true ?_;have h2:i.natAbs<2 ^ 20:=by have:=h.1;have:=h.2;lia
  by_cases z:i.natAbs=0
  ·rw[z];decide
  ·exact ph ((Nat.log2_lt z).mpr h2) (by decide)
 ·show decide ((PyData.int i).shown.length<=13)=true;refine decide_eq_true ?_;rw[PyData.shown];exact bq (toString_length_le h.1 (k:=6) (by decide) h.2) (by decide)
theorem b8(h:NmC s):∀c∈s,c<16 ^ 8:=λc hc=>bb (h.ch c hc) (by decide)
theorem gS:∀{e:Ex},gr e->Sh (toD e) (dp e+1) (40*nd e)
 |.num n,h=>vJ (zZ (qB (by decide)) (zZ (zJ4 h) qL (ah 0) (ah _)) (ah 0) (show 3+1+(0+1+0)<=40*1 by decide))
 |.nm s,h=>vJ (zZ (qB (by decide)) (zZ (qB (b8 h)) qL (ah 0) (ah _)) (ah 0) (by have:=h.len;show 4+1+(s.length+1+0)<=40;lia))
 |.emp,h=>vJ (zZ (qB (by decide)) qL (ah 0) (show 5+1+0<=40 by decide))
 |.tag x e,h=>by
  have he:=gS h.2
  have:=h.1.len
  refine vJ (n:=dp e+1) (zZ (qB (by decide)) (zZ (qB (b8 h.1)) (zZ he qL (by lia) (ah _)) (by lia) (ah _)) (ck _) ?_);show 3+1+(x.length+1+_)<=40*(1+nd e);lia
 |.wth x a b,h=>by
  have ha:=gS h.2.1;have hb:=gS h.2.2
  have:=h.1.len
  refine vJ (n:=max (dp a) (dp b)+1) (zZ (qB (by decide)) (zZ (qB (b8 h.1)) (zZ ha (zZ hb qL (by lia) (ah _)) (by lia) (ah _)) (by lia) (ah _)) (ck _) ?_);show 4+1+(x.length+1+_)<=40*(1+nd a+nd b);lia
 |.fn x e,h=>by
  have he:=gS h.2
  have:=h.1.len
  refine vJ (n:=dp e+1) (zZ (qB (by decide)) (zZ (qB (b8 h.1)) (zZ he qL (by lia) (ah _)) (by lia) (ah _)) (ck _) ?_);show 2+1+(x.length+1+_)<=40*(1+nd e);lia
 |.doo a b,h=>by
  have ha:=gS h.1;have hb:=gS h.2;refine vJ (n:=max (dp a) (dp b)+1) (zZ (qB (by decide)) (zZ ha (zZ hb qL (by lia) (ah _)) (by lia) (ah _)) (ck _) ?_);show 2+1+_<=40*(1+nd a+nd b);lia
 |.put x a b,h=>by
  have ha:=gS h.2.1;have hb:=gS h.2.2
  have:=h.1.len
  refine vJ (n:=max (dp a) (dp b)+1) (zZ (qB (by decide)) (zZ (qB (b8 h.1)) (zZ ha (zZ hb qL (by lia) (ah _)) (by lia) (ah _)) (by lia) (ah _)) (ck _) ?_);show 3+1+(x.length+1+_)<=40*(1+nd a+nd b);lia
 |.les x e,h=>by
  have he:=gS h.2
  have:=h.1.len
  refine vJ (n:=dp e+1) (zZ (qB (by decide)) (zZ (qB (b8 h.1)) (zZ he qL (by lia) (ah _)) (by lia) (ah _)) (ck _) ?_);show 4+1+(x.length+1+_)<=40*(1+nd e);lia
 |.get x e,h=>by
  have he:=gS h.2
  have:=h.1.len
  refine vJ (n:=dp e+1) (zZ (qB (by decide)) (zZ (qB (b8 h.1)) (zZ he qL (by lia) (ah _)) (by lia) (ah _)) (ck _) ?_);show 3+1+(x.length+1+_)<=40*(1+nd e);lia
theorem QY:∀{ps:Pr},(∀p∈ps,(∀c∈p.1,c<16 ^ 8)/\p.1.length<=9/\gr p.2/\dp p.2<40/\nd p.2<=200)->ShL (prog ps) 50 (8100*ps.length)
 |[],h=>qL
 |p::ps,h=>by
  obtain⟨h1,h2,h3,h4,h5⟩:=h p (by simp);have ih:=QY (ps:=ps) λq hq=>h q (by simp[hq])
  refine zZ (vJ (zZ (qB h1) (zZ (gS h3) qL (ah _) (ah _)) (ck _) (ah _))) ih (by lia) ?_;rw[au];lia
theorem zE8(hl:ps.length<=50)(h:∀p∈ps,(∀c∈p.1,c<16 ^ 8)/\p.1.length<=9/\gr p.2/\dp p.2<40/\nd p.2<=200):mY (prog ps)=true:=by
 have q:=QY h;have e1:(toP (.lst (prog ps))).bulk<=2 ^ 20:=bq q.bk (by lia);have e2:=PyData.shown_fits_bulk (B:=13) (by decide) (by decide) (d:=toP (.lst (prog ps))) q.ls e1;have e3:(toP (.lst (prog ps))).showable=true:=q.sh;have e4:(toP (.lst (prog ps))).hasDict=false:=q.nd;have e5:(toP (.lst (prog ps))).depth<=150:=by
  show PyData.depthAll (pM (prog ps))+1<=150
  have:=q.dp;lia
 unfold mY;rw[q.ok,e3,e4,decide_eq_true e5,decide_eq_true e2];rfl
structure Ly(d:D)(n:Nat):Prop where
 ok:okD d=true
 cl:(toP d).canLay0=true
 dp:(toP d).depth<=n
structure LyL(l:List D)(n:Nat):Prop where
 ok:zF7 l=true
 cl:PyData.canLayAll0 (pM l)=true
 dp:PyData.depthAll (pM l)<=n
theorem zGV:LyL [] n:=⟨rfl,rfl,ck _⟩
theorem hX(h:Ly d m)(hl:LyL l n)(hm:m<=n):LyL (d::l) n:=by
 refine⟨?_,?_,?_⟩
 ·show(okD d && zF7 l)=true;rw[h.ok,hl.ok];rfl
 ·show((toP d).canLay0 && PyData.canLayAll0 (pM l))=true;rw[h.cl,hl.cl];rfl
 ·show max (toP d).depth (PyData.depthAll (pM l))<=n;have:=h.dp;have:=hl.dp;lia
theorem zK7(h:LyL l n):Ly (.tup l) (n+1):=⟨h.ok,h.cl,oh h.dp⟩
theorem zK9(i:Int):Ly (.int i) 0:=⟨rfl,rfl,ah _⟩
theorem zK8(h:PyData.strOk ⟨s.toArray⟩=true):Ly (.str s) 0:=⟨rfl,h,ah _⟩
theorem Ly.n{d:D}{n:Nat}(h:Ly d n)(hn:n<=400):zJH 400 d=true:=by
 unfold zJH;rw[h.ok,h.cl,decide_eq_true (bq h.dp hn)];rfl
theorem zOS(s:List Nat)(hs:PyData.strOk ⟨s.toArray⟩=true)(a:Int):zJH 400 (.tup [.str s,.int a,.non])=true:=(zK7 (n:=0) (hX (zK8 hs) (hX (zK9 a) (hX ⟨rfl,rfl,ah 0⟩ zGV (ah _)) (ah _)) (ah _))).n (by decide)
theorem zO1(s:Str)(a:Int):PyData.eqv (.tuple [.str s,.int a,.none]) (.tuple [.str s,.int a,.none])=true:=by simp[PyData.eqv,PyData.eqvAll]
noncomputable def VAL:List Nat:=[118,97,108,117,101]
noncomputable def TIR:List Nat:=[116,105,114,101,100]
theorem zK0(a:Int):neN 400 (.tup [.str TIR,.int a,.non]) (.tup [.str TIR,.int a,.non])=some (.bl false):=by
 have h:=zOS TIR (by decide +kernel) a;unfold neN;rw[if_pos ⟨h,h⟩];exact congrArg (λz=>some (D.bl (!z))) (zO1 _ a)
theorem YQ(h1:o7 i r=some l)(h2:fs r=some ds)(h3:ds.length+1=n)(h4:∃as,m ((.lst l::ds).map .v)=some (.v d,as))(h5:apD l d=true):nQ n m i fs r=some d:=by
 obtain⟨as,h4⟩:=h4;unfold nQ;rw[h1,aa,h2,aa,if_pos h3,h4,aa];exact if_pos h5
inductive Pg:Pr->Hd->Prop
 |nil:Pg [] none
 |snoc {ps:Pr} {hd:Hd} {E:Ex} {w:Wo} {j c:Nat} {nm:List Nat}:Pg ps hd->Iv hd j c E w->gw w->j<=8->NmC nm->Pg (ps++[(nm,E)]) (some (nm,w,c))
theorem zMN(h:Pg ps hd):∀p∈ps,NmC p.1/\gr p.2/\dp p.2<40/\nd p.2<=200:=by
 induction h with
 |nil=>intro p hp;cases hp
 |snoc _ hl _ hj hn ih=>
  intro p hp;rcases cq.mp hp with z|z
  ·exact ih p z
  ·rw[cj.mp z];exact⟨hn,hl.g,by have:=hl.d;show _<40;lia,by have:=hl.n;show _<=200;lia⟩
theorem zRE(h:Pg ps hd):∀nm w c,hd=some (nm,w,c)->gw w:=by
 cases h with
 |nil=>intro nm v c h;cases h
 |snoc _ hl hw _ _=>intro nm v c h;cases h;exact hw
theorem zOG(h:Pg ps hd){ld:List D}:(∀p∈ps,∃d,Mk p.2 d/\yW kd ld (ky p.1)=some d)->zC8 (.dct kd ld) (300*ps.length) (300*ps.length) hd:=by
 induction h with
 |nil=>intro _;trivial
 |snoc hp hl _ hj hn ih=>
  intro hm;rename_i ps hd E v j c nm _;have i1:=ih λp hp=>hm p (by simp[hp])
  obtain⟨d,md,ld'⟩:=hm (nm,E) (by simp);obtain⟨t,t1,t2⟩:=hl.ev _ _ _ i1 d md;rw[bv];exact⟨kd,ld,d,t,rfl,ld',by show _<=300*(ps.length+1);lia,t2.mono (by show _<=300*(ps.length+1);lia)⟩
noncomputable def zIS:List Nat:=[109,97,105,110]
section
variable(hp:Pg ps (some (zIS,w,c)))(hl:ps.length<=20)(hn:(ps.map (·.1)).Nodup)
include hp hl hn
theorem zA3(h0:0<=mo):((c:Int)<=mo->∃as,dZ [.v (.lst (prog ps)),.v (.int mo)]=some (.v (.tup [.str [118,97,108,117,101],.int (c:Int),du w]),as))/\(mo<(c:Int)->∃as,dZ [.v (.lst (prog ps)),.v (.int mo)]=some (.v (.tup [.str [116,105,114,101,100],.int mo,.non]),as)):=by
 have ok:=zMN hp;obtain⟨ks,l,q1,q2⟩:=zO7 (ps:=ps) (λp z=>(ok p z).2.2) (by lia) hn;have hh:=zOG hp (kd:=ks) (ld:=l) q2;obtain⟨kd,ld,d,t,e0,e1,e2,e3⟩:=hh;cases e0;have start:∀(z:Option Mst) (y:Option D),bK WF ⟨mo,0,[tsk d (.dct [] []) false],[],.non,.dct ks l⟩=z->z.bind zNK=y->dZ [.v (.lst (prog ps)),.v (.int mo)]=y.map λx=>(.v x,[.v (.lst (prog ps)),.v (.int mo)]):=λz y h1 h2=>by
  unfold dZ;show(dd _).bind _=_;rw[q1,aa];unfold zPT;show((yW ks l (ky zIS)).bind _).map _=_;rw[e1,aa];show((bK WF ⟨mo,0,[tsk d (.dct [] []) false],[],.non,.dct ks l⟩).bind _).map _=_;rw[h1,h2]
 refine⟨λhm=>⟨[.v (.lst (prog ps)),.v (.int mo)],?_⟩,λhm=>⟨[.v (.lst (prog ps)),.v (.int mo)],?_⟩⟩
 ·have e4:=e3.run mo 0 [] [] (WF-t) (by simp;lia) (by simp;lia) (by lia);rw[show t+(WF-t)=WF by unfold WF;lia,show WF-t=(WF-t-1)+1 by unfold WF;lia] at e4;rw[show bK ((WF-t-1)+1) ⟨mo,0+(c:Int),[],[]++[mv w],.non,.dct ks l⟩=some ⟨mo,0+(c:Int),[],[mv w],.non,.dct ks l⟩ from if_neg (λz=>by cases z.1)] at e4;rw[start _ _ e4 (aa ..),zHR (zRE hp _ _ _ rfl),Int.zero_add];rfl
 ·obtain⟨w',c',e4⟩:=e3.tire mo 0 [] [] (WF-t-1) (by simp;lia) (by simp;lia) h0 (by lia);rw[show t+1+(WF-t-1)=WF by unfold WF;lia] at e4;rw[start _ _ e4 (aa ..)];rfl
end
noncomputable def ch9(k:Nat):Nat:=([97,98,99,100,101,103,104,105,106,107]:List Nat).getD k 0
noncomputable def dn(k:Nat):List Nat:=[100,ch9 k]
noncomputable abbrev El(S:D)(F:Int)(ls:List (List Nat))(cs:List Int)(M:Nat)(dk:Sl)(told:Ex)(c:Nat)(P:List D)(x9 x10 x11 x12 x13 x14 x15 x16 x17:Sl):En:=
 [.v S,.v (.int F),.v (.lst (ls.map .str)),.v (.lst (cs.map .int)),.v (.int (M:Int)),dk,.v (toD told),.v (.int (c:Int)),.o P,x9,x10,x11,x12,x13,x14,x15,x16,x17]
noncomputable def dkF(fs:Fs Lv):Sl:=.d false (ksF fs) (vsF ld fs)
noncomputable def zDS:En->Option (D×En):=(nP 4 x4 5 (zE (zF 6) (zP (zA (yD 2 xE (zA (zF 11) (zA (zJ kZ (zJ hI (mC (.int 7)) (zF 9)) (zF 10)) zT))) (zA (zF 2) zT)))))
noncomputable def zDV:MS:=(yL (zDE zDS (qI 2 (yE (yV 6) (yE (yV 12) qZ)))) (qH 7 (zJ kZ (zF 7) (zF 12))))
theorem JP(hL:Lbs ls):∀(l:List Int) (i j c:Nat) (told:Ex) (fs:Fs Lv) (x10 x11 x12:Sl),fre x10->fre x11->fre x12->Iv hd j c told (.r fs)->FOk ls fs ->
  ∃c' told' fs' y10 y11 y12,fre y10/\fre y11/\fre y12/\c'<=c+l.length/\Iv hd (j+l.length) c' told' (.r fs')/\FOk ls fs'/\rM (qI 2 (yE (yV 10) (yE (yV 11) qZ))) zDV (((l.map D.int).zipIdx i).map λp=>.tup [.int (p.2:Nat),p.1]) (El S F ls cs M (dkF fs) told c P (.v (.int (k:Int))) x10 x11 x12 x13 x14 x15 x16 x17)=some (.nx (El S F ls cs M (dkF fs') told' c' P (.v (.int (k:Int))) y10 y11 y12 x13 x14 x15 x16 x17))
 |[],i,j,c,told,fs,x10,x11,x12,h10,h11,h12,h,hF=>⟨c,told,fs,x10,x11,x12,h10,h11,h12,ah _,h,hF,rfl⟩
 |a::l,i,j,c,told,fs,x10,x11,x12,h10,h11,h12,h,hF=>by
  obtain⟨n,n0,hm⟩:=hJ a (7*(k:Int)+(i:Int));obtain⟨t1,f1,q,q1,i1,hF1,bs,e1,e2⟩:=zH5 h hL hF n0
  let K:Sl:=.v (.int (k:Int))
  let I:Sl:=.v (.int (i:Int))
  let C:Sl:=.v (.int a)
  let Q:Sl:=.v (.int (q:Int))
  obtain⟨c',told',fs',y10,y11,y12,r1,r2,r3,r4,r5,r6,r7⟩:=JP (S:=S) (F:=F) hL (cs:=cs) (M:=M) (k:=k) (P:=P) (x13:=x13) (x14:=x14) (x15:=x15) (x16:=x16) (x17:=x17) l (i+1) (j+1) (c+q) t1 f1 I C Q trivial trivial trivial i1 hF1;refine⟨c',told',fs',y10,y11,y12,r1,r2,r3,by rw[au];lia,by rw[au,show j+(l.length+1)=j+1+l.length by lia];exact r5,r6,?_⟩;rw[aq,sf,aq]
  let R:En:=El S F ls cs M (dkF fs) told c P K I C x12 x13 x14 x15 x16 x17
  rw[cG (d:=.tup [.int (i:Nat),.int a]) (r:=El S F ls cs M (dkF fs) told c P K x10 x11 x12 x13 x14 x15 x16 x17) (r1:=R) (bdP (r1:=El S F ls cs M (dkF fs) told c P K I x11 x12 x13 x14 x15 x16 x17) (yQ (i:=10) (x:=x10) rfl h10) (yQ (i:=11) (x:=x11) rfl h11)) (r':=El S F ls cs M (dkF f1) t1 (c+q) P K I C Q x13 x14 x15 x16 x17) ?_]
  ·exact r7
  ·have ez:zE (zF 6) (zP (zA (yD 2 xE (zA (zF 11) (zA (zJ kZ (zJ hI (mC (.int 7)) (zF 9)) (zF 10)) zT))) (zA (zF 2) zT))) R=some ([toD told],[.int n,.lst (ls.map .str)]):=by
    have ea:zA (yD 2 xE (zA (zF 11) (zA (zJ kZ (zJ hI (mC (.int 7)) (zF 9)) (zF 10)) zT))) (zA (zF 2) zT) R=some [.int n,.lst (ls.map .str)]:=zR (xN (p:=.v (.int n)) (zR rfl (zR (vP (rB zM rfl (by decide)) rfl) yT)) rfl hm) (zR rfl yT);unfold zE zP;rw[show zF 6 R=some (toD told) from rfl,aa,ea];rfl
   have cd:zDS R=some (.tup [toD t1,.int (q:Int)],El S F ls cs M (dkF f1) told c P K I C x12 x13 x14 x15 x16 x17):=by
    unfold zDS nP;rw[show zDJ 5 R=some (ksF fs,vsF ld fs) from rfl,aa,ez,aa];show(if 1+1+2=4 then (x4 [.v (toD told),.d true (ksF fs) (vsF ld fs),.v (.int n),.v (.lst (ls.map .str))]).bind _ else none)=_;rw[if_pos rfl,e1,aa];show(match bs[1]? with
     |some (.d _ ks' l')=>(zI8 5 ks' l' R).map λr'=>(D.tup [toD t1,.int (q:Int)],r')
     |_=>none)=_
    rw[e2];rfl
   unfold zDV;have s1:zDE zDS (qI 2 (yE (yV 6) (yE (yV 12) qZ))) R=some (.nx (El S F ls cs M (dkF f1) t1 c P K I C Q x13 x14 x15 x16 x17)):=by
    unfold zDE;rw[cd,aa];show Option.map Fl.nx (qI 2 (yE (yV 6) (yE (yV 12) qZ)) (.tup [toD t1,.int (q:Int)]) _)=_;rw[bdP (r1:=El S F ls cs M (dkF f1) t1 c P K I C x12 x13 x14 x15 x16 x17) (by rfl) (yQ (i:=12) (x:=x12) rfl h12)];rfl
   rw[yP s1];refine vX (d:=.int ((c+q:Nat):Int)) ?_ (by rfl);rw[show((c+q:Nat):Int)=(c:Int)+(q:Int) by lia];exact vP rfl rfl
noncomputable def zDW:MS:=(yL (o9 (qI 2 (yE (yV 10) (yE (yV 11) qZ))) (JF (mSl (zF 3) (jZ (zJ hI (mC (.int 7)) (zF 9))) (jZ (zJ kZ (zJ hI (mC (.int 7)) (zF 9)) (mC (.int 7)))))) zDV) (sIf (mBl (zJ ltA (zF 9) (zJ zIV (zF 4) (mC (.int 1))))) (yL (qH 13 (zJ kZ (mC (.str [100])) (zJ ixD (mC (.str [97,98,99,100,101,103,104,105,106,107])) (zF 9)))) (yL (sX (QL 8 (yY (zA (zF 13) (zA (zF 6) zT))))) (yL (qH 6 (yY (zA (mC (.str [110,97,109,101])) (zA (zF 13) zT)))) (qH 7 (zJ kZ (zF 7) (mC (.int 1))))))) wB))
theorem ZD(a b:Pr):prog (a++b)=prog a++prog b:=by unfold prog;rw[fo]
theorem ZC(a:Pr):(prog a).length=a.length:=by unfold prog;rw[ao]
theorem zAE:∀k:Nat,k<10->ch9 k<1114112/\([97,98,99,100,101,103,104,105,106,107]:List Nat)[k]?=some (ch9 k):=by unfold ch9;decide
theorem zM9(h:k<10):NmC (dn k):=by
 refine⟨by show 2<=9;decide,λx hx=>?_⟩;unfold dn at hx;simp only[bh,eg,or_false] at hx;rcases hx with rfl|rfl
 ·decide
 ·exact(zAE k h).1
theorem zG7(h:Iv hd j c told w)(hn:NmC nm):Iv (some (nm,w,c)) 0 (c+1) (.nm nm) w:=by
 refine⟨hn,by show 0<=_;lia,by show 1<=_;lia,λdf T H hh d hm=>?_⟩;obtain⟨kd,ld,d0,t,rfl,e1,e2,e3⟩:=hh;cases hm with
 |nm _ m=>exact⟨t+2,by lia,(zLV m (ks:=[]) (l:=[]) rfl e1 e3).mono (by lia)⟩
theorem zQN(hL:Lbs ls)(h:FOk ls fs):gw (.r fs):=⟨h.nd,h.len hL⟩
theorem oK(hL:Lbs ls)(hM:M<=10):∀(r k:Nat) (ps:Pr) (hd:Hd) (c:Nat) (told:Ex) (fs:Fs Lv) (x9 x10 x11 x12 x13:Sl),fre x9->fre x10->fre x11->fre x12->fre x13->k+(r+1)=M->c<=8*k->Pg ps hd->ps.map (·.1)=(List.range k).map dn->Iv hd 0 c told (.r fs)->FOk ls fs ->
  ∃(ps':Pr) (hd':Hd) (j' c':Nat) (told':Ex) (fs':Fs Lv) (y9 y10 y11 y12 y13:Sl),Pg ps' hd'/\ps'.map (·.1)=(List.range (M-1)).map dn/\Iv hd' j' c' told' (.r fs')/\FOk ls fs'/\j'<=7/\c'<=8*M /\
   rM (yV 9) zDW ((List.range' k (r+1)).map λk=>D.int ((0:Int)+(k:Nat))) (El S F ls cs M (dkF fs) told c (prog ps) x9 x10 x11 x12 x13 x14 x15 x16 x17)=some (.nx (El S F ls cs M (dkF fs') told' c' (prog ps') y9 y10 y11 y12 y13 x14 x15 x16 x17))
 |r,k,ps,hd,c,told,fs,x9,x10,x11,x12,x13,h9,h10,h11,h12,h13,hk,hc,hp,hn,hv,hF=>by
  have pl:ps.length=k:=by have:=congrArg List.length hn;simpa using this
  let cut:List Int:=(cs.take (7*k+7)).drop (7*k)
  have cl:cut.length<=7:=by simp only[cut,jh,ir];lia
  let K:Sl:=.v (.int (k:Int))
  obtain⟨c1,t1,f1,y10,y11,y12,q1,q2,q3,q4,q5,q6,q7⟩:=JP (S:=S) (F:=F) hL (cs:=cs) (M:=M) (k:=k) (P:=prog ps) (x13:=x13) (x14:=x14) (x15:=x15) (x16:=x16) (x17:=x17) cut 0 0 c told fs x10 x11 x12 h10 h11 h12 hv hF;rw[pb] at q5;have u9:yV 9 (D.int ((0:Int)+(k:Nat))) (El S F ls cs M (dkF fs) told c (prog ps) x9 x10 x11 x12 x13 x14 x15 x16 x17)=some (El S F ls cs M (dkF fs) told c (prog ps) K x10 x11 x12 x13 x14 x15 x16 x17):=by
   rw[Int.zero_add];exact yQ (i:=9) (x:=x9) rfl h9
  have m7:∀r:En,r[9]?=some K->zJ hI (mC (.int 7)) (zF 9) r=some (.int (7*(k:Int))):=λr h=>rB zM (Y9 h) (by decide)
  have s1:o9 (qI 2 (yE (yV 10) (yE (yV 11) qZ))) (JF (mSl (zF 3) (jZ (zJ hI (mC (.int 7)) (zF 9))) (jZ (zJ kZ (zJ hI (mC (.int 7)) (zF 9)) (mC (.int 7)))))) zDV (El S F ls cs M (dkF fs) told c (prog ps) K x10 x11 x12 x13 x14 x15 x16 x17)=some (.nx (El S F ls cs M (dkF f1) t1 c1 (prog ps) K y10 y11 y12 x13 x14 x15 x16 x17)):=by
   have cu:mSl (zF 3) (jZ (zJ hI (mC (.int 7)) (zF 9))) (jZ (zJ kZ (zJ hI (mC (.int 7)) (zF 9)) (mC (.int 7)))) (El S F ls cs M (dkF fs) told c (prog ps) K x10 x11 x12 x13 x14 x15 x16 x17)=some (.lst (cut.map .int)):=by
    refine QX (x:=.lst (cs.map .int)) rfl (jF (m7 _ rfl)) (jF (vP (m7 _ rfl) zM)) ?_;show some (D.lst (rS (cs.map D.int) (some (7*(k:Int))) (some (7*(k:Int)+7))))=_;rw[show(7:Int)*(k:Int)=((7*k:Nat):Int) by lia,show((7*k:Nat):Int)+7=((7*k+7:Nat):Int) by lia,zAA,<-List.map_take,<-List.map_drop]
   have en:JF (mSl (zF 3) (jZ (zJ hI (mC (.int 7)) (zF 9))) (jZ (zJ kZ (zJ hI (mC (.int 7)) (zF 9)) (mC (.int 7))))) (El S F ls cs M (dkF fs) told c (prog ps) K x10 x11 x12 x13 x14 x15 x16 x17)=some (JU (cut.map .int)):=by
    unfold JF;rw[cu];rfl
   unfold o9;rw[en];exact q7
  have ct:mBl (zJ ltA (zF 9) (zJ zIV (zF 4) (mC (.int 1)))) (El S F ls cs M (dkF f1) t1 c1 (prog ps) K y10 y11 y12 x13 x14 x15 x16 x17)=some (decide ((k:Int)<(M:Int)-1)):=dU (yK (x:=.int (k:Int)) (y:=.int ((M:Int)-1)) rfl (yK rfl zM rfl) rfl);rw[List.range'_succ,aq]
  match r,hk with
  |0,hk=>
   refine⟨ps,hd,cut.length,c1,t1,f1,K,y10,y11,y12,x13,hp,by rw[hn,show M-1=k by lia],q5,q6,cl,by lia,?_⟩;rw[cG u9 (r':=El S F ls cs M (dkF f1) t1 c1 (prog ps) K y10 y11 y12 x13 x14 x15 x16 x17) ?_]
   ·rfl
   ·unfold zDW;rw[yP s1];rw[decide_eq_false (by lia)] at ct;rw[zDD ct];rfl
  |r+1,hk=>
   let N:Sl:=.v (.str (dn k))
   have hp':Pg (ps++[(dn k,t1)]) (some (dn k,.r f1,c1)):=.snoc hp q5 (zQN hL q6) (by lia) (zM9 (by lia));obtain⟨ps',hd',j',c',t',f',z9,z10,z11,z12,z13,e1,e2,e3,e4,e5,e6,e7⟩:=oK (S:=S) (F:=F) hL (cs:=cs) hM (x14:=x14) (x15:=x15) (x16:=x16) (x17:=x17) r (k+1) (ps++[(dn k,t1)]) (some (dn k,.r f1,c1)) (c1+1) (.nm (dn k)) f1 K y10 y11 y12 N trivial q1 q2 q3 trivial (by lia) (by lia) hp' (by rw[fo,hn,List.range_succ,fo];rfl) (zG7 q5 (zM9 (by lia))) q6;refine⟨ps',hd',j',c',t',f',z9,z10,z11,z12,z13,e1,e2,e3,e4,e5,e6,?_⟩;rw[cG u9 (r':=El S F ls cs M (dkF f1) (.nm (dn k)) (c1+1) (prog (ps++[(dn k,t1)])) K y10 y11 y12 N x14 x15 x16 x17) ?_]
   ·exact e7
   ·unfold zDW;rw[yP s1];rw[decide_eq_true (by lia)] at ct;rw[zE3 ct];refine yF (.str (dn k)) (r2:=El S F ls cs M (dkF f1) t1 c1 (prog ps) K y10 y11 y12 N x14 x15 x16 x17) ?_ (yQ (i:=13) (x:=x13) rfl h13) ?_
    ·refine yK (x:=.str [100]) (y:=.str [ch9 k]) zM (yK (x:=.str [97,98,99,100,101,103,104,105,106,107]) (y:=.int (k:Int)) zM rfl ?_) (kB (by show 1+1<=100;decide));show(if ([97,98,99,100,101,103,104,105,106,107]:List Nat).length<=af then (atI ([97,98,99,100,101,103,104,105,106,107]:List Nat) (k:Int)).map λc=>D.str [c] else none)=_;rw[if_pos (by decide),oZ (zAE k (by lia)).2];rfl
    ·have s3:sX (QL 8 (yY (zA (zF 13) (zA (zF 6) zT)))) (El S F ls cs M (dkF f1) t1 c1 (prog ps) K y10 y11 y12 N x14 x15 x16 x17)=some (.nx (El S F ls cs M (dkF f1) t1 c1 (prog (ps++[(dn k,t1)])) K y10 y11 y12 N x14 x15 x16 x17)):=by
      rw[ZD];exact c8 (rW (i:=8) (S:=prog ps) (d:=.tup [.str (dn k),toD t1]) rfl (t2 rfl rfl) (by rw[ZC];exact xW (by lia)))
     rw[yP s3];refine yF (toD (.nm (dn k))) (r2:=El S F ls cs M (dkF f1) (.nm (dn k)) c1 (prog (ps++[(dn k,t1)])) K y10 y11 y12 N x14 x15 x16 x17) (t2 zM rfl) (by rfl) ?_;refine vX (d:=.int ((c1+1:Nat):Int)) ?_ (by rfl);rw[show((c1+1:Nat):Int)=(c1:Int)+1 by lia];exact vP rfl zM
theorem nH:∀{l:List Nat},l.Nodup->(∀a∈l,∀b∈l,f a=f b->a=b)->(l.map f).Nodup
 |[],_,_=>ng
 |a::l,h,hi=>by
  rw[dg] at h;rw[aq,dg];refine⟨λz=>?_,nH h.2 λx hx y hy=>hi x (by simp[hx]) y (by simp[hy])⟩;obtain⟨b,hb,e⟩:=fg.mp z
  have:=hi b (by simp[hb]) a (by simp) e
  exact h.1 (this ▸ hb)
theorem zIL:∀a:Nat,a<10->∀b:Nat,b<10->ch9 a=ch9 b->a=b:=by unfold ch9;decide
theorem nI(hk:k<=10):((List.range k).map dn++[zIS]).Nodup:=by
 refine ro.mpr ⟨nH List.nodup_range λa ha b hb e=>?_,by simp,λx hx y hy=>?_⟩
 ·have ha:=kr.mp ha;have hb:=kr.mp hb;exact zIL a (by lia) b (by lia) (re (re e).2).1
 ·obtain⟨a,_,rfl⟩:=fg.mp hx;rw[cj.mp hy];intro q;exact absurd (re q).1 (by decide)
theorem zGP(n:Nat)(hn:n<=62):∃M:Nat,1<=M/\M<=9/\1+max 0 ((n:Int)-1) / 7=(M:Int):=by
 refine⟨(1+max 0 ((n:Int)-1) / 7).toNat,?_,?_,?_⟩
 ·omega
 ·omega
 ·omega
theorem zGO(h1:f r=some (.int i))(h2:g r=some (.int j)):zOR (zA f (zA g zT)) r=some (.int (max i j)):=by
 unfold zOR;rw[zR h1 (zR h2 yT)];show some (D.int (if j > i then j else i))=_
 congr 2
 split<;>lia
theorem zLX(hl:fs.length<=8)(h:r[5]?=some (.v (.dct (ksF fs) (vsF ld fs)))):yY (zA (mC (.str [114,101,99])) (zA (gM (vR [5] 2 (mIt (qN (kG (qS (zF 5))))) (yV 1) (yY (zA (zF 1) (zA (rH (qS (zF 0)) (zF 1)) zT))))) zT)) r=some (du (.r fs)):=by
 have nl:(nsF fs).length=fs.length:=by unfold nsF;rw[ao]
 let V:Sl:=.v (.dct (ksF fs) (vsF ld fs))
 have sd:kG (qS (zF 5)) r=some ((kJ (nsF fs)).map .str):=cZ (l:=vsF ld fs) (by unfold qS;rw[Y9 h,<-JJ];rfl) (by lia);have it:mIt (qN (kG (qS (zF 5)))) r=some ((kJ (nsF fs)).map .str):=by
  unfold mIt qN;rw[sd];rfl
 have cp:Y0 [5] 2 r=[V,.un]:=by
  show[zNL (r[5]?),Sl.un]=_;rw[h];rfl
 refine t2 zM ?_;unfold gM vR wS;rw[it,aa,if_pos (by rw[ao,j3];exact xW (by lia)),cp]
 let y:List Nat->D:=λs=>.tup [.str s,((lkF fs s).map ld).getD .non]
 rw[mI (x:=yY (zA (zF 1) (zA (rH (qS (zF 0)) (zF 1)) zT))) (j:=1) (mk:=λs=>[V,s]) (g:=D.str) (y:=y) (λs d hs=>yQ (i:=1) (x:=s) rfl hs) (kJ (nsF fs)) .un trivial (λs hs=>by
  obtain⟨v,e⟩:=jV (d9 s hs);refine t2 rfl ?_;show yW (ksF fs) (vsF ld fs) (ky s)=_;rw[uC,e];rfl)]
 show some (D.tup ((kJ (nsF fs)).map y))=some (D.tup ((kJ (nsF fs)).filterMap λs=>(lkF fs s).map λv=>.tup [.str s,ld v]));have q:∀ss:List (List Nat),(∀s∈ss,s∈nsF fs)->ss.map y=ss.filterMap λs=>(lkF fs s).map λv=>.tup [.str s,ld v]:=by
  intro ss
  induction ss with
  |nil=>intro _;rfl
  |cons s ss ih=>
   intro hs;obtain⟨v,e⟩:=jV (hs s (by simp));rw[aq,gs,e,ih λt ht=>hs t (by simp[ht])];show D.tup [.str s,((lkF fs s).map ld).getD .non]::_=_;rw[e];rfl
 rw[q _ d9]
theorem zLR{P:List D}{V:D}{c:Nat}(al:∃as,yG x3 [.v V,.v V]=some (.v (.bl true),as))(hr:∀mo:Int,0<=mo->((c:Int)<=mo->∃as,dZ [.v (.lst P),.v (.int mo)]=some (.v V,as))/\(mo<(c:Int)->∃as,dZ [.v (.lst P),.v (.int mo)]=some (.v (.tup [.str [116,105,114,101,100],.int mo,.non]),as))):∃as,x6 [.v (.lst P),.v V,.v (.int (c:Int))]=some (.v (.bl true),as):=by
 let R:En:=[.v (.lst P),.v V,.v (.int (c:Int))]
 refine kF (r':=R) ?_;show xO R=_;unfold xO;have m1:zJ zIV (zF 2) (mC (.int 1)) R=some (.int ((c:Int)-1)):=yK rfl zM rfl;refine wW ?_ (x5 ?_)
 ·unfold nR;have g1:mBl (zJ gtD (zF 2) (mC (.int 0))) R=some (decide ((0:Int)<(c:Int))):=zM3 rfl zM;rw[g1,aa];by_cases h:0<c
  ·rw[decide_eq_true (by lia),if_pos rfl];refine dU (yK (x:=.tup [.str TIR,.int ((c:Int)-1),.non]) (y:=.tup [.str TIR,.int ((c:Int)-1),.non]) ?_ ?_ (zK0 _))
   ·exact xN (p:=.v (.tup [.str TIR,.int ((c:Int)-1),.non])) (zR rfl (zR m1 yT)) rfl ((hr ((c:Int)-1) (by lia)).2 (by lia))
   ·exact t3 zM m1 zM
  ·rw[decide_eq_false (by lia),if_neg (by decide)]
 ·exact xN (p:=.v (.bl true)) (l:=[V,V]) (zR (xN (p:=.v V) (zR rfl (zR rfl yT)) rfl ((hr (c:Int) (by lia)).1 (wk _))) (zR rfl yT)) rfl al
theorem law_math:∀ns:List Int,ns.length<=63->∃as,YU [.v (.lst (ns.map .int))]=some (.v (.bl true),as):=by
 intro ns hns;obtain⟨c0,hc0⟩:=zIM ns 0;obtain⟨F,F0,hF⟩:=hJ c0 900;obtain⟨ls,hL,hL2⟩:=WP F0
 let cs:List Int:=(ns.take 71).drop 1
 have cl:cs.length<=62:=by simp only[cs,jh,ir];lia
 obtain⟨M,M1,M9,eM⟩:=zGP cs.length cl
 let S:D:=.lst (ns.map .int)
 let L:Sl:=.v (.lst (ls.map .str))
 let C:Sl:=.v (.lst (cs.map .int))
 let Mv:Sl:=.v (.int (M:Int))
 have iv0:Iv none 0 0 .emp (.r []):=⟨trivial,by show 0<=_;lia,by show 1<=_;lia,λdf T H _ d hm=>by
  cases hm with
  |emp m=>exact⟨2,by lia,(zCM (df:=df) (env:=.dct [] []) m).mono (by lia)⟩⟩
 have fo0:FOk ls []:=⟨ng,λs h=>by cases h⟩;obtain⟨ps0,hd0,j0,c,told0,fs,y9,y10,y11,y12,y13,q1,q2,q3,q4,q5,q6,q7⟩:=oK (S:=S) (F:=F) hL (cs:=cs) (M:=M) (by lia) (x14:=.un) (x15:=.un) (x16:=.un) (x17:=.un) (M-1) 0 [] none 0 .emp [] .un .un .un .un .un trivial trivial trivial trivial trivial (by lia) (by lia) .nil rfl iv0 fo0;have fl:=q4.len hL
 let V5:Sl:=.v (.dct (ksF fs) (vsF ld fs))
 let E:Ex->Sl->Sl->List D->Sl->Sl->En:=λtold x14 x15 P x16 x17=>El S F ls cs M V5 told c P y9 y10 y11 y12 y13 x14 x15 x16 x17
 have fin:∃(told:Ex) (w:Wo) (x15:Sl) (j:Nat),j<=8/\Iv hd0 j c told w/\gw w/\sIf (nR (mBl (zJ eqA (zJ jI (zJ xY (zF 1) (mC (.int 7))) (mC (.int 3))) (mC (.int 0)))) (zDI (qS (zF 5)))) (yL (qH 15 (zJ ixD (qN (kG (qS (zF 5)))) (zJ jI (zJ xY (zF 1) (mC (.int 21))) (rG (qS (zF 5)))))) (yL (qH 6 (yY (zA (mC (.str [103,101,116])) (zA (zF 15) (zA (zF 6) zT))))) (qH 14 (rH (qS (zF 5)) (zF 15))))) wB (E told0 (.v (du (.r fs))) .un (prog ps0) .un .un)=some (.nx (E told (.v (du w)) x15 (prog ps0) .un .un)):=by
  let R:En:=E told0 (.v (du (.r fs))) .un (prog ps0) .un .un
  have k1:mBl (zJ eqA (zJ jI (zJ xY (zF 1) (mC (.int 7))) (mC (.int 3))) (mC (.int 0))) R=some (decide (F / 7 % 3=0)):=dU (yK (x:=.int (F / 7 % 3)) (y:=.int 0) (qJ (wU rfl zM (by decide)) zM (by decide)) zM rfl);have k2:zDI (qS (zF 5)) R=some (!(ksF fs).isEmpty):=rfl;have ct:nR (mBl (zJ eqA (zJ jI (zJ xY (zF 1) (mC (.int 7))) (mC (.int 3))) (mC (.int 0)))) (zDI (qS (zF 5))) R=some (decide (F / 7 % 3=0) && !(ksF fs).isEmpty):=by
   unfold nR;rw[k1,aa,k2];cases decide (F / 7 % 3=0)<;>rfl
  cases hz:(decide (F / 7 % 3=0) && !(ksF fs).isEmpty) with
  |false=>
   rw[hz] at ct;exact⟨told0,.r fs,.un,j0,by lia,q3,zQN hL q4,by rw[zDD ct];rfl⟩
  |true=>
   rw[hz] at ct;have hne:nsF fs≠[]:=λz=>by
    rw[JJ,z] at hz;simp at hz
   have nl:(nsF fs).length=fs.length:=by unfold nsF;rw[ao]
   have np:0<(nsF fs).length:=qx.mpr hne;have sd:∀r:En,r[5]?=some V5->qN (kG (qS (zF 5))) r=some (.lst ((kJ (nsF fs)).map .str)):=λr h=>by
    unfold qN;rw[cZ (ss:=nsF fs) (l:=vsF ld fs) (by unfold qS;rw[Y9 h,<-JJ];rfl) (by lia)];rfl
   have ln:rG (qS (zF 5)) R=some (.int ((nsF fs).length:Int)):=by
    show some (D.int ((ksF fs).length:Int))=_;rw[WQ,nl]
   obtain⟨s,hs,es⟩:=pN (l:=kJ (nsF fs)) (r:=R) (f:=qN (kG (qS (zF 5)))) (g:=zJ jI (zJ xY (zF 1) (mC (.int 21))) (rG (qS (zF 5)))) (i:=F / 21 % ((nsF fs).length:Int)) (sd R rfl) (qJ (wU rfl zM (by decide)) ln (by lia)) (fq _ (by lia)) (by rw[j3];exact dm _ (by lia));have hsn:=d9 s hs;obtain⟨v,hv⟩:=jV hsn;refine⟨.get s told0,.l v,.v (.str s),j0+1,by lia,zLK q3 (hL.ok s (q4.sub s hsn)) hv,trivial,?_⟩;rw[zE3 ct];refine yF (.str s) (r2:=E told0 (.v (du (.r fs))) (.v (.str s)) (prog ps0) .un .un) es (by rfl) ?_;refine yF (toD (.get s told0)) (r2:=E (.get s told0) (.v (du (.r fs))) (.v (.str s)) (prog ps0) .un .un) (t3 zM rfl rfl) (by rfl) ?_;refine vX (d:=ld v) ?_ (by rfl);show yW (ksF fs) (vsF ld fs) (ky s)=_;rw[uC,hv];rfl
 obtain⟨told,w,x15,j,j8,iv,hw,ef⟩:=fin
 let ps:Pr:=ps0++[(zIS,told)]
 have pg:Pg ps (some (zIS,w,c)):=.snoc q1 iv hw j8 ⟨by decide,by decide⟩;have pl0:ps0.length=M-1:=by have:=congrArg List.length q2;simpa using this
 have pl:ps.length=M:=by show(ps0++[(zIS,told)]).length=M;rw[bv,pl0];show M-1+1=M;lia
 have pn:(ps.map (·.1)).Nodup:=by
  show((ps0++[(zIS,told)]).map (·.1)).Nodup;rw[fo,q2];exact nI (by lia)
 have ok:=zMN pg;have rep:mY (prog ps)=true:=zE8 (by lia) λp hp=>⟨b8 (ok p hp).1,(ok p hp).1.len,(ok p hp).2⟩
 have rb:=λ(mo:Int) (h:0<=mo)=>zA3 pg (by lia) pn (mo:=mo) h
 let P:List D:=prog ps
 let V:D:=.tup [.str VAL,.int (c:Int),du w]
 have alV:∃as,yG x3 [.v V,.v V]=some (.v (.bl true),as):=by
  refine zC7 (n:=8) (.tup λd hd=>?_) _ (by unfold x3;lia);simp only[bh,eg,or_false] at hd;rcases hd with rfl|rfl|rfl
  ·exact .str _
  ·exact .int _
  ·exact zPD w
 have apV:apD P V=true:=by
  show(true && (true && (apD P (du w) && true)))=true;rw[zPB];rfl
 let B:Sl->Sl->En:=λa b=>E told (.v (du w)) x15 P a b
 have ft:=zLR (P:=P) (V:=V) (c:=c) alV rb
 let G:Sl:=.v (.lst P)
 refine kF (r':=[.v S,.v (.int F),L,C,Mv,V5,.v (toD told),.v (.int (c:Int)),G,y9,y10,y11,y12,y13,.v (du w),x15,.v (mZ P),.v V]) ?_;show zDO [.v S,.un,.un,.un,.un,.un,.un,.un,.un,.un,.un,.un,.un,.un,.un,.un,.un,.un]=_;unfold zDO;refine yF (.int F) (r2:=[.v S,.v (.int F),.un,.un,.un,.un,.un,.un,.un,.un,.un,.un,.un,.un,.un,.un,.un,.un]) (xN (p:=.v (.int F)) (zR (xN (p:=.v (.int c0)) (zR (x:=S) rfl (zR zM yT)) rfl hc0) (zR zM yT)) rfl hF) (by rfl) ?_;refine yF (.lst (ls.map .str)) (r2:=[.v S,.v (.int F),L,.un,.un,.un,.un,.un,.un,.un,.un,.un,.un,.un,.un,.un,.un,.un]) (xN (p:=.v (.lst (ls.map .str))) (zR rfl yT) rfl hL2) (by rfl) ?_;refine yF (.lst (cs.map .int)) (r2:=[.v S,.v (.int F),L,C,.un,.un,.un,.un,.un,.un,.un,.un,.un,.un,.un,.un,.un,.un]) ?_ (by rfl) ?_
 ·refine QX (x:=S) rfl (jF zM) (jF zM) ?_;show some (D.lst (rS (ns.map D.int) (some ((1:Nat):Int)) (some ((71:Nat):Int))))=_;rw[zAA,<-List.map_take,<-List.map_drop]
 refine yF (.int (M:Int)) (r2:=[.v S,.v (.int F),L,C,Mv,.un,.un,.un,.un,.un,.un,.un,.un,.un,.un,.un,.un,.un]) ?_ (by rfl) ?_
 ·rw[<-eM];exact vP zM (wU (zGO zM (yK (x:=.int (cs.length:Int)) (y:=.int 1) (bP (x:=.lst (cs.map .int)) rfl (by show some (D.int ((cs.map D.int).length:Int))=_;rw[ao])) zM rfl)) zM (by decide))
 rw[yP (r':=[.v S,.v (.int F),L,C,Mv,.d false [] [],.un,.un,.un,.un,.un,.un,.un,.un,.un,.un,.un,.un]) (by rfl)];refine yF (toD .emp) (r2:=[.v S,.v (.int F),L,C,Mv,.d false [] [],.v (toD .emp),.un,.un,.un,.un,.un,.un,.un,.un,.un,.un,.un]) (t1 zM) (by rfl) ?_;refine yF (.int 0) (r2:=[.v S,.v (.int F),L,C,Mv,.d false [] [],.v (toD .emp),.v (.int 0),.un,.un,.un,.un,.un,.un,.un,.un,.un,.un]) zM (by rfl) ?_;rw[yP (r':=El S F ls cs M (dkF []) .emp 0 (prog []) .un .un .un .un .un .un .un .un .un) (by rfl)];have s7:o9 (yV 9) (ZO (zF 4)) zDW (El S F ls cs M (dkF []) .emp 0 (prog []) .un .un .un .un .un .un .un .un .un)=some (.nx (El S F ls cs M (dkF fs) told0 c (prog ps0) y9 y10 y11 y12 y13 .un .un .un .un)):=by
  unfold o9;rw[zA4 (n:=M) rfl (by lia),aa,List.range_eq_range'];rw[show M-1+1=M by lia] at q7;exact q7
 unfold zDW zDV zDS at s7;rw[yP s7];have s8:sFz 5 (qH 14 (yY (zA (mC (.str [114,101,99])) (zA (gM (vR [5] 2 (mIt (qN (kG (qS (zF 5))))) (yV 1) (yY (zA (zF 1) (zA (rH (qS (zF 0)) (zF 1)) zT))))) zT)))) (El S F ls cs M (dkF fs) told0 c (prog ps0) y9 y10 y11 y12 y13 .un .un .un .un)=some (.nx (E told0 (.v (du (.r fs))) .un (prog ps0) .un .un)):=by
  show qH 14 _ (E told0 .un .un (prog ps0) .un .un)=_;exact vX (d:=du (.r fs)) (zLX fl rfl) (by rfl)
 rw[yP s8,yP ef];have s9:sX (QL 8 (yY (zA (mC (.str [109,97,105,110])) (zA (zF 6) zT)))) (E told (.v (du w)) x15 (prog ps0) .un .un)=some (.nx (B .un .un)):=by
  have:=rW (i:=8) (r:=E told (.v (du w)) x15 (prog ps0) .un .un) (S:=prog ps0) (d:=.tup [.str zIS,toD told]) (f:=yY (zA (mC (.str [109,97,105,110])) (zA (zF 6) zT))) rfl (t2 zM rfl) (by rw[ZC];exact xW (by lia))
  refine c8 (d:=.non) ?_;rw[this];show some (D.non,E told (.v (du w)) x15 (prog ps0++[.tup [.str zIS,toD told]]) .un .un)=some (D.non,E told (.v (du w)) x15 (prog (ps0++[(zIS,told)])) .un .un);rw[ZD];rfl
 rw[yP s9];have own:∀a b:Sl,o7 8 (B a b)=some P:=λ_ _=>rfl
 refine yF (mZ P) (r2:=B (.v (mZ P)) .un) ?_ (by rfl) ?_
 ·unfold nM;rw[own,aa,if_pos rep]
 refine yF V (r2:=B (.v (mZ P)) (.v V)) (YQ (own _ _) (zR zM yT) rfl ((rb 1000 (by decide)).1 (by lia)) apV) (by rfl) ?_
 let R9:En:=B (.v (mZ P)) (.v V)
 refine wW ?_ ?_
 ·have a1:yD 2 (yG x3) (zA (zF 17) (zA (yY (zA (mC (.str [118,97,108,117,101])) (zA (zF 7) (zA (zF 14) zT)))) zT)) R9=some (.bl true):=xN (p:=.v (.bl true)) (l:=[V,V]) (zR rfl (zR (t3 zM rfl rfl) yT)) rfl alV;have a2:nQ 3 x6 8 (zA (zF 17) (zA (zF 7) zT)) R9=some (.bl true):=YQ (own _ _) (zR rfl (zR rfl yT)) rfl ft rfl;unfold zJE pD kS;rw[a1,a2];rfl
 show jD (zJ eqA (nM (zIX (zF 8))) (zF 16)) [.v S,.v (.int F),L,C,Mv,V5,.v (toD told),.v (.int (c:Int)),G,y9,y10,y11,y12,y13,.v (du w),x15,.v (mZ P),.v V]=_;refine x5 (yK (x:=mZ P) (y:=mZ P) ?_ rfl ?_)
 ·unfold nM;show(some P).bind _=_;rw[aa,if_pos rep]
 ·show some (D.bl (decide (_=_)))=_;rw[decide_eq_true rfl]
theorem zG1{α:Type}{l:List α}(h:l.length=1):∃a0,l=[a0]:=List.length_eq_one_iff.mp h
theorem WN{α:Type}{l:List α}(h:l.length=2):∃a0 a1,l=[a0,a1]:=by
 cases l with
 |nil=>cases h
 |cons a0 l=>obtain⟨a1,rfl⟩:=zG1 (pe h);exact⟨a0,a1,rfl⟩
theorem zJG{α:Type}{l:List α}(h:l.length=3):∃a0 a1 a2,l=[a0,a1,a2]:=by
 cases l with
 |nil=>cases h
 |cons a0 l=>obtain⟨a1,a2,rfl⟩:=WN (pe h);exact⟨a0,a1,a2,rfl⟩
theorem zDK{α:Type}{l:List α}(h:l.length=4):∃a0 a1 a2 a3,l=[a0,a1,a2,a3]:=by
 cases l with
 |nil=>cases h
 |cons a0 l=>obtain⟨a1,a2,a3,rfl⟩:=zJG (pe h);exact⟨a0,a1,a2,a3,rfl⟩
def mL(K:Fg)(n:Str)(st:Stmt):Prop:=∃(f:Addr) (od an:Option Addr) (sl:Array (Option Value)) (oc kV dc pm cd ct:Value),PySem.W.nsIn K bc n=some (some (.ref f))/\K.lookup f=some ⟨oc,od,.func (PySem.W.fnOf n n (vE st) (qR st) (zO st) .none kV dc pm an cd ct),sl⟩/\PySem.W.codeIn K cd n=true/\PySem.W.keepIn K (.ref f)=true
theorem dfo{K:Fg}{n:Str}{st:Stmt}{f:Addr}{od an:Option Addr}{sl:Array (Option Value)}{oc kV dc pm cd ct:Value}(a:PySem.W.nsIn K bc n=some (some (.ref f)))(l:K.lookup f=some ⟨oc,od,.func (PySem.W.fnOf n n (vE st) (qR st) (zO st) .none kV dc pm an cd ct),sl⟩)(c:PySem.W.codeIn K cd n=true)(k:PySem.W.keepIn K (.ref f)=true):mL K n st:=⟨f,od,an,sl,oc,kV,dc,pm,cd,ct,a,l,c,k⟩
theorem deo{K:Fg}{h:Heap}{mg:Str->Option Value}{n:Str}{i:Nat}{ps:List Str}(X:K.In h)(G:h.Ns bc mg)(D:mL K n (top i))(hb:∀{f:Addr} {d:FuncData},Fun K n n (top i) f d->Binds K d ps []):Nonempty (De K mg n i ps):=by
 obtain⟨f,_,_,_,_,_,_,_,_,_,a,l,c,k⟩:=D;have F:=WZ (st:=top i) l c k;exact⟨⟨f,_,F,jg X G a,hb F⟩⟩
def FnK(K:Fg)(n q:Str)(st:Stmt)(f:Addr):Prop:=∃(od an:Option Addr) (sl:Array (Option Value)) (oc kV dc pm cd ct:Value),K.lookup f=some ⟨oc,od,.func (PySem.W.fnOf n q (vE st) (qR st) (zO st) .none kV dc pm an cd ct),sl⟩/\PySem.W.codeIn K cd q=true/\PySem.W.keepIn K (.ref f)=true
theorem fnk{K:Fg}{n q:Str}{st:Stmt}{f:Addr}{od an:Option Addr}{sl:Array (Option Value)}{oc kV dc pm cd ct:Value}(l:K.lookup f=some ⟨oc,od,.func (PySem.W.fnOf n q (vE st) (qR st) (zO st) .none kV dc pm an cd ct),sl⟩)(c:PySem.W.codeIn K cd q=true)(k:PySem.W.keepIn K (.ref f)=true):FnK K n q st f:=⟨od,an,sl,oc,kV,dc,pm,cd,ct,l,c,k⟩
theorem u8{K:Fg}{n q:Str}{st:Stmt}{f:Addr}{ps:List Str}(D:FnK K n q st f)(hb:∀{f:Addr} {d:FuncData},Fun K n q st f d->Binds K d ps []):∃m:Dm K n q st ps,m.a=f/\PySem.W.keepIn K (.ref f)=true:=by
 obtain⟨_,_,_,_,_,_,_,_,_,l,c,k⟩:=D;have F:=WZ (st:=st) l c k;exact⟨⟨f,_,F,hb F⟩,rfl,k⟩
theorem vN{K:Fg}{h:Heap}{mg:Str->Option Value}{n:Str}{i:Nat}{f:Addr}{ps:List Str}(X:K.In h)(G:h.Ns bc mg)(a:PySem.W.nsIn K bc n=some (some (.ref f)))(D:FnK K n n (top i) f)(hb:∀{f:Addr} {d:FuncData},Fun K n n (top i) f d->Binds K d ps []):∃m:De K mg n i ps,m.a=f:=by
 obtain⟨_,_,_,_,_,_,_,_,_,l,c,k⟩:=D;have F:=WZ (st:=top i) l c k;exact⟨⟨f,_,F,jg X G a,hb F⟩,rfl⟩
theorem itup_mk{K:Fg}{p:Addr}{ns:List Int}{od:Option Addr}{its:Array Value}{n:Nat}{sl:Array (Option Value)}(l:K.lookup p=some ⟨.type "tuple",od,.seq its n,sl⟩)(s:its.size<=af)(v:Vals (ns.map V.int) its.toList):Y1 K p ns:=⟨_,_,_,l,rfl,rfl,s,v⟩
theorem zLB{K:Fg}(hm:∀ns:List Int,ns.length<=63->∃as,YU [.v (.lst (ns.map .int))]=some (.v (.bl true),as))(H:Hp)(a:Addr)(ns:List Int)(hl:ns.length<=63)(hS:SqL K H a (ns.map V.int)):spD K 1 YU [.ref a] H (λv _=>v=.bl true) (λ_ _ _=>False):=by
 have il:∀l:List Int,IsL K (λ_=>False) H (l.map D.int) (l.map V.int):=λl=>by
  induction l with
  |nil=>exact IsL.nil
  |cons x l ih=>exact .cons (by rw[Is.int_iff]) ih
 obtain⟨as,e⟩:=hm ns hl;refine⟨λ_=>False,[.v (.lst (ns.map .int))],_,as,rfl,R.args (ds:=[.lst (ns.map .int)]) noF (.cons (by rw[Is.lst_iff];exact⟨a,_,rfl,hS.imp (λz=>⟨id,z⟩) id,il ns⟩) .nil),λi l=>?_,e,λv H' _ iv=>by rw[Is.bl_iff] at iv;exact iv⟩;cases i with
 |zero=>exact⟨(λz=>by cases z),(λz=>by cases z),(λ_ z=>by cases z)⟩
 |succ i=>exact⟨(λz=>by cases z),(λz=>by cases z),(λ_ z=>by cases z)⟩
theorem all_mk{l:PySem.W.OpenLaw}{w:World}{K:Fg}{h:Heap}{mg:Str->Option Value}{fa:Addr}(X:K.In h)(G:h.Ns bc mg)(hfa:mg "law" = some (.ref fa))(D0:mL K "inner" (top 2))(D1:mL K "places" (top 1))(D2:mL K "inner_numbers" (top 4))(D3:mL K "sort_of" (top 9))(D4:mL K "binding" (top 10))(D5:mL K "held_in" (top 38))(D6:mL K "told_part" (top 39))(D7:mL K "told" (top 37))(D8:mL K "marked" (top 15))(D9:mL K "has_field" (top 17))(D10:mL K "has_no_field" (top 18))(D11:mL K "with_field" (top 19))(D12:mL K "without_field" (top 20))(D13:mL K "_law_cell" (top 41))(D14:mL K "_law_mixed" (top 42))(D15:mL K "_law_alike" (top 43))(D16:mL K "_law_labels" (top 44))(D17:mL K "_law_laid" (top 45))(D18:mL K "_law_done" (top 46))(D19:mL K "_law_steps_fit" (top 47))(D20:mL K "law" (top 48)){C B:Addr}(aC:PySem.W.nsIn K bc "Plain" = some (some (.ref C)))(aB:PySem.W.nsIn K bc "Reckoner" = some (some (.ref B)))(pg:PySem.W.plainGet K C Str.empty=true)(hd:PySem.W.hasDictIn K C=true)(po:PySem.W.plainOver K C=true)(sa:PySem.W.findIn K (.ref C) "__setattr__" = some (some (.builtin "object.__setattr__")))(mk:PySem.W.makesIn K C=true)(kc:PySem.W.keepIn K (.ref C)=true)(n_most:PySem.W.findIn K (.ref C) "most" = some none)(n_steps:PySem.W.findIn K (.ref C) "steps" = some none)(n_waiting:PySem.W.findIn K (.ref C) "waiting" = some none)(n_come:PySem.W.findIn K (.ref C) "come" = some none)(n_ended:PySem.W.findIn K (.ref C) "ended" = some none)(n_defs:PySem.W.findIn K (.ref C) "defs" = some none){f_rinit:Addr}(fc:PySem.W.findCls K (.ref B) (.type "type") "__init__" = some (.val (.ref f_rinit)))(cga:PySem.W.specialIn K (.ref B) "__getattribute__" = some (some (.builtin "type.__getattribute__")))(crd:PySem.W.readsIn K B (.type "type")=true)(chh:PySem.W.handedIn (.ref f_rinit)=true)(q_rinit:FnK K "__init__" "Reckoner.__init__" (cP 8 0) f_rinit){f_pinit:Addr}(a_pinit:PySem.W.findIn K (.ref C) "__init__" = some (some (.ref f_pinit)))(i_pinit:PySem.W.isFn K (.ref f_pinit)=true)(q_pinit:FnK K "__init__" "Plain.__init__" (cP 16 0) f_pinit){xT:Addr}(a_begin:PySem.W.findIn K (.ref C) "begin" = some (some (.ref xT)))(i_begin:PySem.W.isFn K (.ref xT)=true)(q_begin:FnK K "begin" "Reckoner.begin" (cP 8 1) xT){xH:Addr}(a_tell:PySem.W.findIn K (.ref C) "tell" = some (some (.ref xH)))(i_tell:PySem.W.isFn K (.ref xH)=true)(q_tell:FnK K "tell" "Reckoner.tell" (cP 8 2) xH){qY:Addr}(a_step:PySem.W.findIn K (.ref C) "step" = some (some (.ref qY)))(i_step:PySem.W.isFn K (.ref qY)=true)(q_step:FnK K "step" "Reckoner.step" (cP 8 3) qY){jK:Addr}(a_run_on:PySem.W.findIn K (.ref C) "run_on" = some (some (.ref jK)))(i_run_on:PySem.W.isFn K (.ref jK)=true)(q_run_on:FnK K "run_on" "Reckoner.run_on" (cP 8 4) jK){yI:Addr}(a_begin_parts:PySem.W.findIn K (.ref C) "begin_parts" = some (some (.ref yI)))(i_begin_parts:PySem.W.isFn K (.ref yI)=true)(q_begin_parts:FnK K "begin_parts" "Reckoner.begin_parts" (cP 8 5) yI){yO:Addr}(a_parts_come:PySem.W.findIn K (.ref C) "parts_come" = some (some (.ref yO)))(i_parts_come:PySem.W.isFn K (.ref yO)=true)(q_parts_come:FnK K "parts_come" "Reckoner.parts_come" (cP 8 6) yO){qE:Addr}(a_go_on:PySem.W.findIn K (.ref C) "go_on" = some (some (.ref qE)))(i_go_on:PySem.W.isFn K (.ref qE)=true)(q_go_on:FnK K "go_on" "Plain.go_on" (cP 16 1) qE){f_run:Addr}(a_run:PySem.W.nsIn K bc "run" = some (some (.ref f_run)))(q_run:FnK K "run" "run" (top 14) f_run){jL:Addr}(a_of_num:PySem.W.nsIn K bc "of_num" = some (some (.ref jL)))(q_of_num:FnK K "of_num" "of_num" (top 21) jL){y8:Addr}(a_of_name:PySem.W.nsIn K bc "of_name" = some (some (.ref y8)))(q_of_name:FnK K "of_name" "of_name" (top 22) y8){vC:Addr}(a_of_fn:PySem.W.nsIn K bc "of_fn" = some (some (.ref vC)))(q_of_fn:FnK K "of_fn" "of_fn" (top 23) vC){qQ:Addr}(a_of_do:PySem.W.nsIn K bc "of_do" = some (some (.ref qQ)))(q_of_do:FnK K "of_do" "of_do" (top 24) qQ){wN:Addr}(a_of_empty:PySem.W.nsIn K bc "of_empty" = some (some (.ref wN)))(q_of_empty:FnK K "of_empty" "of_empty" (top 25) wN){qD:Addr}(a_of_get:PySem.W.nsIn K bc "of_get" = some (some (.ref qD)))(q_of_get:FnK K "of_get" "of_get" (top 26) qD){wT:Addr}(a_of_with:PySem.W.nsIn K bc "of_with" = some (some (.ref wT)))(q_of_with:FnK K "of_with" "of_with" (top 27) wT){qV:Addr}(a_of_put:PySem.W.nsIn K bc "of_put" = some (some (.ref qV)))(q_of_put:FnK K "of_put" "of_put" (top 28) qV){wF:Addr}(a_of_less:PySem.W.nsIn K bc "of_less" = some (some (.ref wF)))(q_of_less:FnK K "of_less" "of_less" (top 29) wF){qU:Addr}(a_of_tag:PySem.W.nsIn K bc "of_tag" = some (some (.ref qU)))(q_of_tag:FnK K "of_tag" "of_tag" (top 30) qU){g_of_wide g_of_case g_of_never g_of_if g_of_working:Addr}{p_WAYS:Addr}{es_WAYS:Array DictEntry}{n_WAYS:Nat}(c_WAYS:PySem.W.nsIn K bc "WAYS" = some (some (.ref p_WAYS)))(l_WAYS:K.lookup p_WAYS=some ⟨.type "dict",none,.dict es_WAYS n_WAYS,#[]⟩)(y_WAYS:(p_WAYS == ik)=false)(k_WAYS:PySem.W.KeysLit w.params es_WAYS.toList)(e_WAYS:YV es_WAYS.toList [([110,117,109],jL),([110,97,109,101],y8),([102,110],vC),([100,111],qQ),([101,109,112,116,121],wN),([103,101,116],qD),([119,105,116,104],wT),([112,117,116],qV),([108,101,115,115],wF),([116,97,103],qU),([119,105,100,101],g_of_wide),([99,97,115,101],g_of_case),([110,101,118,101,114],g_of_never),([105,102],g_of_if),([43],g_of_working),([45],g_of_working),([42],g_of_working),([60],g_of_working)]){t_0 t_1 t_2 t_3 t_4 t_5 t_6 t_7 t_8 t_9 t_10 t_11 t_12 t_13:Addr}{p_AHEAD:Addr}{es_AHEAD:Array DictEntry}{n_AHEAD:Nat}(c_AHEAD:PySem.W.nsIn K bc "AHEAD" = some (some (.ref p_AHEAD)))(l_AHEAD:K.lookup p_AHEAD=some ⟨.type "dict",none,.dict es_AHEAD n_AHEAD,#[]⟩)(y_AHEAD:(p_AHEAD == ik)=false)(k_AHEAD:PySem.W.KeysLit w.params es_AHEAD.toList)(e_AHEAD:YV es_AHEAD.toList [([100,111],t_0),([103,101,116],t_1),([119,105,116,104],t_2),([112,117,116],t_3),([108,101,115,115],t_4),([116,97,103],t_5),([119,105,100,101],t_6),([99,97,115,101],t_7),([110,101,118,101,114],t_8),([105,102],t_9),([43],t_10),([45],t_11),([42],t_12),([60],t_13)])(j_0:Y1 K t_0 [1,2])(j_1:Y1 K t_1 [2])(j_2:Y1 K t_2 [2,3])(j_3:Y1 K t_3 [2,3])(j_4:Y1 K t_4 [2])(j_5:Y1 K t_5 [2])(j_6:Y1 K t_6 [2])(j_7:Y1 K t_7 [1])(j_8:Y1 K t_8 [1])(j_9:Y1 K t_9 [1])(j_10:Y1 K t_10 [1,2])(j_11:Y1 K t_11 [1,2])(j_12:Y1 K t_12 [1,2])(j_13:Y1 K t_13 [1,2])(z_bool:PySem.W.nsIn K bc "bool" = some none)(z_dict:PySem.W.nsIn K bc "dict" = some none)(z_enumerate:PySem.W.nsIn K bc "enumerate" = some none)(z_int:PySem.W.nsIn K bc "int" = some none)(z_isinstance:PySem.W.nsIn K bc "isinstance" = some none)(z_len:PySem.W.nsIn K bc "len" = some none)(z_list:PySem.W.nsIn K bc "list" = some none)(z_max:PySem.W.nsIn K bc "max" = some none)(z_range:PySem.W.nsIn K bc "range" = some none)(z_repr:PySem.W.nsIn K bc "repr" = some none)(z_reversed:PySem.W.nsIn K bc "reversed" = some none)(z_sorted:PySem.W.nsIn K bc "sorted" = some none)(z_str:PySem.W.nsIn K bc "str" = some none)(z_tuple:PySem.W.nsIn K bc "tuple" = some none)(z_zip:PySem.W.nsIn K bc "zip" = some none){t_MOST_PARTS:Tok}(c_MOST_PARTS:PySem.W.nsIn K bc "MOST_PARTS" = some (some (.int 200 t_MOST_PARTS))):∃fd:FuncData,(∀(s:Shared) (v:Value),BindsTo s fd ⟨[v],[]⟩ [("_law_script",v)])/\∀base:Heap,K.In base->base.Ns bc mg->FnOk l.prog w K mg base CX0 62 fa fd ["_law_script"] (spD K 1 YU):=by
 obtain⟨f20,_,_,_,_,_,_,_,_,_,a20,l20,c20,k20⟩:=D20;have e:=hfa.symm.trans (jg X G a20);cases e;have F20:=WZ (st:=top 48) l20 c20 k20;have b20:=F20.binds (ps:=["_law_script"]) λ_ _ _ _ _ _ us hl=>by obtain⟨_,rfl⟩:=zG1 hl;rfl
 obtain⟨m_rinit,rfl,k_rinit⟩:=u8 (ps:=["self", "most"]) q_rinit λF=>F.binds (ps:=["self", "most"]) λ_ _ _ _ _ _ us hl=>by obtain⟨_,_,rfl⟩:=WN hl;rfl
 obtain⟨m_pinit,rfl,k_pinit⟩:=u8 (ps:=["self", "program", "most"]) q_pinit λF=>F.binds (ps:=["self", "program", "most"]) λ_ _ _ _ _ _ us hl=>by obtain⟨_,_,_,rfl⟩:=zJG hl;rfl
 obtain⟨m_begin,rfl,k_begin⟩:=u8 (ps:=["self", "expression", "around"]) q_begin λF=>F.binds (ps:=["self", "expression", "around"]) λ_ _ _ _ _ _ us hl=>by obtain⟨_,_,_,rfl⟩:=zJG hl;rfl
 obtain⟨m_tell,rfl,k_tell⟩:=u8 (ps:=["self", "value"]) q_tell λF=>F.binds (ps:=["self", "value"]) λ_ _ _ _ _ _ us hl=>by obtain⟨_,_,rfl⟩:=WN hl;rfl
 obtain⟨m_step,rfl,k_step⟩:=u8 (ps:=["self"]) q_step λF=>F.binds (ps:=["self"]) λ_ _ _ _ _ _ us hl=>by obtain⟨_,rfl⟩:=zG1 hl;rfl
 obtain⟨m_run_on,rfl,k_run_on⟩:=u8 (ps:=["self"]) q_run_on λF=>F.binds (ps:=["self"]) λ_ _ _ _ _ _ us hl=>by obtain⟨_,rfl⟩:=zG1 hl;rfl
 obtain⟨m_begin_parts,rfl,k_begin_parts⟩:=u8 (ps:=["self", "expression", "around"]) q_begin_parts λF=>F.binds (ps:=["self", "expression", "around"]) λ_ _ _ _ _ _ us hl=>by obtain⟨_,_,_,rfl⟩:=zJG hl;rfl
 obtain⟨m_parts_come,rfl,k_parts_come⟩:=u8 (ps:=["self", "expression"]) q_parts_come λF=>F.binds (ps:=["self", "expression"]) λ_ _ _ _ _ _ us hl=>by obtain⟨_,_,rfl⟩:=WN hl;rfl
 obtain⟨m_go_on,rfl,k_go_on⟩:=u8 (ps:=["self", "expression", "bound", "parts"]) q_go_on λF=>F.binds (ps:=["self", "expression", "bound", "parts"]) λ_ _ _ _ _ _ us hl=>by obtain⟨_,_,_,_,rfl⟩:=zDK hl;rfl
 obtain⟨d_run,rfl⟩:=vN (ps:=["program", "most"]) X G a_run q_run λF=>F.binds (ps:=["program", "most"]) λ_ _ _ _ _ _ us hl=>by obtain⟨_,_,rfl⟩:=WN hl;rfl
 obtain⟨d_of_num,rfl⟩:=vN (ps:=["plain", "expression", "bound", "parts"]) X G a_of_num q_of_num λF=>F.binds (ps:=["plain", "expression", "bound", "parts"]) λ_ _ _ _ _ _ us hl=>by obtain⟨_,_,_,_,rfl⟩:=zDK hl;rfl
 obtain⟨d_of_name,rfl⟩:=vN (ps:=["plain", "expression", "bound", "parts"]) X G a_of_name q_of_name λF=>F.binds (ps:=["plain", "expression", "bound", "parts"]) λ_ _ _ _ _ _ us hl=>by obtain⟨_,_,_,_,rfl⟩:=zDK hl;rfl
 obtain⟨d_of_fn,rfl⟩:=vN (ps:=["plain", "expression", "bound", "parts"]) X G a_of_fn q_of_fn λF=>F.binds (ps:=["plain", "expression", "bound", "parts"]) λ_ _ _ _ _ _ us hl=>by obtain⟨_,_,_,_,rfl⟩:=zDK hl;rfl
 obtain⟨d_of_do,rfl⟩:=vN (ps:=["plain", "expression", "bound", "parts"]) X G a_of_do q_of_do λF=>F.binds (ps:=["plain", "expression", "bound", "parts"]) λ_ _ _ _ _ _ us hl=>by obtain⟨_,_,_,_,rfl⟩:=zDK hl;rfl
 obtain⟨d_of_empty,rfl⟩:=vN (ps:=["plain", "expression", "bound", "parts"]) X G a_of_empty q_of_empty λF=>F.binds (ps:=["plain", "expression", "bound", "parts"]) λ_ _ _ _ _ _ us hl=>by obtain⟨_,_,_,_,rfl⟩:=zDK hl;rfl
 obtain⟨d_of_get,rfl⟩:=vN (ps:=["plain", "expression", "bound", "parts"]) X G a_of_get q_of_get λF=>F.binds (ps:=["plain", "expression", "bound", "parts"]) λ_ _ _ _ _ _ us hl=>by obtain⟨_,_,_,_,rfl⟩:=zDK hl;rfl
 obtain⟨d_of_with,rfl⟩:=vN (ps:=["plain", "expression", "bound", "parts"]) X G a_of_with q_of_with λF=>F.binds (ps:=["plain", "expression", "bound", "parts"]) λ_ _ _ _ _ _ us hl=>by obtain⟨_,_,_,_,rfl⟩:=zDK hl;rfl
 obtain⟨d_of_put,rfl⟩:=vN (ps:=["plain", "expression", "bound", "parts"]) X G a_of_put q_of_put λF=>F.binds (ps:=["plain", "expression", "bound", "parts"]) λ_ _ _ _ _ _ us hl=>by obtain⟨_,_,_,_,rfl⟩:=zDK hl;rfl
 obtain⟨d_of_less,rfl⟩:=vN (ps:=["plain", "expression", "bound", "parts"]) X G a_of_less q_of_less λF=>F.binds (ps:=["plain", "expression", "bound", "parts"]) λ_ _ _ _ _ _ us hl=>by obtain⟨_,_,_,_,rfl⟩:=zDK hl;rfl
 obtain⟨d_of_tag,rfl⟩:=vN (ps:=["plain", "expression", "bound", "parts"]) X G a_of_tag q_of_tag λF=>F.binds (ps:=["plain", "expression", "bound", "parts"]) λ_ _ _ _ _ _ us hl=>by obtain⟨_,_,_,_,rfl⟩:=zDK hl;rfl
 exact⟨_,λs v=>.of_eq rfl,λbase _ _=>zKW ⟨Classical.choice (deo (ps:=["expression"]) X G D0 λF=>F.binds (ps:=["expression"]) λ_ _ _ _ _ _ us hl=>by obtain⟨_,rfl⟩:=zG1 hl;rfl),
  Classical.choice (deo (ps:=["E"]) X G D1 λF=>F.binds (ps:=["E"]) λ_ _ _ _ _ _ us hl=>by obtain⟨_,rfl⟩:=zG1 hl;rfl),
  Classical.choice (deo (ps:=["expression", "number"]) X G D2 λF=>F.binds (ps:=["expression", "number"]) λ_ _ _ _ _ _ us hl=>by obtain⟨_,_,rfl⟩:=WN hl;rfl),
  Classical.choice (deo (ps:=["value"]) X G D3 λF=>F.binds (ps:=["value"]) λ_ _ _ _ _ _ us hl=>by obtain⟨_,rfl⟩:=zG1 hl;rfl),
  Classical.choice (deo (ps:=["bound", "name", "value"]) X G D4 λF=>F.binds (ps:=["bound", "name", "value"]) λ_ _ _ _ _ _ us hl=>by obtain⟨_,_,_,rfl⟩:=zJG hl;rfl),
  Classical.choice (deo (ps:=["value"]) X G D5 λF=>F.binds (ps:=["value"]) λ_ _ _ _ _ _ us hl=>by obtain⟨_,rfl⟩:=zG1 hl;rfl),
  Classical.choice (deo (ps:=["value", "held"]) X G D6 λF=>F.binds (ps:=["value", "held"]) λ_ _ _ _ _ _ us hl=>by obtain⟨_,_,rfl⟩:=WN hl;rfl),
  Classical.choice (deo (ps:=["value"]) X G D7 λF=>F.binds (ps:=["value"]) λ_ _ _ _ _ _ us hl=>by obtain⟨_,rfl⟩:=zG1 hl;rfl),
  Classical.choice (deo (ps:=["expression", "name", "number"]) X G D8 λF=>F.binds (ps:=["expression", "name", "number"]) λ_ _ _ _ _ _ us hl=>by obtain⟨_,_,_,rfl⟩:=zJG hl;rfl),
  Classical.choice (deo (ps:=["value", "label"]) X G D9 λF=>F.binds (ps:=["value", "label"]) λ_ _ _ _ _ _ us hl=>by obtain⟨_,_,rfl⟩:=WN hl;rfl),
  Classical.choice (deo (ps:=["value", "label"]) X G D10 λF=>F.binds (ps:=["value", "label"]) λ_ _ _ _ _ _ us hl=>by obtain⟨_,_,rfl⟩:=WN hl;rfl),
  Classical.choice (deo (ps:=["record", "label", "value"]) X G D11 λF=>F.binds (ps:=["record", "label", "value"]) λ_ _ _ _ _ _ us hl=>by obtain⟨_,_,_,rfl⟩:=zJG hl;rfl),
  Classical.choice (deo (ps:=["record", "label"]) X G D12 λF=>F.binds (ps:=["record", "label"]) λ_ _ _ _ _ _ us hl=>by obtain⟨_,_,rfl⟩:=WN hl;rfl),
  Classical.choice (deo (ps:=["_law_script", "_law_k"]) X G D13 λF=>F.binds (ps:=["_law_script", "_law_k"]) λ_ _ _ _ _ _ us hl=>by obtain⟨_,_,rfl⟩:=WN hl;rfl),
  Classical.choice (deo (ps:=["_law_cell_here", "_law_k"]) X G D14 λF=>F.binds (ps:=["_law_cell_here", "_law_k"]) λ_ _ _ _ _ _ us hl=>by obtain⟨_,_,rfl⟩:=WN hl;rfl),
  Classical.choice (deo (ps:=["_law_found", "_law_due"]) X G D15 λF=>F.binds (ps:=["_law_found", "_law_due"]) λ_ _ _ _ _ _ us hl=>by obtain⟨_,_,rfl⟩:=WN hl;rfl),
  Classical.choice (deo (ps:=["_law_cell_here"]) X G D16 λF=>F.binds (ps:=["_law_cell_here"]) λ_ _ _ _ _ _ us hl=>by obtain⟨_,rfl⟩:=zG1 hl;rfl),
  Classical.choice (deo (ps:=["_law_number", "_law_labels_here"]) X G D17 λF=>F.binds (ps:=["_law_number", "_law_labels_here"]) λ_ _ _ _ _ _ us hl=>by obtain⟨_,_,rfl⟩:=WN hl;rfl),
  Classical.choice (deo (ps:=["_law_told", "_law_fields", "_law_number", "_law_labels_here"]) X G D18 λF=>F.binds (ps:=["_law_told", "_law_fields", "_law_number", "_law_labels_here"]) λ_ _ _ _ _ _ us hl=>by obtain⟨_,_,_,_,rfl⟩:=zDK hl;rfl),
  Classical.choice (deo (ps:=["_law_program", "_law_found", "_law_steps"]) X G D19 λF=>F.binds (ps:=["_law_program", "_law_found", "_law_steps"]) λ_ _ _ _ _ _ us hl=>by obtain⟨_,_,_,rfl⟩:=zJG hl;rfl),
  ⟨_,_,F20,jg X G a20,b20⟩,
  C,
  B,
  jg X G aC,
  jg X G aB,
  ⟨pg,hd,po,sa⟩,
  n_most,
  n_steps,
  n_waiting,
  n_come,
  n_ended,
  n_defs,
  m_rinit,
  m_pinit,
  m_begin,
  m_tell,
  m_step,
  m_run_on,
  m_begin_parts,
  m_parts_come,
  m_go_on,
  ⟨a_begin,i_begin,k_begin⟩,
  ⟨a_tell,i_tell,k_tell⟩,
  ⟨a_step,i_step,k_step⟩,
  ⟨a_run_on,i_run_on,k_run_on⟩,
  ⟨a_begin_parts,i_begin_parts,k_begin_parts⟩,
  ⟨a_parts_come,i_parts_come,k_parts_come⟩,
  ⟨a_go_on,i_go_on,k_go_on⟩,
  ⟨mk,a_pinit,i_pinit,kc⟩,
  ⟨cga,crd,fc,chh,k_rinit⟩,
  d_run,
  d_of_num,
  d_of_name,
  d_of_fn,
  d_of_do,
  d_of_empty,
  d_of_get,
  d_of_with,
  d_of_put,
  d_of_less,
  d_of_tag,
  _,
  ⟨_,_,_,jg X G c_WAYS,y_WAYS,l_WAYS,k_WAYS,e_WAYS⟩,
  ⟨_,⟨_,_,_,jg X G c_AHEAD,y_AHEAD,l_AHEAD,k_AHEAD,e_AHEAD⟩,⟨_,_,rfl,j_0,⟨_,_,rfl,j_1,⟨_,_,rfl,j_2,⟨_,_,rfl,j_3,⟨_,_,rfl,j_4,⟨_,_,rfl,j_5,⟨_,_,rfl,j_6,⟨_,_,rfl,j_7,⟨_,_,rfl,j_8,⟨_,_,rfl,j_9,⟨_,_,rfl,j_10,⟨_,_,rfl,j_11,⟨_,_,rfl,j_12,⟨_,_,rfl,j_13,rfl⟩⟩⟩⟩⟩⟩⟩⟩⟩⟩⟩⟩⟩⟩⟩,
  rfl,
  rfl,
  rfl,
  rfl,
  rfl,
  rfl,
  rfl,
  rfl,
  rfl,
  rfl,cg X G z_bool,cg X G z_dict,cg X G z_enumerate,cg X G z_int,cg X G z_isinstance,cg X G z_len,cg X G z_list,cg X G z_max,cg X G z_range,cg X G z_repr,cg X G z_reversed,cg X G z_sorted,cg X G z_str,cg X G z_tuple,cg X G z_zip,⟨_,jg X G c_MOST_PARTS⟩⟩⟩
theorem walk{l:PySem.W.OpenLaw}{q:Program}{loose:List Str}{XP:(Str->Option Value)->Heap->Prop}{YP:World->Heap->Prop}{d:DefRec}{K:Params->Fg}(hm:∀ns:List Int,ns.length<=63->∃as,YU [.v (.lst (ns.map .int))]=some (.v (.bl true),as))(hn:l.most=some 63)(hdf:d.params.defaults=[])(hY:∀(w:World) (h:Heap),YP w h->(K w.params).In h)(F:∀(w:World) (mg:Str->Option Value) (fa:Addr) (h:Heap),(K w.params).In h->h.Ns bc mg->mg d.name=some (.ref fa) ->
   ∃fd:FuncData,(∀(s:Shared) (u:Value),BindsTo s fd ⟨[u],[]⟩ [("_law_script",u)])/\∀base:Heap,(K w.params).In base->base.Ns bc mg->FnOk l.prog w (K w.params) mg base CX0 62 fa fd ["_law_script"] (spD (K w.params) 1 YU)):PySem.W.WalkO q loose XP YP l.row.toRowW d [] (λf vs=>PySem.call f vs):=
 L2.walk_ofK (n:=63) (k:=62) (x:="_law_script") (CX:=CX0) (sp:=λK=>spD K 1 YU) hn (by decide) hdf ⟨rfl,by decide,by decide,rfl⟩ hY F (λK H a ns hl _ hS=>zLB hm H a ns hl hS) λ_ _ _ _ z=>z
end K43
/-! twins that no proof needs: where a constant of such a name stands, the head lays none -/
namespace PySem.W.Fast
noncomputable def tw614661434628665143 : Nat := 0
noncomputable def tw14140121972795414869 : Nat := 0
noncomputable def tw5813440653942427023 : Nat := 0
noncomputable def tw12030187534635719521 : Nat := 0
noncomputable def tw17773427874381066334 : Nat := 0
noncomputable def tw3378908010396102320 : Nat := 0
noncomputable def tw14239782046600302481 : PySem.Program := PySem.Challenge.pw_fieldrows_k43_records
theorem te14239782046600302481 : PySem.Challenge.pw_fieldrows_k43_records = tw14239782046600302481 := rfl
noncomputable def tw15550371962767232189 : Nat := 0
noncomputable def tw11206212931637661626 : Nat := 0
noncomputable def tw12679991810044039707 : Nat := 0
noncomputable def tw18436088512748443458 : Nat := 0
noncomputable def tw15145158334579561043 : Nat := 0
noncomputable def tw7559576434999966125 : Nat := 0
noncomputable def tw3721753453858437603 : Nat := 0
noncomputable def tw129566634089884998 : Nat := 0
noncomputable def tw6314861831397845402 : Nat := 0
noncomputable def tw11155055067255383258 : Nat := 0
noncomputable def tw14802789900596291348 : Nat := 0
end PySem.W.Fast
open PyProof.Rows PySem PySem.W
set_option maxRecDepth 100000 in
set_option maxHeartbeats 0 in
theorem PySem.Challenge.cw_fieldrows_k43_records_holds : PySem.Challenge.rw_fieldrows_k43_records.Holds := by
  w_on; o_law; k_head; (case hw => w_witness2)
  k_fill
  refine K43.walk (l := PySem.Challenge.rw_fieldrows_k43_records) K43.law_math rfl rfl (fun w h Y => PySem.W.kIn_of Y) ?F
  case F =>
    intro w mg fa h KX G hmg
    refine' K43.all_mk KX G hmg (K43.dfo ?q0a ?q0b ?q0c ?q0d) (K43.dfo ?q0e ?q0f ?q0g ?q0h) (K43.dfo ?q0i ?q0j ?q0k ?q0l) (K43.dfo ?q0m ?q0n ?q0o ?q0p) (K43.dfo ?q0q ?q0r ?q0s ?q0t) (K43.dfo ?q0u ?q0v ?q0w ?q0x) (K43.dfo ?q0y ?q0z ?q1a ?q1b) (K43.dfo ?q1c ?q1d ?q1e ?q1f) (K43.dfo ?q1g ?q1h ?q1i ?q1j) (K43.dfo ?q1k ?q1l ?q1m ?q1n) (K43.dfo ?q1o ?q1p ?q1q ?q1r) (K43.dfo ?q1s ?q1t ?q1u ?q1v) (K43.dfo ?q1w ?q1x ?q1y ?q1z) (K43.dfo ?q2a ?q2b ?q2c ?q2d) (K43.dfo ?q2e ?q2f ?q2g ?q2h) (K43.dfo ?q2i ?q2j ?q2k ?q2l) (K43.dfo ?q2m ?q2n ?q2o ?q2p) (K43.dfo ?q2q ?q2r ?q2s ?q2t) (K43.dfo ?q2u ?q2v ?q2w ?q2x) (K43.dfo ?q2y ?q2z ?q3a ?q3b) (K43.dfo ?q3c ?q3d ?q3e ?q3f) ?q3g ?q3h ?q3i ?q3j ?q3k ?q3l ?q3m ?q3n ?q3o ?q3p ?q3q ?q3r ?q3s ?q3t ?q3u ?q3v ?q3w ?q3x (K43.fnk ?q3y ?q3z ?q4a) ?q4b ?q4c (K43.fnk ?q4d ?q4e ?q4f) ?q4g ?q4h (K43.fnk ?q4i ?q4j ?q4k) ?q4l ?q4m (K43.fnk ?q4n ?q4o ?q4p) ?q4q ?q4r (K43.fnk ?q4s ?q4t ?q4u) ?q4v ?q4w (K43.fnk ?q4x ?q4y ?q4z) ?q5a ?q5b (K43.fnk ?q5c ?q5d ?q5e) ?q5f ?q5g (K43.fnk ?q5h ?q5i ?q5j) ?q5k ?q5l (K43.fnk ?q5m ?q5n ?q5o) ?q5p (K43.fnk ?q5q ?q5r ?q5s) ?q5t (K43.fnk ?q5u ?q5v ?q5w) ?q5x (K43.fnk ?q5y ?q5z ?q6a) ?q6b (K43.fnk ?q6c ?q6d ?q6e) ?q6f (K43.fnk ?q6g ?q6h ?q6i) ?q6j (K43.fnk ?q6k ?q6l ?q6m) ?q6n (K43.fnk ?q6o ?q6p ?q6q) ?q6r (K43.fnk ?q6s ?q6t ?q6u) ?q6v (K43.fnk ?q6w ?q6x ?q6y) ?q6z (K43.fnk ?q7a ?q7b ?q7c) ?q7d (K43.fnk ?q7e ?q7f ?q7g) ?q7h ?q7i ?q7j ?q7k ?q7l ?q7m ?q7n ?q7o ?q7p ?q7q (K43.itup_mk ?q7r ?q7s ?q7t) (K43.itup_mk ?q7u ?q7v ?q7w) (K43.itup_mk ?q7x ?q7y ?q7z) (K43.itup_mk ?q8a ?q8b ?q8c) (K43.itup_mk ?q8d ?q8e ?q8f) (K43.itup_mk ?q8g ?q8h ?q8i) (K43.itup_mk ?q8j ?q8k ?q8l) (K43.itup_mk ?q8m ?q8n ?q8o) (K43.itup_mk ?q8p ?q8q ?q8r) (K43.itup_mk ?q8s ?q8t ?q8u) (K43.itup_mk ?q8v ?q8w ?q8x) (K43.itup_mk ?q8y ?q8z ?q9a) (K43.itup_mk ?q9b ?q9c ?q9d) (K43.itup_mk ?q9e ?q9f ?q9g) ?q9h ?q9i ?q9j ?q9k ?q9l ?q9m ?q9n ?q9o ?q9p ?q9q ?q9r ?q9s ?q9t ?q9u ?q9v ?q9w
    (case q0a|q0b|q0c|q0d|q0e|q0f|q0g|q0h|q0i|q0j|q0k|q0l|q0m|q0n|q0o|q0p|q0q|q0r|q0s|q0t|q0u|q0v|q0w|q0x|q0y|q0z|q1a|q1b|q1c|q1d|q1e|q1f|q1g|q1h|q1i|q1j|q1k|q1l|q1m|q1n|q1o|q1p|q1q|q1r|q1s|q1t|q1u|q1v|q1w|q1x|q1y|q1z|q2a|q2b|q2c|q2d|q2e|q2f|q2g|q2h|q2i|q2j|q2k|q2l|q2m|q2n|q2o|q2p|q2q|q2r|q2s|q2t|q2u|q2v|q2w|q2x|q2y|q2z|q3a|q3b|q3c|q3d|q3e|q3f|q3g|q3h|q3i|q3j|q3k|q3l|q3m|q3n|q3o|q3p|q3q|q3r|q3s|q3t|q3u|q3v|q3w|q3y|q3z|q4a|q4b|q4c|q4d|q4e|q4f|q4g|q4h|q4i|q4j|q4k|q4l|q4m|q4n|q4o|q4p|q4q|q4r|q4s|q4t|q4u|q4v|q4w|q4x|q4y|q4z|q5a|q5b|q5c|q5d|q5e|q5f|q5g|q5h|q5i|q5j|q5k|q5l|q5m|q5n|q5o|q5p|q5q|q5r|q5s|q5t|q5u|q5v|q5w|q5x|q5y|q5z|q6a|q6b|q6c|q6d|q6e|q6f|q6g|q6h|q6i|q6j|q6k|q6l|q6m|q6n|q6o|q6p|q6q|q6r|q6s|q6t|q6u|q6v|q6w|q6x|q6y|q6z|q7a|q7b|q7c|q7d|q7e|q7f|q7g|q7h|q7i|q7m|q7n|q9h|q9i|q9j|q9k|q9l|q9m|q9n|q9o|q9p|q9q|q9r|q9s|q9t|q9u|q9v|q9w => k_is)
    (case q7j|q7o => decide)
    (case q7l|q7q => repeat (first | exact rfl | refine ⟨_, _, rfl, ⟨_, rfl, rfl⟩, ?_⟩))
    (case q7k|q7p => repeat (first | exact trivial | refine ⟨⟨_, _, rfl, rfl⟩, ?_⟩))
    (case q3x => rfl)
    (case q7r|q7u|q7x|q8a|q8d|q8g|q8j|q8m|q8p|q8s|q8v|q8y|q9b|q9e => k_is)
    (case q7s|q7v|q7y|q8b|q8e|q8h|q8k|q8n|q8q|q8t|q8w|q8z|q9c|q9f => decide)
    (case q7t|q7w|q7z|q8c|q8f|q8i|q8l|q8o|q8r|q8u|q8x|q9a|q9d|q9g => repeat (first | exact .nil | refine .cons ⟨_, rfl⟩ ?_))
