import PyProof.Rows.All
import Wide.All
import OpenK.AllK
import Wide.FinOn
import PySem.Challenge.RW_fieldrows_k14_named
import Lean
set_option Elab.async false
set_option linter.all false
set_option maxRecDepth 100000
set_option maxHeartbeats 4100000
set_option bootstrap.genMatcherCode false
set_option compiler.extract_closed false
open Option renaming some->aA,none->aB
noncomputable section
open PySem renaming wpAny_bind->aa,wpAny_pure->af,sizeLine->ar,Spec->ay,starEach->bp,mainGlobals->dh,wpAny_newObj_type->dq,wpAny_call_entry->fm,wpAny_holding->gc,sizeLine_eq->gk,wpAny_callSpecial?_slot->gq,wpAny_field->ik,wpAny_seqItems->iw,compareOp->jc,wpAny_mono->je,mem_of_lookup->jf,wpAny_setState_of->jg,wpAny_setField->ju,foldedSetIterable->jy,sysModules->kc,behindInMarks->ki,attributeBase->kj,swapsWith->kq,codeAny_builtin->lh,assignEach->md,wpAny_typeNameOfWhole_keyiter->mq,wpAny_setField_rec->mw,wpAny_passesOwn->mz,builtinLookup_eq_fast->ni,wpAny_truthy_bool->nv,wpAny_pyIter_list->ny,wpAny_typeNameOf_keyiter->qh,wpAny_attempt->ql,wpAny_specialOf->qt,wpAny_typeOf->rl,wpAny_pyIter_zip->se,wpAny_askSetting->sf,plainId_quiet->sr,typeLookup_type->sw,wpAny_rule->ue,wpAny_pyIter_tuple->ug,wpAny_Call_Name_kw->uh,keywordEach->ur,wpAny_newList->uw,wpAny_isInstance->uz,wpAny_pyNext_list_item->vf,codeAny_mono->vg,call_meets->vh,wpAny_updateSeq->wb,wpAny_execs_nil->wc,wpAny_pyNext_list_end->wk,wpAny_updateSeq_pair->wn,wpAny_newTuple->wo,wpAny_fieldsOf->wp,isSubtype_type->wu,backTo->wv,wpAny_setEntries_of->xa,wpAny_standAt->xg,wpAny_onRaise->xh,Builtin->xi,wpAny_pyIter_slot->xu,wpAny_dictEntries->xw,slot_list_getitem->xx,backToKw->xy,wpAny_forIn_list->yj,wpAny_eqBool_str->yn,wpAny_of_eq->yw,wpAny_letGo->yz,wpAny_dictEpoch->ze,isSubtype_stop->zt,call->zw,wpAny_letOwnedTupleGo_zip->aac,wpAny_handled->aaj,wpAny_getItem_list_slice->aak,wpAny_comprehension_free->aal,evalPart_none->aam,putSet_of->aba,concat_meets->abt,wpAny_notOrdered_dict->acf,wpAny_isTrue_Compare1->acg,wpAny_isOneOf_keyiter->ach,wpAny_eqIsQuiet_tuple->aci,wpAny_throw->acs,wpAny_pyIter_keyiter->act
open PySem.Heap renaming get?_push_of_some->ac,lt_size->aw,get?_push_size->ax,SameBut->dz,get?_update_ne->gj,get?_update_self->gu,size_push->ig,get?_update_other->vt,size_update->yq,IsTuple->acd,ExtBut->acz
open Option renaming bind_some->ae,map_eq_some_iff->gt,map->uk,bind_eq_some_iff->abd
open List renaming length_append->ag,length_map->ah,length_cons->ak,map_cons->am,size_toArray->ao,mem_append->aq,getElem?_eq_getElem->au,getElem?_map->av,getElem?_eq_some_iff->ba,mem_cons->bb,getElem?_append_left->be,mem_singleton->bf,replicate->bg,getElem?_append_right->bm,map_append->bn,length_nil->bq,mem_cons_of_mem->bt,pairwise_iff_getElem->ck,mem_map->cq,mem_append_right->cr,length_take->cu,getD_eq_getElem?_getD->cy,mem_cons_self->dg,map_map->dm,pairwise_map->du,append_nil->ff,range->fg,getElem?_replicate->fq,foldl_cons->gp,getElem?_cons_succ->iq,nil_append->ja,lookup_cons->jd,getElem?_eq_none->ji,getElem_map->jm,mem_range->jo,any_cons->jt,mem_of_getElem?->jw,append_assoc->kb,length_reverse->kg,all_cons->km,length_drop->kr,nodup_append->lw,mem_append_left->ma,not_mem_nil->mj,range'->mr,nodup_cons->ng,eq_nil_or_concat->nr,concat_eq_append->nu,flatMap_cons->oh,mem_of_mem_take->on,length->oq,mem_flatMap->qc,replicate_succ->qd,mem_map_of_mem->qe,map_congr_left->qf,getElem_of_mem->qg,getElem?_take_of_lt->qr,mem_filter->qu,find?_cons->qv,pairwise_cons->qy,length_eq_zero_iff->rh,reverse_cons->rp,nodup_nil->rq,range'_succ->sj,ext_getElem->sk,any_eq_true->sn,all_eq_true->so,lt_trans->su,of_mem_zip->sy,idxOf_cons->tm,filterMap_cons->tt,lt_irrefl->uq,zipIdx_cons->vb,filter_cons_of_pos->vc,filter_cons_of_neg->vd,take_of_length_le->vo,map_nil->vp,drop_eq_nil_of_le->vq,length_replicate->wm,range_eq_range'->wx,getElem?_of_mem->wy,toList_toArray->xb,getElem?_range->xc,map_take->xk,zip_cons_cons->xn,mem_filterMap->xp,zipWith->ye,foldl_append->yf,ext_getElem?->yg,forIn_cons->zi,perm_ext_iff_of_nodup->zy,ne_nil_of_length_pos->aad,exists_mem_of_ne_nil->aae,drop_eq_getElem_cons->aaf,pairwise_mergeSort->abe,pairwise_lt_range'->abf,eraseIdx_cons_succ->abg,getElem?_set_self->aby,drop_of_length_le->abz,any_map->aca,take_eq_take_iff->acn,take_append_drop->aco,getElem?_toArray->acp,dropLast_eq_take->acq,lookup->acv,length_eraseIdx->acw,getElem?_set_ne->acx,forall_mem_cons->acy,mergeSort_perm->adk,forall_mem_nil->adl
open Nat renaming le_refl->al,ne_of_lt->bh,zero_le->bu,lt_of_lt_of_le->bw,lt_of_le_of_lt->cm,le_trans->cz,lt_trichotomy->jh,ne_of_gt->lr,le_add_right->mh,lt_or_ge->mx,lt_irrefl->qq,mod_lt->qx,le_succ->rc,lt_trans->ro,le_of_not_lt->si,zero_add->ub,le_of_eq->uc,lt_succ_of_lt->uv,le_of_lt->vn,eq_zero_or_pos->xl,lt_succ_self->yp,min_self->abx,sub_min_sub_right->acm,add_left_cancel->adj
open Bool renaming false_ne_true->bc,false_eq_true->bx,and_eq_true->fu,eq_iff_iff->jp,not_false->sd,not_true->sv,and_false->wz,or_false->aax,and_true->aay
open Option.some renaming inj->bv,injEq->gn
open PySem.Obj renaming mapSeq->cj,mapFields->nh,putSet->um,data_mapFields->uo,isFreed_of_fields->acl
open Array renaming length_toList->cw,getElem?_eq_some_iff->et,getElem?_toList->gf,getD_eq_getD_getElem?->kh,perm_iff_toList_perm->oy,mem_toList_iff->oz,getD->pc,getElem?_eq_none->wa,forIn_toList->xr,toList->yi,toList_map->yu,replicate->zm,map->abm,toArray_toList->add
open PySem.SeqAt renaming EqAt->gg
open PySem.W renaming mg_none_of->gh,kia_one->ie,nsIn->io,keepIn->jv,fnOf->ph,codeIn->ui,kitOne->ww,methodObj->xz,kitx_list->ya,instObj->zg,lookIn->zx,mg_of->aap,WalkO->aaq,cellsFrom_some->abu
open PySem.PassesOwn renaming never->gm
open Int renaming toNat_of_nonneg->gw,toNat_natCast->gy,emod_lt_of_pos->ic,emod_nonneg->jb,zero_add->acb
open PySem.Heap.SameBut renaming update->gx,refl->yh
open PySem.Builtin.SmallTypes renaming nextOf->ia,ownedTupleIsFree->kn,ownedTupleHandOut->xf
open PySem.Builtin.Slice renaming slicePlaces->ib,sliceAdjust->jq,sliceApplied->ox,sliceFields->aah
open PySem.Builtin.Tuple renaming tupleExact->ii,tupleItemsOf->aab
open Prod renaming fst->ip,ext->va,snd->yb
open PyProof.Rows renaming slot_tuple_getitem->ir,callWith_type1->og,listUpdate_at->qm,boot_sorted->qo,get?_update_seq->we,slicePart_none->wq,seqEpoch_at->wt,entry_list_sort->zf,slot_list_sort->zq,size_push'->zr,Subscript_->zu,subscriptTail_builtinR->abn,plain_sorted->abo,listItems_at->abq,entry_sorted->abr,boot_list->abw,kind_sorted->acu,entry_tuple_getitem->ade
open PySem.Str renaming ofString->jj,length->vk
open PySem.F renaming called_set->jr,slot_dict_keyiterator_next->kf,plainAttrs_list->mf,slot_NoneType_hash->om,slot_tuple_iterator_next->ou,slot_list_getattribute->uy,slot_zip_next->wg,args_dict_keyiterator_next_1->yr,entry_dict_keyiterator_next->zd,args_tuple_iterator_next_1->zj,entry_tuple_iterator_next->zn,type_list_append->aar,slot_list_append->aas,slot_dict_update->aat,args_tuple_add_2->aau,plainAttrs_dict->abb,entry_tuple_add->abc,slot_tuple_add->abv,slot_dict_get->acj,plain_set_new->ack,args_object_init_3->ada,args_list_extend_2->adb,entry_list_extend->adm
open PySem.Around renaming under_plainId->jx
open PySem.PyData renaming eqv->ke,depth->tz,depthAll->zh
open False renaming elim->ku
open Classical renaming choose_spec->kz
open PySem.Builtin.List renaming listTooLong->me,listExtendWith->zo,listSameRef->aaw
open Iff renaming rfl->my
open PySem.W.KasT renaming kasWp_bind->tq
open Ne renaming symm->ua
open PySem.Builtin.Str renaming strSliceIndices->ud,strSliceIndices->xt,tooLong->ado
open Sum.inl renaming inj->ut
open List.Pairwise renaming imp_of_mem->ux
open PyProof.Rows.F renaming plain_set_update_loop->ve,entry_set_update_loop->abi
open Nat.succ renaming inj->vm
open PySem.Calls renaming callWith_builtin->vw,spliced_cons->xq,Name_function_global->aaa,call_function_entry->aag,evalArgs_plain->adc
open Array.Perm renaming refl->wj
open PySem.Paired renaming length->xj
open PySem.Shared renaming heap->zc,TypeIs->aan
open PySem.Builtin.Dict_items renaming ownsTuple->zk
open PySem.SetTable renaming grown->zv,toList_insertAt->aao
open PySem.Builtin.Dict renaming dictSlotNone->aai,updateFrom->abj,showsAll->acr
open List.Perm renaming eq_of_pairwise->aav
open PySem.AutoSeq1 renaming sub_tuple_tuple->aaz,sub_tuple_list->abk,sub_list_tuple->abl,sub_list_list->ace
open PyProof.Rows.IsTup renaming new->abh
open PySem.pickOrder renaming go->abp
open PySem.SeqAt.EqAt renaming str_none->adf,none_str->adg,none_int->adh,int_none->adi
open PySem.Builtin.Int renaming intBits->adp
noncomputable abbrev Fg:=PySem.W.Frag
namespace L2
open PySem PySem.Spec PyProof.Rows
noncomputable abbrev Key:=Sum Int Str
def mS:Key->Value->Bool
 |.inl k,v=>Value.isInt k v
 |.inr x,v=>Value.isStrOf x v
def Jp(w:World):Key->Int
 |.inl k=>hashInt k
 |.inr x=>hashStr w x
def yT:∀{k:Key} {v:Value},mS k v=true->(∃i t,k=Sum.inl i/\v=Value.int i t)\/(∃x t,k=Sum.inr x/\v=Value.str x t)
 |.inl i,v,h=>by
  obtain⟨t,e⟩:=Value.isInt_shape (k:=i) (v:=v) h;exact .inl ⟨i,t,rfl,e⟩
 |.inr x,v,h=>by
  obtain⟨t,e⟩:=Value.isStrOf_shape (x:=x) (v:=v) h;exact .inr ⟨x,t,rfl,e⟩
def QC(i:Int)(t:Tok):mS (.inl i) (.int i t)=true:=by simp[mS,Value.isInt]
def QB(x:Str)(t:Tok):mS (.inr x) (.str x t)=true:=by simp[mS,Value.isStrOf]
def Qg(a b:Int):decide ((Sum.inl a:Key)=Sum.inl b)=(a == b):=by
 by_cases e:a=b
 .subst e;simp
 .have h:¬(Sum.inl a:Key)=Sum.inl b:=λq=>e<|ut q
  rw[decide_eq_false h];exact(beq_eq_false_iff_ne.mpr e).symm
def Qj(a b:Str):decide ((Sum.inr a:Key)=Sum.inr b)=decide (a=b):=by
 by_cases e:a=b
 .subst e;simp
 .have h:¬(Sum.inr a:Key)=Sum.inr b:=λq=>e<|Sum.inr.inj q
  rw[decide_eq_false h,decide_eq_false e]
def Qh(a:Int)(b:Str):decide ((Sum.inl a:Key)=Sum.inr b)=false:=decide_eq_false λq=>nomatch q
def Qi(a:Str)(b:Int):decide ((Sum.inr a:Key)=Sum.inl b)=false:=decide_eq_false λq=>nomatch q
def yM(prog:Program)(w:World):PySem.KeyKind prog w Key where
 is:=mS
 hash:=Jp w
 inj:=λv a b ha hb=>by
  rcases yT ha with⟨i,t,rfl,rfl⟩|⟨x,t,rfl,rfl⟩
  .rcases yT hb with⟨j,u,rfl,e⟩|⟨y,u,rfl,e⟩
   .injection e with e1 _;rw[e1]
   .exact nomatch e
  .rcases yT hb with⟨j,u,rfl,e⟩|⟨y,u,rfl,e⟩
   .exact nomatch e
   .injection e with e1 _;rw[e1]
 byValue:=λk v h=>by
  rcases yT h with⟨i,t,rfl,rfl⟩|⟨x,t,rfl,rfl⟩<;>rfl
 pyHash:=λhv h=>by
  rcases yT hv with⟨i,t,rfl,rfl⟩|⟨x,t,rfl,rfl⟩
  .exact wpAny_pyHash_int h
  .exact wpAny_pyHash_str h
 eqBool:=λhu hv h=>by
  rcases yT hu with⟨i,t,rfl,rfl⟩|⟨x,t,rfl,rfl⟩
  .rcases yT hv with⟨j,u,rfl,rfl⟩|⟨y,u,rfl,rfl⟩
   .rw[Qg] at h;exact wpAny_eqBool_int h
   .rw[Qh] at h;exact gg.int_str i t y u _ _ _ _ h
  .rcases yT hv with⟨j,u,rfl,rfl⟩|⟨y,u,rfl,rfl⟩
   .rw[Qi] at h;exact gg.str_int x t j u _ _ _ _ h
   .rw[Qj] at h;exact yn h
 «strs»:=λk x t v h=>by
  rcases yT h with⟨i,u,rfl,e⟩|⟨y,u,rfl,e⟩
  .exact nomatch e
  .injection e with e1 _
   subst e1;cases v<;>rfl
def o6(prog:Program)(w:World)(i:Int)(t:Tok):(yM prog w).is (.inl i) (.int i t)=true:=QC i t
def o5(prog:Program)(w:World)(x:Str)(t:Tok):(yM prog w).is (.inr x) (.str x t)=true:=QB x t
inductive V where
 |aE|bl (b:Bool)|int (i:Int)|str (x:Str)|i5 (b:Array UInt8)|Cy (b:UInt64)|ref (a:Addr)|ty (n:String)
 deriving DecidableEq
def RelV:V->Value->Prop
 |.aE,u=>u=Value.none
 |.bl b,u=>u=Value.bool b
 |.int i,u=>∃t,u=Value.int i t
 |.str x,u=>∃t,u=Value.str x t
 |.i5 b,u=>∃t,u=Value.bytes b t
 |.Cy b,u=>∃t,u=Value.float b t
 |.ref a,u=>u=Value.ref a
 |.ty n,u=>u=Value.type n
abbrev Vals:List V->List Value->Prop:=Paired RelV
def Vals.length(r:Vals xs us):xs.length=us.length:=xj r
def Vals.get:∀{xs:List V} {us:List Value} {i:Nat} {x:V},Vals xs us->xs[i]?=aA x->∃u,us[i]?=aA u/\RelV x u
 |_,_,_,_,.nil,e=>by simp at e
 |_,_,0,_,.cons r _,e=>by simp at e;subst e;exact⟨_,rfl,r⟩
 |_,_,i+1,x,.cons _ t,e=>by
  obtain⟨u,h1,h2⟩:=Vals.get (i:=i) (x:=x) t (by simpa using e);exact⟨u,by simpa using h1,h2⟩
def Vals.append:∀{xs ys:List V} {us ws:List Value},Vals xs us->Vals ys ws->Vals (xs++ys) (us++ws)
 |_,_,_,_,.nil,s=>s
 |_,_,_,_,.cons r t,s=>.cons r<|Vals.append t s
def Vals.take:∀{xs:List V} {us:List Value} (n:Nat),Vals xs us->Vals (xs.take n) (us.take n)
 |_,_,0,_=>.nil
 |_,_,_+1,.nil=>.nil
 |_,_,n+1,.cons r t=>.cons r<|Vals.take n t
def Vals.drop:∀{xs:List V} {us:List Value} (n:Nat),Vals xs us->Vals (xs.drop n) (us.drop n)
 |_,_,0,r=>r
 |_,_,_+1,.nil=>.nil
 |_,_,n+1,.cons _ t=>Vals.drop n t
def sG:Option V->Option Value->Prop
 |some v,aA u=>RelV v u
 |none,aB=>True
 |_,_=>False
def KV:List (κ×V)->List (κ×Value)->Prop:=Paired λ(p:κ×V) (q:κ×Value)=>p.1=q.1/\RelV p.2 q.2
def kV:Key->V
 |.inl i=>.int i
 |.inr x=>.str x
inductive HO where
 |lst (xs:List V)
 |tup (xs:List V)
 |dK (kvs:List (Key×V))|dT (kvs:List (List Key×V))
 |set (S:Int->Bool) (n:Nat)
 |ins (C dx:Addr) (fs:List (Str×V))
 |own (x:Addr)
 |xd (fs:List (Str×V))
 |met (f x:Addr)
 |Hz (lo hi:Int)
 |eG (o:Obj) (u:HO)
 |Bm (ps:Array Value)
 |ext (φ:Heap->Prop)
noncomputable abbrev Hp:=Addr->Option HO
def upd(H:Hp)(a:Addr)(o:HO):Hp:=λb=>if b=a then aA o else H b
def zR:upd H a o a=aA o:=by unfold upd;rw[if_pos rfl]
def zT(h:b≠a):upd H a o b=H b:=by unfold upd;rw[if_neg h]
def Pa{H:Hp}{a b:Addr}{o u:HO}(h:H a=aA o)(h':H b=aA u)(d:o≠u):a≠b:=by
 intro e;subst e;rw[h] at h';exact d<|bv h'
def xD{H:Hp}{a b:Addr}{o:HO}(h:H a=aA o)(h':H b=aB):a≠b:=by
 intro e;subst e;rw[h] at h';cases h'
noncomputable def VB(ps:Array Value):Str:=match (ps[0]?:Option Value) with
 |some (.str q _)=>q
 |_=>""
def OT(q:Str)(o:Obj):Prop:=∃vs t,o.data=.fields vs/\vs[1]?=aA (.str q t)
def O2(H:Hp)(h:Heap)(a:Addr)(q:Str):Prop:=∃ts:Array Value,h.get? a=aA (PySem.W.tabObj ts)/\TriplesOk ts.toList/\∀pos cv,codeAmong pos ts.toList=aA cv->∃c oc u,cv=.ref c/\H c=aA (.eG oc u)/\OT q oc
section
variable(P:Program)(w:World)
def d_(H:Hp)(h:Heap)(a:Addr):HO->Prop
 |.lst xs=>xs.length<=ar/\∃(its:List Value) (n:Nat),Vals xs its/\h.get? a=aA { cls:=.type "list",data:=.seq its.toArray n }
 |.tup xs=>xs.length<=ar/\∃its:List Value,Vals xs its/\IsTup h a its.toArray
 |.dK kvs=>kvs.length<=ar/\(a == kc)=false/\∃vs,KV kvs vs/\h.DictOf (yM P w) a vs
 |.dT kvs=>kvs.length<=ar/\(a == kc)=false/\∃xs:List (List Key×Addr×Value),
   Paired (λ(p:List Key×V) (q:List Key×Addr×Value)=>p.1=q.1/\H q.2.1=aA (.tup<|p.1.map kV)/\RelV p.2 q.2.2) kvs xs /\
   ∃o es ep,h.get? a=aA o/\o.ExactDict/\o.data=.dict es ep/\es.toList=xs.map (entryOfKey<|tupleKind<|yM P w)/\(xs.map (·.1)).Nodup
 |.set S n=>h.SetOf (intKind P w) a S n
 |.ins C dx fs=>H dx=aA (.own a)/\fs.length<=1000/\dx≠a/\h.get? a=aA (zg C dx) /\
   ∃mA,h.Ns1 dx mA/\(∀f,sG (fs.lookup f)<|mA f)/\PySem.Within mA (fs.map (·.1))
 |.own _=>∃o,h.get? a=aA o
 |.xd fs=>∃mA,h.Ns1 a mA/\∀f,sG (fs.lookup f) (mA f)
 |.Hz lo hi=>∃t u v,h.get? a=aA { cls:=.type "range",data:=.fields #[.int lo t,.int hi u,.int 1 v] }
 |.eG o u=>h.get? a=aA o/\d_ H h a u
 |.Bm ps=>O2 H h a<|VB ps
 |.met f x=>h.get? a=aA (xz (.ref f)<|.ref x)
 |.ext φ=>φ h/\(∃o,h.get? a=aA o)/\∀h1 h2:Heap,φ h1->(∀o,h1.get? a=aA o->h2.get? a=aA o)->φ h2
def eN(H:Hp)(h:Heap):Prop:=∀a o,H a=aA o->d_ P w H h a o
end
def d_.lt(x:d_ P w H h a o):a<h.objs.size:=by
 cases o with
 |lst xs=>obtain⟨_,_,_,_,e⟩:=x;exact aw e
 |tup xs=>obtain⟨_,_,_,p⟩:=x;exact p.lt
 |dK kvs=>obtain⟨_,_,_,_,o,_,_,e,_⟩:=x;exact aw e
 |dT kvs=>obtain⟨_,_,_,_,o,_,_,e,_⟩:=x;exact aw e
 |set S n=>obtain⟨o,_,_,_,e,_⟩:=x;exact aw e
 |ins C dx fs=>obtain⟨_,_,_,e,_⟩:=x;exact aw e
 |own y=>obtain⟨_,e⟩:=x;exact aw e
 |xd fs=>obtain⟨_,⟨_,_,_,e,_⟩,_⟩:=x;exact aw e
 |Hz lo hi=>obtain⟨_,_,_,e⟩:=x;exact aw e
 |eG ob u=>obtain⟨e,_⟩:=x;exact aw e
 |Bm ps=>obtain⟨_,e,_⟩:=x;exact aw e
 |met f y=>exact aw (show h.get? a=aA _ from x)
 |ext φ=>obtain⟨_,⟨_,e⟩,_⟩:=x;exact aw e
theorem vU:∀{l₁:List α} {l₂:List β},Paired F l₁ l₂->(∀a b,F a b->G a b)->Paired G l₁ l₂
 |_,_,.nil,_=>.nil
 |_,_,.cons r t,f=>.cons (f _ _ r)<|vU t f
def d_.Ag(x:d_ P w H h a o)(k:∀b u,(b=a\/H b=aA (.own a))->h.get? b=aA u->h'.get? b=aA u)(ho:∀b,H b=aA (.own a)->H' b=aA (.own a))(ht:∀b xs,H b=aA (.tup xs)->H' b=aA (.tup xs))(hf:∀b o u,H b=aA (.eG o u)->H' b=aA (.eG o u)):d_ P w H' h' a o:=by
 induction o with
 |lst xs=>obtain⟨z,its,n,r,e⟩:=x;exact⟨z,its,n,r,k _ _ (.inl rfl) e⟩
 |tup xs=>obtain⟨z,its,r,ob,e,c⟩:=x;exact⟨z,its,r,ob,k _ _ (.inl rfl) e,c⟩
 |dK kvs=>obtain⟨z,y,vs,r,ob,es,ep,e,c⟩:=x;exact⟨z,y,vs,r,ob,es,ep,k _ _ (.inl rfl) e,c⟩
 |dT kvs=>
  obtain⟨z,y,xs,r,ob,es,ep,e,c⟩:=x;exact⟨z,y,xs,vU r λp q z=>⟨z.1,ht _ _ z.2.1,z.2.2⟩,ob,es,ep,k _ _ (.inl rfl) e,c⟩
 |set S n=>obtain⟨ob,es,ep,t,e,c⟩:=x;exact⟨ob,es,ep,t,k _ _ (.inl rfl) e,c⟩
 |ins C dx fs=>
  obtain⟨d,z,ne,e,mA,⟨od,es,ep,e2,c⟩,r⟩:=x;exact⟨ho _ d,z,ne,k _ _ (.inl rfl) e,mA,⟨od,es,ep,k _ _ (.inr d) e2,c⟩,r⟩
 |own y=>obtain⟨ob,e⟩:=x;exact⟨ob,k _ _ (.inl rfl) e⟩
 |xd fs=>obtain⟨mA,⟨od,es,ep,e,c⟩,r⟩:=x;exact⟨mA,⟨od,es,ep,k _ _ (.inl rfl) e,c⟩,r⟩
 |Hz lo hi=>obtain⟨t,u,v,e⟩:=x;exact⟨t,u,v,k _ _ (.inl rfl) e⟩
 |eG ob u ih=>obtain⟨e,q⟩:=x;exact⟨k _ _ (.inl rfl) e,ih q⟩
 |Bm ps=>obtain⟨ts,e,z,r⟩:=x;exact⟨ts,k _ _ (.inl rfl) e,z,λp v q=>let ⟨c,oc,u,e1,e2,e3⟩:=r p v q;⟨c,oc,u,e1,hf _ _ _ e2,e3⟩⟩
 |met f y=>
  have e:h.get? a=aA (xz (.ref f)<|.ref y):=x;show h'.get? a=aA (xz (.ref f)<|.ref y);exact k a _ (.inl rfl) e
 |ext φ=>obtain⟨p,⟨o,e⟩,st⟩:=x;exact⟨st _ _ p λo q=>k _ _ (.inl rfl) q,⟨o,k _ _ (.inl rfl) e⟩,st⟩
def eN.lt(x:eN P w H h)(e:H a=aA o):a<h.objs.size:=(x a o e).lt
def eN.fresh(x:eN P w H h)(e:h.objs.size<=a):H a=aB:=by
 cases q:H a with
 |none=>rfl
 |some u=>exact absurd (bw (x.lt q) e)<|qq _
def eN.kept(x:eN P w H h)(k:∀b u,h.get? b=aA u->h'.get? b=aA u):eN P w H h':=λa o e=>
 (x a o e).Ag (λb u _ q=>k b u q) (λ_ q=>q) (λ_ _ q=>q) λ_ _ _ q=>q
def eN.laid(x:eN P w H h)(k:∀b u,h.get? b=aA u->h'.get? b=aA u)(hp:h.objs.size<=a)(new:d_ P w (upd H a o) h' a o):eN P w (upd H a o) h':=λb u e=>by
 have hn:=x.fresh hp;by_cases hb:b=a
 .subst hb;rw[zR] at e;cases e;exact new
 .rw[zT hb] at e;exact(x b u e).Ag (λc v _ q=>k c v q) (λc q=>by rw[zT<|xD q hn];exact q) (λc xs q=>by rw[zT<|xD q hn];exact q) λc o u q=>by rw[zT<|xD q hn];exact q
def Rd(H:Hp)(a:Addr)(u:HO):Prop:=H a=aA u\/∃o,H a=aA (.eG o u)
def Rd.ok(r:Rd H a u)(x:eN P w H h):d_ P w H h a u:=by
 rcases r with r|⟨o,r⟩
 .exact x a u r
 .obtain⟨_,q⟩:=x a _ r;exact q
def Em:Option HO->Prop
 |some (.lst _)=>True
 |some (.dK _)=>True
 |some (.dT _)=>True
 |some (.set _ _)=>True
 |some (.ins _ _ _)=>True
 |some (.ext _)=>True
 |_=>False
def eN.write(ok:eN P w H h)(mu:Em (H x))(he:e=x\/H e=aA (.own x))(k:∀b u,b≠e->h.get? b=aA u->h'.get? b=aA u)(Ct:∃u,h'.get? e=aA u)(new:d_ P w (upd H x o') h' x o'):eN P w (upd H x o') h':=λb u q=>by
 have M7:∀c y,H c=aA (.own y)->c≠x:=λc y r z=>by subst z;rw[r] at mu;exact mu
 have VM:∀c xs,H c=aA (.tup xs)->c≠x:=λc xs r z=>by subst z;rw[r] at mu;exact mu
 by_cases hb:b=x
 .subst hb;rw[zR] at q;cases q;exact new
 .rw[zT hb] at q;by_cases Aq:b=e
  .have q':H b=aA (.own x):=by
    rcases he with z|z
    .exact absurd (Aq.trans z) hb
    .rw[Aq];exact z
   rw[q] at q';cases q';obtain⟨v,hv⟩:=Ct;exact⟨v,by rw[Aq];exact hv⟩
  .refine(ok b u q).Ag (λc v hc r=>k c v ?_ r) (λc r=>by rw[zT<|M7 c b r];exact r) (λc xs r=>by rw[zT<|VM c xs r];exact r) λc o u r=>by rw[zT (λz=>by subst z;rw[r] at mu;exact mu)];exact r
   rcases hc with rfl|hc
   .exact Aq
   .rintro rfl;rcases he with z|z
    .exact M7 c b hc z
    .rw[hc] at z;cases z;exact hb rfl
structure Un(fs ex:List Addr)(H H':Hp)(h h':Heap):Prop where
 keep:∀b o,h.get? b=aA o->H b=aB->b∉fs->b∉ex->h'.get? b=aA o
 slot:∀b o,h.get? b=aA o->H b=aB->b∈fs->b∉ex->∃sl,h'.get? b=aA { o with slots:=sl }
 free:∀b o,h.get? b=aA o->H b=aB->b∉ex->H' b=aB
 there:∀b o,h.get? b=aA o->b∉ex->∃o',h'.get? b=aA o'
 Ae:∀b xs,H b=aA (.tup xs)->H' b=aA (.tup xs)
 sZ:∀b o u,H b=aA (.eG o u)->H' b=aA (.eG o u)
 Af:∀b ps,H b=aA (.Bm ps)->∃more,H' b=aA (.Bm<|ps++more)
def Un.any(u:Un fs ex H H1 h h1)(q:h.get? b=aA ob)(n:H b=aB)(hx:b∉ex):∃sl,h1.get? b=aA { ob with slots:=sl }:=by
 by_cases hb:b∈fs
 .exact u.slot b ob q n hb hx
 .exact⟨ob.slots,u.keep b ob q n hb hx⟩
def Un.kept(k:∀b u,h.get? b=aA u->h'.get? b=aA u):Un fs ex H H h h':=
 ⟨λb ob q _ _ _=>k b ob q,λb ob q _ _ _=>⟨ob.slots,k b ob q⟩,λ_ _ _ n _=>n,λb ob q _=>⟨ob,k b ob q⟩,λ_ _ q=>q,λ_ _ _ q=>q,λ_ ps q=>⟨#[],by rw[q];simp⟩⟩
def Un.refl:Un fs ex H H h h:=Un.kept λ_ _ q=>q
def Un.laid(k:∀b u,h.get? b=aA u->h'.get? b=aA u)(hp:h.objs.size<=a)(hn:H a=aB):Un fs ex H (upd H a o) h h' where
 keep:=λb u q _ _ _=>k b u q
 slot:=λb u q _ _ _=>⟨u.slots,k b u q⟩
 free:=λb u q n _=>by rw[zT<|bh<|bw (aw q) hp];exact n
 there:=λb u q _=>⟨u,k b u q⟩
 Ae:=λb xs q=>by rw[zT<|xD q hn];exact q
 sZ:=λb u xs q=>by rw[zT<|xD q hn];exact q
 Af:=λb ps q=>⟨#[],by rw[zT<|xD q hn,q];simp⟩
def Un.write(mu:Em (H x))(he:e=x\/H e=aA (.own x))(k:∀b u,b≠e->h.get? b=aA u->h'.get? b=aA u)(Ct:∃u,h'.get? e=aA u):Un fs ex H (upd H x o) h h':=by
 have hx:∀b,H b=aB->b≠x:=λb n z=>by subst z;rw[n] at mu;exact mu
 have hb:∀b,H b=aB->b≠e:=λb n z=>by
  subst z;rcases he with r|r
  .exact hx b n r
  .rw[n] at r;cases r
 have hm:∀b u,H b=aA u->¬Em (aA u)->b≠x:=λb u q nm z=>by subst z;rw[q] at mu;exact nm mu
 refine⟨λb u q n _ _=>k b u (hb b n) q,λb u q n _ _=>⟨u.slots,k b u (hb b n) q⟩,λb u q n _=>by rw[zT<|hx b n];exact n,λb u q _=>?_,
  λb xs q=>by rw[zT<|hm b _ q λz=>z];exact q,λb u xs q=>by rw[zT<|hm b _ q λz=>z];exact q,λb ps q=>⟨#[],by rw[zT<|hm b _ q λz=>z,q];simp⟩⟩
 by_cases Aq:b=e
 .subst Aq;exact Ct
 .exact⟨u,k b u Aq q⟩
def Ff(h:Heap)(H:Hp):List Addr:=(fg h.objs.size).filter λa=>(H a).isSome
def u_(h:Heap)(H:Hp):Heap:=PySem.W.hideAll h<|Ff h H
def QJ(h:Heap)(H:Hp):(u_ h H).objs.size=h.objs.size:=PySem.W.hideAll_size _ _
def UL(e:h.get? b=aA o)(n:H b=aB):(u_ h H).get? b=aA o:=
 PySem.W.hideAll_get _ e λhm=>by
  have q:(H b).isSome=true:=(qu.mp hm).2;rw[n] at q;simp at q
def Tp(e:(u_ h H).get? b=aA o):h.get? b=aA o/\H b=aB:=by
 have e':h.get? b=aA o:=PySem.W.of_hideAll (Ff h H) e;refine⟨e',?_⟩;cases q:H b with
 |none=>rfl
 |some x=>
  have hm:b∈Ff h H:=qu.mpr ⟨jo.mpr<|aw e',by simp[q]⟩;have z:(u_ h H).get? b=aB:=PySem.W.hideAll_none (Ff h H) hm;rw[z] at e;cases e
structure Mod(K:Fg)(mg:Str->Option Value)(base:Heap):Prop where
 FJ:K.In base
 glob:base.Ns dh mg
 blt:∃mb,base.Ns builtinsNs mb/\∀x:Str,x ≠ "__name__" -> mb x=bootBuiltins x
 nolimit:base.NoLimit
structure Cx where
 prog:Program
 w:World
 K:Fg
 mg:Str->Option Value
 base:Heap
 A:Around
 N:List Str
 s₀:Shared
 H₀:Hp
 env:Env
 outer:List Env
 stack:List Env
 ex:List Addr
 fn:Str->Bool
 calm:Bool
 pn:List (Addr×Obj)
 xe:Value->Shared->Prop
noncomputable def iY(l:List Env):List Addr:=l.filterMap (·.frame)
abbrev Cx.fs(X:Cx):List Addr:=iY X.outer
def F'(sc:Scope)(x:Str):Prop:=sc.names.lookup x=aA .local\/sc.names.lookup x=aA .cell\/sc.names.lookup x=aA .free
def Loc(sc:Scope)(x:Str):Prop:=sc.names.lookup x=aA .local\/sc.names.lookup x=aA .cell
def OU(env:Env)(h:Heap)(m:Str->Option Value)(x:Str)(u:Value):Prop:=
 (env.kindOf x=aA .local/\m x=aA u)\/((env.kindOf x=aA .cell\/env.kindOf x=aA .free)/\∃c,env.cells.lookup x=aA c/\h.IsCell c (aA u))
def Kt(K:Fg)(H:Hp):Prop:=True
structure Om(K:Fg)(l:List Env)(H:Hp):Prop where
 fr:∀b∈iY l,H b=aB
 tb:Kt K H
abbrev A5(X:Cx)(es:List Expr)(p:Pos):Prop:=((wv p<|bp es X.env).all (λx=>!x.1) && (xy p<|ur [] X.env).all (λx=>x.1.isSome) && decide (es.length+([]:List Keyword).length+(if ([]:List Keyword).isEmpty then 0 else 1)<30))=true
abbrev iF(X:Cx)(e:Expr)(es:List Expr):Prop:=bp (e::es) X.env=(false,eval e X.env)::bp es X.env
abbrev sJ(X:Cx)(es:List Expr)(p:Pos):Prop:=(wv p<|bp es X.env).any (·.1)=false
abbrev iQ(X:Cx)(x:Str):Prop:=X.fn x=true\/X.env.scope.names.lookup x=aA .local
abbrev iH(x:Str):Prop:=(x == ("__debug__" : Str))=false
abbrev As(a c:Pos):Prop:=(a.endLine == c.line)=true
structure Cx.Ok(X:Cx):Prop where
 mod:Mod X.K X.mg X.base
 kind:X.env.scope.kind=.function
 glob:X.env.globals=dh
 blt:X.env.builtins=builtinsNs
 above:X.s₀.heap.objs.size<=X.env.locals
 inj:∀x y c,X.env.cells.lookup x=aA c->X.env.cells.lookup y=aA c->x=y
 has:∀x,(X.env.kindOf x=aA .cell\/X.env.kindOf x=aA .free)->∃c,X.env.cells.lookup x=aA c
 CA:∀x c,X.fn x=true->X.env.cells.lookup x=aA c->X.s₀.heap.objs.size<=c
 hd:X.calm=true->X.A.handled=aB
 frames:X.A.frames=aA X.stack
 C':X.stack=X.outer\/(X.stack=X.env::X.outer/\X.env.frame=aA X.env.locals)
 F6:∀b∈X.ex,b≠X.env.locals/\∀x c,X.env.cells.lookup x=aA c->c≠b
 bs:∀b o,X.base.get? b=aA o->X.s₀.heap.get? b=aA o/\X.H₀ b=aB
 t_:X.base.objs.size<=X.s₀.heap.objs.size
 Bv:∀b o,X.base.get? b=aA o->b∉X.ex
 Cz:∀b∈X.ex,b∉X.fs
 lN:X.s₀.heap.FunFrames X.base X.outer
 BH:Om X.K X.outer X.H₀
structure Inv(X:Cx)(pZ:List (Addr×Obj))(σ:List (Option V))(H:Hp)(s:Shared):Prop where
 ok:X.Ok
 os:s.os=X.s₀.os
 bare:AllBare s.gens
 base:Un X.fs X.ex X.H₀ H X.s₀.heap s.heap
 loc:∃m,s.heap.Ns X.env.locals m/\∀(i:Nat) (x:Str) (v:V),X.N[i]?=aA x->σ[i]?=aA (aA v)->F' X.env.scope x->∃u,RelV v u/\OU X.env s.heap m x u
 cell:∀x c,X.env.cells.lookup x=aA c->∃v,s.heap.IsCell c v
 free:H X.env.locals=aB
 sE:∀x c,X.env.cells.lookup x=aA c->H c=aB
 pin:∀p∈X.pn++pZ,s.heap.get? p.1=aA p.2/\H p.1=aB/\p.1≠X.env.locals/\p.1∉X.fs/\∀v,p.2.data≠.cell v
 aI:eN X.prog X.w H s.heap
 len:σ.length=X.N.length
section
variable{X:Cx}{pZ:List (Addr×Obj)}{σ:List (Option V)}{H H':Hp}{s:Shared}{h':Heap}
def Cx.Ok.VR(ok:X.Ok){b:Addr}{o:Obj}(e:X.base.get? b=aA o):b∉X.fs:=λhb=>by
 have:=(ok.lN.mem hb).1
 rw[e] at this;cases this
def Inv.bs(I:Inv X pZ σ H s):∀b o,X.base.get? b=aA o->s.heap.get? b=aA o/\H b=aB:=λb o e=>
 ⟨I.base.keep b o (I.ok.bs b o e).1 (I.ok.bs b o e).2 (I.ok.VR e)<|I.ok.Bv b o e,I.base.free b o (I.ok.bs b o e).1 (I.ok.bs b o e).2<|I.ok.Bv b o e⟩
def Inv.bk(I:Inv X pZ σ H s):∀b o,X.base.get? b=aA o->s.heap.get? b=aA o:=λb o e=>(I.bs b o e).1
def Inv.mod(I:Inv X pZ σ H s):Mod X.K X.mg X.base:=I.ok.mod
def Inv.fK(I:Inv X pZ σ H s):X.K.In s.heap:=I.ok.mod.FJ.keeps I.bk
def Inv.lt(I:Inv X pZ σ H s):X.env.locals<s.heap.objs.size:=let ⟨_,hn,_⟩:=I.loc;hn.lt
def Inv.sz(I:Inv X pZ σ H s):X.s₀.heap.objs.size<=s.heap.objs.size:=cz I.ok.above<|vn I.lt
def Inv.VP(I:Inv X pZ σ H s)(h:s.heap.objs.size<=a):a∉X.fs:=λhb=>by
 obtain⟨_,o,ho,_⟩:=I.ok.lN.mem hb;exact absurd (bw (aw ho)<|cz I.sz h)<|qq _
def Inv.BK(I:Inv X pZ σ H s):∀x c,X.env.cells.lookup x=aA c->c≠X.env.locals:=λx c e z=>by
 obtain⟨v,o,ho,hd⟩:=I.cell x c e;obtain⟨m,⟨o',es,ep,iU,Ao,_⟩,_⟩:=I.loc;rw[z,iU] at ho;cases ho;rw[Ao] at hd;cases hd
def Inv.lN(I:Inv X pZ σ H s):s.heap.FunFrames X.base X.outer:=by
 have all:∀(l:List Env),(∀b∈iY l,b∈X.fs)->X.s₀.heap.FunFrames X.base l->s.heap.FunFrames X.base l:=by
  intro l
  induction l with
  |nil=>intro _ _;trivial
  |cons env r ih=>
   intro hs hl;obtain⟨hk,⟨L,o,hf,hn,ho,hd⟩,hr⟩:=hl;have hL:L∈X.fs:=hs L (by unfold iY;rw[tt,hf];exact dg);obtain⟨sl,e⟩:=I.base.slot L o ho (I.ok.BH.fr L hL) hL λz=>I.ok.Cz L z hL
   exact⟨hk,⟨L,_,hf,hn,e,hd⟩,ih (λb hb=>hs b (by unfold iY;rw[tt,hf];exact bt _ hb)) hr⟩
 exact all X.outer (λ_ hb=>hb) I.ok.lN
def Inv.stack(I:Inv X pZ σ H s):s.heap.FunFrames X.base X.stack:=by
 rcases I.ok.C' with e|⟨e,hf⟩
 .rw[e];exact I.lN
 .rw[e];obtain⟨m,hn,_⟩:=I.loc;refine .cons (by rw[I.ok.kind];decide) hf hn ?_ I.lN;exact Heap.get?_none_of_le<|cz I.ok.t_ I.ok.above
def Inv.Hr(I:Inv X pZ σ H s):∀b∈iY X.stack,b∈X.env.locals::X.fs:=λb hb=>by
 rcases I.ok.C' with e|⟨e,hf⟩
 .rw[e] at hb;exact bt _ hb
 .rw[e] at hb;unfold iY at hb;rw[tt,hf] at hb;exact hb
def Inv.MC(I:Inv X pZ σ H s):∀b∈iY X.stack,H b=aB:=λb hb=>by
 rcases bb.mp (I.Hr b hb) with e|hb
 .rw[e];exact I.free
 .obtain⟨_,o,ho,_⟩:=I.ok.lN.mem hb;exact I.base.free b o ho (I.ok.BH.fr b hb) λz=>I.ok.Cz b z hb
def Inv.tabIn(I:Inv X pZ σ H s):Kt X.K H:=
 trivial
def Inv.step{ch:List Addr}(I:Inv X pZ σ H s)(eZ:∀b∈ch,(b∈X.ex\/X.s₀.heap.objs.size<=b)/\b≠X.env.locals/\(∀x c,X.env.cells.lookup x=aA c->c≠b)/\∀p∈X.pn++pZ,p.1≠b)(keep:∀b o,b≠X.env.locals->b∉X.fs->b∉ch->s.heap.get? b=aA o->H b=aB->h'.get? b=aA o)(slot:∀b o,b≠X.env.locals->b∈X.fs->b∉ch->s.heap.get? b=aA o->H b=aB->∃sl,h'.get? b=aA { o with slots:=sl })(free:∀b o,b∉ch->s.heap.get? b=aA o->H b=aB->H' b=aB)(there:∀b o,b∉ch->s.heap.get? b=aA o->∃o',h'.get? b=aA o')(Ae:∀b xs,H b=aA (.tup xs)->H' b=aA (.tup xs))(sZ:∀b o u,H b=aA (.eG o u)->H' b=aA (.eG o u))(Af:∀b ps,H b=aA (.Bm ps)->∃more,H' b=aA (.Bm<|ps++more))(ns:∀m,s.heap.Ns X.env.locals m->h'.Ns X.env.locals m)(aI:eN X.prog X.w H' h')(hg:AllBare g'):Inv X pZ σ H' { s with heap:=h',gens:=g',drawn:=d',toks:=t' }:=by
 have Na:∀b o,X.s₀.heap.get? b=aA o->b≠X.env.locals:=λb o e=>bh<|bw (aw e) I.ok.above
 have FG:∀b o,X.s₀.heap.get? b=aA o->b∉X.ex->b∉ch:=λb o e hx hb=>by
  rcases(eZ b hb).1 with z|z
  .exact hx z
  .exact absurd (bw (aw e) z)<|qq _
 have cellK:∀x c,X.env.cells.lookup x=aA c->∀v,s.heap.IsCell c v->h'.IsCell c v:=λx c e v ⟨o,ho,hd⟩=>by
  have DL:c∉ch:=λz=>(eZ c z).2.2.1 x c e rfl
  by_cases hc:c∈X.fs
  .obtain⟨sl,q⟩:=slot c o (I.BK x c e) hc DL ho<|I.sE x c e;exact⟨_,q,hd⟩
  .exact⟨o,keep c o (I.BK x c e) hc DL ho<|I.sE x c e,hd⟩
 refine⟨I.ok,I.os,hg,⟨λb o e n hb hx=>?_,λb o e n hb hx=>?_,λb o e n hx=>?_,λb o e hx=>?_,λb xs e=>Ae b xs<|I.base.Ae b xs e,λb o xs e=>sZ b o xs<|I.base.sZ b o xs e,λb ps e=>?_⟩,?_,λx c e=>?_,?_,λx c e=>?_,λp hp=>?_,aI,I.len⟩
 .exact keep b o (Na b o e) hb (FG b o e hx) (I.base.keep b o e n hb hx)<|I.base.free b o e n hx
 .obtain⟨sl,e1⟩:=I.base.slot b o e n hb hx;obtain⟨Vs,e2⟩:=slot b _ (Na b o e) hb (FG b o e hx) e1<|I.base.free b o e n hx;exact⟨Vs,e2⟩
 .obtain⟨o',e1⟩:=I.base.there b o e hx;exact free b o' (FG b o e hx) e1<|I.base.free b o e n hx
 .obtain⟨o',e1⟩:=I.base.there b o e hx;exact there b o' (FG b o e hx) e1
 .obtain⟨m1,e1⟩:=I.base.Af b ps e;obtain⟨m2,e2⟩:=Af b _ e1;exact⟨m1++m2,by rw[e2,Array.append_assoc]⟩
 .obtain⟨m,hn,hl⟩:=I.loc;refine⟨m,ns m hn,λi x v e1 e2 e3=>?_⟩;obtain⟨u,r,l⟩:=hl i x v e1 e2 e3;refine⟨u,r,?_⟩;rcases l with l|⟨k,c,e,z⟩
  .exact .inl l
  .exact .inr ⟨k,c,e,cellK x c e _ z⟩
 .obtain⟨v,z⟩:=I.cell x c e;exact⟨v,cellK x c e v z⟩
 .obtain⟨m,⟨o,_,_,ho,_⟩,_⟩:=I.loc;exact free _ o (λz=>(eZ _ z).2.1 rfl) ho I.free
 .obtain⟨v,o,ho,hd⟩:=I.cell x c e;exact free c o (λz=>(eZ c z).2.2.1 x c e rfl) ho<|I.sE x c e
 .obtain⟨e,n,ne,nf,d⟩:=I.pin p hp;have DL:p.1∉ch:=λz=>(eZ p.1 z).2.2.2 p hp rfl
  exact⟨keep p.1 p.2 ne nf DL e n,free p.1 p.2 DL e n,ne,nf,d⟩
def Inv.un(I:Inv X pZ σ H s)(u:Un X.fs [] H H' s.heap h')(aI:eN X.prog X.w H' h'):Inv X pZ σ H' { s with heap:=h',toks:=t' }:=by
 obtain⟨m,⟨o,es,ep,ho,r⟩,_⟩:=id I.loc;obtain⟨sl,hL⟩:=u.any ho I.free (by simp);exact I.step (g':=s.gens) (d':=s.drawn) (ch:=[]) (λ_ z=>nomatch z) (λb o _ hb _ e n=>u.keep b o e n hb<|by simp) (λb o _ hb _ e n=>u.slot b o e n hb<|by simp) (λb o _ e n=>u.free b o e n<|by simp) (λb o _ e=>u.there b o e<|by simp) u.Ae u.sZ u.Af (λm' hm=>by
  obtain⟨o',fO,AX,iU,r'⟩:=hm;rw[ho] at iU;cases iU;exact⟨_,fO,AX,hL,r'⟩) aI I.bare
def Inv.call{ch:List Addr}(I:Inv X pZ σ H s)(u:Un (iY X.stack) ch H H' s.heap h')(aI:eN X.prog X.w H' h')(hg:AllBare g')(eZ:∀b∈ch,(b∈X.ex\/X.s₀.heap.objs.size<=b)/\b≠X.env.locals/\(∀x c,X.env.cells.lookup x=aA c->c≠b)/\∀p∈X.pn++pZ,p.1≠b):Inv X pZ σ H' { s with heap:=h',gens:=g',drawn:=d',toks:=t' }:=by
 obtain⟨m,⟨o,es,ep,ho,r⟩,_⟩:=id I.loc;obtain⟨sl,hL⟩:=u.any ho I.free λz=>(eZ _ z).2.1 rfl
 exact I.step (ch:=ch) eZ (λb o hL hb hc e n=>u.keep b o e n (λz=>(bb.mp<|I.Hr b z).elim hL hb) hc) (λb o _ _ hc e n=>u.any e n hc) (λb o hc e n=>u.free b o e n hc) (λb o hc e=>u.there b o e hc) u.Ae u.sZ u.Af (λm' hm=>by
  obtain⟨o',fO,AX,iU,r'⟩:=hm;rw[ho] at iU;cases iU;exact⟨_,fO,AX,hL,r'⟩) aI hg
def Inv.turned(I:Inv X pZ σ H s)(k:∀b o,b≠it->s.heap.get? b=aA o->h'.get? b=aA o)(hn:H it=aB)(hL:it≠X.env.locals)(h1:it∈X.ex\/X.s₀.heap.objs.size<=it)(h2:∀x c,X.env.cells.lookup x=aA c->c≠it)(h3:∀p∈X.pn++pZ,p.1≠it):Inv X pZ σ H { s with heap:=h',toks:=t' }:=by
 have M9:∀b u,H b=aA u->b≠it:=λb u e z=>by rw[z,hn] at e;cases e
 refine I.step (g':=s.gens) (d':=s.drawn) (ch:=[it]) (λb hb=>?_) (λb o _ _ hc e _=>k b o (λz=>hc<|by simp[z]) e) (λb o _ _ hc e _=>⟨o.slots,k b o (λz=>hc<|by simp[z]) e⟩) (λ_ _ _ _ n=>n)
  (λb o hc e=>⟨o,k b o (λz=>hc<|by simp[z]) e⟩) (λ_ _ e=>e) (λ_ _ _ e=>e) (λb ps e=>⟨#[],by rw[e];simp⟩) (λm hm=>?_) (λb u e=>?_) I.bare
 .have e:b=it:=by simpa using hb
  subst e;exact⟨h1,hL,h2,h3⟩
 .obtain⟨o,es,ep,ho,r⟩:=hm;exact⟨o,es,ep,k _ o (ua hL) ho,r⟩
 .refine(I.aI b u e).Ag (λc v hc q=>k c v ?_ q) (λ_ q=>q) (λ_ _ q=>q) λ_ _ _ q=>q
  rcases hc with z|z
  .rw[z];exact M9 b u e
  .exact M9 c _ z
def Inv.tok(I:Inv X pZ σ H s)(t:Nat):Inv X pZ σ H { s with toks:=t }:=I.un (h':=s.heap) (t':=t) Un.refl I.aI
def Inv.kept(I:Inv X pZ σ H s)(k:∀b u,s.heap.get? b=aA u->h'.get? b=aA u):Inv X pZ σ H { s with heap:=h',toks:=t' }:=I.un (Un.kept k)<|I.aI.kept k
def Inv.laid(I:Inv X pZ σ H s)(k:∀b u,s.heap.get? b=aA u->h'.get? b=aA u)(hp:s.heap.objs.size<=a)(new:d_ X.prog X.w (upd H a o) h' a o):Inv X pZ σ (upd H a o) { s with heap:=h',toks:=t' }:=I.un (Un.laid k hp<|I.aI.fresh hp)<|I.aI.laid k hp new
def Inv.write(I:Inv X pZ σ H s)(mu:Em (H x))(he:e=x\/H e=aA (.own x))(k:∀b u,b≠e->s.heap.get? b=aA u->h'.get? b=aA u)(Ct:∃u,h'.get? e=aA u)(new:d_ X.prog X.w (upd H x o) h' x o):Inv X pZ σ (upd H x o) { s with heap:=h',toks:=t' }:=I.un (Un.write mu he k Ct)<|I.aI.write mu he k Ct new
def Inv.HR(I:Inv X pZ σ H s)(h:∀p∈Dx,s.heap.get? p.1=aA p.2/\H p.1=aB/\p.1≠X.env.locals/\p.1∉X.fs/\∀v,p.2.data≠.cell v):Inv X Dx σ H s:=
 ⟨I.ok,I.os,I.bare,I.base,I.loc,I.cell,I.free,I.sE,λp hp=>(aq.mp hp).elim (λz=>I.pin p<|ma _ z)<|h p,I.aI,I.len⟩
def YI{N:List Str}(hN:N.Nodup){i j:Nat}{x:Str}(a:N[i]?=aA x)(b:N[j]?=aA x):i=j:=by
 obtain⟨h1,e1⟩:=ba.mp a;obtain⟨h2,e2⟩:=ba.mp b;exact(List.getElem_inj hN).mp (e1.trans e2.symm)
def n5{M:Model}{A:Around}{E:Value->Shared->Prop}{i:Nat}{x:Str}{v:V}{u:Value}{Q:Unit->Shared->Prop}(I:Inv X pZ σ H s)(hN:X.N.Nodup)(hi:X.N[i]?=aA x)(hx:Loc X.env.scope x)(r:RelV v u)(h:∀s',Inv X pZ (σ.set i<|some v) H s'->(∃a,dz a s.heap s'.heap/\(a=X.env.locals\/X.env.cells.lookup x=aA a))->Q () s')(hf:iQ X x:=by first|exact .inl rfl|exact .inr rfl|assumption):wpAny M A (storeName X.env x u) Q E s:=by
 obtain⟨m,hn,hl⟩:=id I.loc;have Yg:(X.env.scope.kind == .class || (X.env.scope.kind == .module && X.env.locals != X.env.globals))=false:=by rw[I.ok.kind];rfl
 have NJ:i<σ.length:=by rw[I.len];exact(ba.mp hi).1
 have BK:=I.BK;have tracked:∀{a:Addr} {h':Heap},(∃o,s.heap.get? a=aA o/\H a=aB)->dz a s.heap h'->eN X.prog X.w H h':=λ{a h'} ha hs b ob e=>by
  obtain⟨_,_,NK⟩:=ha;refine(I.aI b ob e).Ag (λc w' hc q=>(hs.2 c ?_).trans q) (λ_ q=>q) (λ_ _ q=>q) λ_ _ _ q=>q
  rintro rfl;rcases hc with rfl|hc
  .rw[NK] at e;cases e
  .rw[NK] at hc;cases hc
 rcases hx with hk|hk
 .refine wpAny_storeName_local hk hn (λh' FU hs=>?_) Yg;obtain⟨oL,_,_,AS,_⟩:=id hn;refine h _ ⟨I.ok,I.os,I.bare,⟨λb o e n hb hx=>?_,λb o e n hb hx=>?_,I.base.free,λb o e hx=>?_,I.base.Ae,I.base.sZ,I.base.Af⟩,⟨_,FU,λj y v' e1 e2 e3=>?_⟩,λy c e=>?_,I.free,I.sE,λp hp=>?_,tracked ⟨oL,AS,I.free⟩ hs,by simpa using I.len⟩ ⟨_,hs,.inl rfl⟩
  .exact(hs.2 b<|bh<|bw (aw e) I.ok.above).trans (I.base.keep b o e n hb hx)
  .obtain⟨sl,e1⟩:=I.base.slot b o e n hb hx;exact⟨sl,(hs.2 b<|bh<|bw (aw e) I.ok.above).trans e1⟩
  .obtain⟨o',e1⟩:=I.base.there b o e hx;exact⟨o',(hs.2 b<|bh<|bw (aw e) I.ok.above).trans e1⟩
  .by_cases hj:j=i
   .subst hj;rw[hi] at e1;cases e1;rw[aby NJ] at e2;cases e2;exact⟨u,r,.inl ⟨hk,by simp⟩⟩
   .rw[acx<|ua hj] at e2;obtain⟨u',r',q⟩:=hl j y v' e1 e2 e3;refine⟨u',r',?_⟩;rcases q with⟨k,e⟩|⟨k,c,e,z⟩
    .refine .inl ⟨k,?_⟩
     have:y≠x:=λe=>hj<|YI hN e1<|e ▸ hi
     simp[this,e]
    .exact .inr ⟨k,c,e,z.sameBut hs<|BK y c e⟩
  .obtain⟨w',z⟩:=I.cell y c e;exact⟨w',z.sameBut hs<|BK y c e⟩
  .obtain⟨e,n,ne,nf,d⟩:=I.pin p hp;exact⟨(hs.2 p.1 ne).trans e,n,ne,nf,d⟩
 .have Iy:X.fn x=true:=by
   rcases hf with z|z
   .exact z
   .rw[z] at hk;cases hk
  obtain⟨c,hc⟩:=I.ok.has x<|.inl hk;obtain⟨w',z⟩:=I.cell x c hc;refine wpAny_storeName_cell I.ok.kind hk hc z λh' sW hs=>?_;obtain⟨oc,FQ,Xj⟩:=id z;refine h { s with heap:=h' } ⟨I.ok,I.os,I.bare,⟨λb o e n hb hx=>?_,λb o e n hb hx=>?_,I.base.free,λb o e hx=>?_,I.base.Ae,I.base.sZ,I.base.Af⟩,⟨m,hn.sameBut hs<|ua<|BK x c hc,λj y v' e1 e2 e3=>?_⟩,λy c' e=>?_,I.free,I.sE,λp hp=>?_,tracked ⟨oc,FQ,I.sE x c hc⟩ hs,by simpa using I.len⟩ ⟨c,hs,.inr hc⟩
  .exact(hs.2 b<|bh<|bw (aw e)<|I.ok.CA x c Iy hc).trans (I.base.keep b o e n hb hx)
  .obtain⟨sl,e1⟩:=I.base.slot b o e n hb hx;exact⟨sl,(hs.2 b<|bh<|bw (aw e)<|I.ok.CA x c Iy hc).trans e1⟩
  .obtain⟨o',e1⟩:=I.base.there b o e hx;exact⟨o',(hs.2 b<|bh<|bw (aw e)<|I.ok.CA x c Iy hc).trans e1⟩
  .by_cases hj:j=i
   .subst hj;rw[hi] at e1;cases e1;rw[aby NJ] at e2;cases e2;exact⟨u,r,.inr ⟨.inl hk,c,hc,sW⟩⟩
   .rw[acx<|ua hj] at e2;obtain⟨u',r',q⟩:=hl j y v' e1 e2 e3;refine⟨u',r',?_⟩;rcases q with q|⟨k,c',e,z'⟩
    .exact .inl q
    .refine .inr ⟨k,c',e,z'.sameBut hs ?_⟩;rintro rfl;exact hj<|YI hN e1<|I.ok.inj _ _ _ e hc ▸ hi
  .by_cases Eh:c'=c
   .subst Eh;exact⟨_,sW⟩
   .obtain⟨w2,z2⟩:=I.cell y c' e;exact⟨w2,z2.sameBut hs Eh⟩
  .obtain⟨e,n,ne,nf,d⟩:=I.pin p hp;refine⟨(hs.2 p.1 ?_).trans e,n,ne,nf,d⟩;intro q;rw[q,FQ] at e;have q':oc=p.2:=bv e;exact d w' (by rw[<-q'];exact Xj)
def ZQ(I:Inv X pZ σ H s)(hN:X.N.Nodup)(hi:X.N[i]?=aA x)(hx:Loc X.env.scope x)(r:RelV v u)(h:∀s',Inv X pZ (σ.set i<|some v) H s'->Q () s')(hf:iQ X x:=by first|exact .inl rfl|exact .inr rfl|assumption):wpAny M A (storeName X.env x u) Q E s:=
 n5 I hN hi hx r (λs' I' _=>h s' I') hf
def Inv.Á{ch:List Addr}(I:Inv X pZ σ H s)(ho:s'.os=s.os)(u:Un (iY X.stack) ch H H' s.heap s'.heap)(aI:eN X.prog X.w H' s'.heap)(hg:AllBare s'.gens)(eZ:∀b∈ch,(b∈X.ex\/X.s₀.heap.objs.size<=b)/\b≠X.env.locals/\(∀x c,X.env.cells.lookup x=aA c->c≠b)/\∀p∈X.pn++pZ,p.1≠b):Inv X pZ σ H' s':=by
 obtain⟨h',g',d',t',o'⟩:=s';have e:o'=s.os:=ho;subst e;exact I.call (g':=g') (t':=t') (d':=d') u aI hg eZ
end
abbrev XK:=Value->Option Addr->Hp->Prop
noncomputable abbrev St:=List<|Option V
abbrev VK:=V->Hp->Prop
abbrev TE:=St->Hp->VK->Prop
abbrev TT:=St->Hp->(Bool->Hp->Prop)->Prop
abbrev TA:=St->Hp->(List V->Hp->Prop)->Prop
structure Ends where
 nx:St->Hp->Prop
 rt:VK
 bk:St->Hp->Prop:=λ_ _=>False
 ct:St->Hp->Prop:=λ_ _=>False
abbrev TS:=Ends->St->Hp->Prop
def EP(X:Cx)(pZ:List (Addr×Obj))(σ:St)(Q:VK)(u:Value)(s':Shared):Prop:=∃v H',Inv X pZ σ H' s'/\RelV v u/\Q v H'
def TP(X:Cx)(pZ:List (Addr×Obj))(σ:St)(Q:Bool->Hp->Prop)(b:Bool)(s':Shared):Prop:=∃H',Inv X pZ σ H' s'/\Q b H'
def AP(X:Cx)(pZ:List (Addr×Obj))(σ:St)(Q:List V->Hp->Prop)(us:List Value)(s':Shared):Prop:=∃vs H',Inv X pZ σ H' s'/\Vals vs us/\Q vs H'
def SP(X:Cx)(pZ:List (Addr×Obj))(D:Ends)(f:Flow)(s':Shared):Prop:=
 match f with
 |.next=>∃σ' H',Inv X pZ σ' H' s'/\D.nx σ' H'
 |.brk=>∃σ' H',Inv X pZ σ' H' s'/\D.bk σ' H'
 |.cont=>∃σ' H',Inv X pZ σ' H' s'/\D.ct σ' H'
 |.ret u=>∃v σ' H',Inv X pZ σ' H' s'/\RelV v u/\D.rt v H'
def PE(X:Cx)(e:Expr)(t:TE):Prop:=
 ∀pZ s σ H (Q:VK),Inv X pZ σ H s->t σ H Q->wpAny (model X.prog X.w) X.A (eval e X.env) (EP X pZ σ Q) X.xe s
def PT(X:Cx)(e:Expr)(t:TT):Prop:=
 ∀pZ s σ H (Q:Bool->Hp->Prop),Inv X pZ σ H s->t σ H Q->wpAny (model X.prog X.w) X.A (isTrue e X.env<|eval e X.env) (TP X pZ σ Q) X.xe s
def PW(X:Cx)(e:Expr)(t:TT):Prop:=
 ∀(whole:Sem Value) (pZ:List (Addr×Obj)) (s:Shared) (σ:St) (H:Hp) (Q:Bool->Hp->Prop),Inv X pZ σ H s->t σ H Q->wpAny (model X.prog X.w) X.A (isTrue e X.env whole) (TP X pZ σ Q) X.xe s
def PW.pt(h:PW X e t):PT X e t:=h _
def PA(X:Cx)(es:List Expr)(t:TA):Prop:=
 ∀(pos:Pos) (pZ:List (Addr×Obj)) (s:Shared) (σ:St) (H:Hp) (Q:List V->Hp->Prop),Inv X pZ σ H s->t σ H Q->wpAny (model X.prog X.w) X.A (spliced<|wv pos<|bp es X.env) (AP X pZ σ Q) X.xe s
def PS(X:Cx)(st:Stmt)(t:TS):Prop:=
 ∀pZ s σ H (D:Ends),Inv X pZ σ H s->t D σ H->wpAny (model X.prog X.w) X.A (exec st X.env) (SP X pZ D) X.xe s
def fI(X:Cx)(st:List Stmt)(t:TS):Prop:=
 ∀pZ s σ H (D:Ends),Inv X pZ σ H s->t D σ H->wpAny (model X.prog X.w) X.A (execs st X.env) (SP X pZ D) X.xe s
def aK(h:wpAny M A t Q E s)(hQ:∀a s,Q a s->Q' a s):wpAny M A t Q' E s:=je h hQ λ_ _ x=>x
section
noncomputable def ZN(i:Nat):TE:=λσ H Q=>∃v,σ[i]?=aA (aA v)/\Q v H
noncomputable def tC(v:V):TE:=λ_ H Q=>Q v H
def Rq(hN:X.N[i]?=aA x)(hv:F' X.env.scope x)(hd:iH x:=by decide)(sC:(x == ("__classdict__" : Str))=false:=by decide):PE X (.Name x pos) (ZN i):=by
 intro pZ s σ H Q I h;obtain⟨v,e,h⟩:=h;obtain⟨m,hn,hl⟩:=I.loc;obtain⟨u,r,l⟩:=hl i x v hN e hv;have fin:EP X pZ σ Q u s:=⟨v,H,I,r,h⟩;rcases l with⟨hk,hm⟩|⟨hk,c,hc,F2⟩
 .exact wpAny_Name (wpAny_loadName_local I.ok.kind hk hn hm fin) hd
 .rcases hk with hk|hk
  .exact wpAny_Name (wpAny_loadName_cell I.ok.kind hk hc F2 fin) hd
  .exact wpAny_Name (wpAny_loadName_free I.ok.kind hk hc F2 fin sC) hd
def Li{i j pos}:PE X (.Constant (.int i) j pos) (tC<|.int i):=λ_ _ _ H _ I h=>wpAny_Constant_int ⟨.int i,H,I.tok _,⟨_,rfl⟩,h⟩
def Ki{b j pos}:PE X (.Constant (.bool b) j pos) (tC<|.bl b):=λ_ _ _ H _ I h=>Constant_bool ⟨.bl b,H,I,rfl,h⟩
def Rl{j pos}:PE X (.Constant .none j pos) (tC .aE):=λ_ _ _ H _ I h=>Constant_none ⟨.aE,H,I,rfl,h⟩
def Rp{x j pos}:PE X (.Constant (.str x) j pos) (tC<|.str x):=λ_ _ _ H _ I h=>Calls.Constant_str ⟨.str x,H,I.tok _,⟨_,rfl⟩,h⟩
def Gl(X:Cx)(x:Str):Prop:=X.env.kindOf x=aA .globalImplicit
def Mh(I:Inv X pZ σ H s)(hg:Gl X x)(hm:X.mg x=aA u)(h:Q u s)(hd:iH x:=by decide):wpAny (model X.prog X.w) X.A (eval (.Name x pos) X.env) Q E s:=
 aaa I.ok.kind hg (Calls.loadGlobal_global (by rw[I.ok.glob];exact I.mod.glob.keeps I.bk) hm h) hd
def mG(I:Inv X pZ σ H s)(hg:Gl X x)(hm:X.mg x=aB)(hv:bootBuiltins x=aA u)(h:Q u s)(hn:x ≠ "__name__" := by decide)(hd:iH x:=by decide):wpAny (model X.prog X.w) X.A (eval (.Name x pos) X.env) Q E s:=by
 obtain⟨mb,h1,h2⟩:=I.mod.blt;exact aaa I.ok.kind hg (Calls.loadGlobal_builtin (by rw[I.ok.glob];exact I.mod.glob.keeps I.bk) hm (by rw[I.ok.blt];exact h1.keeps I.bk) ((h2 x hn).trans hv) h) hd
def S8(hg:Gl X x)(hm:X.mg x=aA u)(r:RelV v u)(hd:iH x:=by decide):PE X (.Name x pos) (tC v):=
 λ_ _ _ H _ I h=>Mh I hg hm ⟨v,H,I,r,h⟩ hd
def b7(hg:Gl X x)(hm:X.mg x=aB)(hv:bootBuiltins x=aA u)(r:RelV v u)(hn:x ≠ "__name__" := by decide)(hd:iH x:=by decide):PE X (.Name x pos) (tC v):=
 λ_ _ _ H _ I h=>mG I hg hm hv ⟨v,H,I,r,h⟩ hn hd
def PC(X:Cx)(op:CmpOp)(a b:Expr)(t:TE):Prop:=
 ∀pZ s σ H (Q:VK),Inv X pZ σ H s->t σ H Q ->
  wpAny (model X.prog X.w) X.A (eval a X.env) (λv s₁=>wpAny (model X.prog X.w) X.A (eval b X.env) (λu s₂=>wpAny (model X.prog X.w) X.A (jc op v u) (EP X pZ σ Q) X.xe s₂) X.xe s₁) X.xe s
noncomputable def tB(t:TE):TT:=λσ H Q=>t σ H λx H1=>∃c,x=.bl c/\Q c H1
def Sb(h:PC X op a b t)(h1:ki op b=false:=by first|exact ô _ (by decide) (by decide)|rfl):PT X (.Compare a [op] [b] pos) (tB t):=by
 intro pZ s σ H Q I hw;refine acg (aK (h pZ s σ H _ I hw) λv s1 h1=>aK h1 λu s2 h2=>aK h2 λc s3 ⟨x,H1,I1,r1,q1⟩=>?_) h1;obtain⟨d,rfl,q⟩:=q1;cases r1;exact nv ⟨H1,I1,q⟩
variable{rest:List Expr}
noncomputable def OF(t u:TT):TT:=λσ H Q=>t σ H λc H1=>if c=true then u σ H1 Q else Q false H1
noncomputable def Vi(t u:TT):TT:=λσ H Q=>t σ H λc H1=>if c=true then Q true H1 else u σ H1 Q
noncomputable def OL(t:TT):TT:=λσ H Q=>t σ H λc H1=>Q (!c) H1
def TR(ha:PT X a tA):PW X (.BoolOp .And [a] pos) tA:=by
 intro wh pZ s σ H Q I h;refine isTrue_and<|aK (ha pZ s σ H Q I h) λc s1 e=>?_;cases c with
 |true=>exact isTrue_and_nil e
 |false=>exact e
def Se(ha:PT X a tA):PW X (.BoolOp .Or [a] pos) tA:=by
 intro wh pZ s σ H Q I h;refine isTrue_or<|aK (ha pZ s σ H Q I h) λc s1 e=>?_;cases c with
 |false=>exact isTrue_or_nil e
 |true=>exact e
def Sd(ha:PT X a tA)(hb:PW X (.BoolOp .And (b::rest) pos) Ho):PW X (.BoolOp .And (a::b::rest) pos) (OF tA Ho):=by
 intro wh pZ s σ H Q I h;refine isTrue_and<|aK (ha pZ s σ H _ I h) λc s1 ⟨H1,I1,q1⟩=>?_;cases c with
 |true=>exact hb wh pZ s1 σ H1 Q I1 q1
 |false=>exact⟨H1,I1,q1⟩
def PQ(ha:PT X a tA)(hb:PW X (.BoolOp .Or (b::rest) pos) Ho):PW X (.BoolOp .Or (a::b::rest) pos) (Vi tA Ho):=by
 intro wh pZ s σ H Q I h;refine isTrue_or<|aK (ha pZ s σ H _ I h) λc s1 ⟨H1,I1,q1⟩=>?_;cases c with
 |true=>exact⟨H1,I1,q1⟩
 |false=>exact hb wh pZ s1 σ H1 Q I1 q1
def Sc(ha:PT X a tA):PT X (.UnaryOp .Not a pos) (OL tA):=by
 intro pZ s σ H Q I h;exact isTrue_not<|ha pZ s σ H (λc H1=>Q (!c) H1) I h
noncomputable def PX(ta tb:TE):TE:=λσ H Q=>ta σ H λx H1=>∃c,x=.bl c/\if c=true then tb σ H1 Q else Q (.bl false) H1
noncomputable def Pu(ta:TE):TE:=λσ H Q=>ta σ H λx H1=>∃c,x=.bl c/\Q (.bl<|!c) H1
def Rn{op}(h:PE X a t):PE X (.BoolOp op [a] pos) t:=λpZ s σ H Q I hw=>BoolOp_one<|h pZ s σ H Q I hw
def Rh(ha:PE X a ta)(hb:PE X (.BoolOp .And (b::rest) pos) tb):PE X (.BoolOp .And (a::b::rest) pos) (PX ta tb):=by
 intro pZ s σ H Q I h;refine BoolOp_and<|aK (ha pZ s σ H _ I h) λv s1 ⟨x,H1,I1,r1,q1⟩=>?_;obtain⟨c,rfl,q1⟩:=q1;cases r1;refine nv ?_;cases c with
 |true=>exact hb pZ s1 σ H1 Q I1 q1
 |false=>exact⟨.bl false,H1,I1,rfl,q1⟩
def Rm(ha:PE X a ta):PE X (.UnaryOp .Not a pos) (Pu ta):=by
 intro pZ s σ H Q I h;refine UnaryOp_<|aK (ha pZ s σ H _ I h) λv s1 ⟨x,H1,I1,r1,q1⟩=>?_;obtain⟨c,rfl,q1⟩:=q1;cases r1;exact not_of<|nv ⟨.bl<|!c,H1,I1,rfl,q1⟩
end
def aN(K:Fg)(H:Hp)(a:Addr)(xs:List V):Prop:=
 Rd H a (.lst xs) \/
  ∃(o:Obj) (its:Array Value) (n:Nat),K.lookup a=aA o/\o.cls=.type "list" /\ o.dict=aB/\o.data=.seq its n/\its.size<=ar/\Vals xs its.toList
def aM(K:Fg)(H:Hp)(a:Addr)(xs:List V):Prop:=
 Rd H a (.tup xs) \/
  ∃(o:Obj) (its:Array Value) (n:Nat),K.lookup a=aA o/\o.cls=.type "tuple" /\ o.data=.seq its n/\its.size<=ar/\Vals xs its.toList
noncomputable def OX:Value->Option V
 |.none=>aA .aE
 |.bool b=>aA<|.bl b
 |.int i _=>aA<|.int i
 |.str x _=>aA<|.str x
 |.bytes b _=>aA<|.i5 b
 |.float b _=>aA<|.Cy b
 |.ref a=>aA<|.ref a
 |.type n=>aA<|.ty n
 |_=>aB
def RelV.abs(r:RelV x u):OX u=aA x:=by
 cases x with
 |aE=>cases r;rfl
 |bl _=>cases r;rfl
 |int _=>obtain⟨t,rfl⟩:=r;rfl
 |str _=>obtain⟨t,rfl⟩:=r;rfl
 |i5 _=>obtain⟨t,rfl⟩:=r;rfl
 |Cy _=>obtain⟨t,rfl⟩:=r;rfl
 |ref _=>cases r;rfl
 |ty _=>cases r;rfl
def RelV.inj(r:RelV x u)(q:RelV y u):x=y:=bv<|r.abs.symm.trans q.abs
def Vals.inj:∀{xs ys:List V} {us:List Value},Vals xs us->Vals ys us->xs=ys
 |_,_,_,.nil,.nil=>rfl
 |_,_,_,.cons r t,.cons r' t'=>by rw[r.inj r',Vals.inj t t']
def aN.of{K:Fg}(h:H a=aA (.lst xs)):aN K H a xs:=.inl<|.inl h
def aM.of{K:Fg}(h:H a=aA (.tup xs)):aM K H a xs:=.inl<|.inl h
def Inv.list(I:Inv X pZ σ H s)(h:aN X.K H a xs):∃its:List Value,Vals xs its/\PlainL s.heap a its.toArray/\xs.length<=ar:=by
 rcases h with h|⟨o,its,n,hk,hc,hd,hs,hz,r⟩
 .obtain⟨z,its,n,r,e⟩:=h.ok I.aI;exact⟨its,r,⟨_,n,e,rfl,rfl,rfl⟩,z⟩
 .refine⟨its.toList,r,⟨o,n,I.fK a o hk,hc,hd,by simpa using hs⟩,?_⟩;have e:=r.length;simp only[cw] at e;omega
def Inv.tuple(I:Inv X pZ σ H s)(h:aM X.K H a xs):∃its:List Value,Vals xs its/\IsTup s.heap a its.toArray/\xs.length<=ar:=by
 rcases h with h|⟨o,its,n,hk,hc,hs,hz,r⟩
 .obtain⟨z,its,r,p⟩:=h.ok I.aI;exact⟨its,r,p,z⟩
 .refine⟨its.toList,r,⟨o,I.fK a o hk,hc,n,by simpa using hs⟩,?_⟩;have e:=r.length;simp only[cw] at e;omega
def Inv.Ia(I:Inv X pZ σ H s)(h:aN X.K H a xs)(h':aN X.K H a ys):xs=ys:=by
 obtain⟨its,r,⟨o,n,e,_,_,d⟩,_⟩:=I.list h;obtain⟨its',r',⟨o',n',e',_,_,d'⟩,_⟩:=I.list h';rw[e] at e';cases e';rw[d] at d'
 injection d' with d1 _
 have:its=its':=by simpa using congrArg yi d1
 subst this;exact r.inj r'
def Inv.Mw(I:Inv X pZ σ H s)(h:aM X.K H a xs)(h':aM X.K H a ys):xs=ys:=by
 obtain⟨its,r,⟨o,e,_,n,d⟩,_⟩:=I.tuple h;obtain⟨its',r',⟨o',e',_,n',d'⟩,_⟩:=I.tuple h';rw[e] at e';cases e';rw[d] at d'
 injection d' with d1 _
 have:its=its':=by simpa using congrArg yi d1
 subst this;exact r.inj r'
noncomputable abbrev Cx.sO(X:Cx)(E:Value->Shared->Prop):Cx:={ X with xe:=E }
abbrev Cx.DH(X:Cx):Cx:=X.sO λ_ _=>False
def Cx.Ok.sO{X:Cx}(ok:X.Ok)(E:Value->Shared->Prop):(X.sO E).Ok:=
 ⟨ok.mod,ok.kind,ok.glob,ok.blt,ok.above,ok.inj,ok.has,ok.CA,ok.hd,ok.frames,ok.C',ok.F6,ok.bs,ok.t_,ok.Bv,ok.Cz,ok.lN,ok.BH⟩
def Cx.Ok.AA{X:Cx}{E:Value->Shared->Prop}(ok:(X.sO E).Ok):X.Ok:=
 ⟨ok.mod,ok.kind,ok.glob,ok.blt,ok.above,ok.inj,ok.has,ok.CA,ok.hd,ok.frames,ok.C',ok.F6,ok.bs,ok.t_,ok.Bv,ok.Cz,ok.lN,ok.BH⟩
def Inv.sO(I:Inv X pZ σ H s)(E:Value->Shared->Prop):Inv (X.sO E) pZ σ H s:=⟨I.ok.sO E,I.os,I.bare,I.base,I.loc,I.cell,I.free,I.sE,I.pin,I.aI,I.len⟩
def Inv.AA(I:Inv (X.sO E) pZ σ H s):Inv X pZ σ H s:=⟨I.ok.AA,I.os,I.bare,I.base,I.loc,I.cell,I.free,I.sE,I.pin,I.aI,I.len⟩
def SP.AA{D:Ends}(h:SP (X.sO E) pZ D f s'):SP X pZ D f s':=by
 cases f with
 |next=>obtain⟨σ',H',I,q⟩:=h;exact⟨σ',H',I.AA,q⟩
 |brk=>obtain⟨σ',H',I,q⟩:=h;exact⟨σ',H',I.AA,q⟩
 |cont=>obtain⟨σ',H',I,q⟩:=h;exact⟨σ',H',I.AA,q⟩
 |ret u=>obtain⟨v,σ',H',I,r,q⟩:=h;exact⟨v,σ',H',I.AA,r,q⟩
def fI.DH{st:List Stmt}(h:fI X.DH st t):fI X st t:=λpZ s σ H D I hw=>
 je (h pZ s σ H D (I.sO _) hw) (λ_ _ q=>q.AA) λ_ _ z=>ku z
section
variable{st:Stmt}{rest:List Stmt}
noncomputable def Ps:TS:=λD σ H=>D.nx σ H
noncomputable def OO(t u:TS):TS:=λD σ H=>t { D with nx:=u D } σ H
def Ti:fI X [] Ps:=λ_ _ σ H _ I h=>wc ⟨σ,H,I,h⟩
def UY(h1:PS X st t)(h2:fI X rest u):fI X (st::rest) (OO t u):=by
 intro pZ s σ H D I h;refine wpAny_execs_cons<|aK (h1 pZ s σ H { D with nx:=u D } I h) λf s1 q=>?_;cases f with
 |next=>
  obtain⟨σ',H',I',q⟩:=q;exact h2 pZ s1 σ' H' D I' q
 |ret v=>exact q
 |brk=>exact q
 |cont=>exact q
def Tj(h1:PS X st t):fI X [st] t:=by
 intro pZ s σ H D I h;refine wpAny_execs_cons<|aK (h1 pZ s σ H D I h) λf s1 q=>?_;cases f with
 |next=>exact wc q
 |ret v=>exact q
 |brk=>exact q
 |cont=>exact q
def Inv.quiet(I:Inv X pZ σ H s):interactive X.env=false:=by simp[interactive,I.ok.kind]
noncomputable def Pq(te:TE):TS:=λD σ H=>te σ H λ_ H1=>D.nx σ H1
def Th(he:PE X e te)(hs:kq e aB pos.line X.env=pure false:=by rfl):PS X (.Expr e pos) (Pq te):=by
 intro pZ s σ H D I h;exact wpAny_Expr_any (aK (he pZ s σ H _ I h) λv s1 ⟨x,H1,I1,r1,q1⟩=>⟨σ,H1,I1,q1⟩) I.quiet hs
noncomputable def OM(te:TE):TS:=λD σ H=>te σ H D.rt
def Hd(he:PE X e te):PS X (.Return (aA e) pos) (OM te):=by
 intro pZ s σ H D I h;exact wpAny_Return_some<|aK (he pZ s σ H _ I h) λv s1 ⟨x,H1,I1,r1,q1⟩=>⟨x,σ,H1,I1,r1,q1⟩
noncomputable def OJ(c:TT)(t u:TS):TS:=λD σ H=>c σ H λb H1=>if b=true then t D σ H1 else u D σ H1
def PM(hc:PT X c tc)(ha:fI X a t)(hb:fI X b u):PS X (.If c a b pos) (OJ tc t u):=by
 intro pZ s σ H D I h;refine wpAny_If<|aK (hc pZ s σ H _ I h) λd s1 ⟨H1,I1,q1⟩=>?_;cases d with
 |true=>exact ha pZ s1 σ H1 D I1 q1
 |false=>exact hb pZ s1 σ H1 D I1 q1
end
abbrev TG:=V->St->Hp->(St->Hp->Prop)->Prop
abbrev BN:=List V->St->Hp->(St->Hp->Prop)->Prop
def PG(X:Cx)(target:Expr)(t:TG):Prop:=
 ∀pZ s σ H (v:V) (u:Value) (Q:St->Hp->Prop),Inv X pZ σ H s->RelV v u->t v σ H Q ->
  wpAny (model X.prog X.w) X.A (assign target X.env u) (λ_ s'=>∃σ' H',Inv X pZ σ' H' s'/\Q σ' H') X.xe s
def sH(X:Cx)(ts:List Expr)(t:BN):Prop:=
 ∀pZ s σ H (vs:List V) (us:List Value) (Q:St->Hp->Prop),Inv X pZ σ H s->Vals vs us->t vs σ H Q ->
  wpAny (model X.prog X.w) X.A (assignInOrder ((md ts X.env).map (·.2)) us) (λ_ s'=>∃σ' H',Inv X pZ σ' H' s'/\Q σ' H') X.xe s
noncomputable def B4(i:Nat):TG:=λv σ H Q=>Q (σ.set i<|some v) H
def S9(hN:X.N.Nodup)(hi:X.N[i]?=aA x)(hx:Loc X.env.scope x)(hf:iQ X x:=by first|exact .inl rfl|exact .inr rfl|assumption):PG X (.Name x pos) (B4 i):=by
 intro pZ s σ H v u Q I r h;exact wpAny_assign_Name<|ZQ I hN hi hx r (λs' I'=>⟨_,H,I',h⟩) hf
noncomputable def O1:BN:=λvs σ H Q=>vs=[]/\Q σ H
noncomputable def O7(t:TG)(u:BN):BN:=λvs σ H Q=>∃v r,vs=v::r/\t v σ H λσ' H'=>u r σ' H' Q
def S_:sH X [] O1:=by
 intro pZ s σ H vs us Q I r h;obtain⟨e,h⟩:=h;subst e;cases r;exact assignInOrder_nil ⟨σ,H,I,h⟩
def UH(h1:PG X e t)(h2:sH X es u)(hs:(md (e::es) X.env).map (·.2)=assign e X.env::(md es X.env).map (·.2):=by rfl):sH X (e::es) (O7 t u):=by
 intro pZ s σ H vs us Q I r h;obtain⟨v,vr,e1,h⟩:=h;subst e1;cases r with
 |cons r rr=>
  rw[hs];refine assignInOrder_cons<|aK (h1 pZ s σ H _ _ _ I r h) λ_ s1 ⟨σ1,H1,I1,q1⟩=>?_;exact h2 pZ s1 σ1 H1 _ _ Q I1 rr q1
def Ox(K:Fg)(n:Nat)(t:BN):TG:=λv σ H Q=>∃a xs,v=.ref a/\aM K H a xs/\xs.length=n/\t xs σ H Q
def Ru(hc:X.calm=true)(h:sH X es t)(hn:(md es X.env).length=n:=by rfl)(lL:(md es X.env).findIdx? (·.1)=aB:=by rfl):PG X (.Tuple es k pos) (Ox X.K n t):=by
 intro pZ s σ H v u Q I r hw;obtain⟨a,xs,e1,hq,hl,hw⟩:=hw;subst e1;cases r;obtain⟨its,rv,ht,hz⟩:=I.tuple hq;refine assign_Tuple_tuple (I.ok.hd hc) ht (by simp[hn,<-hl,rv.length]) lL λh' hx=>?_
 have I1:Inv X pZ σ H { s with heap:=h' }:=I.kept (t':=s.toks) λb o e=>hx b o (bh<|aw e) e
 exact h pZ _ σ H xs _ Q I1 (by simpa using rv) hw
noncomputable def Jm(te:TE)(g:TG):TS:=λD σ H=>te σ H λx H1=>g x σ H1 D.nx
def tG(hN:X.N.Nodup)(hi:X.N[i]?=aA x)(hx:Loc X.env.scope x)(he:PE X e te)(hs:kq e (aA<|.Name x pos') pos.line X.env=pure false:=by rfl)(hf:iQ X x:=by first|exact .inl rfl|exact .inr rfl|assumption):PS X (.Assign [.Name x pos'] e pos) (Jm te<|B4 i):=by
 intro pZ s σ H D I h;refine wpAny_Assign_Name (aK (he pZ s σ H _ I h) λv s1 ⟨y,H1,I1,r1,q1⟩=>?_) hs;exact ZQ I1 hN hi hx r1 (λs2 I2=>⟨_,H1,I2,q1⟩) hf
def RO(c:TT)(tb:TS):TS:=λD σ H=>∃W:Nat->St->Hp->Prop,(∃m,W m σ H)/\∀m σ H,W m σ H ->
 c σ H λb H1=>if b=true then ∃N:St->Hp->Prop,(∀σ' H',N σ' H'->∃m',m'<m/\W m' σ' H')/\tb { D with nx:=N,ct:=N,bk:=D.nx } σ H1 else D.nx σ H1
def UJ(hp:PassesOwn (model X.prog X.w) X.A X.env X.xe)(hc:PT X c tc)(hb:fI X body tb):PS X (.While c body [] pos) (RO tc tb):=by
 intro pZ s σ H D I h;obtain⟨W,⟨m0,w0⟩,turn⟩:=h;refine wpAny_While<|codeAny_whileLoop (λn s'=>∃σ' H',Inv X pZ σ' H' s'/\W n σ' H') ?_ m0 ⟨σ,H,I,w0⟩;rintro n s1 ⟨σ1,H1,I1,w1⟩;refine mz hp<|aK (hc pZ s1 σ1 H1 _ I1<|turn n σ1 H1 w1) λb s2 ⟨H2,I2,q2⟩=>?_;cases b with
 |true=>
  obtain⟨N,hN,q2⟩:=q2;rw[if_pos rfl];refine mz hp<|aK (hb pZ s2 σ1 H2 _ I2 q2) λf s3 q3=>?_;cases f with
  |next=>
   obtain⟨σ3,H3,I3,n3⟩:=q3;obtain⟨m',hm,w3⟩:=hN σ3 H3 n3;exact⟨m',hm,σ3,H3,I3,w3⟩
  |cont=>
   obtain⟨σ3,H3,I3,n3⟩:=q3;obtain⟨m',hm,w3⟩:=hN σ3 H3 n3;exact⟨m',hm,σ3,H3,I3,w3⟩
  |brk=>exact q3
  |ret v=>exact q3
 |false=>
  rw[if_neg bc];exact wc ⟨σ1,H2,I2,q2⟩
structure It where
 go:Nat->Hp->Prop
 C7:Nat->Hp->V->Hp->Prop
 stop:Nat->Hp->Prop
def gZ(X:Cx)(pZ:List (Addr×Obj))(H:Hp)(b:Addr):Prop:=
 H b=aB/\b≠X.env.locals/\b∉X.fs/\(b∈X.ex\/X.s₀.heap.objs.size<=b)/\(∀x c,X.env.cells.lookup x=aA c->c≠b)/\∀p∈X.pn++pZ,p.1≠b
def Inv.Ar(I:Inv X pZ σ H s)(hb:s.heap.objs.size<=b)(hn:H' b=aB):gZ X pZ H' b:=by
 refine⟨hn,lr<|bw I.lt hb,I.VP hb,.inr<|cz I.sz hb,λx c e z=>?_,λp hp z=>?_⟩
 .obtain⟨v,q⟩:=I.cell x c e;exact absurd (bw q.lt (by rw[z];exact hb))<|qq _
 .exact absurd (bw (aw (I.pin p hp).1) (by rw[z];exact hb))<|qq _
structure Turn(P:Program)(w:World)(K:Fg)(tg:Expr)(J:It)(fp:List Addr)(it:Addr)(tn:Nat->Heap->Prop):Prop where
 mem:it∈fp
 obj:∀i h,tn i h->∀b∈fp,∃o,h.get? b=aA o/\∀v,o.data≠.cell v
 keep:∀i h h',tn i h->(∀b∈fp,∀o,h.get? b=aA o->h'.get? b=aA o)->tn i h'
 item:∀(X:Cx),X.prog=P->X.w=w->X.K=K->X.calm=true->∀(i:Nat) (pZ:List (Addr×Obj)) (s:Shared) (σ:St) (H:Hp) (E:Value->Shared->Prop),Inv X pZ σ H s->(∀b∈fp,gZ X pZ H b)->tn i s.heap->J.go i H ->
  wpAny (model P w) X.A (pyNext<|.ref it) (λr s1=>∃u,r=aA u /\
   wpAny (model P w) X.A (letOwnedTupleGo tg (.ref it) u) (λ_ s2=>∃x H',Inv X pZ σ H' s2/\RelV x u/\J.C7 i H x H'/\tn (i+1) s2.heap/\∀b∈fp,H' b=aB) E s1) E s
 done:∀(X:Cx),X.prog=P->X.w=w->X.K=K->X.calm=true->∀(i:Nat) (pZ:List (Addr×Obj)) (s:Shared) (σ:St) (H:Hp) (E:Value->Shared->Prop),Inv X pZ σ H s->(∀b∈fp,gZ X pZ H b)->tn i s.heap->J.stop i H ->
  wpAny (model P w) X.A (pyNext<|.ref it) (λr s1=>r=aB/\Inv X pZ σ H s1) E s
 self:∀(A:Around) (i:Nat) (s:Shared) (Q:Value->Shared->Prop) (E:Value->Shared->Prop),tn i s.heap->Q (.ref it) s->wpAny (model P w) A (pyIter<|.ref it) Q E s
abbrev TI:=St->Hp->(It->Hp->Prop)->Prop
def Oh(X:Cx)(pZ:List (Addr×Obj))(σ:St)(tg:Expr)(R:It->Hp->Prop)(FK:Value)(s2:Shared):Prop:=
 ∃(it:Addr) (fp:List Addr) (tn:Nat->Heap->Prop) (J:It) (H':Hp),FK=.ref it/\Inv X pZ σ H' s2/\Turn X.prog X.w X.K tg J fp it tn/\tn 0 s2.heap/\(∀b∈fp,gZ X pZ H' b)/\R J H'
def PI(X:Cx)(tg iter:Expr)(wi:TI):Prop:=
 ∀pZ s σ H (R:It->Hp->Prop),Inv X pZ σ H s->wi σ H R ->
  wpAny (model X.prog X.w) X.A (eval iter X.env) (λv s1=>wpAny (model X.prog X.w) X.A (pyIter v) (Oh X pZ σ tg R) X.xe s1) X.xe s
def E1(ho:s.heap.get? it=aA o)(hc:o.cls=.type n)(hd:o.data=.fields vs)(hn:["enumerate", "zip", "dict_itemiterator", "dict_reverseitemiterator", "odict_iterator", "itertools.zip_longest", "itertools.pairwise"].contains n=false)(hQ:Q () s):wpAny M A (letOwnedTupleGo tg (.ref it) u) Q E s:=by
 unfold letOwnedTupleGo;cases tg<;>first
  |exact af hQ
  |(cases u<;>first
    |exact af hQ
    |(refine aa (wpAny_load ho ?_)
      rw[hc,hd];show wpAny M A (if (["enumerate", "zip", "dict_itemiterator", "dict_reverseitemiterator", "odict_iterator", "itertools.zip_longest", "itertools.pairwise"].contains n && vs[0]? == aA (rawInt _))=true then _ else _) Q E s;rw[if_neg (by intro h;rw[hn,Bool.false_and] at h;cases h)];exact af hQ))
def IP(K:Fg)(a:Addr):It:=
 ⟨λi H=>∃xs x,aN K H a xs/\xs[i]?=aA x,λi H x H'=>H'=H/\∀xs,aN K H a xs->xs[i]?=aA x,λi H=>∃xs,aN K H a xs/\xs.length<=i⟩
def IN(K:Fg)(a:Addr):It:=
 ⟨λi H=>∃xs x,aM K H a xs/\xs[i]?=aA x,λi H x H'=>H'=H/\∀xs,aM K H a xs->xs[i]?=aA x,λi H=>∃xs,aM K H a xs/\xs.length<=i⟩
noncomputable def Ge(lo:Int)(n:Nat):It:=⟨λi _=>i<n,λi H x H'=>H'=H/\x=.int (lo+i),λi _=>n<=i⟩
def X3{K:Fg}(a it:Addr):Turn P w K tg (IP K a) [it] it (λi h=>h.IsListIter it a i) where
 mem:=by simp
 obj:=λi h st b hb=>by
  have e:b=it:=by simpa using hb
  subst e;obtain⟨o,e,c,d⟩:=st;exact⟨o,e,λv z=>by rw[d] at z;cases z⟩
 keep:=λi h h' st k=>st.at λo e=>k it (by simp) o e
 item:=by
  intro X hP hw hK hc i pZ s σ H E I hf st hg;subst hP hw hK;obtain⟨xs,x,hq,hx⟩:=hg;obtain⟨its,rv,p,hz⟩:=I.list hq;obtain⟨u,hu,ru⟩:=rv.get hx;obtain⟨f0,f1,f2,f3,f4,f5⟩:=hf it (by simp);refine vf st p.isList (x:=u) (by simpa using hu) λh' eJ sb=>?_
  have I1:Inv X pZ σ H { s with heap:=h' }:=I.turned (t':=s.toks) (λb o hb e=>(sb.2 b hb).trans e) f0 f1 f3 f4 f5;obtain⟨o,e,c,d⟩:=id eJ;exact⟨u,rfl,E1 (s:={ s with heap:=h' }) e c d (by decide) ⟨x,H,I1,ru,⟨rfl,λys hy=>by rw[I.Ia hy hq];exact hx⟩,eJ,λb hb=>(hf b hb).1⟩⟩
 done:=by
  intro X hP hw hK hc i pZ s σ H E I hf st hg;subst hP hw hK;obtain⟨xs,hq,hx⟩:=hg;obtain⟨its,rv,p,hz⟩:=I.list hq;obtain⟨f0,f1,f2,f3,f4,f5⟩:=hf it (by simp);have hl:=rv.length;exact wk (I.ok.hd hc) st p.isList (by simp;omega) λh' eb=>⟨rfl,I.turned (t':=s.toks) (λb o hb e=>eb b o hb e) f0 f1 f3 f4 f5⟩
 self:=λ_ _ _ _ _ st h=>wpAny_pyIter_listiter st h
def rT{K:Fg}(a it:Addr):Turn P w K tg (IN K a) [it] it (λi h=>h.IsTupleIter it a i) where
 mem:=by simp
 obj:=λi h st b hb=>by
  have e:b=it:=by simpa using hb
  subst e;obtain⟨o,e,c,d⟩:=st;exact⟨o,e,λv z=>by rw[d] at z;cases z⟩
 keep:=λi h h' st k=>st.at λo e=>k it (by simp) o e
 item:=by
  intro X hP hw hK hc i pZ s σ H E I hf st hg;subst hP hw hK;obtain⟨xs,x,hq,hx⟩:=hg;obtain⟨its,rv,p,hz⟩:=I.tuple hq;obtain⟨u,hu,ru⟩:=rv.get hx;obtain⟨f0,f1,f2,f3,f4,f5⟩:=hf it (by simp);refine wpAny_pyNext_tuple_item st (show s.heap.IsTuple a its.toArray from p) (x:=u) (by simpa using hu) λh' eJ sb=>?_
  have I1:Inv X pZ σ H { s with heap:=h' }:=I.turned (t':=s.toks) (λb o hb e=>(sb.2 b hb).trans e) f0 f1 f3 f4 f5;obtain⟨o,e,c,d⟩:=id eJ;exact⟨u,rfl,E1 (s:={ s with heap:=h' }) e c d (by decide) ⟨x,H,I1,ru,⟨rfl,λys hy=>by rw[I.Mw hy hq];exact hx⟩,eJ,λb hb=>(hf b hb).1⟩⟩
 done:=by
  intro X hP hw hK hc i pZ s σ H E I hf st hg;subst hP hw hK;obtain⟨xs,hq,hx⟩:=hg;obtain⟨its,rv,p,hz⟩:=I.tuple hq;obtain⟨f0,f1,f2,f3,f4,f5⟩:=hf it (by simp);have hl:=rv.length;exact wpAny_pyNext_tuple_end (I.ok.hd hc) st (show s.heap.IsTuple a its.toArray from p) (by simp;omega) λh' eb=>⟨rfl,I.turned (t':=s.toks) (λb o hb e=>eb b o hb e) f0 f1 f3 f4 f5⟩
 self:=λ_ _ _ _ _ st h=>wpAny_pyIter_tupleiter st h
def rV{K:Fg}(it:Addr)(lo:Int)(n:Nat):Turn P w K tg (Ge lo n) [it] it (λi h=>IsRangeIter h it (lo+(i:Nat)*1) ((n:Int)-(i:Nat)) 1) where
 mem:=by simp
 obj:=λi h st b hb=>by
  have e:b=it:=by simpa using hb
  subst e;exact⟨_,st,λv z=>by
   have z':Data.fields _=Data.cell v:=z;cases z'⟩
 keep:=λi h h' st k=>k it (by simp) _ st
 item:=by
  intro X hP hw hK hc i pZ s σ H E I hf st hg;subst hP hw hK;obtain⟨f0,f1,f2,f3,f4,f5⟩:=hf it (by simp);have W:=Walks.range (prog:=X.prog) (w:=X.w) (I.ok.hd hc) it lo 1 n;refine W.item i s _ _ hg st λv h' tk hv eJ kk=>?_
  obtain⟨t,rfl⟩:=hv;have I1:Inv X pZ σ H { s with heap:=h',toks:=tk }:=I.turned (λb o hb e=>kk b o (by simpa using hb) e) f0 f1 f3 f4 f5;refine⟨_,rfl,E1 (s:={ s with heap:=h',toks:=tk }) (n:="range_iterator") eJ rfl rfl (by decide) ⟨.int<|lo+i,H,I1,⟨t,?_⟩,⟨rfl,rfl⟩,eJ,λb hb=>(hf b hb).1⟩⟩;rw[Int.mul_one]
 done:=by
  intro X hP hw hK hc i pZ s σ H E I hf st hg;subst hP hw hK;obtain⟨f0,f1,f2,f3,f4,f5⟩:=hf it (by simp);exact wpAny_pyNext_range_end (I.ok.hd hc) st (by have:n<=i:=hg;omega) λh' eb=>⟨rfl,I.turned (t':=s.toks) (λb o hb e=>eb b o hb e) f0 f1 f3 f4 f5⟩
 self:=λ_ _ _ _ _ st h=>wpAny_pyIter_rangeiter st h
def UZ{R:It->Hp->Prop}{lo:Int}(I:Inv X pZ σ H s)(h1 : -(2 ^ 62)<=lo)(h2:lo<2 ^ 62)(h3 : -(2 ^ 62)<=hi)(h4:hi<2 ^ 62)(q:R (Ge lo (hi-lo).toNat) H):wpAny (model X.prog X.w) X.A (pyIter<|.ref s.heap.objs.size) (Oh X pZ σ tg R) E { s with heap:=s.heap.push { cls:=.type "range",data:=.fields #[.int lo t,.int hi u,.int 1 v] },toks:=tk }:=by
 refine wpAny_pyIter_range (IsRange.new ..) (small_one h1 h2 h3 h4) ?_;have I1:Inv X pZ σ H { s with heap:=s.heap.push { cls:=.type "range",data:=.fields #[.int lo t,.int hi u,.int 1 v] },toks:=tk }:=I.kept λb o e=>ac _ e
 refine⟨(s.heap.push { cls:=.type "range",data:=.fields #[.int lo t,.int hi u,.int 1 v] }).objs.size,[(s.heap.push { cls:=.type "range",data:=.fields #[.int lo t,.int hi u,.int 1 v] }).objs.size],_,_,H,rfl,
  I1.kept (t':=tk) λb o e=>ac _ e,rV _ lo (hi-lo).toNat,?_,λb hb=>?_,q⟩
 .have e1:lo+((0:Nat):Int)*1=lo:=by simp
  have e2:(((hi-lo).toNat:Nat):Int)-((0:Nat):Int)=Builtin.Range.rangeSize lo hi 1:=by rw[rangeSize_one];split<;>omega
  show IsRangeIter _ _ (lo+((0:Nat):Int)*1) ((((hi-lo).toNat:Nat):Int)-((0:Nat):Int)) 1;rw[e1,e2];exact ax _ rfl
 .have e:b=(s.heap.push { cls:=.type "range",data:=.fields #[.int lo t,.int hi u,.int 1 v] }).objs.size:=by simpa using hb
  subst e;exact I1.Ar (al _)<|I1.aI.fresh<|al _
def O8(ta:TA):TI:=λσ H R=>ta σ H λvs H1=>∃j:Int,vs=[.int j]/\-(2 ^ 62)<=j/\j<2 ^ 62/\R (Ge 0 j.toNat) H1
def WM(hg:Gl X "range")(hm:X.mg "range" = aB)(ha:PA X [a] ta)(hs:bp [a] X.env=[(false,eval a X.env)]:=by rfl):PI X tg (.Call (.Name "range" p) [a] [] pos) (O8 ta):=by
 intro pZ s σ H R I h;refine Call_<|mG I hg hm boot_range<|og (aK (ha pos pZ s σ H _ I h) λus s1 ⟨vs,H1,I1,r1,q1⟩=>?_) hs rfl;obtain⟨j,e,q1,q2,q⟩:=q1;subst e;cases r1 with
 |cons r rr=>
  cases rr;obtain⟨t,rfl⟩:=r;exact call_range_1 (UZ I1 (by omega) (by omega) q1 q2<|by simpa using q)
def OH(wi:TI)(g:TG)(tb:TS):TS:=λD σ H=>wi σ H λJ H1=>∃W:Nat->Nat->St->Hp->Prop,(∃m,W 0 m σ H1)/\∀i m σ H,W i m σ H ->
 (J.stop i H/\D.nx σ H)\/(J.go i H/\∃N:St->Hp->Prop,(∀σ' H',N σ' H'->∃m',m'<m/\W (i+1) m' σ' H')/\∀x H',J.C7 i H x H'->g x σ H' λσ2 H2=>tb { D with nx:=N,ct:=N,bk:=D.nx } σ2 H2)
noncomputable def oM(fp:List Addr)(h:Heap):List (Addr×Obj):=fp.filterMap λb=>(h.get? b).map λo=>(b,o)
def kU(hb:b∈fp)(e:h.get? b=aA o):(b,o)∈oM fp h:=xp.mpr ⟨b,hb,by rw[e];rfl⟩
def WR(hp:p∈oM fp h):p.1∈fp/\h.get? p.1=aA p.2:=by
 obtain⟨b,hb,e⟩:=xp.mp hp;cases q:h.get? b with
 |none=>rw[q] at e;cases e
 |some o=>
  rw[q] at e;have e':(b,o)=p:=bv e;subst e';exact⟨hb,q⟩
def Inv.pinned(I:Inv X pZ σ H s)(hf:∀b∈fp,gZ X pZ H b)(ho:∀b∈fp,∃o,s.heap.get? b=aA o/\∀v,o.data≠.cell v):Inv X (pZ++oM fp s.heap) σ H s:=
 I.HR λp hp=>(aq.mp hp).elim (λz=>I.pin p<|cr _ z) λz=>by
  obtain⟨hb,e⟩:=WR z;obtain⟨f0,f1,f2,_⟩:=hf p.1 hb;obtain⟨o,e',d⟩:=ho p.1 hb;rw[e] at e';cases e';exact⟨e,f0,f1,f2,d⟩
def Inv.B8{pl:List (Addr×Obj)}(I:Inv X (pZ++pl) σ H s):Inv X pZ σ H s:=I.HR λp hp=>I.pin p<|cr _<|ma _ hp
def Sa(hp:PassesOwn (model X.prog X.w) X.A X.env X.xe)(hc:X.calm=true)(hi:PI X tg iter wi)(hg:PG X tg g)(hb:fI X body tb)(hs:∀x,jy iter X.env x=pure x:=by intro _;rfl):PS X (.For tg iter body [] pos) (OH wi g tb):=by
 intro pZ s σ H D I h;refine wpAny_For (aK (hi pZ s σ H _ I h) λv s1 h1=>aK h1 λFK s2 h2=>?_) hs;obtain⟨it,fp,tn,J,H2,e,I2,T,eT,f2,W,⟨m0,w0⟩,turn⟩:=h2;subst e;have Hs:∀{H':Hp},(∀b∈fp,H' b=aB)->∀b∈fp,gZ X pZ H' b:=λhn b hb=>⟨hn b hb,(f2 b hb).2⟩
 refine codeAny_forLoop_any (λn s'=>∃i σ' H',Inv X pZ σ' H' s'/\tn i s'.heap/\(∀b∈fp,H' b=aB)/\W i n σ' H') ?_ m0 ⟨0,σ,H2,I2,eT,λb hb=>(f2 b hb).1,w0⟩;rintro n s3 ⟨i,σ3,H3,I3,Db,NZ,w3⟩;rcases turn i n σ3 H3 w3 with⟨stop,qn⟩|⟨go,N,hN,step⟩
 .refine mz hp<|aK (T.done X rfl rfl rfl hc i pZ s3 σ3 H3 X.xe I3 (Hs NZ) Db stop) λr s4 ⟨hr,I4⟩=>?_;subst hr;exact wc ⟨σ3,H3,I4,qn⟩
 .refine mz hp<|aK (T.item X rfl rfl rfl hc i pZ s3 σ3 H3 X.xe I3 (Hs NZ) Db go) λr s4 ⟨u,hr,h4⟩=>?_;subst hr;refine mz hp<|aK h4 λ_ s5 ⟨x,H5,I5,r5,y5,B',F5⟩=>?_;have Ë:=I5.pinned (Hs F5)<|T.obj _ _ B';refine mz hp<|aK (hg _ s5 σ3 H5 x u _ Ë r5<|step x H5 y5) λ_ s6 ⟨σ6,H6,I6,q6⟩=>?_;refine mz hp<|aK (hb _ s6 σ6 H6 _ I6 q6) λf s7 q7=>?_;have again:∀{σ7:St} {H7:Hp},Inv X (pZ++oM fp s5.heap) σ7 H7 s7->N σ7 H7->∃m,m<n/\∃i σ' H',Inv X pZ σ' H' s7/\tn i s7.heap/\(∀b∈fp,H' b=aB)/\W i m σ' H':=λ{σ7 H7} I7 n7=>by
   obtain⟨m',hm,w7⟩:=hN σ7 H7 n7;refine⟨m',hm,i+1,σ7,H7,I7.B8,T.keep _ _ _ B' λb hb o e=>(I7.pin (b,o)<|cr _<|cr _<|kU hb e).1,λb hb=>?_,w7⟩;obtain⟨o,e,d⟩:=T.obj _ _ B' b hb;exact(I7.pin (b,o)<|cr _<|cr _<|kU hb e).2.1
  cases f with
  |next=>obtain⟨σ7,H7,I7,n7⟩:=q7;exact again I7 n7
  |cont=>obtain⟨σ7,H7,I7,n7⟩:=q7;exact again I7 n7
  |brk=>obtain⟨σ7,H7,I7,q7⟩:=q7;exact⟨σ7,H7,I7.B8,q7⟩
  |ret v=>obtain⟨x7,σ7,H7,I7,r7,q7⟩:=q7;exact⟨x7,σ7,H7,I7.B8,r7,q7⟩
abbrev R2:=V->V->Hp->VK->Prop
def a9(X:Cx)(f:Value->Value->Sem Value)(r:R2):Prop:=
 ∀pZ s σ H (x y:V) (v u:Value) (Q:VK),Inv X pZ σ H s->RelV x v->RelV y u->r x y H Q ->
  wpAny (model X.prog X.w) X.A (f v u) (EP X pZ σ Q) X.xe s
def IL(X:Cx)(f:Value->Sem Value)(r:V->Hp->VK->Prop):Prop:=
 ∀pZ s σ H (x:V) (v:Value) (Q:VK),Inv X pZ σ H s->RelV x v->r x H Q ->
  wpAny (model X.prog X.w) X.A (f v) (EP X pZ σ Q) X.xe s
def fJ(X:Cx)(f:Value)(r:List V->Hp->VK->Prop):Prop:=
 ∀pZ s σ H (xs:List V) (us:List Value) (Q:VK),Inv X pZ σ H s->Vals xs us->r xs H Q ->
  wpAny (model X.prog X.w) X.A (call f us) (EP X pZ σ Q) X.xe s
def OW(X:Cx)(r:V->Hp->(Bool->Hp->Prop)->Prop):Prop:=
 ∀pZ s σ H (x:V) (v:Value) (Q:Bool->Hp->Prop),Inv X pZ σ H s->RelV x v->r x H Q ->
  wpAny (model X.prog X.w) X.A (truthy v) (TP X pZ σ Q) X.xe s
noncomputable def C_(r:R2)(ta tb:TE):TE:=λσ H Q=>ta σ H λx H1=>tb σ H1 λy H2=>r x y H2 Q
def My(r:V->Hp->VK->Prop)(ta:TE):TE:=λσ H Q=>ta σ H λx H1=>r x H1 Q
noncomputable def rI(C:Int->Int->Prop)(g:Int->Int->V):R2:=λx y H Q=>∃i j,x=.int i/\y=.int j/\C i j/\Q (g i j) H
noncomputable def l6(g:Int->Int->V):R2:=λx y H Q=>∃i j,x=.int i/\y=.int j/\Q (g i j) H
def rU(g:Int->V):V->Hp->VK->Prop:=λx H Q=>∃i,x=.int i/\Q (g i) H
def Gr(ha:PE X a ta)(hb:PE X b tb){pZ:List (Addr×Obj)}{s:Shared}{σ:St}{H:Hp}{R:V->V->Hp->Prop}(I:Inv X pZ σ H s)(h:ta σ H λx H1=>tb σ H1 λy H2=>R x y H2){Q:Value->Shared->Prop}{f:Value->Value->Sem Value}(hf:∀v u s2 x y H2,Inv X pZ σ H2 s2->RelV x v->RelV y u->R x y H2->wpAny (model X.prog X.w) X.A (f v u) Q X.xe s2):wpAny (model X.prog X.w) X.A (eval a X.env) (λv s₁=>wpAny (model X.prog X.w) X.A (eval b X.env) (λu s₂=>wpAny (model X.prog X.w) X.A (f v u) Q X.xe s₂) X.xe s₁) X.xe s:=by
 refine aK (ha pZ s σ H _ I h) λv s1 ⟨x,H1,I1,r1,q1⟩=>?_
 refine aK (hb pZ s1 σ H1 _ I1 q1) λu s2 ⟨y,H2,I2,r2,q2⟩=>?_
 exact hf v u s2 x y H2 I2 r1 r2 q2
def Kk{op:Operator}{r:R2}(ho:a9 X (binaryOp op) r)(ha:PE X a ta)(hb:PE X b tb):PE X (.BinOp a op b pos) (C_ r ta tb):=by
 intro pZ s σ H Q I h;exact wpAny_BinOp<|Gr ha hb I h λv u s2 x y H2 I2 rx ry q=>ho pZ s2 σ H2 x y v u Q I2 rx ry q
def Pk(ho:IL X (unaryOp op) r)(ha:PE X a ta):PE X (.UnaryOp op a pos) (My r ta):=by
 intro pZ s σ H Q I h;exact UnaryOp_<|aK (ha pZ s σ H _ I h) λv s1 ⟨x,H1,I1,r1,q1⟩=>ho pZ s1 σ H1 x v Q I1 r1 q1
def Dz{f:Value->Value->Sem Value}{C:Int->Int->Prop}{g:Int->Int->Int}(rule:∀(i j:Int) (t u:Tok) (s:Shared) (Q:Value->Shared->Prop) (E:Value->Shared->Prop),C i j->Q (.int (g i j) s.toks) { s with toks:=s.toks+1 }->wpAny (model X.prog X.w) X.A (f (.int i t)<|.int j u) Q E s):a9 X f (rI C λi j=>.int<|g i j):=by
 intro pZ s σ H x y v u Q I rx ry h;obtain⟨i,j,rfl,rfl,hc,q⟩:=h;obtain⟨t,rfl⟩:=rx;obtain⟨t',rfl⟩:=ry;exact rule i j t t' s _ _ hc ⟨.int<|g i j,H,I.tok _,⟨_,rfl⟩,q⟩
def Jx{f:Value->Value->Sem Value}{g:Int->Int->Int}(rule:∀(i j:Int) (t u:Tok) (s:Shared) (Q:Value->Shared->Prop) (E:Value->Shared->Prop),Q (.int (g i j) s.toks) { s with toks:=s.toks+1 }->wpAny (model X.prog X.w) X.A (f (.int i t)<|.int j u) Q E s):a9 X f (l6 λi j=>.int<|g i j):=by
 intro pZ s σ H x y v u Q I rx ry h;obtain⟨i,j,rfl,rfl,q⟩:=h;obtain⟨t,rfl⟩:=rx;obtain⟨t',rfl⟩:=ry;exact rule i j t t' s _ _ ⟨.int<|g i j,H,I.tok _,⟨_,rfl⟩,q⟩
def Jw{f:Value->Value->Sem Value}{g:Int->Int->Bool}(rule:∀(i j:Int) (t u:Tok) (s:Shared) (Q:Value->Shared->Prop) (E:Value->Shared->Prop),Q (.bool<|g i j) s->wpAny (model X.prog X.w) X.A (f (.int i t)<|.int j u) Q E s):a9 X f (l6 λi j=>.bl<|g i j):=by
 intro pZ s σ H x y v u Q I rx ry h;obtain⟨i,j,rfl,rfl,q⟩:=h;obtain⟨t,rfl⟩:=rx;obtain⟨t',rfl⟩:=ry;exact rule i j t t' s _ _ ⟨.bl<|g i j,H,I,rfl,q⟩
def IX(i j:Int):Prop:=0<j/\j<1073741824
def IY(i j:Int):Prop:=0<=j/\j<=1000000/\i.natAbs<2 ^ 64
def Gk(i j:Int):Prop:=(-(2 ^ 64)<i/\i<2 ^ 64)\/(-(2 ^ 64)<j/\j<2 ^ 64)
def Gk.ok(h:Gk i j):IntMulOk i j:=by
 rcases h with⟨h1,h2⟩|⟨h1,h2⟩
 .exact .of_left<|intBits_le_64 h1 h2
 .exact .of_right<|intBits_le_64 h1 h2
def VH:a9 X (binaryOp .Add) (l6 λi j=>.int<|i+j):=Jx λ_ _ _ _ _ _ _ q=>add_int q
def Rc:a9 X (binaryOp .Sub) (l6 λi j=>.int<|i-j):=Jx λ_ _ _ _ _ _ _ q=>sub_int q
def oR:a9 X (binaryOp .Mult) (rI Gk λi j=>.int<|i*j):=Dz λ_ _ _ _ _ _ _ hc q=>mul_int q hc.ok
def wF:a9 X (binaryOp .FloorDiv) (rI IX λi j=>.int<|i / j):=Dz λi j _ _ _ _ _ hc q=>by
 have h1:(0:Int)<j:=hc.1;have h2:j<1073741824:=hc.2;exact floordiv_int (by omega) (by rw[Int.fdiv_eq_ediv_of_nonneg i<|by omega];exact q) (.inl<|PyProof.noPylong_small<|by omega)
def wC:a9 X (binaryOp .Mod) (rI (λ_ j=>0<j) λi j=>.int<|i % j):=Dz λi j _ _ _ _ _ hc q=>by
 have h1:(0:Int)<j:=hc;exact mod_int' (by omega) (by rw[Int.fmod_eq_emod_of_nonneg i<|by omega];exact q)
def Ha:a9 X (binaryOp .Pow) (rI IY λi j=>.int<|i ^ j.toNat):=Dz λ_ _ _ _ _ _ _ hc q=>pow_int_small hc.1 hc.2.1 hc.2.2 q
def Vc{f:Value->Sem Value}{g:Int->Int}(rule:∀(i:Int) (t:Tok) (s:Shared) (Q:Value->Shared->Prop) (E:Value->Shared->Prop),Q (.int (g i) s.toks) { s with toks:=s.toks+1 }->wpAny (model X.prog X.w) X.A (f<|.int i t) Q E s):IL X f (rU λi=>.int<|g i):=by
 intro pZ s σ H x v Q I rx h;obtain⟨i,rfl,q⟩:=h;obtain⟨t,rfl⟩:=rx;exact rule i t s _ _ ⟨.int<|g i,H,I.tok _,⟨_,rfl⟩,q⟩
def RT:IL X (unaryOp .USub) (rU λi=>.int<|-i):=Vc λ_ _ _ _ _ q=>neg_int q
noncomputable def GF:V->V->Bool
 |.aE,.aE=>true | .aE,.int _=>true | .int _,.aE=>true | .aE,.bl _=>true | .bl _,.aE=>true | .aE,.str _=>true | .str _,.aE=>true
 |.int _,.int _=>true | .bl _,.bl _=>true | .str _,.str _=>true | .i5 _,.i5 _=>true
 |.int _,.str _=>true | .str _,.int _=>true | .bl _,.str _=>true | .str _,.bl _=>true
 |_,_=>false
def HD:R2:=λx y H Q=>GF x y=true/\Q (.bl<|decide (x=y)) H
def HB:R2:=λx y H Q=>GF x y=true/\Q (.bl<|!decide (x=y)) H
def LQ:decide (V.int i=V.int j)=(i == j):=by
 rw[jp];simp
def K6:decide (V.bl i=V.bl j)=(i == j):=by
 rw[jp];simp
def LR:decide (V.str i=V.str j)=(i == j):=by
 rw[jp];simp
def LP:decide (V.i5 i=V.i5 j)=(i.toList == j.toList):=by
 rw[jp];cases i;cases j;simp
def yZ(I:Inv X pZ σ H s)(q:Q (.bl k) H)(e:k=k'):EP X pZ σ Q (.bool k') s:=by
 subst e;exact⟨.bl k,H,I,rfl,q⟩
def Ph:a9 X (jc .Eq) HD:=by
 intro pZ s σ H x y v u Q I rx ry h;obtain⟨hs,q⟩:=h;cases x with
 |aE=>
  cases rx;cases y with
  |aE=>cases ry;exact PySem.EqNone.eq_none_none (yZ I q<|by simp)
  |bl j=>cases ry;exact PySem.EqNone.eq_none_bool (yZ I q<|by simp)
  |int j=>obtain⟨t',rfl⟩:=ry;exact PySem.EqNone.eq_none_int (yZ I q<|by simp)
  |str j=>obtain⟨t',rfl⟩:=ry;exact PySem.EqNone.eq_none_str (yZ I q<|by simp)
  |_=>exact absurd (show false=true from hs) bc
 |bl i=>
  cases rx;cases y with
  |aE=>cases ry;exact PySem.EqNone.eq_bool_none (yZ I q<|by simp)
  |bl j=>cases ry;exact eq_bool<|yZ I q K6
  |str j=>obtain⟨t',rfl⟩:=ry;exact PySem.EqMixed.eq_bool_str (yZ I q<|by simp)
  |_=>exact absurd (show false=true from hs) bc
 |int i=>
  obtain⟨t,rfl⟩:=rx;cases y with
  |aE=>cases ry;exact PySem.EqNone.eq_int_none (yZ I q<|by simp)
  |int j=>obtain⟨t',rfl⟩:=ry;exact eq_int<|yZ I q LQ
  |str j=>obtain⟨t',rfl⟩:=ry;exact PySem.EqMixed.eq_int_str (yZ I q<|by simp)
  |_=>exact absurd (show false=true from hs) bc
 |str i=>
  obtain⟨t,rfl⟩:=rx;cases y with
  |aE=>cases ry;exact PySem.EqNone.eq_str_none (yZ I q<|by simp)
  |bl j=>cases ry;exact PySem.EqMixed.eq_str_bool (yZ I q<|by simp)
  |int j=>obtain⟨t',rfl⟩:=ry;exact PySem.EqMixed.eq_str_int (yZ I q<|by simp)
  |str j=>obtain⟨t',rfl⟩:=ry;exact eq_str<|yZ I q LR
  |_=>exact absurd (show false=true from hs) bc
 |i5 i=>
  obtain⟨t,rfl⟩:=rx;cases y with
  |i5 j=>obtain⟨t',rfl⟩:=ry;exact PySem.W.eq_bytes<|yZ I q LP
  |_=>exact absurd (show false=true from hs) bc
 |_=>cases y<;>exact absurd (show false=true from hs) bc
def Pj:a9 X (jc .NotEq) HB:=by
 intro pZ s σ H x y v u Q I rx ry h;obtain⟨hs,q⟩:=h;cases x with
 |aE=>
  cases rx;cases y with
  |aE=>cases ry;exact PySem.EqNone.ne_none_none (yZ I q<|by simp)
  |bl j=>cases ry;exact PySem.EqNone.ne_none_bool (yZ I q<|by simp)
  |int j=>obtain⟨t',rfl⟩:=ry;exact PySem.EqNone.ne_none_int (yZ I q<|by simp)
  |str j=>obtain⟨t',rfl⟩:=ry;exact PySem.EqNone.ne_none_str (yZ I q<|by simp)
  |_=>exact absurd (show false=true from hs) bc
 |bl i=>
  cases rx;cases y with
  |aE=>cases ry;exact PySem.EqNone.ne_bool_none (yZ I q<|by simp)
  |bl j=>cases ry;exact ne_bool<|yZ I q<|congrArg not K6
  |str j=>obtain⟨t',rfl⟩:=ry;exact PySem.EqMixed.ne_bool_str (yZ I q<|by simp)
  |_=>exact absurd (show false=true from hs) bc
 |int i=>
  obtain⟨t,rfl⟩:=rx;cases y with
  |aE=>cases ry;exact PySem.EqNone.ne_int_none (yZ I q<|by simp)
  |int j=>obtain⟨t',rfl⟩:=ry;exact ne_int<|yZ I q<|congrArg not LQ
  |str j=>obtain⟨t',rfl⟩:=ry;exact PySem.EqMixed.ne_int_str (yZ I q<|by simp)
  |_=>exact absurd (show false=true from hs) bc
 |str i=>
  obtain⟨t,rfl⟩:=rx;cases y with
  |aE=>cases ry;exact PySem.EqNone.ne_str_none (yZ I q<|by simp)
  |bl j=>cases ry;exact PySem.EqMixed.ne_str_bool (yZ I q<|by simp)
  |int j=>obtain⟨t',rfl⟩:=ry;exact PySem.EqMixed.ne_str_int (yZ I q<|by simp)
  |str j=>obtain⟨t',rfl⟩:=ry;exact ne_str<|yZ I q<|congrArg not LR
  |_=>exact absurd (show false=true from hs) bc
 |i5 i=>
  obtain⟨t,rfl⟩:=rx;cases y with
  |i5 j=>obtain⟨t',rfl⟩:=ry;exact PySem.W.ne_bytes<|yZ I q<|congrArg not LP
  |_=>exact absurd (show false=true from hs) bc
 |_=>cases y<;>exact absurd (show false=true from hs) bc
def VF:a9 X (jc .Lt) (l6 λi j=>.bl<|decide (i<j)):=Jw λ_ _ _ _ _ _ _ q=>lt_int q
def GQ:a9 X (jc .Gt) (l6 λi j=>.bl<|decide (j<i)):=Jw λ_ _ _ _ _ _ _ q=>gt_int q
def gH:a9 X (jc .IsNot) (λx y H Q=>y=.aE/\Q (.bl<|!decide (x=.aE)) H):=by
 intro pZ s σ H x y v u Q I rx ry h;obtain⟨rfl,q⟩:=h;cases ry;refine isnot_none_gen<|yZ I q ?_;cases x<;>first
  |(cases rx;rfl)
  |(obtain⟨t,rfl⟩:=rx;rfl)
def a9.or(h:a9 X f r)(h':a9 X f r'):a9 X f (λx y H Q=>r x y H Q\/r' x y H Q):=by
 intro pZ s σ H x y v u Q I rx ry q;rcases q with q|q
 .exact h pZ s σ H x y v u Q I rx ry q
 .exact h' pZ s σ H x y v u Q I rx ry q
def xU(b:Expr)(h:op≠.In:=by decide)(h2:op≠.NotIn:=by decide):ki op b=false:=by
 have e1:(op == CmpOp.In)=false:=by cases op<;>first|rfl|exact absurd rfl h
 have e2:(op == CmpOp.NotIn)=false:=by cases op<;>first|rfl|exact absurd rfl h2
 cases b<;>simp[ki,e1,e2]
def S4{op:CmpOp}{r:R2}(ho:a9 X (jc op) r)(ha:PE X a ta)(hb:PE X b tb)(hm:ki op b=false):PE X (.Compare a [op] [b] pos) (C_ r ta tb):=by
 intro pZ s σ H Q I h;exact wpAny_Compare1 (Gr ha hb I h λv u s2 x y H2 I2 rx ry q=>ho pZ s2 σ H2 x y v u Q I2 rx ry q) hm
noncomputable def Py(t:TE):TT:=λσ H Q=>t σ H λx H'=>∃k,x=.bl k/\Q k H'
def YA(ho:a9 X (jc op) r)(ha:PE X a ta)(hb:PE X b tb)(hm:ki op b=false):PT X (.Compare a [op] [b] pos) (Py<|C_ r ta tb):=by
 intro pZ s σ H Q I h;refine acg (aK (ha pZ s σ H _ I h) λv s1 ⟨x,H1,I1,r1,q1⟩=>aK (hb pZ s1 σ H1 _ I1 q1) λu s2 ⟨y,H2,I2,r2,q2⟩=>
  aK (ho pZ s2 σ H2 x y v u _ I2 r1 r2 q2) λc s3 ⟨z,H3,I3,r3,k,e,q3⟩=>?_) hm
 subst e;cases r3;exact nv ⟨H3,I3,q3⟩
def Gq(K:Fg)(x:V)(H:Hp)(k:Bool):Prop:=
 match x with
 |.aE=>k=false
 |.bl b=>k=b
 |.int i=>k=(i != 0)
 |.str y=>y.length<=ar/\k=((y.length:Int) != 0)
 |.i5 y=>y.size<=ar/\k=((y.size:Int) != 0)
 |.ref p=>(∃xs,aN K H p xs/\k = !xs.isEmpty)\/(∃xs,aM K H p xs/\k = !xs.isEmpty)\/∃kvs,H p=aA (.dK kvs)/\k = !kvs.isEmpty
 |_=>False
def tT(r:KV kvs vs):(!vs.isEmpty) = !kvs.isEmpty:=by
 cases r<;>rfl
def gO(r:Vals xs its):(!its.toArray.isEmpty) = !xs.isEmpty:=by
 cases r<;>simp
def pE:(ar:Nat)<2 ^ 63:=by rw[gk];decide
def RQ:OW X (λx H Q=>∃k,Gq X.K x H k/\Q k H):=by
 intro pZ s σ H x v Q I rx h;obtain⟨k,e,q⟩:=h;have hl:=pE;have hs:ar=16777216:=gk;cases x with
 |aE=>
  cases rx;have e':k=false:=e;subst e';exact truthy_none ⟨H,I,q⟩
 |bl b=>
  cases rx;have e':k=b:=e;subst e';exact nv ⟨H,I,q⟩
 |int i=>
  obtain⟨t,rfl⟩:=rx;have e':k=(i != 0):=e;subst e';exact PySem.P.truthy_int ⟨H,I,q⟩
 |str y=>
  obtain⟨t,rfl⟩:=rx;obtain⟨hy,e'⟩:y.length<=ar/\k=((y.length:Int) != 0):=e;subst e';exact PySem.P.truthy_str (by omega) ⟨H,I.tok _,q⟩
 |i5 y=>
  obtain⟨t,rfl⟩:=rx;obtain⟨hy,e'⟩:y.size<=ar/\k=((y.size:Int) != 0):=e;subst e';exact PySem.W.truthy_bytes (by omega) ⟨H,I.tok _,q⟩
 |ref p=>
  cases rx;have e':(∃xs,aN X.K H p xs/\k = !xs.isEmpty)\/(∃xs,aM X.K H p xs/\k = !xs.isEmpty)\/∃kvs,H p=aA (.dK kvs)/\k = !kvs.isEmpty:=e;rcases e' with⟨xs,hx,e'⟩|⟨xs,hx,e'⟩|⟨kvs,hx,e'⟩
  .subst e';obtain⟨its,r,pl,hz⟩:=I.list hx;have hlen:=r.length;exact wpAny_truthy_list pl.isList (by simp only[ao];omega) ⟨H,I.tok _,by rw[gO r];exact q⟩
  .subst e';obtain⟨its,r,pl,hz⟩:=I.tuple hx;have hlen:=r.length;exact truthy_tuple pl (by simp only[ao];omega) ⟨H,I.tok _,by rw[gO r];exact q⟩
  .subst e';obtain⟨hz,hS,vs,r,m⟩:kvs.length<=ar/\(p == kc)=false/\∃vs,KV kvs vs/\s.heap.DictOf (yM X.prog X.w) p vs:=I.aI p _ hx;have hlen:kvs.length=vs.length:=xj r;exact wpAny_truthy_dict hS m (by omega) ⟨H,I.tok _,by rw[tT r];exact q⟩
 |_=>exact(show False from e).elim
def Z9(ha:PE X a ta)(he:∀whole,isTrue a X.env whole=(do let v <- whole;standAt a.pos;holding [v] (truthy v))):PT X a (λσ H Q=>ta σ H λx H'=>∃k,Gq X.K x H' k/\Q k H'):=by
 intro pZ s σ H Q I h;exact isTrue_plain (aK (ha pZ s σ H _ I h) λv s1 ⟨x,H1,I1,r1,q1⟩=>RQ pZ s1 σ H1 x v Q I1 r1 q1)<|he _
def VG:a9 X (binaryOp .Add) (λx y H Q=>∃i j,x=.str i/\y=.str j/\i.length+j.length<=ar/\Q (.str<|i++j) H):=by
 intro pZ s σ H x y v u Q I rx ry h;obtain⟨i,j,rfl,rfl,hz,q⟩:=h;obtain⟨t,rfl⟩:=rx;obtain⟨t',rfl⟩:=ry;exact add_str (λt' tk=>⟨.str<|i++j,H,I.tok _,⟨_,rfl⟩,q⟩) hz
def nY(r:Vals [x] us):∃u,us=[u]/\RelV x u:=by
 cases r with
 |cons r1 r2=>cases r2;exact⟨_,rfl,r1⟩
structure IM(h:Heap)(x dx C:Addr)(mA:Str->Option Value):Prop where
 obj:h.get? x=aA (zg C dx)
 ns:h.Ns1 dx mA
 ne:dx≠x
def WZ{h:Heap}{dx:Addr}{mA:Str->Option Value}(n:h.Ns1 dx mA):∃od,h.get? dx=aA od/\∀name,zx name od=aA (mA name):=by
 obtain⟨o,es,ep,ho,hd,hk,_,hm⟩:=n;refine⟨o,ho,λname=>?_⟩;have e:=hm name;unfold nsFind findBy at e;rw[<-Array.find?_toList] at e;unfold zx;rw[hd];dsimp only;split
 .rename_i y q;rw[q] at e;exact congrArg aA e
 .rename_i q;rw[q] at e;have a:es.toList.any (·.refKey)=false:=by
   rw[List.any_eq_false];intro y hy;obtain⟨z,t,Eg⟩:=hk y<|oz.mp hy;simp[DictEntry.refKey,Eg]
  have a':¬es.toList.any (·.refKey)=true:=by rw[a];exact bc
  rw[if_neg a'];exact congrArg aA e
def IM.look(I:IM h x dx C mA):∃od,PySem.W.InstAt h x (zg C dx) C (aA od)/\∀name,zx name od=aA (mA name):=
 let ⟨od,ho,hl⟩:=WZ I.ns
 ⟨od,⟨I.obj,rfl,rfl,ho⟩,hl⟩
def u6(r:sG (aA v) o):∃u,o=aA u/\RelV v u:=by
 cases o with
 |none=>exact(show False from r).elim
 |some u=>exact⟨u,rfl,r⟩
def SW(aI:eN P w H h)(e:H a=aA (.ins C dx fs)):∃mA,IM h a dx C mA/\(∀f,sG (fs.lookup f)<|mA f)/\PySem.Within mA (fs.map (·.1))/\fs.length<=1000/\H dx=aA (.own a):=by
 obtain⟨d,z,ne,ob,mA,n,r,q⟩:=(show d_ P w H h a (.ins C dx fs) from aI a _ e);exact⟨mA,⟨ob,n,ne⟩,r,q,z,d⟩
structure IT(K:Fg)(C:Addr):Prop where
 pg:PySem.W.plainGet K C Str.empty=true
 hd:PySem.W.hasDictIn K C=true
 po:PySem.W.plainOver K C=true
 sa:PySem.W.findIn K (.ref C) "__setattr__" = aA (aA<|.builtin "object.__setattr__")
def IT.get{K:Fg}(c:IT K C)(f:Str):PySem.W.plainGet K C f=true:=c.pg
inductive lP (K:Fg) (H:Hp):V->Value->Prop where
 |aE:lP K H .aE (.type "NoneType")
 |bl (x:Bool):lP K H (.bl x) (.type "bool")
 |int (i:Int):lP K H (.int i) (.type "int")
 |str (x:Str):lP K H (.str x) (.type "str")
 |Cy (x:UInt64):lP K H (.Cy x) (.type "float")
 |lst {a:Addr} {xs:List V} (e:H a=aA (.lst xs)):lP K H (.ref a) (.type "list")
 |eG {a:Addr} {o:Obj} {xs:List V} (e:H a=aA (.eG o<|.lst xs)):lP K H (.ref a) (.type "list")
 |tup {a:Addr} {xs:List V} (e:H a=aA (.tup xs)):lP K H (.ref a) (.type "tuple")
 |dK {a:Addr} {kvs:List (Key×V)} (e:H a=aA (.dK kvs)):lP K H (.ref a) (.type "dict")
 |dT {a:Addr} {kvs:List (List Key×V)} (e:H a=aA (.dT kvs)):lP K H (.ref a) (.type "dict")
 |ins {a C dx:Addr} {fs:List (Str×V)} (e:H a=aA (.ins C dx fs)) (cl:IT K C) (ha:PySem.W.findIn K (.ref C) "__class__" = aA (aA<|.builtin "object.__class__"))
   (hn:PySem.W.specialIn K (.builtin "object.__class__") "__get__" = aA (aA<|.builtin "getset_descriptor.__get__")) (Nw:PySem.W.takesIn K (.builtin "object.__class__")=aA true)
   (hm:PySem.W.mroIn K C (.type "object")=aA true):lP K H (.ref a) (.ref C)
def uT(I:Inv X pZ σ H s)(rx:RelV x u)(ty:lP X.K H x t)(e:ww X.K t c=aA b)(h:∀tk,Q (.bool b) { s with toks:=tk }):wpAny (model X.prog X.w) A (call (.builtin "isinstance") [u,c]) Q E s:=by
 cases ty with
 |aE=>cases (show u=Value.none from rx);exact ie PySem.W.kitx_none I.fK True.intro e (λz=>nomatch z) h
 |bl y=>cases (show u=Value.bool y from rx);exact ie PySem.W.kitx_bool I.fK True.intro e (λz=>nomatch z) h
 |int i=>obtain⟨t,q⟩:=(show ∃t,u=Value.int i t from rx);cases q;exact ie PySem.W.kitx_int I.fK True.intro e (λz=>nomatch z) h
 |str y=>obtain⟨t,q⟩:=(show ∃t,u=Value.str y t from rx);cases q;exact ie PySem.W.kitx_str I.fK True.intro e (λz=>nomatch z) h
 |Cy y=>obtain⟨t,q⟩:=(show ∃t,u=Value.float y t from rx);cases q;exact ie PySem.W.kitx_float I.fK True.intro e (λz=>nomatch z) h
 |@lst a xs ea=>
  cases (show u=Value.ref a from rx);obtain⟨_,_,n,_,h1⟩:=(show d_ X.prog X.w H s.heap a (.lst xs) from I.aI a _ ea);exact ie ya I.fK ⟨_,h1,rfl⟩ e (λz=>nomatch z) h
 |@eG a ob xs ea=>
  cases (show u=Value.ref a from rx);obtain⟨_,_,_,n,_,h1⟩:=(show d_ X.prog X.w H s.heap a (.eG ob<|.lst xs) from I.aI a _ ea);exact ie ya I.fK ⟨_,h1,rfl⟩ e (λz=>nomatch z) h
 |@tup a xs ea=>
  cases (show u=Value.ref a from rx);obtain⟨_,_,_,p⟩:=(show d_ X.prog X.w H s.heap a (.tup xs) from I.aI a _ ea);obtain⟨o,h1,h2,_⟩:=p;exact ie PySem.W.kitx_tuple I.fK ⟨o,h1,h2⟩ e (λz=>nomatch z) h
 |@dK a kvs ea=>
  cases (show u=Value.ref a from rx);obtain⟨_,_,vs,_,p⟩:=(show d_ X.prog X.w H s.heap a (.dK kvs) from I.aI a _ ea);obtain⟨o,es,ep,h1,h2,_⟩:=p;exact ie PySem.W.kitx_dict I.fK ⟨o,h1,h2.1⟩ e (λz=>nomatch z) h
 |@dT a kvs ea=>
  cases (show u=Value.ref a from rx);obtain⟨_,_,xs,_,o,es,ep,h1,h2,_⟩:=(show d_ X.prog X.w H s.heap a (.dT kvs) from I.aI a _ ea);exact ie PySem.W.kitx_dict I.fK ⟨o,h1,h2.1⟩ e (λz=>nomatch z) h
 |@ins a C dx fs ea cl ha hn Nw hm=>
  cases (show u=Value.ref a from rx);obtain⟨mA,O,_⟩:=SW I.aI ea;obtain⟨od,J,_⟩:=O.look;exact ie (PySem.W.kitx_own (cl.get _) cl.hd ha hn Nw hm) I.fK J e (λz=>nomatch z) h
structure eD(k:Nat)(A:Around):Prop where
 hd:A.handled=aB
 dp:A.depth+3*k+5<recursionLimit
 un:A.units+16*k+200<cLine
 gd:A.guards=aA []
def eD.mono(r:eD k A)(h:j<=k):eD j A:=⟨r.hd,by have:=r.dp;omega,by have:=r.un;omega,r.gd⟩
def eD.deeper(r:eD (k+1) A)(env:Env):eD k (A.deeper env):=
 ⟨r.hd,by have:=r.dp;show A.depth+1+3*k+5<_;omega,by have:=r.un;show A.units+3+16*k+200<_;omega,r.gd⟩
def eD.in1(r:eD (k+1) A):eD k A.in1:=
 ⟨r.hd,by have:=r.dp;show A.depth+3*k+5<_;omega,by have:=r.un;show A.units+1+16*k+200<_;omega,r.gd⟩
def eD.depth(r:eD k A):A.depth<recursionLimit:=by have:=r.dp;omega
def eD.f6(r:eD k A):A.units<cLine:=by have:=r.un;omega
noncomputable def EA:TA:=λ_ H Q=>Q [] H
noncomputable def C6(ta:TE)(tr:TA):TA:=λσ H Q=>ta σ H λx H1=>tr σ H1 λxs H2=>Q (x::xs) H2
def x8:PA X [] EA:=λ_ _ _ _ H Q I h=>Calls.spliced_nil ⟨[],H,I,.nil,h⟩
def yN(ha:PE X e te)(hr:PA X es t)(hs:iF X e es:=by rfl):PA X (e::es) (C6 te t):=by
 intro pos pZ s σ H Q I h;rw[hs];show wpAny _ _ (spliced ((false,eval e X.env)::wv pos (bp es X.env))) _ _ s;refine xq<|aK (ha pZ s σ H _ I h) λu s1 ⟨x,H1,I1,r1,q1⟩=>?_;exact aK (hr pos pZ s1 σ H1 _ I1 q1) λus s2 ⟨xs,H2,I2,r2,q2⟩=>⟨x::xs,H2,I2,.cons r1 r2,q2⟩
def OP(t:TA):TE:=λσ H Q=>t σ H λxs H1=>xs.length<=ar/\∀p,H1 p=aB->Q (.ref p) (upd H1 p<|.tup xs)
def OK(t:TA):TE:=λσ H Q=>t σ H λxs H1=>xs.length<=ar/\∀p,H1 p=aB->Q (.ref p) (upd H1 p<|.lst xs)
def Hc{x1}(h:PA X es t):PE X (.Tuple es x1 pos) (OP t):=by
 intro pZ s σ H Q I hq;refine wpAny_Tuple_spliced<|aK (h pos pZ s σ H _ I hq) λus s1 ⟨xs,H1,I1,r,z,q⟩=>⟨by rw[<-r.length];exact z,?_⟩;have hf:H1 s1.heap.objs.size=aB:=I1.aI.fresh<|al _;refine⟨.ref s1.heap.objs.size,upd H1 s1.heap.objs.size<|.tup xs,I1.laid (t':=s1.toks) (λb u e=>ac _ e) (al _) ?_,rfl,q _ hf⟩;exact⟨z,us,r,⟨_,ax _ rfl,rfl,_,rfl⟩⟩
def Rk(h:PA X es t):PE X (.List es pos) (OK t):=by
 intro pZ s σ H Q I hq;refine wpAny_List_spliced<|aK (h pos pZ s σ H _ I hq) λus s1 ⟨xs,H1,I1,r,z,q⟩=>⟨by rw[<-r.length];exact z,?_⟩;have hf:H1 s1.heap.objs.size=aB:=I1.aI.fresh<|al _;refine⟨.ref s1.heap.objs.size,upd H1 s1.heap.objs.size<|.lst xs,I1.laid (t':=s1.toks) (λb u e=>ac _ e) (al _) ?_,rfl,q _ hf⟩;exact⟨z,us,0,r,ax _ rfl⟩
abbrev Sp:=List V->Hp->VK->XK->Prop
abbrev BR:=List Env->Hp->Shared->XK->Value->Shared->Prop
structure Gg(P:Program)(w:World)(K:Fg)(mg:Str->Option Value)(base:Heap)(A:Around)(outer:List Env)(s:Shared)(H:Hp):Prop where
 frames:A.frames=aA outer
 mod:Mod K mg base
 bs:∀b o,base.get? b=aA o->s.heap.get? b=aA o/\H b=aB
 t_:base.objs.size<=s.heap.objs.size
 lN:s.heap.FunFrames base outer
 BH:Om K outer H
 aI:eN P w H s.heap
 bare:AllBare s.gens
def CE(outer:List Env)(P:Program)(w:World)(H:Hp)(s:Shared)(Q:VK)(u:Value)(s':Shared):Prop:=
 ∃v H',s'.os=s.os/\AllBare s'.gens/\Un (iY outer) [] H H' s.heap s'.heap/\eN P w H' s'.heap/\RelV v u/\Q v H'
def CR(CX:BR)(outer:List Env)(P:Program)(w:World)(H:Hp)(s:Shared)(Q:VK)(E:XK)(r:Result)(s':Shared):Prop:=
 match r with
 |.ok (.ret u)=>CE outer P w H s Q u s'
 |.ok _=>False
 |.error e=>CX outer H s E e s'
structure fP(P:Program)(w:World)(K:Fg)(mg:Str->Option Value)(base:Heap)(CX:BR)(k:Nat)(f:Addr)(fd:FuncData)(ps:List Str)(sp:Sp):Prop where
 len:∀vs H Q E,sp vs H Q E->vs.length=ps.length
 run:∀(A:Around) (outer:List Env) (s:Shared) (H:Hp) (args:Args) (us:List Value) (vs:List V) (Q:VK) (E:XK),eD k A->Gg P w K mg base A outer s H->BindsTo s fd args (ps.zip us)->Vals vs us->sp vs H Q E ->
  codeAny (model P w) A (.call (.ref f) args) (CR CX outer P w H s Q E) s
def Inv.Zi(I:Inv X pZ σ H s):Gg X.prog X.w X.K X.mg X.base X.A X.stack s H:=
 ⟨I.ok.frames,I.ok.mod,I.bs,cz I.ok.t_ I.sz,I.stack,⟨I.MC,I.tabIn⟩,I.aI,I.bare⟩
def Inv.after(I:Inv X pZ σ H s)(h:CE X.stack X.prog X.w H s Q u s'):EP X pZ σ Q u s':=by
 obtain⟨v,H',os,bare,un,aI,r,q⟩:=h;obtain⟨hh,g,d,t,Dy⟩:=s';obtain rfl:Dy=s.os:=os;exact⟨v,H',I.call (h':=hh) (g':=g) (d':=d) (t':=t) (ch:=[]) un aI bare λb z=>absurd z<|by simp,r,q⟩
noncomputable def Po(sp:Sp)(dvs:List V)(E:XK)(t:TA):TE:=λσ H Q=>t σ H λvs H1=>sp (vs++dvs) H1 Q E
def Binds(K:Fg)(fd:FuncData)(ps:List Str)(ds:List Value):Prop:=
 ∀(s:Shared) (us:List Value),K.In s.heap->(us++ds).length=ps.length->BindsTo s fd ⟨us,[]⟩ (ps.zip<|us++ds)
def Binds.all{K:Fg}(h:∀us:List Value,us.length=ps.length->bindArgs fd ⟨us,[]⟩=pure (ps.zip us)):Binds K fd ps []:=λs us _ hl=>by
 rw[ff] at hl ⊢;exact .of_eq<|h us hl
def GV(CX:BR)(X:Cx)(E:XK):Prop:=∀(pZ:List (Addr×Obj)) (σ:St) (H:Hp) (s:Shared) (e:Value) (s':Shared),Inv X pZ σ H s->CX X.stack H s E e s'->X.xe e s'
def Lo(F:fP X.prog X.w X.K X.mg X.base CX k f fd ps sp)(hr:eD k X.A)(hb:Binds X.K fd ps ds)(hd:Vals dvs ds)(hx:GV CX X E)(I:Inv X pZ σ H s)(r:Vals vs us)(h:sp (vs++dvs) H Q E):wpAny (model X.prog X.w) X.A (call (.ref f) us) (EP X pZ σ Q) X.xe s:=by
 have r2:Vals (vs++dvs) (us++ds):=r.append hd;have hl:(us++ds).length=ps.length:=by rw[<-r2.length];exact F.len _ _ _ _ h
 refine wpAny_call<|vg (F.run X.A X.stack s H ⟨us,[]⟩ (us++ds) (vs++dvs) Q E hr I.Zi (hb s us I.fK hl) r2 h) λr s' hq=>?_;cases r with
 |error e=>exact hx pZ σ H s e s' I hq
 |ok fl=>
  cases fl with
  |ret u=>exact I.after hq
  |next=>exact ku hq
  |brk=>exact ku hq
  |cont=>exact ku hq
def gG(F:fP X.prog X.w X.K X.mg X.base CX k f fd ps sp)(hr:eD k X.A)(hg:Gl X x)(hm:X.mg x=aA (.ref f))(hk:jv X.K (.ref f)=true)(hb:Binds X.K fd ps ds)(hd:Vals dvs ds)(hx:GV CX X E)(ha:PA X (e::es) t)(fX:iH x:=by decide)(he:iF X e es:=by rfl)(hpl:sJ X es pos:=by rfl):PE X (.Call (.Name x p) (e::es) [] pos) (Po sp dvs E t):=by
 intro pZ s σ H Q I h;refine uh<|Mh I hg hm ?_ fX;refine PySem.W.callWith_K (h₀:=X.base) I.ok.mod.FJ hk (aK (ha pos pZ s σ H _ I h) λus s1 ⟨vs,H1,I1,r,q⟩=>⟨I1.fK,?_⟩) he hpl;exact Lo F hr hb hd hx I1 r q
def PK(X:Cx)(FI:List Keyword)(t:TA):Prop:=
 ∀(pos:Pos) (pZ:List (Addr×Obj)) (s:Shared) (σ:St) (H:Hp) (Q:List V->Hp->Prop),Inv X pZ σ H s->t σ H Q->wpAny (model X.prog X.w) X.A (evalAll<|(xy pos<|ur FI X.env).map (·.2)) (AP X pZ σ Q) X.xe s
def R_:PK X [] EA:=λ_ _ _ _ H Q I h=>wpAny_evalAll_nil ⟨[],H,I,.nil,h⟩
def Td(ha:PE X e te)(hr:PK X FI t):PK X (⟨nm,e,ù⟩::FI) (C6 te t):=by
 intro pos pZ s σ H Q I h;show wpAny _ _ (evalAll ((do let v <- eval e X.env;standAt pos;pure v)::(xy pos<|ur FI X.env).map (·.2))) _ _ s;refine wpAny_evalAll_cons<|aa<|aK (ha pZ s σ H _ I h) λu s1 ⟨x,H1,I1,r1,q1⟩=>aa<|xg<|af ?_;exact aK (hr pos pZ s1 σ H1 _ I1 q1) λus s2 ⟨xs,H2,I2,r2,q2⟩=>⟨x::xs,H2,I2,.cons r1 r2,q2⟩
structure eE(N P:List Str)(sc:Scope):Prop where
 kind:sc.kind=.function
 co:sc.isCoroutine=false
 gen:sc.isGenerator=false
 nd:N.Nodup
 pre:N.take P.length=P
 par:∀x∈P,sc.names.lookup x=aA .local\/sc.names.lookup x=aA .cell
 VQ:∀y∈sc.names,y.2≠.free
theorem rG{kindOf:Str->Option NameKind}:∀{binds:List (Str×Value)} {m:Str->Option Value},(∀v,(x,v)∉binds)->bindL kindOf binds m x=m x
 |[],_,_=>rfl
 |(n,v)::r,m,h=>by
  unfold bindL;rw[rG λw hw=>h w<|bt _ hw];split
  .have:x≠n:=by rintro rfl;exact h v dg
   simp[this]
  .rfl
theorem rJ{kindOf:Str->Option NameKind}:∀{binds:List (Str×Value)} {m:Str->Option Value},(∀v,(x,v)∉binds)->bindC kindOf binds m x=m x
 |[],_,_=>rfl
 |(n,v)::r,m,h=>by
  unfold bindC;rw[rJ λw hw=>h w<|bt _ hw];split
  .rfl
  .have:x≠n:=by rintro rfl;exact h v dg
   simp[this]
theorem rH{kindOf:Str->Option NameKind}:∀{P:List Str} {vs:List Value} {i:Nat} {m:Str->Option Value},P.Nodup->P[i]?=aA x->vs[i]?=aA v->kindOf x=aA .local ->
  bindL kindOf (P.zip vs) m x=aA v
 |[],_,_,_,_,h,_,_=>by simp at h
 |_::_,[],_,_,_,_,h,_=>by simp at h
 |p::P,w::vs,0,m,nd,h1,h2,hk=>by
  simp at h1 h2;subst h1;subst h2;show bindL kindOf ((p,w)::P.zip vs) m p=_;unfold bindL;rw[rG λv hv=>(ng.mp nd).1 (sy hv).1,if_pos hk];simp
 |p::P,w::vs,i+1,m,nd,h1,h2,hk=>by
  show bindL kindOf ((p,w)::P.zip vs) m x=_;unfold bindL;exact rH (i:=i) (ng.mp nd).2 (by simpa using h1) (by simpa using h2) hk
theorem rK{kindOf:Str->Option NameKind}:∀{P:List Str} {vs:List Value} {i:Nat} {m:Str->Option Value},P.Nodup->P[i]?=aA x->vs[i]?=aA v->kindOf x≠aA .local ->
  bindC kindOf (P.zip vs) m x=aA v
 |[],_,_,_,_,h,_,_=>by simp at h
 |_::_,[],_,_,_,_,h,_=>by simp at h
 |p::P,w::vs,0,m,nd,h1,h2,hk=>by
  simp at h1 h2;subst h1;subst h2;show bindC kindOf ((p,w)::P.zip vs) m p=_;unfold bindC;rw[rJ λv hv=>(ng.mp nd).1 (sy hv).1,if_neg hk];simp
 |p::P,w::vs,i+1,m,nd,h1,h2,hk=>by
  show bindC kindOf ((p,w)::P.zip vs) m x=_;unfold bindC;exact rK (i:=i) (ng.mp nd).2 (by simpa using h1) (by simpa using h2) hk
def start(N:List Str)(vs:List V):St:=vs.map aA++bg (N.length-vs.length) aB
def Ba(CX:BR)(P:Program)(w:World)(K:Fg)(mg:Str->Option Value)(base:Heap)(N:List Str)(qual:Str)(scope:Scope)(f:Addr)(cd:Value)(A:Around)(outer:List Env)(s:Shared)(H:Hp)(E:XK):Cx where
 prog:=P
 w:=w
 K:=K
 mg:=mg
 base:=base
 A:=A.deeper<|envOfC qual scope s.heap.objs.size f cd
 N:=N
 s₀:=s
 H₀:=H
 env:=envOfC qual scope s.heap.objs.size f cd
 outer:=outer
 stack:=envOfC qual scope s.heap.objs.size f cd::outer
 ex:=[]
 calm:=true
 fn:=λ_=>true
 pn:=[]
 xe:=λe s'=>wpAny (model P w) (A.deeper<|envOfC qual scope s.heap.objs.size f cd) (leaving (envOfC qual scope s.heap.objs.size f cd) e) (λ_ Br=>CX outer H s E e Br) (λe' Br=>CX outer H s E e' Br) s'
def XG{sc:Scope}{n:Nat}{x:Str}(h:sc.names.lookup x=aA .cell):∃c,(cellsFrom n sc.names []).lookup x=aA c:=by
 have q:=abu sc.names n []<|.inl h;exact Option.isSome_iff_exists.mp q
def QG{K:Fg}(S:eE N ps scope)(hd:A.handled=aB)(e0:Gg P w K mg base A outer s H)(hl:vs.length=ps.length)(r:Vals vs us)(x:InCallC s s.heap.objs.size (bindL (envOfC qual scope s.heap.objs.size f cd).kindOf (ps.zip us) λ_=>aB) (cellsFrom (s.heap.objs.size+1) scope.names []) (bindC (envOfC qual scope s.heap.objs.size f cd).kindOf (ps.zip us) λ_=>aB) s1):Inv (Ba CX P w K mg base N qual scope f cd A outer s H E) [] (start N vs) H s1:=by
 have hpl:ps.length<=N.length:=by have:=congrArg oq S.pre;rw[cu] at this;omega
 obtain⟨h1,tk,rfl,hk⟩:=x.done;have DJ:∀b:Addr,b∉(Ba CX P w K mg base N qual scope f cd A outer s H E).ex:=λb z=>absurd (show b∈([]:List Addr) from z) (by simp)
 refine⟨⟨e0.mod,S.kind,rfl,rfl,al _,λy z c h1 h2=>?_,λy hy=>?_,λy c _ h=>?_,λ_=>hd,Around.frames_deeper e0.frames,.inr ⟨rfl,rfl⟩,λb z=>absurd z<|DJ b,e0.bs,e0.t_,λb _ _=>DJ b,λb z=>absurd z<|DJ b,e0.lN,e0.BH⟩,
  rfl,e0.bare,Un.kept hk,⟨_,x.toInCall.ns,λi y v h1 h2 h3=>?_⟩,λy c h=>⟨_,x.cell y c h⟩,e0.aI.fresh (al _),λy c h=>?_,λp hp=>absurd (show p∈([]:List (Addr×Obj)) from hp)<|by simp,e0.aI.kept hk,?_⟩
 .exact name_of_addr x.apart (jf h1)<|jf h2
 .have hy:scope.names.lookup y=aA .cell\/scope.names.lookup y=aA .free:=hy;rcases hy with hy|hy
  .exact XG hy
  .exact absurd rfl<|S.VQ _<|jf hy
 .exact vn<|x.above y c<|jf h
 .have hi:i<vs.length:=by
   unfold start at h2;by_cases hi:i<vs.length
   .exact hi
   .rw[bm<|by simpa using hi] at h2;rw[fq] at h2;split at h2<;>cases h2
  have ha:vs[i]?=aA v:=by
   unfold start at h2;rw[be<|by simpa using hi,av] at h2;cases e:vs[i]? with
   |none=>rw[e] at h2;cases h2
   |some a=>rw[e] at h2;cases h2;rfl
  obtain⟨u,hu,rv⟩:=r.get ha;have hp:ps[i]?=aA y:=by
   rw[<-S.pre,qr<|by omega];exact h1
  have Nc:ps.Nodup:=by rw[<-S.pre];exact S.nd.sublist<|List.take_sublist _ _
  refine⟨u,rv,?_⟩;rcases S.par y (jw hp) with k|k
  .exact .inl ⟨k,rH Nc hp hu k⟩
  .obtain⟨c,e⟩:=XG (n:=s.heap.objs.size+1) k;refine .inr ⟨.inl k,c,e,?_⟩;have q:=x.cell y c e;rw[rK Nc hp hu (by show scope.names.lookup y≠_;rw[k];decide)] at q;exact q
 .exact e0.aI.fresh<|vn<|x.above y c<|jf h
 .unfold start;show _=N.length;rw[ag,ah,wm];omega
def O6{K:Fg}{kV:Value}(lk:K.lookup f=aA ⟨oc,od,.func<|ph name qual params body scope dV kV doc pm an aS ct,AK⟩)(sC:ui K aS qual=true)(S:eE N ps scope)(len:∀vs H Q E,sp vs H Q E->vs.length=ps.length)(Yl:∀(A:Around) (outer:List Env) (s:Shared) (H:Hp) (vs:List V) (Q:VK) (E:XK),eD k (A.deeper<|envOfC qual scope s.heap.objs.size f aS)->sp vs H Q E ->
   ∃t,fI (Ba CX P w K mg base N qual scope f aS A outer s H E) body t/\t { nx:=λ_ H'=>Q .aE H',rt:=Q } (start N vs) H):fP P w K mg base CX (k+1) f (ph name qual params body scope dV kV doc pm an aS ct) ps sp:=by
 refine⟨len,λA outer s H args us vs Q E hr e0 hb r AR=>?_⟩;have hl:=len _ _ _ _ AR;have KX:K.In s.heap:=e0.mod.FJ.keeps λb o e=>(e0.bs b o e).1
 have lim:s.heap.NoLimit:=e0.mod.nolimit.keeps λb o e=>(e0.bs b o e).1
 have Xu:∀y∈ps.zip us,scope.names.lookup y.1=aA .local\/(scope.names.lookup y.1=aA .cell/\((cellsFrom (s.heap.objs.size+1) scope.names []).lookup y.1).isSome=true):=λ⟨n,v⟩ hy=>by
  rcases S.par n (sy hy).1 with q|q
  .exact .inl q
  .exact .inr ⟨q,abu _ _ _<|.inl q⟩
 refine codeAny_call_function hr.depth (KX _ _ lk) rfl S.co S.gen rfl (PySem.W.codeRec_of KX sC)<|hb _ _ _ _ ?_;refine wpAny_newFunctionEnv_cells S.kind Xu λenv he s1 x=>?_
 subst he;refine⟨lim.keeps x.toInCall.keep,codeAny_func ?_⟩;obtain⟨t,ht,hq⟩:=Yl A outer s H vs Q E (hr.deeper _) AR;have I:Inv (Ba CX P w K mg base N qual scope f aS A outer s H E) [] (start N vs) H s1:=QG S hr.hd e0 hl r x;refine je (ht [] s1 (start N vs) H _ I hq) (λfl s' hs=>?_) λe s' hs=>hs
 have fin:∀{σ':St} {H':Hp} {v:V} {u:Value},Inv (Ba CX P w K mg base N qual scope f aS A outer s H E) [] σ' H' s'->RelV v u->Q v H'->CE outer P w H s Q u s':=
  λ{σ' H' v u} J rv q=>⟨v,H',J.os,J.bare,J.base,J.aI,rv,q⟩
 cases fl with
 |ret u=>
  obtain⟨v,σ',H',J,rv,q⟩:=hs;exact fin J rv q
 |next=>
  obtain⟨σ',H',J,q⟩:=hs;exact fin (v:=V.aE) (u:=Value.none) J rfl q
 |brk=>
  obtain⟨_,_,_,q⟩:=hs;exact ku q
 |cont=>
  obtain⟨_,_,_,q⟩:=hs;exact ku q
section
variable{id:String}
def Mz(r:List V->Hp->VK->Prop)(t:TA):TE:=λσ H Q=>t σ H λvs H1=>r vs H1 Q
def jH(hc:fJ X (.builtin id) r)(hg:Gl X x)(hm:X.mg x=aB)(hv:bootBuiltins x=aA (.builtin id))(ha:PA X (e::es) t)(hn:x ≠ "__name__" := by decide)(fX:iH x:=by decide)(he:iF X e es:=by rfl)(hpl:sJ X es pos:=by rfl):PE X (.Call (.Name x p) (e::es) [] pos) (Mz r t):=by
 intro pZ s σ H Q I h;refine uh<|mG I hg hm hv ?_ hn fX;exact PyProof.Rows.callWith_builtin1 (aK (ha pos pZ s σ H _ I h) λus s1 ⟨vs,H1,I1,r1,q1⟩=>hc pZ s1 σ H1 vs us Q I1 r1 q1) he hpl
def kT(hc:fJ X (.type T) r)(hg:Gl X x)(hm:X.mg x=aB)(hv:bootBuiltins x=aA (.type T))(ha:PA X (e::es) t)(hn:x ≠ "__name__" := by decide)(fX:iH x:=by decide)(he:iF X e es:=by rfl)(hpl:sJ X es pos:=by rfl):PE X (.Call (.Name x p) (e::es) [] pos) (Mz r t):=by
 intro pZ s σ H Q I h;refine uh<|mG I hg hm hv ?_ hn fX;exact og (aK (ha pos pZ s σ H _ I h) λus s1 ⟨vs,H1,I1,r1,q1⟩=>hc pZ s1 σ H1 vs us Q I1 r1 q1) he hpl
end
end L2
namespace HT
open PySem PyProof.Rows
section
open PySem.SeqAt
open PySem.AutoSeq1 (wpAny_loadPart')
open PySem.MeetsSeq PySem.MeetsSeq2 PySem.MeetsSeq3
end
section
variable{prog:Program}{w:World}{A:Around}{E:Value->Shared->Prop}{s:Shared}
def Zz(ht:IsTup s.heap t vs.toArray)(hb:IsTup s.heap b ws.toArray)(hv:vs≠[])(h1:ws=[]->Q (.ref t) s)(h2:ws≠[]->Q (.ref s.heap.objs.size) { s with heap:=s.heap.push { cls:=.type "tuple",data:=.seq (vs++ws).toArray } })(hsz:vs.length+ws.length<=ar):wpAny (model prog w) A (binaryOp .Add (.ref t)<|.ref b) Q E s:=by
 obtain⟨⟨cls,dd,data,sl⟩,ho,hc,n,hd⟩:=id ht;obtain⟨⟨Oa,F9,data2,Cd⟩,FR,sD,n2,hd2⟩:=id hb;simp only at hc hd sD hd2;subst hc hd sD hd2;have e:vs.toArray++ws.toArray=(vs++ws).toArray:=by simp
 by_cases hw:ws=[]
 .exact abt ⟨_,ho,rfl⟩ ⟨_,FR,rfl⟩ noFill_tuple_add seq_tuple_add abv abc (aau _ _)
   (tuple_addW1 t b vs.toArray ws.toArray n n2 dd F9 sl Cd (by simpa using hv)<|by simp[hw]) ⟨ho,FR,h1 hw⟩
 .refine abt ⟨_,ho,rfl⟩ ⟨_,FR,rfl⟩ noFill_tuple_add seq_tuple_add abv abc (aau _ _)
   (tuple_addW2 t b vs.toArray ws.toArray n n2 dd F9 sl Cd (by simpa using hv) (by simpa using hw) (by rw[ao,ao];exact hsz)) ⟨ho,FR,?_⟩
  rw[e];exact h2 hw
noncomputable def aL(n d:Nat):Option Int->Nat
 |none=>d
 |some v=>if v<0 then (v+(n:Int)).toNat else min v.toNat n
def Vv(n d:Nat):aL n d aB=d:=rfl
def Hw(n d k:Nat):aL n d (aA (k:Int))=min k n:=by
 show(if (k:Int)<0 then ((k:Int)+(n:Int)).toNat else min (k:Int).toNat n)=min k n;rw[if_neg<|by omega,gy]
def MM(n d:Nat)(hd:d<=n)(o:Option Int):aL n d o<=n:=by
 cases o with
 |none=>exact hd
 |some v=>
  show(if v<0 then (v+(n:Int)).toNat else min v.toNat n)<=n;by_cases hv:v<0
  .rw[if_pos hv];omega
  .rw[if_neg hv];exact Nat.min_le_right _ _
def LJ(v:Int)(n d:Nat):(if v<0 then max (v+(n:Int)) 0 else min v (n:Int))=((aL n d (aA v):Nat):Int):=by
 show(if v<0 then max (v+(n:Int)) 0 else min v (n:Int))=(((if v<0 then (v+(n:Int)).toNat else min v.toNat n):Nat):Int);by_cases hv:v<0
 .simp only[if_pos hv];omega
 .simp only[if_neg hv];omega
def ZE(lo hi:Option Int)(n:Nat):jq lo hi 1 (n:Int)=(((aL n 0 lo:Nat):Int),((aL n n hi:Nat):Int)):=by
 have h1:¬((1:Int)<0):=by omega
 unfold jq;simp only[h1,if_false];refine va ?_ ?_
 .cases lo with
  |none=>rfl
  |some v=>exact LJ v n 0
 .cases hi with
  |none=>rfl
  |some v=>exact LJ v n n
def tL(i j:Nat):ib (i:Int) (j:Int) 1=j-i:=by
 unfold ib;have h1:(1:Int) > 0:=by omega
 simp only[h1,if_true,Int.ediv_one]
 split<;>omega
def gC(p:IsPart v o)(h:Q o s):wpAny (model prog w) A (Builtin.Slice.slicePartIndex v) Q E s:=by
 cases p with
 |none=>exact wq h
 |int i t=>exact slicePart_int h
def vV{sl:Addr}{vl vu:Value}{lo hi:Option Int}{n:Nat}{Q:Int×Int×Nat->Shared->Prop}(hs:s.heap.IsSliceOf sl vl vu .none)(pl:IsPart vl lo)(pu:IsPart vu hi)(h:Q (((aL n 0 lo:Nat):Int),1,aL n n hi-aL n 0 lo) s):wpAny (model prog w) A (ox (.ref sl)<|pure (n:Int)) Q E s:=by
 obtain⟨os,Ed,F1,An⟩:=id hs;unfold ox aah;refine aa<|aa<|ik Ed An (x:=vl) rfl<|aa<|ik Ed An (x:=vu) rfl<|aa<|ik Ed An (x:=.none) rfl<|af ?_;refine aa<|wq ?_;show wpAny _ _ (if ((1:Int) == 0)=true then _ else _) _ _ s;rw[if_neg<|by decide];refine aa<|gC pl<|aa<|gC pu<|aa<|af ?_;show wpAny _ _ (match jq lo hi 1 (n:Int) with|(lo,hi)=>pure (lo,(1:Int),ib lo hi 1)) _ _ s;rw[ZE lo hi n];show wpAny _ _ (pure (((aL n 0 lo:Nat):Int),(1:Int),ib ((aL n 0 lo:Nat):Int) ((aL n n hi:Nat):Int) 1)) _ _ s;rw[tL];exact af h
def UI(xs:Array Value)(i k:Nat):((fg k).filterMap λ(m:Nat)=>xs[((i:Int)+(m:Int)*1).toNat]?).toArray=((xs.toList.drop i).take k).toArray:=by
 have e:(λ(m:Nat)=>xs[((i:Int)+(m:Int)*1).toNat]?)=λm=>xs[i+m]?:=by
  funext m
  have:((i:Int)+(m:Int)*1).toNat=i+m:=by omega
  rw[this]
 rw[e]
 have:=pick_run xs i k
 rw[List.filterMap_map] at this;have e2:((λx=>xs[x]?) ∘ λx=>i+x)=λm=>xs[i+m]?:=rfl
 rw[e2] at this;rw[this]
def Y'{lo:Option Int}(ht:IsTup s.heap t items)(hs:s.heap.IsSliceOf sl vl vu .none)(pl:IsPart vl lo)(pu:IsPart vu hi)(hw:¬(aL items.size 0 lo=0/\aL items.size items.size hi=items.size))(h:Q (.ref s.heap.objs.size) { s with heap:=s.heap.push { cls:=.type "tuple",data:=.seq ((items.toList.drop<|aL items.size 0 lo).take<|aL items.size items.size hi-aL items.size 0 lo).toArray } })(hsz:items.size<=ar):wpAny (model prog w) A (getItem (.ref t)<|.ref sl) Q E s:=by
 have FN:sizeOk (.seq ((items.toList.drop<|aL items.size 0 lo).take<|aL items.size items.size hi-aL items.size 0 lo).toArray):=by
  show((items.toList.drop<|aL items.size 0 lo).take<|aL items.size items.size hi-aL items.size 0 lo).toArray.size<=ar;rw[ao,cu,kr,cw];omega
 have hj:aL items.size items.size hi<=items.size:=MM _ _ (al _) hi;obtain⟨os,Ed,F1,An⟩:=id hs;have Yt:s.TypeIs (.ref sl) "slice" := ⟨os,Ed,F1⟩;unfold getItem
 try with_reducible refine gc ?_
 first|refine aa (af ?_)|skip
 refine aa<|wpAny_sequenceKey ht.typeIs (by decide) ?_;refine aa (gq (name:=jj "__getitem__") ht.typeIs ir
  (fm ir ht.typeIs ade ?_<|args_tuple_getitem _ _))
 show wpAny _ _ (aab (.ref t) >>= _) _ _ s;refine aa<|tupleItemsOf_ ht ?_;refine aa<|rl Yt ?_;rw[if_pos<|by decide];refine aa<|vV hs pl pu ?_;have FS:¬((((aL items.size 0 lo:Nat):Int) == 0 && (1:Int) == 1 && (aL items.size items.size hi-aL items.size 0 lo) == items.size)=true):=by
  intro q;rw[fu,fu] at q;have q1:((aL items.size 0 lo:Nat):Int)=0:=eq_of_beq q.1.1;have q2:aL items.size items.size hi-aL items.size 0 lo=items.size:=eq_of_beq q.2;exact hw ⟨by omega,by omega⟩
 show wpAny _ _ (if (((aL items.size 0 lo:Nat):Int) == 0 && (1:Int) == 1 && (aL items.size items.size hi-aL items.size 0 lo) == items.size)=true then _ else _) _ _ s;rw[if_neg FS,UI]
 first
  |exact aa (m:=ii _)<|dq (af ⟨_,rfl,af h⟩) FN
  |exact aa (m:=ii _)<|dq (aa<|af<|af ⟨_,rfl,af h⟩) FN
  |exact aa<|aa (m:=ii _)<|dq (af<|af ⟨_,rfl,af h⟩) FN
  |exact aa<|aa (m:=ii _)<|dq (af ⟨_,rfl,af h⟩) FN
end
end HT
namespace L2
open PySem PySem.Spec PyProof.Rows
abbrev TO:=St->Hp->(Option Int->Hp->Prop)->Prop
def PO(X:Cx)(e:Option Expr)(t:TO):Prop:=
 ∀pZ s σ H (Q:Option Int->Hp->Prop),Inv X pZ σ H s->t σ H Q ->
  wpAny (model X.prog X.w) X.A (evalPart e X.env) (λu s'=>∃o H',Inv X pZ σ H' s'/\IsPart u o/\Q o H') X.xe s
noncomputable def T8:TO:=λ_ H Q=>Q aB H
noncomputable def Pw(t:TE):TO:=λσ H Q=>t σ H λx H1=>∃i,x=.int i/\Q (aA i) H1
section
variable{X:Cx}{e:Expr}{te:TE}{lo hi:Option Expr}{tl th:TO}{pos p2:Pos}
def Te:PO X aB T8:=by
 intro pZ s σ H Q I h;rw[aam];exact af ⟨aB,H,I,.none,h⟩
def Tf(h:PE X e te):PO X (aA e) (Pw te):=by
 intro pZ s σ H Q I hw;rw[evalPart_some];refine aK (h pZ s σ H _ I hw) λu s1 ⟨x,H1,I1,r1,q1⟩=>?_
 obtain⟨i,rfl,q⟩:=q1;obtain⟨t,rfl⟩:=r1;exact⟨aA i,H1,I1,.int i t,q⟩
def A3(X:Cx)(r:V->Option Int->Option Int->Hp->VK->Prop):Prop:=
 ∀pZ s σ H (x:V) (v vl vu:Value) (lo hi:Option Int) (sl:Addr) (Q:VK),Inv X pZ σ H s->RelV x v->s.heap.IsSliceOf sl vl vu .none->IsPart vl lo->IsPart vu hi->r x lo hi H Q ->
  ∃T id,typeLookup (.type T) "__getitem__" = pure (aA<|.builtin id)/\s.TypeIs v T/\wpAny (model X.prog X.w) X.A (getItem v<|.ref sl) (EP X pZ σ Q) X.xe s
def A3.or(h:A3 X r)(h':A3 X r'):A3 X (λx lo hi H Q=>r x lo hi H Q\/r' x lo hi H Q):=by
 intro pZ s σ H x v vl vu lo hi sl Q I rx hs pl pu q;rcases q with q|q
 .exact h pZ s σ H x v vl vu lo hi sl Q I rx hs pl pu q
 .exact h' pZ s σ H x v vl vu lo hi sl Q I rx hs pl pu q
def Vh(r:V->Option Int->Option Int->Hp->VK->Prop)(te:TE)(tl th:TO):TE:=λσ H Q=>te σ H λx H1=>tl σ H1 λl H2=>th σ H2 λu H3=>r x l u H3 Q
def UG(hr:A3 X r)(he:PE X e te)(hl:PO X lo tl)(hu:PO X hi th):PE X (.Subscript e (.Slice lo hi aB p2) pos) (Vh r te tl th):=by
 intro pZ s σ H Q I h;refine zu<|aK (he pZ s σ H _ I h) λv s1 ⟨x,H1,I1,r1,q1⟩=>?_;refine wpAny_Slice<|aK (hl pZ s1 σ H1 _ I1 q1) λvl s2 ⟨l,H2,I2,pl,q2⟩=>aK (hu pZ s2 σ H2 _ I2 q2) λvu s3 ⟨u,H3,I3,pu,q3⟩=>?_;rw[aam];refine af ?_;have I4:Inv X pZ σ H3 { s3 with heap:=s3.heap.push { cls:=.type "slice",data:=.fields #[vl,vu,.none] } }:=I3.kept (t':=s3.toks) λb ob q=>ac _ q
 obtain⟨T,id,hT,ht,hg⟩:=hr pZ { s3 with heap:=s3.heap.push { cls:=.type "slice",data:=.fields #[vl,vu,.none] } } σ H3 x v vl vu l u s3.heap.objs.size Q I4 r1 (Heap.IsSliceOf.new ..) pl pu q3;show wpAny (model X.prog X.w) X.A (subscriptTail e (.Slice lo hi aB p2) v<|.ref s3.heap.objs.size) (EP X pZ σ Q) X.xe { s3 with heap:=s3.heap.push { cls:=.type "slice",data:=.fields #[vl,vu,.none] } };exact tail_any (ops:=[.ref s3.heap.objs.size,v]) ht hT hg (by with_unfolding_all rfl)
def Au(xs:List V)(lo hi:Option Int):List V:=(xs.drop<|HT.aL xs.length 0 lo).take<|HT.aL xs.length xs.length hi-HT.aL xs.length 0 lo
def cE(xs:List V)(lo hi:Option Int):(Au xs lo hi).length<=xs.length:=by
 unfold Au;rw[cu,kr];omega
def Jk(K:Fg):V->Option Int->Option Int->Hp->VK->Prop:=λx lo hi H Q=>∃a xs,x=.ref a/\aM K H a xs /\
 ¬(HT.aL xs.length 0 lo=0/\HT.aL xs.length xs.length hi=xs.length)/\∀p,H p=aB->Q (.ref p) (upd H p<|.tup<|Au xs lo hi)
def Vp:A3 X (Jk X.K):=by
 intro pZ s σ H x v vl vu lo hi sl Q I rx hs pl pu h;obtain⟨a,xs,rfl,hx,hw,q⟩:=h;cases rx;obtain⟨its,r,ht,hz⟩:=I.tuple hx;have hlen:its.toArray.size=xs.length:=by rw[ao];exact r.length.symm
 refine⟨"tuple",_,ir.lookup,ht.typeIs,?_⟩;refine HT.Y' ht hs pl pu (by rw[hlen];exact hw) ?_ (by rw[hlen];exact hz);rw[hlen];refine⟨.ref s.heap.objs.size,_,I.laid (t':=s.toks) (o:=.tup<|Au xs lo hi) (λb ob q=>ac _ q) (al _) ?_,rfl,q _<|I.aI.fresh<|al _⟩;exact⟨cz (cE xs lo hi) hz,_,(r.drop<|HT.aL xs.length 0 lo).take<|HT.aL xs.length xs.length hi-HT.aL xs.length 0 lo,abh _ _⟩
def Kn(K:Fg):R2:=λx y H Q=>∃a b xs ys,x=.ref a/\y=.ref b/\aM K H a xs/\aM K H b ys/\xs≠[]/\xs.length+ys.length<=ar /\
 (ys=[]->Q (.ref a) H)/\(ys≠[]->∀p,H p=aB->Q (.ref p) (upd H p<|.tup<|xs++ys))
def Vals.HU(r:Vals xs us):us=[]↔xs=[]:=by
 cases r with
 |nil=>simp
 |cons _ _=>simp
def S0:a9 X (binaryOp .Add) (Kn X.K):=by
 intro pZ s σ H x y v u Q I rx ry h;obtain⟨a,b,xs,ys,rfl,rfl,ha,hb,hx,hz,q1,q2⟩:=h;cases rx;cases ry;obtain⟨its,r1,p1,_⟩:=I.tuple ha;obtain⟨a8,r2,p2,_⟩:=I.tuple hb;refine HT.Zz p1 p2 (λz=>hx<|r1.HU.mp z) (λz=>⟨.ref a,H,I,rfl,q1<|r2.HU.mp z⟩) (λz=>?_) (by rw[<-r1.length,<-r2.length];exact hz);refine⟨.ref s.heap.objs.size,_,I.laid (t':=s.toks) (o:=.tup<|xs++ys) (λb ob q=>ac _ q) (al _) ?_,rfl,q2 (λw=>z<|r2.HU.mpr w) _<|I.aI.fresh<|al _⟩;exact⟨by rw[ag];exact hz,_,r1.append r2,abh _ _⟩
end
noncomputable def Cq(n:Nat)(i:Int):Option Nat:=if 0<=i then (if i<n then aA i.toNat else aB) else if -(n:Int)<=i then aA (i+n).toNat else aB
def f9(xs:List α)(i:Int):Option α:=(Cq xs.length i).bind λj=>xs[j]?
def SG(h:Cq n i=aA j):seqIndex? i n=aA j/\j<n/\-(n:Int)<=i/\i<n:=by
 unfold Cq at h;by_cases h0:0<=i
 .rw[if_pos h0] at h;by_cases h1:i<n
  .rw[if_pos h1] at h;have e:i.toNat=j:=bv h;exact⟨by rw[seqIndex_of h0 h1,e],by omega,by omega,h1⟩
  .rw[if_neg h1] at h;cases h
 .rw[if_neg h0] at h;by_cases h1 : -(n:Int)<=i
  .rw[if_pos h1] at h;have e:(i+n).toNat=j:=bv h;exact⟨by rw[seqIndex_neg (by omega) h1,e],by omega,h1,by omega⟩
  .rw[if_neg h1] at h;cases h
def XN(h:f9 xs i=aA v):∃j,seqIndex? i xs.length=aA j/\xs[j]?=aA v/\j<xs.length/\-(xs.length:Int)<=i/\i<xs.length:=by
 unfold f9 at h;cases e:Cq xs.length i with
 |none=>rw[e] at h;cases h
 |some j=>
  rw[e] at h;obtain⟨h1,h2,h3,h4⟩:=SG e;exact⟨j,h1,h,h2,h3,h4⟩
def yB{α:Type}{xs:List α}{j:Nat}{v:α}(h:xs[j]?=aA v):f9 xs (j:Int)=aA v:=by
 have hj:j<xs.length:=(ba.mp h).1;have e:Cq xs.length (j:Int)=aA j:=by
  unfold Cq;rw[if_pos<|by omega,if_pos<|by omega];simp
 unfold f9;rw[e];exact h
def XQ(b:Expr):Prop:=∀o i,subscripted b false o i=operate [o,i] (getItem o i)
def At(X:Cx)(r:R2):Prop:=
 ∀(value slice:Expr) (pZ:List (Addr×Obj)) (s:Shared) (σ:St) (H:Hp) (x y:V) (v u:Value) (Q:VK),Inv X pZ σ H s->RelV x v->RelV y u->r x y H Q ->
  subscripted slice false v u=operate [v,u] (getItem v u)->wpAny (model X.prog X.w) X.A (subscriptTail value slice v u) (EP X pZ σ Q) X.xe s
def Eo(X:Cx)(id:String)(r:V->List V->Hp->VK->Prop):Prop:=
 ∀pZ s σ H (x:V) (xs:List V) (v:Value) (us:List Value) (Q:VK),Inv X pZ σ H s->RelV x v->Vals xs us->r x xs H Q ->
  wpAny (model X.prog X.w) X.A (call (.builtin id) (v::us)) (EP X pZ σ Q) X.xe s
section
variable{X:Cx}{a b:Expr}{ta tb:TE}{pos:Pos}
def At.or(h:At X r)(h':At X r'):At X (λx y H Q=>r x y H Q\/r' x y H Q):=by
 intro value slice pZ s σ H x y v u Q I rx ry q hs;rcases q with q|q
 .exact h value slice pZ s σ H x y v u Q I rx ry q hs
 .exact h' value slice pZ s σ H x y v u Q I rx ry q hs
def Kj(hr:At X r)(ha:PE X a ta)(hb:PE X b tb)(hs:XQ b):PE X (.Subscript a b pos) (C_ r ta tb):=by
 intro pZ s σ H Q I h;exact zu<|Gr ha hb I h λv u s2 x y H2 I2 rx ry q=>hr a b pZ s2 σ H2 x y v u Q I2 rx ry q<|hs _ _
def Jd(K:Fg):R2:=λx y H Q=>∃p xs i v,x=.ref p/\y=.int i/\aN K H p xs/\f9 xs i=aA v/\Q v H
def Jf(K:Fg):R2:=λx y H Q=>∃p xs i v,x=.ref p/\y=.int i/\aM K H p xs/\f9 xs i=aA v/\Q v H
def Je:R2:=λx y H Q=>∃z i c,x=.str z/\y=.int i/\z.length<=ar/\f9 z.cps.toList i=aA c/\Q (.str ⟨#[c]⟩) H
def Nr:At X (Jd X.K):=by
 intro value slice pZ s σ H x y v u Q I rx ry h hs;obtain⟨p,xs,i,z,rfl,rfl,hq,he,q⟩:=h;cases rx;obtain⟨t,rfl⟩:=ry;obtain⟨its,r,pl,hz⟩:=I.list hq;obtain⟨j,h1,h2,h3,h4,h5⟩:=XN he;obtain⟨w,ew,iB⟩:=r.get h2;have hl:=r.length;have hn:=pE;have fin:EP X pZ σ Q w s:=⟨z,H,I,iB,q⟩;by_cases h0:0<=i
 .have hj:i.toNat=j:=by
   rw[seqIndex_of h0 h5] at h1;exact bv h1
  exact item_listR pl.isList h0 (by omega) (by rw[hj];simpa using ew) fin hs
 .have hj:(i+(its.toArray.size:Int)).toNat=j:=by
   rw[seqIndex_neg (by omega) h4] at h1;rw[ao,<-hl];exact bv h1
  exact abn (x:=w) pl.isList.typeIs xx.lookup
   (wpAny_getItem_list_neg (Q:=λr s'=>r=w/\EP X pZ σ Q r s') pl.isList (by omega) (by rw[ao]<;>omega) (by omega) (by rw[hj];simpa using ew) ⟨rfl,fin⟩) hs
def Wg:At X (Jf X.K):=by
 intro value slice pZ s σ H x y v u Q I rx ry h hs;obtain⟨p,xs,i,z,rfl,rfl,hq,he,q⟩:=h;cases rx;obtain⟨t,rfl⟩:=ry;obtain⟨its,r,pl,hz⟩:=I.tuple hq;obtain⟨j,h1,h2,h3,h4,h5⟩:=XN he;obtain⟨w,ew,iB⟩:=r.get h2;have hl:=r.length;have hn:=pE;have fin:EP X pZ σ Q w s:=⟨z,H,I,iB,q⟩;exact abn (x:=w) pl.typeIs slot_tuple_getitem.lookup
  (getItem_tuple (j:=j) (Q:=λr s'=>r=w/\EP X pZ σ Q r s') pl (by omega) (by omega) (by rw[ao,<-hl];exact h1) (by simpa using ew) ⟨rfl,fin⟩) hs
def Qe:At X Je:=by
 intro value slice pZ s σ H x y v u Q I rx ry h hs;obtain⟨z,i,c,rfl,rfl,hz,he,q⟩:=h;obtain⟨t,rfl⟩:=rx;obtain⟨t',rfl⟩:=ry;obtain⟨j,h1,h2,h3,h4,h5⟩:=XN he;have hl:z.cps.toList.length=z.length:=by simp[vk]
 rw[hl] at h1 h4 h5;have hn:=pE;exact tail_any (typeIs_str s z t) slot_str_getitem.lookup (getItem_str (c:=c) (by
  have e1:decide (i < -(2 ^ 63:Int))=false:=decide_eq_false (by omega);have e2:decide (i ≥ 2 ^ 63)=false:=decide_eq_false (by omega);rw[e1,e2,aax]) (by rw[h1];simpa using h2) ⟨.str ⟨#[c]⟩,H,I.tok _,⟨_,rfl⟩,q⟩) hs
def MR(K:Fg):R2:=λx y H Q=>Jd K x y H Q\/Jf K x y H Q\/Je x y H Q
def Qd:At X (MR X.K):=Nr.or<|Wg.or Qe
def hG(lo hi:Option Int)(n:Nat):(sliceBounds lo hi aB n).1=((HT.aL n 0 lo:Nat):Int)/\(sliceBounds lo hi aB n).2.1=((HT.aL n n hi:Nat):Int)/\(sliceBounds lo hi aB n).2.2=1:=by
 refine⟨?_,?_,rfl⟩
 .cases lo with
  |none=>simp[sliceBounds,HT.aL]
  |some i=>
   simp only[sliceBounds,HT.aL,Option.getD_none,show(1:Int) > 0 by decide,if_true];by_cases h:i<0
   .simp only[h,if_true]<;>omega
   .simp only[h,if_false]<;>omega
 .cases hi with
  |none=>simp[sliceBounds,HT.aL]
  |some i=>
   simp only[sliceBounds,HT.aL,Option.getD_none,show(1:Int) > 0 by decide,if_true];by_cases h:i<0
   .simp only[h,if_true]<;>omega
   .simp only[h,if_false]<;>omega
def cO(its:List Value)(lo hi:Option Int):slicePick its.toArray lo hi aB=((its.drop<|HT.aL its.length 0 lo).take<|HT.aL its.length its.length hi-HT.aL its.length 0 lo).toArray:=by
 obtain⟨h1,h2,h3⟩:=hG lo hi its.toArray.size;unfold slicePick;rw[h1,h2,h3];simp only[sliceRange_one,pick_run,ao]<;>rfl
def Ji(K:Fg):V->Option Int->Option Int->Hp->VK->Prop:=λx lo hi H Q=>∃a xs,x=.ref a/\aN K H a xs/\∀p,H p=aB->Q (.ref p) (upd H p<|.lst<|Au xs lo hi)
def Vq:A3 X (Ji X.K):=by
 intro pZ s σ H x v vl vu lo hi sl Q I rx hs pl pu h;obtain⟨a,xs,rfl,hx,q⟩:=h;cases rx;obtain⟨its,r,ht,hz⟩:=I.list hx;have hlen:=r.length;refine⟨"list",_,xx.lookup,ht.isList.typeIs,?_⟩;refine aak ht.isList hs pl pu .none (by simp) ?_ (by rw[ao]<;>omega);rw[cO,<-hlen];refine⟨.ref s.heap.objs.size,_,I.laid (t':=s.toks) (o:=.lst<|Au xs lo hi) (λb ob q=>ac _ q) (al _) ?_,rfl,q _<|I.aI.fresh<|al _⟩;exact⟨cz (cE xs lo hi) hz,_,0,(r.drop<|HT.aL xs.length 0 lo).take<|HT.aL xs.length xs.length hi-HT.aL xs.length 0 lo,ax _ rfl⟩
noncomputable def k7:V->Bool
 |.aE=>true
 |.bl _=>true
 |.int _=>true
 |.str _=>true
 |_=>false
noncomputable def iP:V->V->Bool
 |.aE,.aE=>true
 |.bl a,.bl b=>a == b
 |.bl a,.int b=>(if a then 1 else 0) == b
 |.int a,.bl b=>a == (if b then 1 else 0)
 |.int a,.int b=>a == b
 |.str a,.str b=>a == b
 |_,_=>false
def KO(ry:RelV y u)(rx:RelV x v)(fy:k7 y=true)(fx:k7 x=true):gg A s u v (iP y x):=by
 cases y with
 |aE=>
  cases ry;cases x with
  |aE=>cases rx;exact gg.same _
  |bl b=>cases rx;exact gg.none_bool b
  |int b=>obtain⟨t,rfl⟩:=rx;exact adh b t
  |str b=>obtain⟨t,rfl⟩:=rx;exact adg b t
  |_=>exact absurd (show false=true from fx) bc
 |bl a=>
  cases ry;cases x with
  |aE=>cases rx;exact gg.bool_none a
  |bl b=>cases rx;exact gg.bool_bool a b
  |int b=>obtain⟨t,rfl⟩:=rx;exact gg.bool_int a b t
  |str b=>obtain⟨t,rfl⟩:=rx;exact gg.bool_str a b t
  |_=>exact absurd (show false=true from fx) bc
 |int a=>
  obtain⟨t',rfl⟩:=ry;cases x with
  |aE=>cases rx;exact adi a t'
  |bl b=>cases rx;exact gg.int_bool a t' b
  |int b=>obtain⟨t,rfl⟩:=rx;exact gg.int_int a t' b t
  |str b=>obtain⟨t,rfl⟩:=rx;exact gg.int_str a t' b t
  |_=>exact absurd (show false=true from fx) bc
 |str a=>
  obtain⟨t',rfl⟩:=ry;cases x with
  |aE=>cases rx;exact adf a t'
  |bl b=>cases rx;exact gg.str_bool a t' b
  |int b=>obtain⟨t,rfl⟩:=rx;exact gg.str_int a t' b t
  |str b=>obtain⟨t,rfl⟩:=rx;exact gg.str_str a t' b t
  |_=>exact absurd (show false=true from fx) bc
 |_=>exact absurd (show false=true from fy) bc
def iE(x:V)(u:Value):Bool:=match u with
 |.none=>iP .aE x
 |.bool b=>iP (.bl b) x
 |.int i _=>iP (.int i) x
 |.str z _=>iP (.str z) x
 |_=>false
def KS(r:RelV y u)(f:k7 y=true):iE x u=iP y x:=by
 cases y with
 |aE=>cases r;rfl
 |bl b=>cases r;rfl
 |int i=>obtain⟨t,rfl⟩:=r;rfl
 |str z=>obtain⟨t,rfl⟩:=r;rfl
 |_=>exact absurd (show false=true from f) bc
theorem gY:∀{xs:List V} {us:List Value},Vals xs us->xs.all k7=true->us.any (iE x)=xs.any λy=>iP y x
 |_,_,.nil,_=>rfl
 |y::xs,u::us,.cons r t,f=>by
  rw[km,fu] at f;rw[jt,jt,KS r f.1,gY t f.2]
theorem bB(rx:RelV x v)(fx:k7 x=true):∀{xs:List V} {us:List Value},Vals xs us->xs.all k7=true->∀u∈us,gg A s u v (iE x u)
 |_,_,.nil,_=>λu hu=>by cases hu
 |y::xs,u::us,.cons r t,f=>λu' hu=>by
  rw[km,fu] at f;rcases bb.mp hu with rfl|hu
  .rw[KS r f.1];exact KO r rx f.1 fx
  .exact bB rx fx t f.2 u' hu
def FM(x:V)(xs:List V):Bool:=xs.any λy=>iP y x
def HC(K:Fg)(neg:Bool):R2:=λx y H Q=>∃p xs,y=.ref p/\(aN K H p xs\/aM K H p xs)/\k7 x=true/\xs.all k7=true/\Q (.bl (if neg then !FM x xs else FM x xs)) H
def oT:a9 X (jc .In) (HC X.K false):=by
 intro pZ s σ H x y v u Q I rx ry h;obtain⟨p,xs,rfl,hq,fx,fs,q⟩:=h;cases ry;rcases hq with hq|hq
 .obtain⟨its,r,pl,hz⟩:=I.list hq;refine SeqAt.in_listAt (iE x) pl.isList (λw hw=>bB rx fx r fs w<|by simpa using hw) ⟨.bl _,H,I,rfl,?_⟩;rw[show its.toArray.any (iE x)=its.any (iE x) by simp,gY r fs];exact q
 .obtain⟨its,r,pl,hz⟩:=I.tuple hq;refine SeqAt.in_tupleAt (iE x) pl (λw hw=>bB rx fx r fs w<|by simpa using hw) ⟨.bl _,H,I,rfl,?_⟩;rw[show its.toArray.any (iE x)=its.any (iE x) by simp,gY r fs];exact q
def h9:a9 X (jc .NotIn) (HC X.K true):=by
 intro pZ s σ H x y v u Q I rx ry h;obtain⟨p,xs,rfl,hq,fx,fs,q⟩:=h;cases ry;rcases hq with hq|hq
 .obtain⟨its,r,pl,hz⟩:=I.list hq;refine SeqAt.notIn_listAt (iE x) pl.isList (λw hw=>bB rx fx r fs w<|by simpa using hw) ⟨.bl _,H,I,rfl,?_⟩;rw[show its.toArray.any (iE x)=its.any (iE x) by simp,gY r fs];exact q
 .obtain⟨its,r,pl,hz⟩:=I.tuple hq;refine SeqAt.notIn_tupleAt (iE x) pl (λw hw=>bB rx fx r fs w<|by simpa using hw) ⟨.bl _,H,I,rfl,?_⟩;rw[show its.toArray.any (iE x)=its.any (iE x) by simp,gY r fs];exact q
def À:fJ X (.builtin "len") (λxs H Q=>∃p ys,xs=[.ref p]/\(aN X.K H p ys\/aM X.K H p ys)/\Q (.int ys.length) H):=by
 intro pZ s σ H xs us Q I r h;obtain⟨p,ys,rfl,hq,q⟩:=h;obtain⟨u,rfl,rx⟩:=nY r;cases rx;have hn:=pE;rcases hq with hq|hq
 .obtain⟨its,r',pl,hz⟩:=I.list hq;have hlen:=r'.length;exact Calls.call_len_list pl.isList (by simp only[ao]<;>omega) ⟨.int ys.length,H,I.tok _,⟨s.toks+1,by rw[ao,hlen]⟩,q⟩
 .obtain⟨its,r',pl,hz⟩:=I.tuple hq;have hlen:=r'.length;exact len_tuple pl (by simp only[ao]<;>omega) ⟨.int ys.length,H,I.tok _,⟨s.toks+1,by rw[ao,hlen]⟩,q⟩
def mL:fJ X (.builtin "len") (λxs H Q=>∃z,xs=[.str z]/\z.length<=ar/\Q (.int z.length) H):=by
 intro pZ s σ H xs us Q I r h;obtain⟨z,rfl,hz,q⟩:=h;obtain⟨u,rfl,t,rfl⟩:=nY r;have hn:=pE;exact len_str (by omega) ⟨.int z.length,H,I.tok _,⟨_,rfl⟩,q⟩
def fJ.or(h:fJ X f r)(h':fJ X f r'):fJ X f (λxs H Q=>r xs H Q\/r' xs H Q):=by
 intro pZ s σ H xs us Q I rs q;rcases q with q|q
 .exact h pZ s σ H xs us Q I rs q
 .exact h' pZ s σ H xs us Q I rs q
def mK:fJ X (.type "list") (λxs H Q=>∃p ys,xs=[.ref p]/\(aN X.K H p ys\/aM X.K H p ys)/\∀l,H l=aB->Q (.ref l) (upd H l<|.lst ys)):=by
 intro pZ s σ H xs us Q I r h;obtain⟨p,ys,rfl,hq,q⟩:=h;obtain⟨u,rfl,rx⟩:=nY r;cases rx;have fin:∀(its:List Value),Vals ys its->ys.length<=ar->∀(h':Heap) (c':Nat),(∀b o',s.heap.get? b=aA o'->h'.get? b=aA o') ->
   h'.get? s.heap.objs.size=aA { cls:=.type "list",dict:=aB,data:=.seq its.toArray c',slots:=#[] }->EP X pZ σ Q (.ref s.heap.objs.size) { s with heap:=h' }:=λits r' hz h' c' kp e=>
  ⟨.ref s.heap.objs.size,_,I.laid (t':=s.toks) kp (al _) (show d_ X.prog X.w _ h' _ (.lst ys) from⟨hz,its,c',r',e⟩),rfl,q _<|I.aI.fresh<|al _⟩
 rcases hq with hq|hq
 .obtain⟨its,r',pl,hz⟩:=I.list hq;have hlen:=r'.length;obtain⟨o,ho,hc,n,hd⟩:=pl.isList;exact call_list_seq p (.inl rfl) ho hc hd (λh' c' kp e=>fin its r' hz h' c' kp e) (by simp only[ao]<;>omega)
 .obtain⟨its,r',pl,hz⟩:=I.tuple hq;have hlen:=r'.length;obtain⟨o,ho,hc,n,hd⟩:=pl;exact call_list_seq p (.inr rfl) ho hc hd (λh' c' kp e=>fin its r' hz h' c' kp e) (by simp only[ao]<;>omega)
def d4:fJ X (.type "tuple") (λxs H Q=>∃p ys,xs=[.ref p]/\((aN X.K H p ys/\∀l,H l=aB->Q (.ref l) (upd H l<|.tup ys))\/(aM X.K H p ys/\Q (.ref p) H))):=by
 intro pZ s σ H xs us Q I r h;obtain⟨p,ys,rfl,h⟩:=h;obtain⟨u,rfl,rx⟩:=nY r;cases rx;rcases h with⟨hq,q⟩|⟨hq,q⟩
 .obtain⟨its,r',pl,hz⟩:=I.list hq;have hlen:=r'.length;refine call_tuple_list pl.isList (λh' kp=>?_) (by simp only[ao]<;>omega);have I1:Inv X pZ σ H { s with heap:=h' }:=I.kept (t':=s.toks) kp;have I2:Inv X pZ σ (upd H h'.objs.size<|.tup ys) { s with heap:=h'.push { cls:=.type "tuple",data:=.seq its.toArray } }:=
   I1.laid (t':=s.toks) (λb o e=>ac _ e) (al _) (show d_ X.prog X.w _ _ _ (.tup ys) from⟨hz,its,r',abh _ _⟩)
  exact⟨.ref h'.objs.size,_,I2,rfl,q _<|I1.aI.fresh<|al _⟩
 .obtain⟨its,r',pl,hz⟩:=I.tuple hq;exact call_tuple_same pl ⟨.ref p,H,I,rfl,q⟩
def Hl(K:Fg)(T:String)(x:V)(H:Hp):Prop:=match x with
 |.str _=>T = "str"
 |.int _=>T = "int"
 |.ref p=>(T = "list" /\ ∃xs,aN K H p xs)\/(T = "tuple" /\ ∃o,K.lookup p=aA o/\o.cls=.type "tuple" /\ o.dict=aB) \/
   (T = "dict" /\ ((∃kvs,H p=aA (.dK kvs))\/∃kvs,H p=aA (.dT kvs)))\/(T = "set" /\ ∃S n,H p=aA (.set S n))
 |_=>False
def Lx(I:Inv X pZ σ H s)(r:RelV x v)(ty:Hl X.K T x H):s.TypeIs v T/\∀a,v=.ref a->∃ob,s.heap.get? a=aA ob/\ob.dict=aB:=by
 cases x with
 |str z=>
  obtain⟨t,rfl⟩:=r;cases (show T = "str" from ty);exact⟨typeIs_str s z t,λ_ e=>nomatch e⟩
 |int i=>
  obtain⟨t,rfl⟩:=r;cases (show T = "int" from ty);exact⟨typeIs_int s i t,λ_ e=>nomatch e⟩
 |ref p=>
  cases r;rcases ty with⟨rfl,xs,hq⟩|⟨rfl,o,hk,hc,hd⟩|⟨rfl,hk⟩|⟨rfl,S,n,hk⟩
  .obtain⟨its,_,pl,_⟩:=I.list hq;refine⟨pl.isList.typeIs,λa e=>?_⟩;cases e;obtain⟨o,n,e,c,hd,_⟩:=pl;exact⟨o,e,hd⟩
  .refine⟨⟨o,I.fK p o hk,hc⟩,λa e=>?_⟩;cases e;exact⟨o,I.fK _ o hk,hd⟩
  .have z:∃o,s.heap.get? p=aA o/\o.ExactDict:=by
    rcases hk with⟨kvs,hk⟩|⟨kvs,hk⟩
    .obtain⟨_,_,_,_,o,_,_,e,ex,_⟩:=I.aI p _ hk;exact⟨o,e,ex⟩
    .obtain⟨_,_,_,_,o,_,_,e,ex,_⟩:=I.aI p _ hk;exact⟨o,e,ex⟩
   obtain⟨o,e,ex⟩:=z;refine⟨⟨o,e,ex.1⟩,λa e2=>?_⟩;cases e2;exact⟨o,e,ex.2.1⟩
  .obtain⟨o,_,_,_,e,ex,_⟩:=I.aI p _ hk;refine⟨⟨o,e,ex.1⟩,λa e2=>?_⟩;cases e2;exact⟨o,e,ex.2.1⟩
 |_=>exact ku ty
def OG(K:Fg)(T:String)(r:V->List V->Hp->VK->Prop)(to:TE):TE:=λσ H Q=>to σ H λx H1=>Hl K T x H1/\r x [] H1 Q
def Vj(K:Fg)(T:String)(r:V->List V->Hp->VK->Prop)(to:TE)(t:TA):TE:=λσ H Q=>to σ H λx H1=>Hl K T x H1/\t σ H1 λxs H2=>r x xs H2 Q
variable{id:String}
def Rj(pa:PlainAttrs T)(slot:Slot T name id)(Cr:typeOf (.builtin id)=pure (.type "method_descriptor"))(hm:Eo X id r)(ho:PE X o to)(fY:kj o name X.env (eval o X.env)=eval o X.env:=by rfl)(fW:As apos eA:=by rfl):PE X (.Call (.Attribute o name apos) [] [] eA) (OG X.K T r to):=by
 intro pZ s σ H Q I h;refine wpAny_Call_method0_late fY fW<|aK (ho pZ s σ H _ I h) λv s1 ⟨x,H1,I1,r1,ty,q1⟩=>?_;obtain⟨h1,h2⟩:=Lx I1 r1 ty;exact⟨T,id,pa,slot,Cr,h1,h2,vw rfl<|PySem.evalArgs_none<|hm pZ s1 σ H1 x [] v [] Q I1 r1 .nil q1⟩
def C4(pa:PlainAttrs T)(slot:Slot T name id)(Cr:typeOf (.builtin id)=pure (.type "method_descriptor"))(hm:Eo X id r)(ho:PE X o to)(ha:PA X (e::es) t)(fY:kj o name X.env (eval o X.env)=eval o X.env:=by rfl)(iX:A5 X (e::es) eA:=by rfl)(fW:As apos eA:=by rfl)(hs:iF X e es:=by rfl)(Xf:sJ X es eA:=by rfl):PE X (.Call (.Attribute o name apos) (e::es) [] eA) (Vj X.K T r to t):=by
 intro pZ s σ H Q I h;refine wpAny_Call_method_late fY iX fW rfl<|aK (ho pZ s σ H _ I h) λv s1 ⟨x,H1,I1,r1,ty,q1⟩=>?_;obtain⟨h1,h2⟩:=Lx I1 r1 ty;refine⟨T,id,pa,slot,Cr,h1,h2,?_⟩;have hA:=ha eA pZ s1 σ H1 _ I1 q1;rw[hs] at hA ⊢;refine vw (by show(false || (wv eA<|bp es X.env).any (·.1))=false;rw[Xf]<;>rfl)<|adc ?_;exact aK hA λus s2 ⟨vs,H2,I2,r2,q2⟩=>hm pZ s2 σ H2 x vs v us Q I2 r1 r2 q2
end
def Oi(X:Cx)(id:String)(r:V->List V->Hp->VK->Prop):Prop:=
 ∀pZ s σ H (x:V) (xs:List V) (v:Value) (us:List Value) (Q:VK),Inv X pZ σ H s->RelV x v->Vals xs us->r x xs H Q ->
  wpAny (model X.prog X.w) X.A (call (.builtin id) (v::us)) (EP X pZ σ Q) X.xe s
def Vals.one:∀{x:V} {us:List Value},Vals [x] us->∃u,us=[u]/\RelV x u
 |_,_,.cons r .nil=>⟨_,rfl,r⟩
def Vals.two:∀{x y:V} {us:List Value},Vals [x,y] us->∃u v,us=[u,v]/\RelV x u/\RelV y v
 |_,_,_,.cons r (.cons q .nil)=>⟨_,_,rfl,r,q⟩
def Vals.zero:∀{us:List Value},Vals [] us->us=[]
 |_,.nil=>rfl
def Vals.dropLast(h:Vals xs us):Vals xs.dropLast us.dropLast:=by
 induction h with
 |nil=>exact .nil
 |cons r t ih=>
  cases t with
  |nil=>exact .nil
  |cons q t'=>exact .cons r ih
def Vals.reverse(h:Vals xs us):Vals xs.reverse us.reverse:=by
 induction h with
 |nil=>exact .nil
 |cons r t ih=>rw[rp,rp];exact Vals.append ih<|.cons r .nil
def tW(l:List α):l.eraseIdx (l.length-1)=l.dropLast:=by
 induction l with
 |nil=>rfl
 |cons a r ih=>
  cases r with
  |nil=>rfl
  |cons b r=>
   have e:(a::b::r).length-1=((b::r).length-1)+1:=by
    have h1:(a::b::r).length=r.length+2:=rfl;have h2:(b::r).length=r.length+1:=rfl;omega
   rw[e,abg,ih]
   all_goals rfl
section
variable{X:Cx}{pZ:List (Addr×Obj)}{σ:St}{H:Hp}{s:Shared}{l b:Addr}{xs ys zs:List V}
def Inv.HY{its its':List Value}{n:Nat}{f:Array Value->Array Value}{t':Nat}(I:Inv X pZ σ H s)(hH:H l=aA (.lst xs))(e:s.heap.get? l=aA { cls:=.type "list",data:=.seq its.toArray n })(hf:f its.toArray=its'.toArray)(hv:Vals ys its')(hz:ys.length<=ar):Inv X pZ σ (upd H l<|.lst ys) { s with heap:=s.heap.update l<|cj f,toks:=t' }:=by
 have q:=PySem.IsL.update e f;rw[hf] at q;refine I.write (x:=l) (e:=l) (by rw[hH];exact trivial) (.inl rfl) (λb' u hb hu=>(vt s.heap (cj f)<|ua hb).trans hu) ⟨_,q⟩ ?_;exact⟨hz,its',_,hv,q⟩
def Inv.H_(I:Inv X pZ σ H s)(hv:Vals ys its)(hz:ys.length<=ar):Inv X pZ σ (upd H s.heap.objs.size<|.lst ys) { s with heap:=s.heap.push { cls:=.type "list",data:=.seq its.toArray },toks:=t' }:=
 I.laid (λ_ _ q=>ac _ q) (al _) ⟨hz,its,0,hv,ax _ rfl⟩
def Inv.fresh(I:Inv X pZ σ H s):H s.heap.objs.size=aB:=I.aI.fresh<|al _
def Inv.HX(I:Inv X pZ σ H s)(hH:H l=aA (.lst xs)):xs.length<=ar/\∃(its:List Value) (n:Nat),Vals xs its/\xs.length=its.length/\s.heap.get? l=aA { cls:=.type "list",data:=.seq its.toArray n }:=by
 obtain⟨z,its,n,r,e⟩:=I.aI l _ hH;exact⟨z,its,n,r,r.length,e⟩
def Uy(h:n<=ar):me n=false:=by
 unfold me;exact decide_eq_false (by omega)
end
section
variable{X:Cx}
def TU:V->List V->Hp->VK->Prop:=λx vs H Q=>∃l xs y,x=.ref l/\vs=[y]/\H l=aA (.lst xs)/\xs.length<ar/\Q .aE (upd H l<|.lst<|xs++[y])
def cY:Oi X "list.append" TU:=by
 intro pZ s σ H x vs v us Q I rx rv h;obtain⟨l,xs,y,rfl,rfl,hH,hz,q⟩:=h;cases rx;obtain⟨u,rfl,ru⟩:=rv.one;obtain⟨z,its,n,r,hl,e⟩:=I.HX hH;refine vh F.slot_list_append ⟨_,e,rfl⟩ F.entry_list_append (F.args_list_append_2 _ _) (PySem.list_append l its.toArray n u (by rw[ao];omega)) ⟨e,?_⟩;refine⟨.aE,_,I.HY (its':=its++[u]) hH e (by simp) (r.append<|.cons ru .nil) ?_,rfl,q⟩;rw[ag,List.length_singleton];omega
def OD:V->List V->Hp->VK->Prop:=λx vs H Q=>∃l xs y,x=.ref l/\vs=[]/\H l=aA (.lst xs)/\xs[xs.length-1]?=aA y/\Q y (upd H l<|.lst xs.dropLast)
def RD:Oi X "list.pop" OD:=by
 intro pZ s σ H x vs v us Q I rx rv h;obtain⟨l,xs,y,rfl,rfl,hH,hy,q⟩:=h;cases rx;have Wu:=rv.zero;subst Wu;obtain⟨z,its,n,r,hl,e⟩:=I.HX hH;obtain⟨u,hu,ru⟩:=r.get hy;have q_:its.toArray[its.toArray.size-1]?=aA u:=by
  show its.toArray[its.length-1]?=aA u;rw[<-gf,<-hl];exact hu
 refine vh F.slot_list_pop ⟨_,e,rfl⟩ F.entry_list_pop (F.args_list_pop_1 _) (MeetsSeq.list_pop_last l its.toArray n u q_ (by rw[ao];omega)) ⟨e,?_⟩;refine⟨y,_,I.HY (its':=its.dropLast) hH e ?_ r.dropLast ?_,ru,q⟩
 .show its.toArray.eraseIdxIfInBounds (its.toArray.size-1)=its.dropLast.toArray;rw[ao,List.eraseIdxIfInBounds_toArray,tW]
 .rw[List.length_dropLast];omega
end
end L2
namespace Op
open PySem PySem.W PySem.Calls PyProof.Rows
def uV:∀(ns:List Int) (vs:List Value),WellAll P h vs (ns.map WData.int)->IntsAre vs ns:=by
 intro ns
 induction ns with
 |nil=>
  intro vs w;rw[vp] at w;cases w;exact .nil
 |cons n ns ih=>
  intro vs w;rw[am] at w;cases w with
  |cons a b=>
   cases a;exact .cons _ _<|ih _ b
def WC{l:OpenLaw}{n:Nat}(hn:l.most=aA n){P:Params}{h:Heap}{args:List WData}{vals:List Value}(FP:l.row.toRowW.claim.pre args=true)(Il:WellAll P h vals args):∃a vs ns,vals=[Value.ref a]/\args=[WData.list<|ns.map WData.int]/\h.get? a=aA { cls:=.type "list",data:=.seq vs.toArray }/\IntsAre vs ns/\ns.length<=n:=by
 have Xb:WShape.hasAll [] args [.list .int]=true:=(pre_splitW FP).1;have hc:l.pre.holds [] { args:=args } = true:=(pre_splitW FP).2;obtain⟨d,r,rfl,h1,h2⟩:=hasAllW_cons Xb;obtain rfl:=hasAllW_nil h2;obtain⟨xs,rfl,h3⟩:=hasW_list h1;obtain⟨ns,rfl⟩:=items_int h3;have hlen:ns.length<=n:=by
  unfold OpenLaw.pre at hc;have h4:(WTm.not<|.lt (.lit<|.int (n:Int))<|.len<|.arg 0).holds [] { args:=[.list<|ns.map .int] } = true:=by
   have h4:=(holds_andW hc).1;rw[hn] at h4;exact h4
  have h5:=condW_of h4<|w_not<|w_lt w_lit<|w_len_list<|w_arg rfl;rw[ah] at h5;refine si λq=>?_
  have q':(n:Int)<((ns.length:Nat):Int):=by omega
  first
   |(rw[decide_eq_true q'] at h5;exact absurd h5<|by decide)
   |(simp at h5;omega)
 cases Il with
 |cons w1 w2=>
  cases w2;cases w1 with
  |list ho lM=>exact⟨_,_,ns,rfl,rfl,ho,uV ns _ lM,hlen⟩
def WK(l:OpenLaw)(args:List WData):l.row.toRowW.claim.post args (.bool true) args=true:=
 postW_of (r:=l.row.toRowW) (X:=(true == true))
  (show WShape.has [] (.bool true) .bool=true by first|rfl|decide|simp[WShape.has,WShape.arms,WShape.armsAll])
  (show(WTm.eq .res<|.lit<|.bool true).value [] { args:=args,res:=aA<|.bool true,after:=args } = aA (.bool<|true == true) from w_eq_bool (w_res rfl) w_lit) rfl
def Å{l:OpenLaw}{n:Nat}{q:Program}{loose:List Str}{XP:(Str->Option Value)->Heap->Prop}{YP:World->Heap->Prop}{d:DefRec}(hn:l.most=aA n)(BD:d.params.defaults=[])(call:∀(w:World) (s₀ s₁:Shared) (mg mb:Str->Option Value) (fa:Addr) (o:Obj) (pm cd doc:Value) (a:Addr) (vs:List Value) (ns:List Int),
   Ground q loose [] XP w s₀ mg mb s₁.heap->YP w s₁.heap ->
   s₁.heap.get? fa=aA o->o.data=.func (docDef d.name d.params d.body d.scope pm cd doc)->s₁.heap.CodeRec cd d.name->mg d.name=aA (.ref fa) ->
   s₁.heap.get? a=aA { cls:=.type "list",data:=.seq vs.toArray }->IntsAre vs ns->ns.length<=n->s₁.gens = #[] ->
   codeAny (model l.prog w) callerA (.call (.ref fa) ⟨[.ref a],[]⟩) (λr s'=>r=.ok (.ret<|.bool true)/\OldK s₁.heap s'.heap/\s'.os=s₁.os/\AllBare s'.gens) s₁):WalkO q loose XP YP l.row.toRowW d [] (λf vs=>zw f vs):=by
 intro w s₀ s₁ mg mb G Y fa o pm cd doc dV kV ho hd sC hD hmg hg args vals as FP ā ü Il Ā;obtain rfl:dV=.none:=Dflts.none hD BD;obtain rfl:kV=.none:=Dflts.noKw hD;obtain⟨a,vs,ns,rfl,rfl,Io,hints,hlen⟩:=WC hn FP Il;refine enter_call<|vg (call w s₀ s₁ mg mb fa o pm cd doc a vs ns G Y ho (fd_plain hd) sC hmg Io hints hlen hg) λr s' hq=>?_;obtain⟨rfl,h2,h3,h4⟩:=hq;exact⟨.inl ⟨.bool true,.bool true,[],rfl,λ_=>rfl,.bool true,WK l _,λ_=>⟨List.Pairwise.nil,λ_ hm=>(nomatch hm)⟩⟩,h2,h3,h4⟩
end Op
namespace L2
open PySem PySem.Spec PyProof.Rows
theorem nX:∀{vs:List Value} {ns:List Int},IntsAre vs ns->Vals (ns.map V.int) vs
 |_,_,.nil=>.nil
 |_,_,.cons n t h=>.cons ⟨t,rfl⟩<|nX h
def Et(H:Hp):Prop:=∀b,H b=aB\/∃o xs,H b=aA (.eG o<|.lst xs)
def Uu{K:Fg}(KX:K.In s₁.heap)(NB:s₁.heap.Ns dh mg)(hb:s₁.heap.Ns builtinsNs mb)(Yn:∀x:Str,x ≠ "__name__" -> mb x=bootBuiltins x)(Xq:s₁.heap.NoLimit)(hg:s₁.gens = #[])(ha:s₁.heap.get? a=aA { cls:=.type "list",data:=.seq vs.toArray })(hi:IntsAre vs ns)(hl:ns.length<=ar)(hr:eD k callerA)(F:∀base:Heap,K.In base->base.Ns dh mg->fP P w K mg base CX k fa fd [x] sp)(Ym:∀(s:Shared) (u:Value),BindsTo s fd ⟨[u],[]⟩ [(x,u)])(AR:∀H:Hp,Et H->aN K H a (ns.map V.int)->sp [.ref a] H (λv _=>v=.bl true) λ_ _ _=>False)(Ej:∀H e s',CX [] H s₁ (λ_ _ _=>False) e s'->False):codeAny (model P w) callerA (.call (.ref fa) ⟨[.ref a],[]⟩) (λr s'=>r=.ok (.ret<|.bool true)/\OldK s₁.heap s'.heap/\s'.os=s₁.os/\AllBare s'.gens) s₁:=by
 have rv:=nX hi;have V4:=hi.length;have core:∀H:Hp,Et H->aN K H a (ns.map V.int)->eN P w H s₁.heap->(∀b,H b≠aB->b=a)->(H a≠aB->K.lookup a=aB) ->
   codeAny (model P w) callerA (.call (.ref fa) ⟨[.ref a],[]⟩) (λr s'=>r=.ok (.ret<|.bool true)/\OldK s₁.heap s'.heap/\s'.os=s₁.os/\AllBare s'.gens) s₁:=by
  intro H hO hS aI hA hK;have Od:∀{b:Addr} {o:Obj},s₁.heap.get? b=aA o->H b=aB->(u_ s₁.heap H).get? b=aA o:=λe n=>UL e n
  have DJ:∀{b:Addr} {o:Obj} {es:Array DictEntry} {ep:Nat},s₁.heap.get? b=aA o->o.data=.dict es ep->H b=aB:=λ{b o es ep} e d=>by
   cases q:H b with
   |none=>rfl
   |some u=>
    have e':b=a:=hA b (by rw[q];simp);subst e';rw[ha] at e;cases e;have d':Data.seq vs.toArray _=Data.dict es ep:=d;cases d'
  have FE:∀{b:Addr} {m:Str->Option Value},s₁.heap.Ns b m->(u_ s₁.heap H).Ns b m:=λ{b m} ⟨o,es,ep,e,d,r⟩=>⟨o,es,ep,Od e<|DJ e d,d,r⟩
  have NV:K.In (u_ s₁.heap H):=λb o e=>Od (KX b o e) (by
   cases q:H b with
   |none=>rfl
   |some u=>
    have e':b=a:=hA b (by rw[q];simp);subst e';rw[hK (by rw[q];simp)] at e;cases e)
  have hM:Mod K mg (u_ s₁.heap H):=⟨NV,FE NB,⟨mb,FE hb,Yn⟩,let ⟨mc,h1,h2⟩:=Xq;⟨mc,FE h1,h2⟩⟩;have e0:Gg P w K mg (u_ s₁.heap H) callerA [] s₁ H:=⟨rfl,hM,λb o e=>Tp e,uc<|QJ _ _,trivial,⟨λb hb=>absurd (show b∈([]:List Addr) from hb)<|by simp,trivial⟩,aI,.of_eq hg⟩;refine vg ((F _ NV<|FE NB).run callerA [] s₁ H ⟨[.ref a],[]⟩ [.ref a] [.ref a] _ _ hr e0 (Ym s₁<|.ref a) (.cons rfl .nil)<|AR H hO hS) λr s' h=>?_
  cases r with
  |error e=>exact(Ej H e s' h).elim
  |ok fl=>
   cases fl with
   |next=>exact ku h
   |brk=>exact ku h
   |cont=>exact ku h
   |ret u=>
    obtain⟨v,H',os,bare,un,Xi,r',q⟩:=h;have q':v=.bl true:=q;subst q';obtain rfl:u=Value.bool true:=r';refine⟨rfl,OldK.of_keep λb o e=>?_,os,bare⟩;cases q:H b with
    |none=>exact un.keep b o e q (by intro z;exact absurd (show b∈([]:List Addr) from z)<|by simp) (by simp)
    |some u=>
     rcases hO b with z|⟨ob,xs,z⟩
     .rw[q] at z;cases z
     .have z2:=un.sZ b ob _ z;obtain⟨e1,_⟩:=aI b _ z;obtain⟨e2,_⟩:=Xi b _ z2;rw[e] at e1;cases e1;exact e2
 cases hk:K.lookup a with
 |some o=>
  have e:=KX a o hk;rw[ha] at e;cases e;refine core (λ_=>aB) (λ_=>.inl rfl) (.inr ⟨_,vs.toArray,_,hk,rfl,rfl,rfl,by rw[ao,V4];exact hl,by simpa using rv⟩) (λb u z=>by have z':(aB:Option HO)=aA u:=z;cases z') (λb z=>absurd rfl z) λz=>absurd rfl z
 |none=>
  refine core (λb=>if b=a then aA (.eG { cls:=.type "list",data:=.seq vs.toArray }<|.lst<|ns.map V.int) else aB) (λb=>?_) (.inl<|.inr ⟨{ cls:=.type "list",data:=.seq vs.toArray },if_pos rfl⟩) (λb u z=>?_) (λb z=>?_) λ_=>hk
  .by_cases hb:b=a
   .exact .inr ⟨_,_,if_pos hb⟩
   .exact .inl<|if_neg hb
  .by_cases hb:b=a
   .have z':=(if_pos hb).symm.trans z;cases z';subst hb;exact⟨ha,by rw[ah];exact hl,vs,_,rv,ha⟩
   .have z':=(if_neg hb).symm.trans z;cases z'
  .by_cases hb:b=a
   .exact hb
   .exact absurd (if_neg hb) z
def T1{l:PySem.W.OpenLaw}{n k:Nat}{q:Program}{loose:List Str}{XP:(Str->Option Value)->Heap->Prop}{YP:World->Heap->Prop}{d:DefRec}{K:Params->Fg}{CX:World->BR}{sp:World->Sp}{x:Str}(hn:l.most=aA n)(Iq:n<=ar)(BD:d.params.defaults=[])(hr:eD k callerA)(hY:∀(w:World) (h:Heap),YP w h->(K w.params).In h)(F:∀(w:World) (mg:Str->Option Value) (fa:Addr) (h:Heap),(K w.params).In h->h.Ns dh mg->mg d.name=aA (.ref fa) ->
   ∃fd:FuncData,(∀(s:Shared) (u:Value),BindsTo s fd ⟨[u],[]⟩ [(x,u)]) /\
    ∀base:Heap,(K w.params).In base->base.Ns dh mg->fP l.prog w (K w.params) mg base (CX w) k fa fd [x] (sp w))(AR:∀(w:World) (H:Hp) (a:Addr) (ns:List Int),ns.length<=n->Et H->aN (K w.params) H a (ns.map V.int)->sp w [.ref a] H (λv _=>v=.bl true) λ_ _ _=>False)(Ej:∀(w:World) (H:Hp) (s:Shared) (e:Value) (s':Shared),CX w [] H s (λ_ _ _=>False) e s'->False):aaq q loose XP YP l.row.toRowW d [] (λf vs=>zw f vs):=by
 refine Op.Å hn BD λw s₀ s₁ mg mb fa o pm cd doc a vs ns G Y ho hd sC hmg Io hints hlen hg=>?_
 have KX:=hY w _ Y;obtain⟨fd,hb,hF⟩:=F w mg fa _ KX G.T.g hmg;exact Uu KX G.T.g G.T.b G.T.builtins G.T.nolimit hg Io hints (cz hlen Iq) hr hF hb (λH hO hS=>AR w H a ns hlen hO hS) λH e s'=>Ej w H s₁ e s'
def U_{l:PySem.W.OpenLaw}{n k:Nat}{q:Program}{loose:List Str}{XP:(Str->Option Value)->Heap->Prop}{YP:World->Heap->Prop}{d:DefRec}{K:Params->Fg}{CX:BR}{sp:Fg->Sp}{x:Str}(hn:l.most=aA n)(Iq:n<=ar)(BD:d.params.defaults=[])(hr:eD k callerA)(hY:∀(w:World) (h:Heap),YP w h->(K w.params).In h)(F:∀(w:World) (mg:Str->Option Value) (fa:Addr) (h:Heap),(K w.params).In h->h.Ns dh mg->mg d.name=aA (.ref fa) ->
   ∃fd:FuncData,(∀(s:Shared) (u:Value),BindsTo s fd ⟨[u],[]⟩ [(x,u)]) /\
    ∀base:Heap,(K w.params).In base->base.Ns dh mg->fP l.prog w (K w.params) mg base CX k fa fd [x] (sp<|K w.params))(AR:∀(K:Fg) (H:Hp) (a:Addr) (ns:List Int),ns.length<=n->Et H->aN K H a (ns.map V.int)->sp K [.ref a] H (λv _=>v=.bl true) λ_ _ _=>False)(Ej:∀(H:Hp) (s:Shared) (e:Value) (s':Shared),CX [] H s (λ_ _ _=>False) e s'->False):aaq q loose XP YP l.row.toRowW d [] (λf vs=>zw f vs):=
 T1 (K:=K) (CX:=λ_=>CX) (sp:=λw=>sp<|K w.params) hn Iq BD hr hY F (λw H a ns h1 h2 h3=>AR (K w.params) H a ns h1 h2 h3) λ_ H s e s'=>Ej H s e s'
noncomputable def cD(s:Stmt):Arguments:=match s with
 |.FunctionDef _ a _ _ _ _ _ _ _ _=>a
 |_=>{ posonlyargs:=[],args:=[],vararg:=aB,kwonlyargs:=[],kw_defaults:=[],kwarg:=aB,defaults:=[] }
noncomputable def vQ(s:Stmt):List Stmt:=match s with
 |.FunctionDef _ _ b _ _ _ _ _ _ _=>b
 |_=>[]
noncomputable def zZ(s:Stmt):Scope:=match s with
 |.FunctionDef _ _ _ _ _ _ sc _ _ _=>sc
 |_=>{ kind:=.function,names:=[],isGenerator:=false,isCoroutine:=false }
noncomputable abbrev h_:BR:=λ_ _ _ _ _ _=>False
noncomputable abbrev E0:XK:=λ_ _ _=>False
def JR:GV h_ X E0:=λ_ _ _ _ _ _ _ h=>h.elim
structure BQ(K:Fg)(x qual:Str)(st:Stmt)(f:Addr)(fd:FuncData):Prop where
 ex:∃(oc:Value) (od:Option Addr) (kV doc pm:Value) (an:Option Addr) (aS ct:Value) (AK:Array (Option Value)),
  fd=ph x qual (cD st) (vQ st) (zZ st) .none kV doc pm an aS ct/\K.lookup f=aA ⟨oc,od,.func fd,AK⟩/\ui K aS qual=true
 kp:jv K (.ref f)=true
section
variable{K:Fg}
def BQ.binds{st:Stmt}(F:BQ K x qual st f fd)(h:∀(kV doc pm:Value) (an:Option Addr) (aS ct:Value) (us:List Value),us.length=ps.length->bindArgs (ph x qual (cD st) (vQ st) (zZ st) .none kV doc pm an aS ct) ⟨us,[]⟩=pure (ps.zip us)):Binds K fd ps []:=by
 obtain⟨oc,od,kV,doc,pm,an,aS,ct,AK,rfl,lk,sC⟩:=F.ex;exact .all<|h kV doc pm an aS ct
def K2{st:Stmt}{kV:Value}(l:K.lookup f=aA ⟨oc,od,.func<|ph x qual (cD st) (vQ st) (zZ st) .none kV doc pm an aS ct,AK⟩)(c:ui K aS qual=true)(k:jv K (.ref f)=true):BQ K x qual st f (ph x qual (cD st) (vQ st) (zZ st) .none kV doc pm an aS ct):=⟨⟨oc,od,kV,doc,pm,an,aS,ct,AK,rfl,l,c⟩,k⟩
end
section
variable{X:Cx}
def pv(i:Nat)(hN:X.N[i]?=aA x:=by rfl)(hv:F' X.env.scope x:=by first|exact Or.inl rfl|exact Or.inr (Or.inl rfl)|exact Or.inr<|Or.inr rfl)(hd:iH x:=by decide)(sC:(x == ("__classdict__" : Str))=false:=by decide):PE X (.Name x pos) (ZN i):=Rq hN hv hd sC
end
def Gu{A B:Prop}(h:B):if false=true then A else B:=by
 rw[if_neg bc];exact h
def Gv{A B:Prop}(h:A):if true=true then A else B:=by
 rw[if_pos rfl];exact h
def aC(H H':Hp):Prop:=∀b o,H b=aA o->H' b=aA o
def aC.refl(H:Hp):aC H H:=λ_ _ h=>h
def aC.trans(a:aC H H1)(b:aC H1 H2):aC H H2:=λc o h=>b c o<|a c o h
def aC.free(e:aC H H')(h:H' l=Option.none):H l=Option.none:=by
 cases q:H l with
 |none=>rfl
 |some o=>
  rw[e l o q] at h;cases h
def aC.seq{K:Fg}(e:aC H H')(h:aN K H a xs):aN K H' a xs:=by
 rcases h with(h|⟨o,h⟩)|h
 .exact .inl<|.inl<|e _ _ h
 .exact .inl<|.inr ⟨o,e _ _ h⟩
 .exact .inr h
end L2
namespace DD
open PySem PySem.Spec PyProof.Rows L2
abbrev St:=L2.St
inductive D where
 |aE|bl (b:Bool)|int (i:Int)|str (s:List Nat)|tup (l:List D)|lst (l:List D)|ty (n:String)|ref (a:Addr)|aJ (ks:List Key) (l:List D)
def Ep(K:Fg)(O:Addr->Prop)(H:Hp)(a:Addr)(xs:List V):Prop:=
 (¬O a/\Rd H a (.lst xs))\/∃(o:Obj) (its:Array Value) (n:Nat),K.lookup a=aA o/\o.cls=.type "list" /\ o.dict=aB/\o.data=.seq its n/\its.size<=ar/\Vals xs its.toList
def Ep.sq{K:Fg}(h:Ep K O H a xs):aN K H a xs:=h.imp (·.2) id
def Fz(H:Hp)(a:Addr)(kvs:List (Key×V)):Prop:=∃ob,H a=aA (.eG ob<|.dK kvs)
def Fz.rd(h:Fz H a kvs):Rd H a (.dK kvs):=.inr h
mutual
def Is(K:Fg)(O:Addr->Prop)(H:Hp):D->V->Prop
 |.aE,v=>v=.aE
 |.bl b,v=>v=.bl b
 |.int i,v=>v=.int i
 |.str s,v=>v=.str ⟨s.toArray⟩
 |.ty n,v=>v=.ty n
 |.ref a,v=>v=.ref a
 |.tup l,v=>∃a xs,v=.ref a/\aM K H a xs/\IsL K O H l xs
 |.lst l,v=>∃a xs,v=.ref a/\Ep K O H a xs/\IsL K O H l xs
 |.aJ ks l,v=>∃a kvs,v=.ref a/\¬O a/\Fz H a kvs/\kvs.map (·.1)=ks/\IsL K O H l (kvs.map (·.2))
def IsL(K:Fg)(O:Addr->Prop)(H:Hp):List D->List V->Prop
 |[],vs=>vs=[]
 |d::l,vs=>∃v r,vs=v::r/\Is K O H d v/\IsL K O H l r
end
def Mb:HO->Prop
 |.lst _=>True
 |.dK _=>True
 |.eG _ (.dK _)=>True
 |.dT _=>True
 |.ins _ _ _=>True
 |_=>False
def cG(O:Addr->Prop)(H:Hp):Prop:=∀a,O a->∃o,H a=aA o/\Mb o
def d7(O:Addr->Prop)(H H':Hp):Prop:=∀b o,H b=aA o->¬O b->H' b=aA o
def Rd.some(h:Rd H a u):∃o,H a=aA o:=by
 rcases h with h|⟨o,h⟩
 .exact⟨_,h⟩
 .exact⟨_,h⟩
def aM.keep{K:Fg}(k:d7 O H H')(o:cG O H)(h:aM K H a xs):aM K H' a xs:=by
 rcases h with(h|⟨ob,h⟩)|h
 .exact .inl<|.inl (k _ _ h λz=>by obtain⟨ys,q,m⟩:=o a z;rw[h] at q;cases q;exact m)
 .exact .inl<|.inr ⟨ob,k _ _ h λz=>by obtain⟨ys,q,m⟩:=o a z;rw[h] at q;cases q;exact m⟩
 .exact .inr h
def Rd.keep(k:d7 O H H')(n:¬O a)(h:Rd H a u):Rd H' a u:=by
 rcases h with h|⟨ob,h⟩
 .exact .inl<|k _ _ h n
 .exact .inr ⟨ob,k _ _ h n⟩
mutual
theorem Is.mono{K:Fg}(k:d7 O H H')(ol:cG O H)(oo:∀a,O' a->H a≠aB->O a):∀(d:D) (v:V),Is K O H d v->Is K O' H' d v
 |.aE,v,h=>by unfold Is at h ⊢;exact h
 |.bl b,v,h=>by unfold Is at h ⊢;exact h
 |.int i,v,h=>by unfold Is at h ⊢;exact h
 |.str s,v,h=>by unfold Is at h ⊢;exact h
 |.ty n,v,h=>by unfold Is at h ⊢;exact h
 |.ref a,v,h=>by unfold Is at h ⊢;exact h
 |.tup l,v,h=>by
  unfold Is at h ⊢;obtain⟨a,xs,e,q,r⟩:=h;exact⟨a,xs,e,aM.keep k ol q,IsL.mono k ol oo l xs r⟩
 |.lst l,v,h=>by
  unfold Is at h ⊢;obtain⟨a,xs,e,nq,r⟩:=h;refine⟨a,xs,e,?_,IsL.mono k ol oo l xs r⟩;rcases nq with⟨n,q⟩|q
  .exact .inl ⟨λz=>n<|oo a z (by obtain⟨o,q⟩:=Rd.some q;rw[q];simp),Rd.keep k n q⟩
  .exact .inr q
 |.aJ ks l,v,h=>by
  unfold Is at h ⊢;obtain⟨a,kvs,e,n,q,e2,r⟩:=h;obtain⟨ob,q⟩:=q;exact⟨a,kvs,e,λz=>n<|oo a z (by rw[q];simp),⟨ob,k _ _ q n⟩,e2,IsL.mono k ol oo l _ r⟩
theorem IsL.mono{K:Fg}(k:d7 O H H')(ol:cG O H)(oo:∀a,O' a->H a≠aB->O a):∀(l:List D) (vs:List V),IsL K O H l vs->IsL K O' H' l vs
 |[],vs,h=>by unfold IsL at h ⊢;exact h
 |d::l,vs,h=>by
  unfold IsL at h ⊢;obtain⟨v,r,e,h1,h2⟩:=h;exact⟨v,r,e,Is.mono k ol oo d v h1,IsL.mono k ol oo l r h2⟩
end
def aC.kp(s:aC H H')(O:Addr->Prop):d7 O H H':=λb o e _=>s b o e
def Is.same{K:Fg}(s:aC H H')(ol:cG O H)(h:Is K O H d v):Is K O H' d v:=Is.mono (aC.kp s O) ol (λ_ z _=>z) d v h
def IsL.same{K:Fg}(s:aC H H')(ol:cG O H)(h:IsL K O H l vs):IsL K O H' l vs:=IsL.mono (aC.kp s O) ol (λ_ z _=>z) l vs h
section
variable{K:Fg}
def IsL.length:∀{l:List D} {vs:List V},IsL K O H l vs->l.length=vs.length
 |[],vs,h=>by unfold IsL at h;subst h;rfl
 |d::l,vs,h=>by unfold IsL at h;obtain⟨v,r,rfl,_,h2⟩:=h;simp[IsL.length h2]
def IsL.get:∀{l:List D} {vs:List V} {i:Nat} {d:D},IsL K O H l vs->l[i]?=aA d->∃v,vs[i]?=aA v/\Is K O H d v
 |[],_,_,_,_,e=>by simp at e
 |d::l,vs,0,d',h,e=>by
  unfold IsL at h;obtain⟨v,r,rfl,h1,h2⟩:=h;simp at e;subst e;exact⟨v,rfl,h1⟩
 |d::l,vs,i+1,d',h,e=>by
  unfold IsL at h;obtain⟨v,r,rfl,h1,h2⟩:=h;obtain⟨u,q1,q2⟩:=IsL.get (i:=i) h2 (by simpa using e);exact⟨u,by simpa using q1,q2⟩
def IsL.nil:IsL K O H [] []:=by unfold IsL;rfl
def IsL.cons(h:Is K O H d v)(t:IsL K O H l vs):IsL K O H (d::l) (v::vs):=by unfold IsL;exact⟨v,vs,rfl,h,t⟩
def IsL.append:∀{l m:List D} {vs us:List V},IsL K O H l vs->IsL K O H m us->IsL K O H (l++m) (vs++us)
 |[],_,_,_,h,t=>by unfold IsL at h;subst h;exact t
 |d::l,m,vs,us,h,t=>by unfold IsL at h;obtain⟨v,r,rfl,h1,h2⟩:=h;exact .cons h1<|IsL.append h2 t
def IsL.take:∀{l:List D} {vs:List V} (n:Nat),IsL K O H l vs->IsL K O H (l.take n) (vs.take n)
 |_,_,0,_=>by simpa using IsL.nil
 |[],_,_+1,h=>by unfold IsL at h;subst h;simpa using IsL.nil
 |d::l,vs,n+1,h=>by unfold IsL at h;obtain⟨v,r,rfl,h1,h2⟩:=h;exact .cons h1<|IsL.take n h2
def IsL.drop:∀{l:List D} {vs:List V} (n:Nat),IsL K O H l vs->IsL K O H (l.drop n) (vs.drop n)
 |_,_,0,h=>h
 |[],_,_+1,h=>by unfold IsL at h;subst h;simpa using IsL.nil
 |d::l,vs,n+1,h=>by unfold IsL at h;obtain⟨v,r,rfl,h1,h2⟩:=h;exact IsL.drop n h2
def IsL.reverse:∀{l:List D} {vs:List V},IsL K O H l vs->IsL K O H l.reverse vs.reverse
 |[],_,h=>by unfold IsL at h;subst h;exact IsL.nil
 |d::l,vs,h=>by
  unfold IsL at h;obtain⟨v,r,rfl,h1,h2⟩:=h;rw[rp,rp];exact(IsL.reverse h2).append (.cons h1 .nil)
def IsL.inv1(h:IsL K O H [d] vs):∃v,vs=[v]/\Is K O H d v:=by
 unfold IsL at h;obtain⟨v,r,rfl,h1,h2⟩:=h;unfold IsL at h2;subst h2;exact⟨v,rfl,h1⟩
def IsL.inv2(h:IsL K O H [d,e] vs):∃v u,vs=[v,u]/\Is K O H d v/\Is K O H e u:=by
 unfold IsL at h;obtain⟨v,r,rfl,h1,h2⟩:=h;obtain⟨u,rfl,h3⟩:=h2.inv1;exact⟨v,u,rfl,h1,h3⟩
def zM:Is K O H (.int i) v↔v=.int i:=by unfold Is;exact my
def yG:Is K O H (.bl b) v↔v=.bl b:=by unfold Is;exact my
def yC:Is K O H (.str s) v↔v=.str ⟨s.toArray⟩:=by unfold Is;exact my
def y9:Is K O H .aE v↔v=.aE:=by unfold Is;exact my
def Is.Vd:Is K O H (.ty n) v↔v=.ty n:=by unfold Is;exact my
def Is.Vy:Is K O H (.ref a) v↔v=.ref a:=by unfold Is;exact my
def zX:Is K O H (.tup l) v↔∃a xs,v=.ref a/\aM K H a xs/\IsL K O H l xs:=by unfold Is;exact my
def zY:Is K O H (.lst l) v↔∃a xs,v=.ref a/\Ep K O H a xs/\IsL K O H l xs:=by unfold Is;exact my
def jP:Is K O H (.aJ ks l) v↔∃a kvs,v=.ref a/\¬O a/\Fz H a kvs/\kvs.map (·.1)=ks/\IsL K O H l (kvs.map (·.2)):=by unfold Is;exact my
end
inductive Sl where
 |un|v (d:D)|o (l:List D)|p (l:List D)|z (l:List D)|d (b:Bool) (ks:List Key) (l:List D)|t (ks:List (List Key))
noncomputable abbrev En:=List Sl
noncomputable def Sl.own:Sl->Option (List D)
 |.o l=>aA l
 |.p l=>aA l
 |.z l=>aA l
 |.d _ _ l=>aA l
 |.t _=>aA []
 |_=>aB
noncomputable def Sl.mt:Sl->Option (List D)
 |.o l=>aA l
 |.p l=>aA l
 |.d _ _ l=>aA l
 |.t _=>aA []
 |_=>aB
noncomputable def Sl.ls:Sl->Option (List D)
 |.o l=>aA l
 |.p l=>aA l
 |.z l=>aA l
 |_=>aB
noncomputable def Sl.ml:Sl->Option (List D)
 |.o l=>aA l
 |.p l=>aA l
 |_=>aB
def J6{x:Sl}{l:List D}(h:x.ml=aA l):x.mt=aA l/\x.ls=aA l:=by
 cases x<;>first|(cases h;exact⟨rfl,rfl⟩)|cases h
def RC{x:Option Sl}{l:List D}(h:x.bind Sl.ml=aA l):x.bind Sl.mt=aA l:=by
 cases x with
 |none=>cases h
 |some x=>exact(J6 (x:=x) h).1
def Qm{x:Sl}{l:List D}(h:x.ls=aA l):x.own=aA l:=by
 cases x<;>first|(cases h;rfl)|cases h
def uR{x:Option Sl}{l:List D}(h:x.bind Sl.ls=aA l):x.bind Sl.own=aA l:=by
 cases x with
 |none=>cases h
 |some x=>exact Qm (x:=x) h
def Lf(h:x.bind Sl.own=aA l):x.bind Sl.ls=aA l\/(∃f ks,x=aA (.d f ks l))\/∃ks,x=aA (.t ks):=by
 cases x with
 |none=>cases h
 |some x=>cases x<;>first|(cases h;exact .inl rfl)|(cases h;exact .inr<|.inl ⟨_,_,rfl⟩)|(cases h;exact .inr<|.inr ⟨_,rfl⟩)|cases h
noncomputable def Sl.pk:Sl->Option Bool
 |.p _=>aA false
 |.d true _ _=>aA true
 |_=>aB
def cU{x:Option Sl}{k:Bool}(h:x.bind Sl.pk=aA k):∃l,x.bind Sl.own=aA l:=by
 cases x with
 |none=>cases h
 |some x=>cases x<;>first|(cases h;done)|exact⟨_,rfl⟩
def GD(h:x.bind Sl.pk=aA false):∃l,x=aA (.p l):=by
 cases x with
 |none=>cases h
 |some x=>cases x with
  |d f ks l=>cases f<;>cases h
  |p l=>exact⟨l,rfl⟩
  |_=>cases h
def OB(h:x.bind Sl.pk=aA true):∃ks l,x=aA (.d true ks l):=by
 cases x with
 |none=>cases h
 |some x=>cases x with
  |d f ks l=>cases f<;>first|(cases h;done)|exact⟨ks,l,rfl⟩
  |_=>cases h
def i8(q:Sl->Option (List D))(r:En)(σ:St)(a:Addr):Prop:=∃(i:Nat) (l:List D),(r[i]?).bind q=aA l/\σ[i]?=aA (aA<|.ref a)
abbrev kL:=i8 Sl.own
abbrev g_:=i8 Sl.mt
def cX{x:Sl}{l:List D}(h:x.mt=aA l):x.own=aA l:=by
 cases x<;>first|(cases h;rfl)|cases h
def g_.own(h:g_ r σ a):kL r σ a:=by
 obtain⟨i,l,e,q⟩:=h;obtain⟨x,e1,e2⟩:=abd.mp e;exact⟨i,l,by rw[e1];exact cX e2,q⟩
def Ow(O0:Addr->Prop)(r:En)(σ:St):Addr->Prop:=λa=>O0 a\/kL r σ a
structure R(K:Fg)(O0:Addr->Prop)(H:Hp)(r:En)(σ:St):Prop where
 len:r.length=σ.length
 val:∀(i:Nat) (d:D),r[i]?=aA (.v d)->∃v,σ[i]?=aA (aA v)/\Is K (Ow O0 r σ) H d v
 own:∀(i:Nat) (l:List D),(r[i]?).bind Sl.ls=aA l->∃a xs,σ[i]?=aA (aA<|.ref a)/\H a=aA (.lst xs)/\IsL K (Ow O0 r σ) H l xs
 apart:∀(i j:Nat) (a:Addr) (l m:List D),(r[i]?).bind Sl.own=aA l->(r[j]?).bind Sl.own=aA m->σ[i]?=aA (aA<|.ref a)->σ[j]?=aA (aA<|.ref a)->i=j
 o0:cG O0 H
 loc:∀(i:Nat) (l:List D) (a:Addr),(r[i]?=aA (.o l)\/r[i]?=aA (.z l)\/∃ks,r[i]?=aA (.d false ks l))->σ[i]?=aA (aA<|.ref a)->¬O0 a
 par:∀(i:Nat) (k:Bool) (a:Addr),(r[i]?).bind Sl.pk=aA k->σ[i]?=aA (aA<|.ref a)->O0 a
 aJ:∀(i:Nat) (f:Bool) (ks:List Key) (l:List D),r[i]?=aA (.d f ks l)->∃a kvs,σ[i]?=aA (aA<|.ref a)/\H a=aA (.dK kvs)/\kvs.map (·.1)=ks/\IsL K (Ow O0 r σ) H l (kvs.map (·.2))
 iK:∀(i:Nat) (ks:List (List Key)),r[i]?=aA (.t ks)->∃a,σ[i]?=aA (aA<|.ref a)/\H a=aA (.dT<|ks.map λk=>(k,.bl true))
def R.obj{K:Fg}{O0:Addr->Prop}{H:Hp}{r:En}{σ:St}(h:R K O0 H r σ){j:Nat}{m:List D}(e:(r[j]?).bind Sl.own=aA m):∃a o,σ[j]?=aA (aA<|.ref a)/\H a=aA o/\Mb o:=by
 rcases Lf e with e|⟨f,ks,e⟩|⟨ks,e⟩
 .obtain⟨a,xs,e1,e2,_⟩:=h.own j m e;exact⟨a,_,e1,e2,trivial⟩
 .obtain⟨a,kvs,e1,e2,_⟩:=h.aJ j f ks m e;exact⟨a,_,e1,e2,trivial⟩
 .obtain⟨a,e1,e2⟩:=h.iK j ks e;exact⟨a,_,e1,e2,trivial⟩
def R.ol{K:Fg}(h:R K O0 H r σ):cG (Ow O0 r σ) H:=λa z=>by
 rcases z with z|⟨i,l,e,q⟩
 .exact h.o0 a z
 .rcases Lf e with e|⟨f,ks,e⟩|⟨ks,e⟩
  .obtain⟨b,xs,e1,e2,_⟩:=h.own i l e;rw[q] at e1;cases e1;exact⟨.lst xs,e2,trivial⟩
  .obtain⟨b,kvs,e1,e2,_⟩:=h.aJ i f ks l e;rw[q] at e1;cases e1;exact⟨.dK kvs,e2,trivial⟩
  .obtain⟨b,e1,e2⟩:=h.iK i ks e;rw[q] at e1;cases e1;exact⟨_,e2,trivial⟩
def R.AL{K:Fg}(h:R K O0 H r σ)(n:H a=aB):¬Ow O0 r σ a:=λz=>by
 obtain⟨o,e,_⟩:=h.ol a z;rw[n] at e;cases e
def R.same{K:Fg}(h:R K O0 H r σ)(s:aC H H'):R K O0 H' r σ where
 len:=h.len
 val:=λi d e=>by obtain⟨v,e1,q⟩:=h.val i d e;exact⟨v,e1,q.same s h.ol⟩
 own:=λi l e=>by obtain⟨a,xs,e1,e2,q⟩:=h.own i l e;exact⟨a,xs,e1,s _ _ e2,q.same s h.ol⟩
 aJ:=λi f ks l e=>by obtain⟨a,kvs,e1,e2,e3,q⟩:=h.aJ i f ks l e;exact⟨a,kvs,e1,s _ _ e2,e3,q.same s h.ol⟩
 iK:=λi ks e=>by obtain⟨a,e1,e2⟩:=h.iK i ks e;exact⟨a,e1,s _ _ e2⟩
 apart:=h.apart
 o0:=λa z=>by obtain⟨xs,e,m⟩:=h.o0 a z;exact⟨xs,s _ _ e,m⟩
 loc:=h.loc
 par:=h.par
structure Kp(H:Hp)(r:En)(σ:St)(H':Hp)(r':En)(σ':St):Prop where
 keep:d7 (g_ r σ) H H'
 live:∀b,H' b=aB->H b=aB
 lst:∀b o,H b=aA o->Mb o->∃o',H' b=aA o'/\Mb o'
 new:∀b,kL r' σ' b->kL r σ b\/H b=aB
 FH:∀b,g_ r' σ' b->g_ r σ b\/H b=aB
 par:∀(i:Nat) (k:Bool),(r[i]?).bind Sl.pk=aA k->(r'[i]?).bind Sl.pk=aA k/\σ'[i]?=σ[i]?
 fz:∀(i:Nat) (l:List D),r[i]?=aA (.z l)->r'[i]?=aA (.z l)/\σ'[i]?=σ[i]?
def Kp.of_same(r:En)(σ:St)(s:aC H H'):Kp H r σ H' r σ:=
 ⟨λb o e _=>s b o e,λb e=>s.free e,λb o e m=>⟨o,s _ _ e,m⟩,λb z=>.inl z,λb z=>.inl z,λi k e=>⟨e,rfl⟩,λi l e=>⟨e,rfl⟩⟩
def Kp.refl(H:Hp)(r:En)(σ:St):Kp H r σ H r σ:=.of_same r σ<|aC.refl H
def Kp.trans(a:Kp H r σ H1 r1 σ1)(b:Kp H1 r1 σ1 H2 r2 σ2):Kp H r σ H2 r2 σ2 where
 keep:=λc o e n=>b.keep c o (a.keep c o e n) λz=>(a.FH c z).elim n λq=>by rw[e] at q;cases q
 live:=λc e=>a.live c<|b.live c e
 lst:=λc o e m=>by obtain⟨o1,q,m1⟩:=a.lst c o e m;exact b.lst c o1 q m1
 new:=λc z=>(b.new c z).elim (a.new c) λq=>.inr<|a.live c q
 FH:=λc z=>(b.FH c z).elim (a.FH c) λq=>.inr<|a.live c q
 par:=λi k e=>by
  obtain⟨e1,q1⟩:=a.par i k e;obtain⟨e2,q2⟩:=b.par i k e1;exact⟨e2,q2.trans q1⟩
 fz:=λi l e=>by
  obtain⟨e1,q1⟩:=a.fz i l e;obtain⟨e2,q2⟩:=b.fz i l e1;exact⟨e2,q2.trans q1⟩
def PE.aH(h:PE X e t)(i:∀σ H Q,t' σ H Q->t σ H Q):PE X e t':=λpZ s σ H Q I q=>h pZ s σ H Q I<|i σ H Q q
def PT.aH(h:PT X e t)(i:∀σ H Q,t' σ H Q->t σ H Q):PT X e t':=λpZ s σ H Q I q=>h pZ s σ H Q I<|i σ H Q q
def PA.aH(h:PA X e t)(i:∀σ H Q,t' σ H Q->t σ H Q):PA X e t':=λpos pZ s σ H Q I q=>h pos pZ s σ H Q I<|i σ H Q q
def PS.aH{st:Stmt}(h:PS X st t)(i:∀D σ H,t' D σ H->t D σ H):PS X st t':=λpZ s σ H D I q=>h pZ s σ H D I<|i D σ H q
def fI.aH{st:List Stmt}(h:fI X st t)(i:∀D σ H,t' D σ H->t D σ H):fI X st t':=λpZ s σ H D I q=>h pZ s σ H D I<|i D σ H q
abbrev ME:=En->Option D
abbrev ML:=En->Option (List D)
abbrev MB:=En->Option Bool
def lE(K:Fg)(f:ME):TE:=λσ H Q=>∃O0 r d,R K O0 H r σ/\f r=aA d/\∀v H',aC H H'->Is K (Ow O0 r σ) H' d v->Q v H'
def lT(K:Fg)(f:MB):TT:=λσ H Q=>∃O0 r b,R K O0 H r σ/\f r=aA b/\∀H',aC H H'->Q b H'
def lA(K:Fg)(f:ML):TA:=λσ H Q=>∃O0 r l,R K O0 H r σ/\f r=aA l/\∀vs H',aC H H'->IsL K (Ow O0 r σ) H' l vs->Q vs H'
def lF(K:Fg)(f:ML):TE:=λσ H Q=>∃O0 r l,R K O0 H r σ/\f r=aA l/\∀a xs H',aC H H'->H a=aB->H' a=aA (.lst xs)->IsL K (λb=>Ow O0 r σ b\/b=a) H' l xs->Q (.ref a) H'
def lB(K:Fg)(f:ML):TE:=λσ H Q=>∃O0 r l,R K O0 H r σ/\f r=aA l/\∀a xs H',aC H H'->aN K H' a xs->IsL K (Ow O0 r σ) H' l xs->Q (.ref a) H'
def lX(K:Fg)(f:En->Option (D×En)):TE:=λσ H Q=>∃O0 r d r',R K O0 H r σ/\f r=aA (d,r')/\∀v H',R K O0 H' r' σ->Kp H r σ H' r' σ->Is K (Ow O0 r' σ) H' d v->Q v H'
def DE(X:Cx)(e:Expr)(f:ME):Prop:=PE X e<|lE X.K f
def DT(X:Cx)(e:Expr)(f:MB):Prop:=PT X e<|lT X.K f
def DA(X:Cx)(es:List Expr)(f:ML):Prop:=PA X es<|lA X.K f
def DF(X:Cx)(e:Expr)(f:ML):Prop:=PE X e<|lF X.K f
def DB(X:Cx)(e:Expr)(f:ML):Prop:=PE X e<|lB X.K f
def DX(X:Cx)(e:Expr)(f:En->Option (D×En)):Prop:=PE X e<|lX X.K f
inductive Fl where
 |nx (r:En)|bk (r:En)|ct (r:En)|rt (d:D) (r:En)|rf (l:List D) (r:En)|rg (ks:List Key) (l:List D) (r:En)
abbrev MS:=En->Option Fl
def Gf(H:Hp)(r:En)(σ:St)(a:Addr):Prop:=H a=aB\/∃(i:Nat) (l:List D),(r[i]?=aA (.o l)\/(∃ks,r[i]?=aA (.d false ks l))\/∃ks,r[i]?=aA (.t ks))/\σ[i]?=aA (aA<|.ref a)
def lQ(K:Fg)(O0:Addr->Prop)(H:Hp)(r:En)(σ:St)(Dn:Ends):Fl->Prop
 |.nx r'=>∀σ' H',R K O0 H' r' σ'->Kp H r σ H' r' σ'->Dn.nx σ' H'
 |.bk r'=>∀σ' H',R K O0 H' r' σ'->Kp H r σ H' r' σ'->Dn.bk σ' H'
 |.ct r'=>∀σ' H',R K O0 H' r' σ'->Kp H r σ H' r' σ'->Dn.ct σ' H'
 |.rt d r'=>∀v σ' H',R K O0 H' r' σ'->Kp H r σ H' r' σ'->Is K O0 H' d v->Dn.rt v H'
 |.rf l r'=>∀a xs σ' H',R K O0 H' r' σ'->Kp H r σ H' r' σ'->Gf H r σ a->¬O0 a->H' a=aA (.lst xs)->IsL K (λb=>O0 b\/b=a) H' l xs->Dn.rt (.ref a) H'
 |.rg ks l r'=>∀a kvs σ' H',R K O0 H' r' σ'->Kp H r σ H' r' σ'->Gf H r σ a->¬O0 a->H' a=aA (.dK kvs)->kvs.map (·.1)=ks->IsL K (λb=>O0 b\/b=a) H' l (kvs.map (·.2))->Dn.rt (.ref a) H'
def lS(K:Fg)(g:MS):TS:=λDn σ H=>∃O0 r fl,R K O0 H r σ/\g r=aA fl/\lQ K O0 H r σ Dn fl
def DS(X:Cx)(st:Stmt)(g:MS):Prop:=PS X st<|lS X.K g
def lR(X:Cx)(st:List Stmt)(g:MS):Prop:=fI X st<|lS X.K g
def lQ.before{K:Fg}{O0:Addr->Prop}{H H1:Hp}{r r1:En}{σ σ1:St}{Dn:Ends}{fl:Fl}(R1:R K O0 H1 r1 σ1)(k:Kp H r σ H1 r1 σ1)(h:lQ K O0 H r σ Dn fl):lQ K O0 H1 r1 σ1 Dn fl:=by
 have NY:∀a,Gf H1 r1 σ1 a->Gf H r σ a:=λa z=>by
  rcases z with z|⟨i,l,e,q⟩
  .exact .inl<|k.live a z
  .obtain⟨l,eo⟩:∃l,(r1[i]?).bind Sl.own=aA l:=by rcases e with e|⟨ks,e⟩|⟨ks,e⟩<;>rw[e]<;>exact⟨_,rfl⟩
   have np:∀k2,(r1[i]?).bind Sl.pk≠aA k2:=λk2 z=>by rcases e with e|⟨ks,e⟩|⟨ks,e⟩<;>rw[e] at z<;>cases z
   have nz:∀l2,r1[i]?≠aA (.z l2):=λl2 z=>by rcases e with e|⟨ks,e⟩|⟨ks,e⟩<;>rw[e] at z<;>cases z
   rcases k.new a ⟨i,l,eo,q⟩ with⟨j,m,e2,q2⟩|z
   .cases ej:r[j]? with
    |none=>rw[ej] at e2;cases e2
    |some x=>
     rw[ej] at e2;cases x with
     |un=>cases e2
     |t ks=>exact .inr ⟨j,[],.inr<|.inr ⟨ks,ej⟩,q2⟩
     |v d=>cases e2
     |o l'=>exact .inr ⟨j,l',.inl ej,q2⟩
     |p l'=>
      obtain⟨e3,q3⟩:=k.par j false (by rw[ej];rfl);obtain⟨l2,e4⟩:=cU e3
      have:=R1.apart i j a l l2 eo e4 q<|q3.trans q2
      subst this;exact absurd e3<|np _
     |z l'=>
      obtain⟨e3,q3⟩:=k.fz j l' ej
      have:=R1.apart i j a l l' eo (by rw[e3];rfl) q<|q3.trans q2
      subst this;exact absurd e3<|nz _
     |d f ks l'=>
      cases f with
      |false=>exact .inr ⟨j,l',.inr<|.inl ⟨ks,ej⟩,q2⟩
      |true=>
       obtain⟨e3,q3⟩:=k.par j true (by rw[ej];rfl);obtain⟨l2,e4⟩:=cU e3
       have:=R1.apart i j a l l2 eo e4 q<|q3.trans q2
       subst this;exact absurd e3<|np _
   .exact .inl z
 cases fl with
 |nx r'=>exact λσ' H' h1 h2=>h σ' H' h1<|k.trans h2
 |bk r'=>exact λσ' H' h1 h2=>h σ' H' h1<|k.trans h2
 |ct r'=>exact λσ' H' h1 h2=>h σ' H' h1<|k.trans h2
 |rt d r'=>exact λv σ' H' h1 h2 h3=>h v σ' H' h1 (k.trans h2) h3
 |rf l r'=>exact λa xs σ' H' h1 h2 h3 h4 h5 h6=>h a xs σ' H' h1 (k.trans h2) (NY a h3) h4 h5 h6
 |rg ks l r'=>exact λa xs σ' H' h1 h2 h3 h4 h5 h6 h7=>h a xs σ' H' h1 (k.trans h2) (NY a h3) h4 h5 h6 h7
def mC(d:D):ME:=λ_=>aA d
def zE(i:Nat):ME:=λr=>match r[i]? with
 |some (.v d)=>aA d
 |_=>aB
def c5(i:Nat):ML:=λr=>(r[i]?).bind Sl.ls
def zJ(m:D->D->Option D)(f g:ME):ME:=λr=>(f r).bind λx=>(g r).bind λy=>m x y
def aX(m:D->Option D)(f:ME):ME:=λr=>(f r).bind m
def zV:ML:=λ_=>aA []
def zB(f:ME)(g:ML):ML:=λr=>(f r).bind λx=>(g r).bind λl=>aA (x::l)
def qQ(f:ML):ME:=λr=>(f r).bind λl=>if l.length<=ar then aA (.tup l) else aB
def xX(f:ML):ML:=λr=>(f r).bind λl=>if l.length<=ar then aA l else aB
def qD(f:ML):ME:=λr=>(f r).map .lst
def XV(f:ME):ML:=λr=>(f r).bind λd=>match d with
 |.lst l=>aA l
 |_=>aB
def Bf(f g:ME):ME:=λr=>(f r).bind λd=>match d with
 |.bl true=>g r
 |.bl false=>aA<|.bl false
 |_=>aB
noncomputable def Ju:D->Option D
 |.bl b=>aA<|.bl !b
 |_=>aB
def bN(f g:MB):MB:=λr=>(f r).bind λb=>if b=true then g r else aA false
def sL(f g:MB):MB:=λr=>(f r).bind λb=>if b=true then aA true else g r
def WU(f:MB):MB:=λr=>(f r).map (!·)
noncomputable def Oc:D->Option Bool
 |.bl b=>aA b
 |_=>aB
def aP(f:ME):MB:=λr=>(f r).bind Oc
noncomputable def GI:D->Option Bool
 |.aE=>aA false
 |.bl b=>aA b
 |.int i=>aA<|i != 0
 |.str s=>if s.length<=ar then aA (!s.isEmpty) else aB
 |.tup l=>aA<|!l.isEmpty
 |.lst l=>aA<|!l.isEmpty
 |_=>aB
def o8(fl:ML):MB:=λr=>(fl r).map λl=>!l.isEmpty
def mQ(f:ME):MB:=λr=>(f r).bind GI
section
variable{X:Cx}{pos:Pos}{a b c:Expr}{f g:ME}
def aF(e:o.bind h=aA y):∃x,o=aA x/\h x=aA y:=by
 cases o with
 |none=>cases e
 |some x=>exact⟨x,rfl,e⟩
def Kx(h:PE X a t)(i:∀O0 σ H r d Q,R X.K O0 H r σ->f r=aA d->(∀v H',aC H H'->Is X.K (Ow O0 r σ) H' d v->Q v H')->t σ H Q):DE X a f:=
 PE.aH h λσ H Q ⟨O0,r,d,hR,e,q⟩=>i O0 σ H r d Q hR e q
def zA(i:Nat)(h:PE X (.Name x pos) (ZN i)):DE X (.Name x pos) (zE i):=
 Kx h λO0 σ H r d Q hR e q=>by
  unfold zE at e;have e':r[i]?=aA (.v d):=by
   split at e
   .rename_i d' h;cases e;exact h
   .cases e
  obtain⟨v,e1,q1⟩:=hR.val i d e';exact⟨v,e1,q v H (aC.refl H) q1⟩
def u2(i:Nat)(h:PE X (.Name x pos) (ZN i)):DB X (.Name x pos) (c5 i):=
 PE.aH h λσ H Q ⟨O0,r,l,hR,e,q⟩=>by
  obtain⟨a,xs,e1,e2,q1⟩:=hR.own i l e;exact⟨.ref a,e1,q a xs H (aC.refl H) (aN.of e2) q1⟩
def QR(h:PE X a (tC v))(hd:∀O H,Is X.K O H d v):DE X a (mC d):=
 Kx h λO0 σ H r d' Q hR e q=>by
  unfold mC at e;cases e;exact q v H (aC.refl H)<|hd _ _
def zI{i j}:DE X (.Constant (.int i) j pos) (mC<|.int i):=QR Li λO H=>by unfold Is;rfl
def CY{i j}:DE X (.Constant (.bool i) j pos) (mC<|.bl i):=QR Ki λO H=>by unfold Is;rfl
def mH{j}:DE X (.Constant .none j pos) (mC .aE):=QR Rl λO H=>by unfold Is;rfl
def y0{j}(e:x.cps.toList=s:=by rfl):DE X (.Constant (.str x) j pos) (mC<|.str s):=QR Rp λO H=>by
 unfold Is;subst e;simp
def e_(K:Fg)(r2:R2)(m:D->D->Option D):Prop:=∀(O:Addr->Prop) (H:Hp) (dx dy d:D) (vx vy:V) (Q:VK),cG O H->Is K O H dx vx->Is K O H dy vy->m dx dy=aA d->(∀v H',aC H H'->Is K O H' d v->Q v H')->r2 vx vy H Q
def two{ta tb:TE}{r2:R2}{m:D->D->Option D}(hd:e_ X.K r2 m){σ:St}{H:Hp}{Q:VK}(h:lE X.K (zJ m f g) σ H Q):C_ r2 (lE X.K f) (lE X.K g) σ H Q:=by
 obtain⟨O0,r,d,hR,e,q⟩:=h;obtain⟨x,e1,e⟩:=aF e;obtain⟨y,e2,e⟩:=aF e;refine⟨O0,r,x,hR,e1,λv1 H1 s1 i1=>⟨O0,r,y,hR.same s1,e2,λv2 H2 s2 i2=>?_⟩⟩;exact hd (Ow O0 r σ) H2 x y d v1 v2 Q (hR.same<|s1.trans s2).ol (i1.same s2 (hR.same s1).ol) i2 e λv H' s' i'=>q v H' ((s1.trans s2).trans s') i'
def zU{op:Operator}{r2:R2}{m:D->D->Option D}(ho:a9 X (binaryOp op) r2)(hd:e_ X.K r2 m)(ha:DE X a f)(hb:DE X b g):DE X (.BinOp a op b pos) (zJ m f g):=
 PE.aH (Kk ho ha hb) λσ H Q h=>two (ta:=lE X.K f) (tb:=lE X.K g) hd h
def PZ{op:CmpOp}{r2:R2}{m:D->D->Option D}(ho:a9 X (jc op) r2)(hd:e_ X.K r2 m)(ha:DE X a f)(hb:DE X b g)(hm:ki op b=false):DE X (.Compare a [op] [b] pos) (zJ m f g):=
 PE.aH (S4 ho ha hb hm) λσ H Q h=>two (ta:=lE X.K f) (tb:=lE X.K g) hd h
def xK{op:CmpOp}{r2:R2}{m:D->D->Option D}(ho:a9 X (jc op) r2)(hd:e_ X.K r2 m)(ha:DE X a f)(hb:DE X b g)(hm:ki op b=false):DT X (.Compare a [op] [b] pos) (aP<|zJ m f g):=by
 refine PT.aH (YA ho ha hb hm) λσ H Q h=>?_
 obtain⟨O0,r,k,hR,e,q⟩:=h;obtain⟨d,e1,e⟩:=aF e;refine two (ta:=lE X.K f) (tb:=lE X.K g) (m:=m) hd ⟨O0,r,d,hR,e1,λv H' s' i'=>?_⟩;cases d<;>first|cases e|skip
 rw[yG] at i';exact⟨_,i',q H' s'⟩
def K5{op}(h:DE X a f):DE X (.BoolOp op [a] pos) f:=Rn h
def K4{rest:List Expr}(ha:DE X a f)(hb:DE X (.BoolOp .And (b::rest) pos) g):DE X (.BoolOp .And (a::b::rest) pos) (Bf f g):=by
 refine PE.aH (Rh ha hb) λσ H Q h=>?_
 obtain⟨O0,r,d,hR,e,q⟩:=h;obtain⟨x,e1,e⟩:=aF e;refine⟨O0,r,x,hR,e1,λv1 H1 s1 i1=>?_⟩;cases x with
 |bl k=>
  rw[yG] at i1;refine⟨k,i1,?_⟩;cases k with
  |true=>
   rw[if_pos rfl];exact⟨O0,r,d,hR.same s1,e,λv H' s' i'=>q v H' (s1.trans s') i'⟩
  |false=>
   rw[if_neg bc];cases e;exact q _ H1 s1 (by rw[yG])
 |_=>cases e
def P5(ha:DE X a f):DE X (.UnaryOp .Not a pos) (aX Ju f):=by
 refine PE.aH (Rm ha) λσ H Q h=>?_
 obtain⟨O0,r,d,hR,e,q⟩:=h;obtain⟨x,e1,e⟩:=aF e;refine⟨O0,r,x,hR,e1,λv1 H1 s1 i1=>?_⟩;cases x with
 |bl k=>
  rw[yG] at i1;cases e;exact⟨k,i1,q _ H1 s1<|by rw[yG]⟩
 |_=>cases e
def cC(ha:DT X a tf):PW X (.BoolOp .And [a] pos) (lT X.K tf):=TR ha
def G3(ha:DT X a tf):PW X (.BoolOp .Or [a] pos) (lT X.K tf):=Se ha
def PW.aH(h:PW X e t)(i:∀σ H Q,t' σ H Q->t σ H Q):PW X e t':=λwh pZ s σ H Q I q=>h wh pZ s σ H Q I<|i σ H Q q
def pQ{rest:List Expr}(ha:DT X a tf)(hb:PW X (.BoolOp .And (b::rest) pos) (lT X.K tg)):PW X (.BoolOp .And (a::b::rest) pos) (lT X.K<|bN tf tg):=by
 refine PW.aH (Sd ha hb) λσ H Q h=>?_
 obtain⟨O0,r,d,hR,e,q⟩:=h;obtain⟨x,e1,e⟩:=aF e;refine⟨O0,r,x,hR,e1,λH1 s1=>?_⟩;cases x with
 |true=>
  rw[if_pos rfl];exact⟨O0,r,d,hR.same s1,e,λH' s'=>q H'<|s1.trans s'⟩
 |false=>
  rw[if_neg bc];cases e;exact q H1 s1
def EO{rest:List Expr}(ha:DT X a tf)(hb:PW X (.BoolOp .Or (b::rest) pos) (lT X.K tg)):PW X (.BoolOp .Or (a::b::rest) pos) (lT X.K<|sL tf tg):=by
 refine PW.aH (PQ ha hb) λσ H Q h=>?_
 obtain⟨O0,r,d,hR,e,q⟩:=h;obtain⟨x,e1,e⟩:=aF e;refine⟨O0,r,x,hR,e1,λH1 s1=>?_⟩;cases x with
 |true=>
  rw[if_pos rfl];cases e;exact q H1 s1
 |false=>
  rw[if_neg bc];exact⟨O0,r,d,hR.same s1,e,λH' s'=>q H'<|s1.trans s'⟩
def Ac(h:PW X a (lT X.K tf)):DT X a tf:=h.pt
def G2(ha:DT X a tf):DT X (.UnaryOp .Not a pos) (WU tf):=by
 refine PT.aH (Sc ha) λσ H Q h=>?_
 obtain⟨O0,r,d,hR,e,q⟩:=h;unfold WU at e;cases e1:tf r with
 |none=>rw[e1] at e;cases e
 |some k=>
  rw[e1] at e;cases e;exact⟨O0,r,k,hR,e1,λH1 s1=>q H1 s1⟩
def Ua{K:Fg}(h:Is K O H d v)(e:GI d=aA k):Gq K v H k:=by
 cases d with
 |aJ ks l=>cases e
 |aE=>rw[y9] at h;subst h;cases e;rfl
 |bl b=>rw[yG] at h;subst h;cases e;rfl
 |int i=>rw[zM] at h;subst h;cases e;rfl
 |str s=>
  rw[yC] at h;subst h;simp only[GI] at e;split at e
  .rename_i hl;cases e;refine⟨by simpa [vk] using hl,?_⟩;cases s with
   |nil=>rfl
   |cons c r=>
    have:((r.length:Int)+1)≠0:=by omega
    simpa [vk] using this
  .cases e
 |tup l=>
  rw[zX] at h;obtain⟨a,xs,rfl,hs,hl⟩:=h;cases e;refine .inr<|.inl ⟨xs,hs,?_⟩
  have:=hl.length
  cases l<;>cases xs<;>simp_all
 |lst l=>
  rw[zY] at h;obtain⟨a,xs,rfl,hs,hl⟩:=h;cases e;refine .inl ⟨xs,hs.sq,?_⟩
  have:=hl.length
  cases l<;>cases xs<;>simp_all
 |ty n=>cases e
 |ref a=>cases e
def bV(ha:DE X a f)(he:∀whole,isTrue a X.env whole=(do let v <- whole;standAt a.pos;holding [v] (truthy v)):=by intro _;rfl):DT X a (mQ f):=by
 refine PT.aH (Z9 ha he) λσ H Q h=>?_
 obtain⟨O0,r,d,hR,e,q⟩:=h;obtain⟨x,e1,e⟩:=aF e;exact⟨O0,r,x,hR,e1,λv1 H1 s1 i1=>⟨d,Ua i1 e,q H1 s1⟩⟩
def Mq(ha:DB X a fl)(he:∀whole,isTrue a X.env whole=(do let v <- whole;standAt a.pos;holding [v] (truthy v)):=by intro _;rfl):DT X a (o8 fl):=by
 refine PT.aH (Z9 ha he) λσ H Q h=>?_
 obtain⟨O0,r,d,hR,e,q⟩:=h;unfold o8 at e;cases e1:fl r with
 |none=>rw[e1] at e;cases e
 |some l=>
  rw[e1] at e;cases e;refine⟨O0,r,l,hR,e1,λa xs H1 s1 i1 i2=>⟨_,.inl ⟨xs,i1,?_⟩,q H1 s1⟩⟩
  have:=i2.length
  cases l<;>cases xs<;>simp_all
def zN:DA X [] zV:=PA.aH x8 λσ H Q ⟨O0,r,l,hR,e,q⟩=>by
 unfold zV at e;cases e;exact q [] H (aC.refl H) .nil
def zC(ha:DE X a f)(hr:DA X es fs)(hs:iF X a es:=by rfl):DA X (a::es) (zB f fs):=by
 refine PA.aH (yN ha hr hs) λσ H Q h=>?_
 obtain⟨O0,r,d,hR,e,q⟩:=h;obtain⟨x,e1,e⟩:=aF e;obtain⟨l,e2,e⟩:=aF e;cases e;exact⟨O0,r,x,hR,e1,λv1 H1 s1 i1=>⟨O0,r,l,hR.same s1,e2,λvs H2 s2 i2=>q _ H2 (s1.trans s2)<|.cons (i1.same s2 (hR.same s1).ol) i2⟩⟩
def zW(n:H p=aB):aC H (upd H p o):=λb u e=>by rw[zT<|xD e n];exact e
def xM{x1}(h:DA X es fs):DE X (.Tuple es x1 pos) (qQ fs):=by
 refine PE.aH (Hc h) λσ H Q h=>?_
 obtain⟨O0,r,d,hR,e,q⟩:=h;obtain⟨l,e1,e⟩:=aF e;split at e
 .rename_i hl;cases e;refine⟨O0,r,l,hR,e1,λvs H1 s1 i1=>⟨by rw[<-i1.length];exact hl,λp hp=>q _ _ (s1.trans<|zW hp) ?_⟩⟩;rw[zX];exact⟨p,vs,rfl,aM.of zR,i1.same (zW hp) (hR.same s1).ol⟩
 .cases e
def wL(h:DA X es fs):DF X (.List es pos) (xX fs):=by
 refine PE.aH (Rk h) λσ H Q h=>?_
 obtain⟨O0,r,l',hR,e,q⟩:=h;obtain⟨l,e1,e⟩:=aF e;split at e
 .rename_i hl;have e':l=l':=bv e;subst e';refine⟨O0,r,l,hR,e1,λvs H1 s1 i1=>⟨by rw[<-i1.length];exact hl,λp hp=>q _ _ _ (s1.trans<|zW hp) (s1.free hp) zR ?_⟩⟩;refine IsL.mono (aC.kp (zW hp) _) (hR.same s1).ol (λa z n=>?_) _ vs i1;rcases z with z|z
  .exact z
  .subst z;exact absurd hp n
 .cases e
def mT(h:DF X a fl):DE X a (qD fl):=by
 refine PE.aH h λσ H Q h=>?_
 obtain⟨O0,r,d,hR,e,q⟩:=h;unfold qD at e;cases e1:fl r with
 |none=>rw[e1] at e;cases e
 |some l=>
  rw[e1] at e;cases e;refine⟨O0,r,l,hR,e1,λp xs H1 s1 n1 e2 i1=>q _ H1 s1 ?_⟩;rw[zY];have ol:cG (λb=>Ow O0 r σ b\/b=p) H1:=λb z=>z.elim (λz=>(hR.same s1).ol b z) λz=>by subst z;exact⟨.lst xs,e2,trivial⟩
  exact⟨p,xs,rfl,.inl ⟨hR.AL n1,.inl e2⟩,IsL.mono (aC.kp (aC.refl H1) _) ol (λa z _=>.inl z) l xs i1⟩
def Bb(h:DE X a f):DB X a (XV f):=by
 refine PE.aH h λσ H Q h=>?_
 obtain⟨O0,r,l,hR,e,q⟩:=h;obtain⟨d,e1,e⟩:=aF e;refine⟨O0,r,d,hR,e1,λv H1 s1 i1=>?_⟩;cases d with
 |lst l'=>
  cases e;rw[zY] at i1;obtain⟨p,xs,rfl,rd,il⟩:=i1;exact q p xs H1 s1 rd.sq il
 |_=>cases e
end
def xV:MS:=λr=>aA<|.nx r
def yO(g h:MS):MS:=λr=>(g r).bind λfl=>match fl with
 |.nx r'=>h r'
 |x=>aA x
def yV(i:Nat)(d:D)(r:En):Option En:=match r[i]? with
 |some (.p _)=>aB
 |some (.z _)=>aB
 |some (.d true _ _)=>aB
 |some _=>aA<|r.set i<|.v d
 |none=>aB
def GH(i:Nat)(l:List D)(r:En):Option En:=match r[i]? with
 |some (.p _)=>aB
 |some (.z _)=>aB
 |some (.d true _ _)=>aB
 |some _=>aA<|r.set i<|.o l
 |none=>aB
def qP(i:Nat)(f:ME):MS:=λr=>(f r).bind λd=>(yV i d r).map .nx
def lC(i:Nat)(f:ML):MS:=λr=>(f r).bind λl=>(GH i l r).map .nx
def kM(f:ME):MS:=λr=>(f r).map λd=>.rt d r
def gE(i:Nat):MS:=λr=>match r[i]? with
 |some (.o l)=>aA<|.rf l r
 |_=>aB
def aU(c:MB)(g h:MS):MS:=λr=>(c r).bind λb=>if b=true then g r else h r
def sX(f:En->Option (D×En)):MS:=λr=>(f r).map λp=>.nx p.2
def kH(i:Nat)(f:En->Option (D×En)):MS:=λr=>(f r).bind λp=>(yV i p.1 p.2).map .nx
def jB:Nat->MB->MS->MS
 |0,_,_=>λ_=>aB
 |n+1,c,g=>λr=>(c r).bind λb=>if b=true then (g r).bind λfl=>match fl with
   |.nx r'=>jB n c g r'
   |.ct r'=>jB n c g r'
   |.bk r'=>aA<|.nx r'
   |x=>aA x
  else aA<|.nx r
def bH(bd:D->En->Option En)(g:MS):List D->MS
 |[],r=>aA<|.nx r
 |d::l,r=>(bd d r).bind λr1=>(g r1).bind λfl=>match fl with
   |.nx r'=>bH bd g l r'
   |.ct r'=>bH bd g l r'
   |.bk r'=>aA<|.nx r'
   |x=>aA x
def k9(bd:D->En->Option En)(it:ML)(g:MS):MS:=λr=>(it r).bind λl=>bH bd g l r
def zG{α:Type}{l:List α}{i j:Nat}{x:α}(h:i≠j):(l.set i x)[j]?=l[j]?:=by rw[List.getElem?_set];simp[h]
def zQ{α:Type}{l:List α}{i:Nat}{x:α}(h:i<l.length):(l.set i x)[i]?=aA x:=by rw[List.getElem?_set];simp[h]
section
variable{K:Fg}{O0:Addr->Prop}{H H1:Hp}{r:En}{σ:St}{i:Nat}{d:D}{v:V}
def m8{q:Sl->Option (List D)}(hq:∀d,q (.v d)=aB){a:Addr}{x:Option V}(h:i8 q (r.set i<|.v d) (σ.set i x) a):i8 q r σ a:=by
 obtain⟨j,l,e,q'⟩:=h;by_cases hj:i=j
 .subst hj;by_cases hl:i<r.length
  .rw[zQ hl] at e;have e':q (.v d)=aA l:=e;rw[hq] at e';cases e'
  .rw[ji<|by simpa using hl] at e;cases e
 .rw[zG hj] at e q';exact⟨j,l,e,q'⟩
def R.Dd(h:R K O0 H r σ)(hi:i<r.length)(np:∀l,(r[i]?).bind Sl.pk=aB/\r[i]?≠aA (.z l))(hv:Is K (Ow O0 r σ) H d v):R K O0 H (r.set i<|.v d) (σ.set i<|some v)/\Kp H r σ H (r.set i<|.v d) (σ.set i<|some v):=by
 have sV:i<σ.length:=by rw[<-h.len];exact hi
 have sub:∀a,Ow O0 (r.set i<|.v d) (σ.set i<|some v) a->H a≠aB->Ow O0 r σ a:=λa z _=>z.elim .inl λz=>.inr<|m8 (λ_=>rfl) z
 have ne:∀(j:Nat) (l:List D),((r.set i<|.v d)[j]?).bind Sl.own=aA l->i≠j:=λj l e z=>by subst z;rw[zQ hi] at e;cases e
 refine⟨⟨by simp[h.len],λj d' e=>?_,λj l e=>?_,λj k a l m e1 e2 q1 q2=>?_,h.o0,λj l a e q=>?_,λj l a e q=>?_,λj f ks l e=>?_,λj ks e=>?_⟩,⟨λb o e _=>e,λb e=>e,λb o e m=>⟨o,e,m⟩,λb z=>.inl<|m8 (λ_=>rfl) z,λb z=>.inl<|m8 (λ_=>rfl) z,λj l e=>?_,λj l e=>?_⟩⟩
 .by_cases hj:i=j
  .subst hj;rw[zQ hi] at e;cases e;exact⟨v,zQ sV,Is.mono (aC.kp (aC.refl H) _) h.ol sub _ _ hv⟩
  .rw[zG hj] at e;obtain⟨u,e1,q⟩:=h.val j d' e;exact⟨u,by rw[zG hj];exact e1,Is.mono (aC.kp (aC.refl H) _) h.ol sub _ _ q⟩
 .have hj:=ne j l<|uR e;rw[zG hj] at e;obtain⟨a,xs,e1,e2,q⟩:=h.own j l e;exact⟨a,xs,by rw[zG hj];exact e1,e2,IsL.mono (aC.kp (aC.refl H) _) h.ol sub _ _ q⟩
 .have hj:=ne j l e1;have hk:=ne k m e2;rw[zG hj] at e1 q1;rw[zG hk] at e2 q2;exact h.apart j k a l m e1 e2 q1 q2
 .have hj:i≠j:=ne j l (by rcases e with e|e|⟨ks,e⟩<;>rw[e]<;>rfl);rw[zG hj] at e q;exact h.loc j l a e q
 .have hj:i≠j:=ne j _ (cU e).choose_spec;rw[zG hj] at e q;exact h.par j l a e q
 .have hj:=ne j l (by rw[e];rfl);rw[zG hj] at e;obtain⟨a,kvs,e1,e2,e3,q⟩:=h.aJ j f ks l e;exact⟨a,kvs,by rw[zG hj];exact e1,e2,e3,IsL.mono (aC.kp (aC.refl H) _) h.ol sub _ _ q⟩
 .have hj:=ne j [] (by rw[e];rfl);rw[zG hj] at e;obtain⟨a,e1,e2⟩:=h.iK j ks e;exact⟨a,by rw[zG hj];exact e1,e2⟩
 .have hj:i≠j:=λz=>by subst z;rw[(np []).1] at e;cases e
  exact⟨by rw[zG hj];exact e,zG hj⟩
 .have hj:i≠j:=λz=>by subst z;exact(np l).2 e
  exact⟨by rw[zG hj];exact e,zG hj⟩
def R.setG{y:Sl}{o':HO}{p:Addr}(h:R K O0 H r σ)(s:aC H H1)(n:H p=aB)(e:H1 p=aA o')(mb:Mb o')(yv:∀d,y≠.v d)(yl:∀m,y.ls=aA m->∃xs,o'=.lst xs/\IsL K (λb=>Ow O0 r σ b\/b=p) H1 m xs)(yk:y.pk=aB)(yd:∀f ks m,y=.d f ks m->∃kvs,o'=.dK kvs/\kvs.map (·.1)=ks/\IsL K (λb=>Ow O0 r σ b\/b=p) H1 m (kvs.map (·.2)))(yt:∀ks,y=.t ks->o'=.dT (ks.map λk=>(k,.bl true)))(hi:i<r.length)(np:∀l,(r[i]?).bind Sl.pk=aB/\r[i]?≠aA (.z l)):R K O0 H1 (r.set i y) (σ.set i<|some<|.ref p)/\Kp H r σ H1 (r.set i y) (σ.set i<|some<|.ref p):=by
 have sV:i<σ.length:=by rw[<-h.len];exact hi
 have ow:∀{q:Sl->Option (List D)} a,i8 q (r.set i y) (σ.set i<|some<|.ref p) a->i8 q r σ a\/a=p:=λ{q} a z=>by
  obtain⟨j,m,e1,q1⟩:=z;by_cases hj:i=j
  .subst hj;rw[zQ sV] at q1;cases q1;exact .inr rfl
  .rw[zG hj] at e1 q1;exact .inl ⟨j,m,e1,q1⟩
 have sub:∀a,Ow O0 (r.set i y) (σ.set i<|some<|.ref p) a->H a≠aB->Ow O0 r σ a:=λa z nn=>z.elim .inl λz=>(ow a z).elim .inr λz=>by subst z;exact absurd n nn
 have DC:cG (λb=>Ow O0 r σ b\/b=p) H1:=λb z=>z.elim (λz=>(h.same s).ol b z) λz=>by subst z;exact⟨_,e,mb⟩
 have new:∀{m xs},IsL K (λb=>Ow O0 r σ b\/b=p) H1 m xs->IsL K (Ow O0 (r.set i y)<|σ.set i<|some<|.ref p) H1 m xs:=λhl=>IsL.mono (aC.kp (aC.refl H1) _) DC (λa z _=>z.elim (λz=>.inl<|.inl z) λz=>(ow a z).imp .inr id) _ _ hl
 have par:∀(j:Nat) (k:Bool),(r[j]?).bind Sl.pk=aA k->i≠j:=λj k e1 z=>by subst z;rw[(np []).1] at e1;cases e1
 have par':∀(j:Nat) (k:Bool),((r.set i y)[j]?).bind Sl.pk=aA k->i≠j:=λj k e1 z=>by
  subst z;rw[zQ hi] at e1;cases yk.symm.trans e1
 refine⟨⟨by simp[h.len],λj d' e1=>?_,λj m e1=>?_,λj k a l1 m e1 e2 q1 q2=>?_,(h.same s).o0,λj m a e1 q=>?_,λj m a e1 q=>?_,λj f ks m e1=>?_,λj ks e1=>?_⟩,⟨λb o e1 _=>s b o e1,λb e1=>s.free e1,λb o e1 mb=>⟨o,s _ _ e1,mb⟩,λb z=>(ow b z).imp id λz=>by subst z;exact n,λb z=>(ow b z).imp id λz=>by subst z;exact n,λj m e1=>?_,λj m e1=>?_⟩⟩
 .have hj:i≠j:=λz=>by subst z;rw[zQ hi] at e1;exact yv d'<|bv e1
  rw[zG hj] at e1;obtain⟨u,e2,q⟩:=h.val j d' e1;exact⟨u,by rw[zG hj];exact e2,Is.mono (aC.kp s _) h.ol sub _ _ q⟩
 .by_cases hj:i=j
  .subst hj;rw[zQ hi] at e1;obtain⟨xs,rfl,hl⟩:=yl m e1;exact⟨p,xs,zQ sV,e,new hl⟩
  .rw[zG hj] at e1;obtain⟨a,ys,e2,e3,q⟩:=h.own j m e1;exact⟨a,ys,by rw[zG hj];exact e2,s _ _ e3,IsL.mono (aC.kp s _) h.ol sub _ _ q⟩
 .have out:∀(j:Nat) (m:List D) (a:Addr),i≠j->((r.set i y)[j]?).bind Sl.own=aA m->(σ.set i<|some<|.ref p)[j]?=aA (aA<|.ref a)->a≠p:=λj m a hj e1 q1 z=>by
   rw[zG hj] at e1 q1;obtain⟨b,ys,e2,e3,_⟩:=h.obj e1;rw[q1] at e2;cases e2;subst z;rw[n] at e3;cases e3
  by_cases hj:i=j
  .by_cases hk:i=k
   .exact hj.symm.trans hk
   .subst hj;rw[zQ sV] at q1;cases q1;exact absurd rfl<|out k m p hk e2 q2
  .by_cases hk:i=k
   .subst hk;rw[zQ sV] at q2;cases q2;exact absurd rfl<|out j l1 p hj e1 q1
   .rw[zG hj] at e1 q1;rw[zG hk] at e2 q2;exact h.apart j k a l1 m e1 e2 q1 q2
 .by_cases hj:i=j
  .subst hj;rw[zQ sV] at q;cases q;exact λz=>by obtain⟨ys,e3,_⟩:=h.o0 p z;rw[n] at e3;cases e3
  .rw[zG hj] at e1 q;exact h.loc j m a e1 q
 .have hj:=par' j m e1;rw[zG hj] at e1 q;exact h.par j m a e1 q
 .by_cases hj:i=j
  .subst hj;rw[zQ hi] at e1;obtain⟨kvs,rfl,hk,hl⟩:=yd f ks m<|bv e1;exact⟨p,kvs,zQ sV,e,hk,new hl⟩
  .rw[zG hj] at e1;obtain⟨a,kvs,e2,e3,e4,q⟩:=h.aJ j f ks m e1;exact⟨a,kvs,by rw[zG hj];exact e2,s _ _ e3,e4,IsL.mono (aC.kp s _) h.ol sub _ _ q⟩
 .by_cases hj:i=j
  .subst hj;rw[zQ hi] at e1;exact⟨p,zQ sV,e.trans<|congrArg _<|yt ks<|bv e1⟩
  .rw[zG hj] at e1;obtain⟨a,e2,e3⟩:=h.iK j ks e1;exact⟨a,by rw[zG hj];exact e2,s _ _ e3⟩
 .have hj:=par j m e1;exact⟨by rw[zG hj];exact e1,zG hj⟩
 .have hj:i≠j:=λz=>by subst z;exact(np m).2 e1
  exact⟨by rw[zG hj];exact e1,zG hj⟩
def R.Vt{l:List D}{xs:List V}{p:Addr}(h:R K O0 H r σ)(s:aC H H1)(n:H p=aB)(e:H1 p=aA (.lst xs))(hl:IsL K (λb=>Ow O0 r σ b\/b=p) H1 l xs)(hi:i<r.length)(np:∀l,(r[i]?).bind Sl.pk=aB/\r[i]?≠aA (.z l)):R K O0 H1 (r.set i<|.o l) (σ.set i<|some<|.ref p)/\Kp H r σ H1 (r.set i<|.o l) (σ.set i<|some<|.ref p):=
 h.setG s n e trivial (λ_ z=>by cases z) (λm z=>by cases z;exact⟨_,rfl,hl⟩) rfl (λ_ _ _ z=>by cases z) (λ_ z=>by cases z) hi np
def kQ{r':En}(e:yV i d r=aA r'):i<r.length/\(∀l,(r[i]?).bind Sl.pk=aB/\r[i]?≠aA (.z l))/\r'=r.set i (.v d):=by
 unfold yV at e;cases e1:r[i]? with
 |none=>rw[e1] at e;cases e
 |some x=>
  have hi:i<r.length:=(ba.mp e1).1;rw[e1] at e;cases x with
  |p l=>cases e
  |z l=>cases e
  |d f ks l=>cases f<;>first|(cases e;done)|(cases e;exact⟨hi,λl=>⟨rfl,(λz=>by cases z)⟩,rfl⟩)
  |_=>cases e;exact⟨hi,λl=>⟨rfl,(λz=>by cases z)⟩,rfl⟩
def X9{r':En}{l:List D}(e:GH i l r=aA r'):i<r.length/\(∀l,(r[i]?).bind Sl.pk=aB/\r[i]?≠aA (.z l))/\r'=r.set i (.o l):=by
 unfold GH at e;cases e1:r[i]? with
 |none=>rw[e1] at e;cases e
 |some x=>
  have hi:i<r.length:=(ba.mp e1).1;rw[e1] at e;cases x with
  |p l=>cases e
  |z l=>cases e
  |d f ks l=>cases f<;>first|(cases e;done)|(cases e;exact⟨hi,λl=>⟨rfl,(λz=>by cases z)⟩,rfl⟩)
  |_=>cases e;exact⟨hi,λl=>⟨rfl,(λz=>by cases z)⟩,rfl⟩
def aT{α β:Type}{o:Option α}{h:α->β}{y:β}(e:o.map h=aA y):∃x,o=aA x/\h x=y:=by
 cases o with
 |none=>cases e
 |some x=>exact⟨x,rfl,bv e⟩
def Is.less{O:Addr->Prop}(h:R K O0 H r σ)(hi:Is K (Ow O0 r σ) H1 d v)(s:aC H H1):Is K O0 H1 d v:=Is.mono (aC.kp (aC.refl H1) _) (h.same s).ol (λ_ z _=>.inl z) _ _ hi
end
section
variable{X:Cx}{pos:Pos}{e:Expr}{f:ME}{fl:ML}{g h:MS}{st:Stmt}{rest:List Stmt}
def xW:lR X [] xV:=fI.aH Ti λDn σ H ⟨O0,r,f',hR,e,q⟩=>by
 unfold xV at e;cases e;exact q σ H hR<|Kp.refl H r σ
def zK(h1:DS X st g)(h2:lR X rest h):lR X (st::rest) (yO g h):=by
 refine fI.aH (UY h1 h2) λDn σ H hq=>?_
 obtain⟨O0,r,fl,hR,e,q⟩:=hq;obtain⟨f1,e1,e2⟩:=aF e;cases f1 with
 |nx r1=>exact⟨O0,r,.nx r1,hR,e1,λσ' H' R' k=>⟨O0,r1,fl,R',e2,q.before R' k⟩⟩
 |bk r1=>cases e2;exact⟨O0,r,_,hR,e1,q⟩
 |ct r1=>cases e2;exact⟨O0,r,_,hR,e1,q⟩
 |rt d r1=>cases e2;exact⟨O0,r,_,hR,e1,q⟩
 |rf l r1=>cases e2;exact⟨O0,r,_,hR,e1,q⟩
 |rg ks l r1=>cases e2;exact⟨O0,r,_,hR,e1,q⟩
def zS(h1:DS X st g):lR X [st] g:=Tj h1
def y8(i:Nat){x:Str}{pos':Pos}(he:DE X e f)(hN:X.N.Nodup)(hi:X.N[i]?=aA x:=by rfl)(hx:Loc X.env.scope x:=by first|exact Or.inl rfl|exact Or.inr rfl)(hs:kq e (aA<|.Name x pos') pos.line X.env=pure false:=by rfl)(hf:iQ X x:=by first|exact .inl rfl|exact .inr rfl):DS X (.Assign [.Name x pos'] e pos) (qP i f):=by
 refine PS.aH (tG hN hi hx he hs hf) λDn σ H hq=>?_
 obtain⟨O0,r,fl,hR,e,q⟩:=hq;obtain⟨d,e1,e2⟩:=aF e;obtain⟨r',e3,rfl⟩:=aT e2;obtain⟨hl,np,rfl⟩:=kQ e3;refine⟨O0,r,d,hR,e1,λv H1 s1 i1=>?_⟩;obtain⟨R1,k1⟩:=(hR.same s1).Dd hl np i1;exact q _ H1 R1<|(Kp.of_same r σ s1).trans k1
def vY(i:Nat){x:Str}{pos':Pos}(he:DF X e fl)(hN:X.N.Nodup)(hi:X.N[i]?=aA x:=by rfl)(hx:Loc X.env.scope x:=by first|exact Or.inl rfl|exact Or.inr rfl)(hs:kq e (aA<|.Name x pos') pos.line X.env=pure false:=by rfl)(hf:iQ X x:=by first|exact .inl rfl|exact .inr rfl):DS X (.Assign [.Name x pos'] e pos) (lC i fl):=by
 refine PS.aH (tG hN hi hx he hs hf) λDn σ H hq=>?_
 obtain⟨O0,r,sF,hR,e,q⟩:=hq;obtain⟨l,e1,e2⟩:=aF e;obtain⟨r',e4,rfl⟩:=aT e2;obtain⟨hl,np,rfl⟩:=X9 e4;refine⟨O0,r,l,hR,e1,λp xs H1 s1 n1 e3 i1=>?_⟩;obtain⟨R1,k1⟩:=hR.Vt s1 n1 e3 i1 hl np;exact q _ H1 R1 k1
def yX(he:DE X e f):DS X (.Return (aA e) pos) (kM f):=by
 refine PS.aH (Hd he) λDn σ H hq=>?_
 obtain⟨O0,r,fl,hR,e,q⟩:=hq;obtain⟨d,e1,rfl⟩:=aT e;exact⟨O0,r,d,hR,e1,λv H1 s1 i1=>q v σ H1 (hR.same s1) (Kp.of_same r σ s1)<|Is.less (O:=O0) hR i1 s1⟩
def dW(i:Nat){x:Str}{pos':Pos}(h:PE X (.Name x pos') (ZN i)):DS X (.Return (aA<|.Name x pos') pos) (gE i):=by
 refine PS.aH (Hd h) λDn σ H hq=>?_
 obtain⟨O0,r,sF,hR,e,q⟩:=hq;unfold gE at e;have⟨l,e1,e2⟩:∃l,r[i]?=aA (.o l)/\sF=.rf l r:=by
  split at e
  .rename_i l h;cases e;exact⟨l,h,rfl⟩
  .cases e
 subst e2;obtain⟨a,xs,q1,q2,q3⟩:=hR.own i l (by rw[e1];rfl);refine⟨.ref a,q1,q a xs σ H hR (Kp.refl H r σ) (.inr ⟨i,l,.inl e1,q1⟩) (hR.loc i l a (.inl e1) q1) q2 ?_⟩;exact IsL.mono (aC.kp (aC.refl H) _) hR.ol (λb z _=>z.elim .inl λz=>by subst z;exact .inr ⟨i,l,by rw[e1];rfl,q1⟩) _ _ q3
def w8{c:Expr}{sa sb:List Stmt}{tc:MB}(hc:DT X c tc)(ha:lR X sa g)(hb:lR X sb h):DS X (.If c sa sb pos) (aU tc g h):=by
 refine PS.aH (PM hc ha hb) λDn σ H hq=>?_
 obtain⟨O0,r,sF,hR,e,q⟩:=hq;obtain⟨k,e1,e2⟩:=aF e;refine⟨O0,r,k,hR,e1,λH1 s1=>?_⟩;have R1:=hR.same s1;have q1:=lQ.before R1 (Kp.of_same r σ s1) q;cases k with
 |true=>rw[if_pos rfl] at e2;exact Gv ⟨O0,r,sF,R1,e2,q1⟩
 |false=>rw[if_neg bc] at e2;exact Gu ⟨O0,r,sF,R1,e2,q1⟩
def pS{fx:En->Option (D×En)}(he:DX X e fx)(hs:kq e aB pos.line X.env=pure false:=by rfl):DS X (.Expr e pos) (sX fx):=by
 refine PS.aH (Th he hs) λDn σ H hq=>?_
 obtain⟨O0,r,sF,hR,e,q⟩:=hq;obtain⟨⟨d,r'⟩,e1,rfl⟩:=aT e;exact⟨O0,r,d,r',hR,e1,λv H1 R1 k1 i1=>q σ H1 R1 k1⟩
def gU(i:Nat){x:Str}{pos':Pos}{fx:En->Option (D×En)}(he:DX X e fx)(hN:X.N.Nodup)(hi:X.N[i]?=aA x:=by rfl)(hx:Loc X.env.scope x:=by first|exact Or.inl rfl|exact Or.inr rfl)(hs:kq e (aA<|.Name x pos') pos.line X.env=pure false:=by rfl)(hf:iQ X x:=by first|exact .inl rfl|exact .inr rfl):DS X (.Assign [.Name x pos'] e pos) (kH i fx):=by
 refine PS.aH (tG hN hi hx he hs hf) λDn σ H hq=>?_
 obtain⟨O0,r,fl,hR,e,q⟩:=hq;obtain⟨⟨d,r1⟩,e1,e2⟩:=aF e;obtain⟨r',e3,rfl⟩:=aT e2;obtain⟨hl,np,rfl⟩:=kQ e3;refine⟨O0,r,d,r1,hR,e1,λv H1 R1 k1 i1=>?_⟩;obtain⟨R2,k2⟩:=R1.Dd hl np i1;exact q _ H1 R2<|k1.trans k2
def nJ(n:Nat){c:Expr}{body:List Stmt}{tc:MB}(hp:PassesOwn (model X.prog X.w) X.A X.env X.xe)(hc:DT X c tc)(hb:lR X body g):DS X (.While c body [] pos) (jB n tc g):=by
 refine PS.aH (UJ hp hc hb) λDn σ H hq=>?_
 obtain⟨O0,r,fl,hR,e,q⟩:=hq;refine⟨λm σ1 H1=>∃r1,R X.K O0 H1 r1 σ1/\Kp H r σ H1 r1 σ1/\jB m tc g r1=aA fl,⟨n,r,hR,Kp.refl H r σ,e⟩,?_⟩;rintro m σ1 H1 ⟨r1,R1,k1,e1⟩;cases m with
 |zero=>cases e1
 |succ m=>
  obtain⟨b,e2,e3⟩:=aF e1;refine⟨O0,r1,b,R1,e2,λH2 s2=>?_⟩;have R2:=R1.same s2;have k2:=k1.trans<|Kp.of_same r1 σ1 s2;cases b with
  |false=>
   rw[if_neg bc] at e3;cases e3;exact Gu<|q σ1 H2 R2 k2
  |true=>
   rw[if_pos rfl] at e3;obtain⟨f1,e4,e5⟩:=aF e3;refine Gv ⟨λσ3 H3=>∃r3,R X.K O0 H3 r3 σ3/\Kp H r σ H3 r3 σ3/\jB m tc g r3=aA fl,λσ3 H3 z=>⟨m,yp m,z⟩,O0,r1,f1,R2,e4,?_⟩;cases f1 with
   |nx r3=>exact λσ3 H3 R3 k3=>⟨r3,R3,k2.trans k3,e5⟩
   |ct r3=>exact λσ3 H3 R3 k3=>⟨r3,R3,k2.trans k3,e5⟩
   |bk r3=>cases e5;exact λσ3 H3 R3 k3=>q σ3 H3 R3<|k2.trans k3
   |rt d r3=>cases e5;exact lQ.before R2 k2 q
   |rf l r3=>cases e5;exact lQ.before R2 k2 q
   |rg ks l r3=>cases e5;exact lQ.before R2 k2 q
end
def lG(K:Fg)(bd:D->En->Option En):TG:=λv σ H Q=>∃O0 r d r',R K O0 H r σ/\Is K (Ow O0 r σ) H d v/\bd d r=aA r'/\∀σ',R K O0 H r' σ'->Kp H r σ H r' σ'->Q σ' H
def DG(X:Cx)(tg:Expr)(bd:D->En->Option En):Prop:=PG X tg<|lG X.K bd
def BZ(K:Fg)(O M:Addr->Prop)(H0:Hp)(J:It)(l:List D):Prop:=∀(i:Nat) (H:Hp) (O':Addr->Prop),d7 M H0 H->(∀a,O' a->H0 a≠aB->O a) ->
 (i<l.length->J.go i H/\∀x H',J.C7 i H x H'->aC H H'/\∀d,l[i]?=aA d->Is K O' H' d x)/\(i=l.length->J.stop i H)
def lI(K:Fg)(it:ML):TI:=λσ H Rr=>∃O0 r l,R K O0 H r σ/\it r=aA l/\∀J H',aC H H'->BZ K (Ow O0 r σ) (g_ r σ) H' J l->Rr J H'
def DI(X:Cx)(tg iter:Expr)(it:ML):Prop:=PI X tg iter<|lI X.K it
def PG.aH{X:Cx}{e:Expr}{t t':TG}(h:PG X e t)(i:∀v σ H Q,t' v σ H Q->t v σ H Q):PG X e t':=λpZ s σ H v u Q I r q=>h pZ s σ H v u Q I r<|i v σ H Q q
def PI.aH{X:Cx}{tg e:Expr}{t t':TI}(h:PI X tg e t)(i:∀σ H Q,t' σ H Q->t σ H Q):PI X tg e t':=λpZ s σ H Q I q=>h pZ s σ H Q I<|i σ H Q q
def dX{α:Type}{l:List α}{i:Nat}{d:α}(h:l[i]?=aA d):l.drop i=d::l.drop (i+1):=by
 obtain⟨lt,eq⟩:=ba.mp h;rw[<-eq,aaf lt]
section
variable{X:Cx}{pos:Pos}{tg iter:Expr}{bd:D->En->Option En}{it:ML}{g:MS}{body:List Stmt}
def j9(hp:PassesOwn (model X.prog X.w) X.A X.env X.xe)(hc:X.calm=true)(hi:DI X tg iter it)(hg:DG X tg bd)(hb:lR X body g)(hs:∀x,jy iter X.env x=pure x:=by intro _;rfl):DS X (.For tg iter body [] pos) (k9 bd it g):=by
 refine PS.aH (Sa hp hc hi hg hb hs) λDn σ H hq=>?_
 obtain⟨O0,r,fl,hR,e,q⟩:=hq;obtain⟨l,e1,e2⟩:=aF e;refine⟨O0,r,l,hR,e1,λJ H0 s0 yl=>?_⟩;have R0:=hR.same s0;refine⟨λi m σ1 H1=>m=l.length-i/\i<=l.length/\∃r1,R X.K O0 H1 r1 σ1/\Kp H0 r σ H1 r1 σ1/\bH bd g (l.drop i) r1=aA fl,⟨l.length,by simp,bu _,r,R0,Kp.refl H0 r σ,by simpa using e2⟩,?_⟩;rintro i m σ1 H1 ⟨rfl,BB,r1,R1,k1,e3⟩;have k0:=(Kp.of_same r σ s0).trans k1;obtain⟨y1,y2⟩:=yl i H1 (Ow O0 r1 σ1) k1.keep λa z n=>z.elim .inl λz=>(k1.new a z).elim .inr λz=>absurd z n
 by_cases eF:i<l.length
 .obtain⟨go,yd⟩:=y1 eF;have hd:l[i]?=aA l[i]:=by simp[eF]
  rw[dX hd] at e3;obtain⟨r2,e4,e5⟩:=aF e3;obtain⟨f1,e6,e7⟩:=aF e5;refine .inr ⟨go,λσ3 H3=>∃r3,R X.K O0 H3 r3 σ3/\Kp H0 r σ H3 r3 σ3/\bH bd g (l.drop<|i+1) r3=aA fl,λσ3 H3 z=>⟨l.length-(i+1),by omega,rfl,eF,z⟩,λx H2 yx=>?_⟩;obtain⟨s2,ix⟩:=yd x H2 yx;have R2:=R1.same s2;refine⟨O0,r1,l[i],r2,R2,ix _ hd,e4,λσ2 Gb k2=>⟨O0,r2,f1,Gb,e6,?_⟩⟩;have k3:=(k1.trans<|Kp.of_same r1 σ1 s2).trans k2;have k4:=(k0.trans<|Kp.of_same r1 σ1 s2).trans k2;cases f1 with
  |nx r3=>exact λσ3 H3 R3 kk=>⟨r3,R3,k3.trans kk,e7⟩
  |ct r3=>exact λσ3 H3 R3 kk=>⟨r3,R3,k3.trans kk,e7⟩
  |bk r3=>cases e7;exact λσ3 H3 R3 kk=>q σ3 H3 R3<|k4.trans kk
  |rt d r3=>cases e7;exact lQ.before Gb k4 q
  |rf l' r3=>cases e7;exact lQ.before Gb k4 q
  |rg ks l' r3=>cases e7;exact lQ.before Gb k4 q
 .have hl:l.drop i=[]:=vq (by omega);rw[hl] at e3;cases e3;exact .inl ⟨y2<|by omega,q σ1 H1 R1 k0⟩
def yQ(i:Nat){x:Str}(hN:X.N.Nodup)(hi:X.N[i]?=aA x:=by rfl)(hx:Loc X.env.scope x:=by first|exact Or.inl rfl|exact Or.inr rfl)(hf:iQ X x:=by first|exact .inl rfl|exact .inr rfl):DG X (.Name x pos) (yV i):=by
 refine PG.aH (S9 hN hi hx hf) λv σ H Q h=>?_
 obtain⟨O0,r,d,r',hR,iv,e,q⟩:=h;obtain⟨hl,np,rfl⟩:=kQ e;obtain⟨R1,k1⟩:=hR.Dd hl np iv;exact q _ R1 k1
def qL:List D->En->Option En:=λl r=>if l.isEmpty then aA r else aB
def yH(b:D->En->Option En)(bs:List D->En->Option En):List D->En->Option En:=λl r=>match l with
 |[]=>aB
 |d::t=>(b d r).bind λr1=>bs t r1
def V9(K:Fg)(bs:List D->En->Option En):BN:=λvs σ H Q=>∃O0 r l r',R K O0 H r σ/\IsL K (Ow O0 r σ) H l vs/\bs l r=aA r'/\∀σ',R K O0 H r' σ'->Kp H r σ H r' σ'->Q σ' H
def Gi(X:Cx)(ts:List Expr)(bs:List D->En->Option En):Prop:=sH X ts<|V9 X.K bs
def sH.aH{e:List Expr}{t t':BN}(h:sH X e t)(i:∀v σ H Q,t' v σ H Q->t v σ H Q):sH X e t':=λpZ s σ H v u Q I r q=>h pZ s σ H v u Q I r<|i v σ H Q q
def vP:Gi X [] qL:=by
 refine sH.aH S_ λvs σ H Q h=>?_
 obtain⟨O0,r,l,r',hR,il,e,q⟩:=h;unfold qL at e;cases l with
 |nil=>
  unfold IsL at il;cases e;exact⟨il,q σ hR<|Kp.refl H r σ⟩
 |cons d l=>cases e
def xL{e:Expr}{es:List Expr}{bs:List D->En->Option En}(h1:DG X e bd)(h2:Gi X es bs)(hs:(md (e::es) X.env).map (·.2)=assign e X.env::(md es X.env).map (·.2):=by rfl):Gi X (e::es) (yH bd bs):=by
 refine sH.aH (UH h1 h2 hs) λvs σ H Q h=>?_
 obtain⟨O0,r,l,r',hR,il,e,q⟩:=h;cases l with
 |nil=>cases e
 |cons d t=>
  unfold IsL at il;obtain⟨v,us,rfl,i1,i2⟩:=il;obtain⟨r1,e1,e2⟩:=aF e;refine⟨v,us,rfl,O0,r,d,r1,hR,i1,e1,λσ1 R1 k1=>⟨O0,r1,t,r',R1,?_,e2,λσ2 R2 k2=>q σ2 R2<|k1.trans k2⟩⟩;exact IsL.mono (aC.kp (aC.refl H) _) hR.ol (λa z n=>z.elim .inl λz=>(k1.new a z).elim .inr λz=>absurd z n) _ _ i2
end
end DD
namespace L2
open PySem PySem.Spec PyProof.Rows
section
variable[DecidableEq κ]
noncomputable def iS(kvs:List (κ×V))(k:κ):Option V:=(kvs.find? λkv=>decide (kv.1=k)).map (·.2)
noncomputable def uF(kvs:List (κ×V))(k:κ)(v:V):List (κ×V):=
 if (kvs.any λkv=>decide (kv.1=k))=true then kvs.map (λkv=>if kv.1=k then (kv.1,v) else kv) else kvs++[(k,v)]
def cL{p:κ×V}{r:List (κ×V)}{k:κ}(e:p.1=k):iS (p::r) k=aA p.2:=by simp[iS,qv,e]
def cM{p:κ×V}{r:List (κ×V)}{k:κ}(e:¬p.1=k):iS (p::r) k=iS r k:=by simp[iS,qv,e]
theorem ZH(k:κ):∀kvs:List (κ×V),(kvs.any λkv=>decide (kv.1=k))=(iS kvs k).isSome
 |[]=>rfl
 |p::r=>by
  rw[jt];by_cases e:p.1=k
  .simp only[cL e,decide_eq_true e,Bool.true_or,Option.isSome_some]
  .rw[cM e,decide_eq_false e,Bool.false_or];exact ZH k r
def vI(kvs:List (κ×V))(k:κ)(v:V):(uF kvs k v).length<=kvs.length+1:=by
 unfold uF;split
 .rw[ah];omega
 .rw[ag,ak,bq];omega
def sG.Nt(r:sG o u):o.isSome=u.isSome:=by
 cases o with
 |none=>cases u with
  |none=>rfl
  |some _=>exact(show False from r).elim
 |some _=>cases u with
  |none=>exact(show False from r).elim
  |some _=>rfl
def sG.getD(r:sG o u)(rd:RelV d d'):RelV (o.getD d) (u.getD d'):=by
 cases o with
 |none=>cases u with
  |none=>exact rd
  |some _=>exact(show False from r).elim
 |some _=>cases u with
  |none=>exact(show False from r).elim
  |some _=>exact r
def KV.val{kvs:List (κ×V)}{vs:List (κ×Value)}(r:KV kvs vs)(k:κ):sG (iS kvs k) (valueAt vs k):=by
 unfold KV at r
 induction r with
 |nil=>exact True.intro
 |@cons p q ps qs h t ih=>
  obtain⟨h1,h2⟩:=h;by_cases e:p.1=k
  .have e':q.1=k:=h1.symm.trans e;have b:valueAt (q::qs) k=aA q.2:=by simp[valueAt,qv,e']
   rw[cL e,b];exact h2
  .have e':¬q.1=k:=λz=>e<|h1.trans z
   have b:valueAt (q::qs) k=valueAt qs k:=by simp[valueAt,qv,e']
   rw[cM e,b];exact ih
def KV.any(r:KV kvs vs)(k:κ):(kvs.any λkv=>decide (kv.1=k))=vs.any λkv=>decide (kv.1=k):=by
 unfold KV at r
 induction r with
 |nil=>rfl
 |cons h t ih=>rw[jt,jt,ih,h.1]
def KV.HA(r:KV kvs vs)(k:κ)(ry:RelV y u):KV (kvs.map λkv=>if kv.1=k then (kv.1,y) else kv) (vs.map λkv=>if kv.1=k then (kv.1,u) else kv):=by
 unfold KV at r ⊢
 induction r with
 |nil=>exact .nil
 |@cons p q ps qs h t ih=>
  rw[am,am];refine .cons ?_ ih;obtain⟨h1,h2⟩:=h;by_cases e:p.1=k
  .rw[if_pos e,if_pos<|h1.symm.trans e];exact⟨h1,ry⟩
  .rw[if_neg e,if_neg λz=>e<|h1.trans z];exact⟨h1,h2⟩
def KV.put(r:KV kvs vs)(k:κ)(ry:RelV y u):KV (uF kvs k y) (stored vs k u):=by
 unfold uF stored;rw[r.any k];by_cases e:(vs.any λkv=>decide (kv.1=k))=true
 .rw[if_pos e,if_pos e];exact r.HA k ry
 .rw[if_neg e,if_neg e];exact Paired.snoc r ⟨rfl,ry⟩
def KV.keys{kvs:List (κ×V)}{vs:List (κ×Value)}(r:KV kvs vs):kvs.map (·.1)=vs.map (·.1):=by
 unfold KV at r
 induction r with
 |nil=>rfl
 |cons h t ih=>rw[am,am,ih,h.1]
def KV.length(r:KV kvs vs):kvs.length=vs.length:=xj r
end
def C0(r:RelV (kV k) u):(yM P w).is k u=true:=by
 cases k with
 |inl i=>obtain⟨t,e⟩:=(show ∃t,u=Value.int i t from r);subst e;exact o6 P w i t
 |inr x=>obtain⟨t,e⟩:=(show ∃t,u=Value.str x t from r);subst e;exact o5 P w x t
theorem dC:∀{ks:List Key} {us:List Value},Vals (ks.map kV) us->ItemsAre (yM P w) ks us
 |[],_,r=>by rw[vp] at r;cases r;exact .nil
 |k::ks,_,r=>by
  rw[am] at r;cases r with
  |cons h t=>exact .cons (C0 h)<|dC t
abbrev KT(H:Hp):List (List Key×V)->List (List Key×Addr×Value)->Prop:=Paired λp q=>p.1=q.1/\H q.2.1=aA (.tup<|p.1.map kV)/\RelV p.2 q.2.2
def KT.val{H:Hp}{kvs:List (List Key×V)}{xs:List (List Key×Addr×Value)}(r:KT H kvs xs)(k:List Key):sG (iS kvs k) ((atKey xs k).map (·.2)):=by
 induction r with
 |nil=>exact True.intro
 |@cons p q ps qs h t ih=>
  obtain⟨h1,_,h2⟩:=h;by_cases e:p.1=k
  .have e':q.1=k:=h1.symm.trans e;have b:atKey (q::qs) k=aA q.2:=by simp[atKey,qv,e']
   rw[cL e,b];exact h2
  .have e':¬q.1=k:=λz=>e<|h1.trans z
   have b:atKey (q::qs) k=atKey qs k:=by simp[atKey,qv,e']
   rw[cM e,b];exact ih
def KT.HA(r:KT H kvs xs)(k:List Key)(ry:RelV y u):KT H (kvs.map λkv=>if kv.1=k then (kv.1,y) else kv) (xs.map<|putAt k u):=by
 induction r with
 |nil=>exact .nil
 |@cons p q ps qs h t ih=>
  rw[am,am];refine .cons ?_ ih;obtain⟨h1,h2,h3⟩:=h;unfold putAt;by_cases e:p.1=k
  .rw[if_pos e,if_pos<|h1.symm.trans e];exact⟨h1,h2,ry⟩
  .rw[if_neg e,if_neg λz=>e<|h1.trans z];exact⟨h1,h2,h3⟩
def KT.put(r:KT H kvs xs)(k:List Key)(hb:H b=aA (.tup<|k.map kV))(ry:RelV y u):KT H (uF kvs k y) (storedH xs k b u):=by
 have e:(kvs.any λkv=>decide (kv.1=k))=(atKey xs k).isSome:=by
  rw[ZH,(r.val k).Nt,Option.isSome_map]
 unfold uF storedH;rw[e];by_cases q:(atKey xs k).isSome=true
 .rw[if_pos q,if_pos q];exact r.HA k ry
 .rw[if_neg q,if_neg q];exact Paired.snoc r ⟨rfl,hb,ry⟩
def KT.keeps(r:KT H kvs xs)(ht:∀b ys,H b=aA (.tup ys)->H' b=aA (.tup ys)):KT H' kvs xs:=
 vU r λ_ _ z=>⟨z.1,ht _ _ z.2.1,z.2.2⟩
def Kr(ok:eN P w H h)(e:Rd H a u):d_ P w H h a u:=e.ok ok
def QQ(ok:eN P w H h)(e:Rd H a (.dK kvs)):kvs.length<=ar/\(a == kc)=false/\∃vs,KV kvs vs/\h.DictOf (yM P w) a vs:=
 show d_ P w H h a (.dK kvs) from Kr ok e
def EM(ok:eN P w H h)(e:H a=aA (.dK kvs)):kvs.length<=ar/\(a == kc)=false/\∃vs,KV kvs vs/\h.DictOf (yM P w) a vs:=QQ ok<|.inl e
def G8(ok:eN P w H h)(e:H a=aA (.tup<|ks.map kV)):(tupleKind<|yM P w).is h ks a:=by
 obtain⟨_,its,r,o,h1,h2,n,h3⟩:=(show d_ P w H h a (.tup<|ks.map kV) from ok a _ e);exact⟨o,its.toArray,n,h1,h2,h3,by simpa using dC r⟩
def EN(ok:eN P w H h)(e:Rd H a (.dT kvs)):kvs.length<=ar/\(a == kc)=false /\
  ∃xs,KT H kvs xs/\h.DictOfH (tupleKind<|yM P w) a xs:=by
 obtain⟨z,y,xs,r,o,es,ep,h1,h2,h3,h4,h5⟩:=(show d_ P w H h a (.dT kvs) from Kr ok e);refine⟨z,y,xs,r,o,es,ep,h1,h2,h3,h4,λx hx=>?_,h5⟩;have all:∀{l:List (List Key×V)} {m:List (List Key×Addr×Value)},KT H l m->∀x∈m,(tupleKind<|yM P w).is h x.1 x.2.1:=by
  intro l m q
  induction q with
  |nil=>intro x hx;exact nomatch hx
  |@cons p q ps qs hq t ih=>
   intro x hx;rcases bb.mp hx with e|hx
   .subst e;exact G8 ok (by rw[<-hq.1];exact hq.2.1)
   .exact ih x hx
 exact all r x hx
def Kz(ok:eN P w H h)(e:H a=aA (.dT kvs)):kvs.length<=ar/\(a == kc)=false /\
  ∃xs,KT H kvs xs/\h.DictOfH (tupleKind<|yM P w) a xs:=EN ok<|.inl e
def Gn(H:Hp)(a:Addr)(y:V)(r:Option V):Prop:=
 (∃kvs k,Rd H a (.dK kvs)/\y=kV k/\r=iS kvs k)\/∃kvs k b,Rd H a (.dT kvs)/\y=.ref b/\H b=aA (.tup<|k.map kV)/\r=iS kvs k
def A6(H:Hp)(a:Addr)(y v:V)(H':Hp):Prop:=
 (∃kvs k,H a=aA (.dK kvs)/\y=kV k/\kvs.length<ar/\H'=upd H a (.dK<|uF kvs k v)) \/
 ∃kvs k b,H a=aA (.dT kvs)/\y=.ref b/\H b=aA (.tup<|k.map kV)/\kvs.length<ar/\H'=upd H a (.dT<|uF kvs k v)
theorem A6.k{H:Hp}{a:Addr}{kvs:List (Key×V)}{k:Key}{v:V}(e:H a=aA (.dK kvs))(hl:kvs.length<ar):A6 H a (kV k) v (upd H a<|.dK<|uF kvs k v):=.inl ⟨kvs,k,e,rfl,hl,rfl⟩
def A6.t{H:Hp}{a b:Addr}{kvs:List (List Key×V)}{k:List Key}{v:V}(e:H a=aA (.dT kvs))(eb:H b=aA (.tup<|k.map kV))(hl:kvs.length<ar):A6 H a (.ref b) v (upd H a<|.dT<|uF kvs k v):=.inr ⟨kvs,k,b,e,rfl,eb,hl,rfl⟩
def Inv.big(I:Inv X pZ σ H s):kc<s.heap.objs.size:=by
 have h:dh<s.heap.objs.size:=(I.mod.glob.keeps I.bk).lt;exact ro (by decide) h
def QT(hu:A.units+1<cLine)(I:Inv X pZ σ H s)(g:Gn H a y (aA v))(ry:RelV y u)(h:∀w' s',Inv X pZ σ H s'->RelV v w'->Q w' s'):wpAny (model X.prog X.w) A (getItem (.ref a) u) Q E s:=by
 rcases g with⟨kvs,k,e,ey,l⟩|⟨kvs,k,b,e,ey,eb,l⟩
 .subst ey;obtain⟨z,hd,vs,rel,dd⟩:=QQ I.aI e;obtain⟨w',hw,iB⟩:=u6 (v:=v) (o:=valueAt vs k) (by rw[l];exact rel.val k);exact wpAny_getItem_of (C0 ry) dd.mapOf hw<|h w' _ (I.tok _) iB
 .subst ey;cases (show u=Value.ref b from ry);obtain⟨z,hd,xs,rel,dd⟩:=EN I.aI e;obtain⟨w',hw,iB⟩:=u6 (v:=v) (o:=(atKey xs k).map (·.2)) (by rw[l];exact rel.val k);obtain⟨p,hp,sT⟩:=gt.mp hw;refine wpAny_getItem_heap (tupleKind_room_in1 hu) (G8 I.aI eb) dd hp ?_;rw[sT];exact h w' _ (I.tok _) iB
def pY(I:Inv X pZ σ H s)(mu:Em (H a))(hs:dz a s.heap h')(he:∃q,h'.get? a=aA q)(new:d_ X.prog X.w (upd H a ob) h' a ob):Inv X pZ σ (upd H a ob) { s with heap:=h',toks:=t' }:=
 I.write (x:=a) (e:=a) mu (.inl rfl) (λb q hb z=>(hs.2 b hb).trans z) he new
def G0(z:kvs.length<=ar)(hd:(a == kc)=false)(rel:KV kvs vs)(dd:h'.DictOf (yM P w) a vs):d_ P w H' h' a (.dK kvs):=⟨z,hd,vs,rel,dd⟩
def QS(hu:A.units+1<cLine)(I:Inv X pZ σ H s)(g:A6 H a y v H')(ry:RelV y u)(rv:RelV v r)(h:∀s',Inv X pZ σ H' s'->Q () s'):wpAny (model X.prog X.w) A (setItem (.ref a) u r) Q E s:=by
 rcases g with⟨kvs,k,e,ey,l,eH⟩|⟨kvs,k,b,e,ey,eb,l,eH⟩
 .subst ey eH;obtain⟨z,hd,vs,rel,dd⟩:=EM I.aI e;have hz:vs.length<=ar:=by rw[<-rel.length];exact z
  have hl:(uF kvs k v).length<=ar:=by have:=vI kvs k v;omega
  refine wpAny_setItem_pairs (hsz:=hz) (C0 ry) dd λh' BJ hs=>h _ ?_
  have he:∃q,h'.get? a=aA q:=let ⟨q,_,_,hq,_⟩:=BJ;⟨q,hq⟩
  exact pY I (by rw[e];exact True.intro) hs he<|G0 hl hd (rel.put k rv) BJ
 .subst ey eH;cases (show u=Value.ref b from ry);obtain⟨z,hd,xs,rel,dd⟩:=Kz I.aI e;have hz:xs.length<=ar:=by rw[<-xj rel];exact z
  have hl:(uF kvs k v).length<=ar:=by have:=vI kvs k v;omega
  refine wpAny_setItem_heap (hsz:=hz) (tupleKind_room_in1 hu) (G8 I.aI eb) dd λh' BJ hs=>h _ ?_
  obtain⟨q,es,ep,hq,h2,h3,h4,_,h5⟩:=BJ;refine pY I (by rw[e];exact True.intro) hs ⟨q,hq⟩ ⟨hl,hd,_,(rel.put k eb rv).keeps λc ys ec=>?_,q,es,ep,hq,h2,h3,h4,h5⟩;rw[zT<|Pa ec e λz=>nomatch z];exact ec
def Gp(i:Expr):Prop:=∀ov iv,subscripted i false ov iv=operate [ov,iv] (getItem ov iv)
def TM{id:String}(hl:typeLookup (.type T) "__getitem__" = pure (aA<|.builtin id))(hs:Gp slice)(h:wpAny (model prog w) A (eval value env) (λo s₁=>wpAny (model prog w) A (eval slice env) (λi s₂=>s₂.TypeIs o T/\wpAny (model prog w) A (getItem o i) Q E s₂) E s₁) E s):wpAny (model prog w) A (eval (.Subscript value slice pos) env) Q E s:=by
 refine zu<|je h (λo s₁ h₁=>je h₁ (λi s₂ h₂=>?_) λ_ _ x=>x) λ_ _ x=>x;obtain⟨hT,h₂⟩:=h₂;unfold subscriptTail;refine aa ?_;rw[getitemInPython_of_ne hT.not_modules];refine aa<|qt hT hl ?_;have fin:wpAny (model prog w) A (subscripted slice false o i) (λr s₃=>wpAny (model prog w) A (letTemporaryGo value o r >>= λ_=>pure r) Q E s₃) E s₂:=by
  rw[hs o i];exact wpAny_operating<|je h₂ (λr s₃ h₃=>aa<|wpAny_letTemporaryGo<|af h₃) λ_ _ x=>x
 first
  |exact af<|aa fin
  |exact aa<|af<|aa fin
  |exact aa fin
def pV(I:Inv X pZ σ H s)(g:Gn H a y o):s.TypeIs (.ref a) "dict" := by
 rcases g with⟨kvs,k,e,_,_⟩|⟨kvs,k,b,e,_,_,_⟩
 .obtain⟨_,_,vs,_,dd⟩:=QQ I.aI e;exact dd.typeIs
 .obtain⟨_,_,xs,_,dd⟩:=EN I.aI e;exact dd.typeIs
noncomputable def Pp(td ty:TE):TE:=λσ H Q=>td σ H λx H1=>ty σ H1 λy H2=>∃a v,x=.ref a/\Gn H2 a y (aA v)/\Q v H2
noncomputable def PU(td ty tv:TE):TS:=λD σ H=>tv σ H λv H1=>td σ H1 λx H2=>ty σ H2 λy H3=>∃a H4,x=.ref a/\A6 H3 a y v H4/\D.nx σ H4
def S6(hu:X.A.units+1<cLine)(ho:PE X o td)(hi:PE X i ty)(hs:Gp i):PE X (.Subscript o i pos) (Pp td ty):=by
 intro pZ s σ H Q I h;refine TM PySem.F.slot_dict_getitem.lookup hs<|aK (ho pZ s σ H _ I h) λu s1 ⟨x,H1,I1,rx,q1⟩=>aK (hi pZ s1 σ H1 _ I1 q1) λiv s2 ⟨y,H2,I2,ry,a,v,ex,g,q2⟩=>?_;subst ex;obtain rfl:u=Value.ref a:=rx;exact⟨pV I2 g,QT hu I2 g ry λw' s3 I3 iB=>⟨v,H2,I3,iB,q2⟩⟩
def JN(hu:X.A.units+1<cLine)(ho:PE X o td)(hi:PE X i ty)(hv:PE X value tv)(hs:kq value (aA<|.Subscript o i pos') pos.line X.env=pure false):PS X (.Assign [.Subscript o i pos'] value pos) (PU td ty tv):=by
 intro pZ s σ H D I h;refine wpAny_Assign_Subscript (aK (hv pZ s σ H _ I h) λr s1 ⟨v,H1,I1,rv,q1⟩=>aK (ho pZ s1 σ H1 _ I1 q1) λu s2 ⟨x,H2,I2,rx,q2⟩=>aK (hi pZ s2 σ H2 _ I2 q2) λiv s3 ⟨y,H3,I3,ry,a,H4,ex,g,q3⟩=>?_) hs;subst ex;obtain rfl:u=Value.ref a:=rx;exact QS hu I3 g ry rv λs4 I4=>⟨σ,H4,I4,q3⟩
def Ul(h:Heap)(hb:kc<h.objs.size):d_ P w H (h.push { cls:=.type "dict",data:=.dict #[] }) h.objs.size (.dK []):=
 ⟨bu _,beq_eq_false_iff_ne.mpr<|ua<|bh hb,[],.nil,Heap.DictOf.new h⟩
def Uo(h:Heap)(hb:kc<h.objs.size):d_ P w H (h.push { cls:=.type "dict",data:=.dict #[] }) h.objs.size (.dT []):=
 ⟨bu _,beq_eq_false_iff_ne.mpr<|ua<|bh hb,[],.nil,_,#[],0,ax _ rfl,⟨rfl,rfl,rfl⟩,rfl,rfl,rq⟩
def RM:TE:=λ_ H Q=>∀p,H p=aB->Q (.ref p) (upd H p<|.dK [])
def RN:TE:=λ_ H Q=>∀p,H p=aB->Q (.ref p) (upd H p<|.dT [])
def UD:PE X (.Dict [] [] pos) RM:=λpZ s σ H Q I h=>
 wpAny_Dict_empty ⟨.ref s.heap.objs.size,_,I.laid (a:=s.heap.objs.size) (o:=.dK []) (t':=s.toks) (λ_ _ q=>ac _ q) (al _)<|Ul s.heap I.big,rfl,h _<|I.aI.fresh<|al _⟩
def UE:PE X (.Dict [] [] pos) RN:=λpZ s σ H Q I h=>
 wpAny_Dict_empty ⟨.ref s.heap.objs.size,_,I.laid (a:=s.heap.objs.size) (o:=.dT []) (t':=s.toks) (λ_ _ q=>ac _ q) (al _)<|Uo s.heap I.big,rfl,h _<|I.aI.fresh<|al _⟩
def mD(kvs more:List (Key×V)):List (Key×V):=more.foldl (λacc kv=>uF acc kv.1 kv.2) kvs
def KV.merge:∀{more:List (Key×V)} {rs:List (Key×Value)} {kvs:List (Key×V)} {vs:List (Key×Value)},KV more rs->KV kvs vs->KV (mD kvs more) (merged vs rs):=by
 intro more rs kvs vs r;unfold KV at r
 induction r generalizing kvs vs with
 |nil=>intro q;exact q
 |@cons p q ps qs h t ih=>
  intro r0;have e:KV (uF kvs p.1 p.2) (stored vs q.1 q.2):=by
   have:=r0.put p.1 h.2
   rw[<-h.1];exact this
  exact ih e
theorem vJ:∀(more kvs:List (Key×V)),(mD kvs more).length<=kvs.length+more.length
 |[],kvs=>by show kvs.length<=kvs.length+0;omega
 |p::r,kvs=>by
  have h1:=vJ r<|uF kvs p.1 p.2;have h2:=vI kvs p.1 p.2;show(mD (uF kvs p.1 p.2) r).length<=_;rw[ak];omega
structure M2(X:Cx)(o:Expr)(m:Str)(apos:Pos)(e f:Expr)(eA:Pos):Prop where
 base:kj o m X.env (eval o X.env)=eval o X.env
 f8:A5 X [e,f] eA
 line:(apos.endLine == eA.line)=true
 trees:wv eA (bp [e,f] X.env)=[(false,eval e X.env),(false,eval f X.env)]
def Ol(H:Hp)(a:Addr):Prop:=(∃kvs,Rd H a<|.dK kvs)\/∃kvs,Rd H a (.dT kvs)
def Qb(I:Inv X pZ σ H s)(d:Ol H a):s.TypeIs (.ref a) "dict" /\ (∀b,Value.ref a=.ref b->∃ob,s.heap.get? b=aA ob/\ob.dict=aB)/\(a == kc)=false:=by
 rcases d with⟨kvs,e⟩|⟨kvs,e⟩
 .obtain⟨_,hd,vs,_,dd⟩:=QQ I.aI e;refine⟨dd.typeIs,λb q=>?_,hd⟩;cases q;obtain⟨ob,_,_,h1,h2,_⟩:=dd;exact⟨ob,h1,h2.2.1⟩
 .obtain⟨_,hd,xs,_,dd⟩:=EN I.aI e;refine⟨dd.typeIs,λb q=>?_,hd⟩;cases q;obtain⟨ob,_,_,h1,h2,_⟩:=dd;exact⟨ob,h1,h2.2.1⟩
end L2
namespace DD
open PySem PySem.Spec PyProof.Rows L2
inductive Rs where
 |v (d:D)|f (l:List D)|g (ks:List Key) (l:List D)
noncomputable abbrev MF:=List Sl->Option (Rs×List Sl)
structure CD(K:Fg)(O0:Addr->Prop)(H:Hp)(as:List Sl)(vs:List V)(H':Hp)(eR:List Sl):Prop where
 keep:d7 (g_ as<|vs.map aA) H H'
 live:∀b,H' b=aB->H b=aB
 lst:∀b o,H b=aA o->Mb o->∃o',H' b=aA o'/\Mb o'
 par:∀(i:Nat) (l:List D),as[i]?=aA (.p l)->∃l' a xs,eR[i]?=aA (.p l')/\vs[i]?=aA (.ref a)/\H' a=aA (.lst xs)/\IsL K O0 H' l' xs
 pad:∀(i:Nat) (ks:List Key) (l:List D),as[i]?=aA (.d true ks l)->∃eC l' a kvs,eR[i]?=aA (.d true eC l')/\vs[i]?=aA (.ref a)/\H' a=aA (.dK kvs)/\kvs.map (·.1)=eC/\IsL K O0 H' l' (kvs.map (·.2))
def Og(K:Fg)(O0:Addr->Prop)(H:Hp)(as:List Sl)(vs:List V)(eR:List Sl)(Q:VK):Rs->Prop
 |.v d=>∀v H',CD K O0 H as vs H' eR->Is K O0 H' d v->Q v H'
 |.f l=>∀a xs H',CD K O0 H as vs H' eR->H a=aB->H' a=aA (.lst xs)->IsL K (λb=>O0 b\/b=a) H' l xs->Q (.ref a) H'
 |.g ks l=>∀a kvs H',CD K O0 H as vs H' eR->H a=aB->H' a=aA (.dK kvs)->kvs.map (·.1)=ks->IsL K (λb=>O0 b\/b=a) H' l (kvs.map (·.2))->Q (.ref a) H'
def fQ(K:Fg)(n:Nat)(m:MF):Sp:=λvs H Q _=>∃O0 as rs eR,as.length=n/\R K O0 H as (vs.map aA)/\(∀(i:Nat) (l:List D),as[i]?≠aA (.o l)/\as[i]?≠aA (.z l)/\(∀ks,as[i]?≠aA (.d false ks l))/\∀ts,as[i]?≠aA (.t ts))/\m as=aA (rs,eR)/\Og K O0 H as vs eR Q rs
def aY(n N:Nat)(g:MS):MF:=λas=>(g<|as++bg (N-n) .un).bind λfl=>match fl with
 |.rt d r'=>aA (.v d,r'.take n)
 |.rf l r'=>aA (.f l,r'.take n)
 |.rg ks l r'=>aA (.g ks l,r'.take n)
 |.nx r'=>aA (.v .aE,r'.take n)
 |_=>aB
section
variable{K:Fg}
def oP{q:Sl->Option (List D)}(hq:q .un=aB){as:List Sl}{vs:List V}{k n:Nat}{a:Addr}(hl:as.length=vs.length):i8 q (as++bg k .un) (vs.map aA++bg n aB) a↔i8 q as (vs.map aA) a:=by
 constructor
 .rintro ⟨i,l,e,q'⟩;by_cases hi:i<as.length
  .rw[be hi] at e;rw[be (by simp;omega)] at q';exact⟨i,l,e,q'⟩
  .rw[bm<|by omega,fq] at e;split at e
   .have e':q .un=aA l:=e;rw[hq] at e';cases e'
   .cases e
 .rintro ⟨i,l,e,q'⟩;have hi:i<as.length:=by
   cases e1:as[i]? with
   |none=>rw[e1] at e;cases e
   |some x=>exact(ba.mp e1).1
  exact⟨i,l,by rw[be hi];exact e,by rw[be (by simp;omega)];exact q'⟩
def R.start{O0:Addr->Prop}{H:Hp}{as:List Sl}{vs:List V}{k:Nat}(h:R K O0 H as (vs.map aA)):R K O0 H (as++bg k .un) (vs.map aA++bg k aB):=by
 have hl:as.length=vs.length:=by simpa using h.len
 have own:∀a,Ow O0 (as++bg k .un) (vs.map aA++bg k aB) a->H a≠aB->Ow O0 as (vs.map aA) a:=λa z _=>z.imp id (oP rfl hl).mp
 have pre:∀(i:Nat) (x:Sl),(as++bg k .un)[i]?=aA x->x≠.un->as[i]?=aA x/\(vs.map aA++bg k aB)[i]?=(vs.map aA)[i]?:=λi x e n=>by
  by_cases hi:i<as.length
  .rw[be hi] at e;exact⟨e,be (by simp;omega)⟩
  .rw[bm<|by omega,fq] at e;split at e
   .cases e;exact absurd rfl n
   .cases e
 have HQ:∀{q:Sl->Option (List D)} (hq:q .un=aB) (i:Nat) (l:List D),((as++bg k .un)[i]?).bind q=aA l->(as[i]?).bind q=aA l/\(vs.map aA++bg k aB)[i]?=(vs.map aA)[i]?:=λ{q} hq i l e=>by
  cases e1:(as++bg k .un)[i]? with
  |none=>rw[e1] at e;cases e
  |some x=>
   obtain⟨q1,q2⟩:=pre i x e1 (by rintro rfl;rw[e1] at e;have e':q .un=aA l:=e;rw[hq] at e';cases e');rw[e1] at e;exact⟨by rw[q1];exact e,q2⟩
 refine⟨by simp[hl],λi d e=>?_,λi l e=>?_,λi j a l m e1 e2 q1 q2=>?_,h.o0,λi l a e q=>?_,λi l a e q=>?_,λi f ks l e=>?_,λi ks e=>?_⟩
 .obtain⟨q1,q2⟩:=pre i _ e (by intro z;cases z);obtain⟨v,e3,q3⟩:=h.val i d q1;exact⟨v,q2.trans e3,Is.mono (aC.kp (aC.refl H) _) h.ol own _ _ q3⟩
 .obtain⟨q1,q2⟩:=HQ (q:=Sl.ls) rfl i l e;obtain⟨a,xs,e3,e4,q3⟩:=h.own i l q1;exact⟨a,xs,q2.trans e3,e4,IsL.mono (aC.kp (aC.refl H) _) h.ol own _ _ q3⟩
 .obtain⟨p1,p2⟩:=HQ (q:=Sl.own) rfl i l e1;obtain⟨p3,p4⟩:=HQ (q:=Sl.own) rfl j m e2;exact h.apart i j a l m p1 p3 (p2 ▸ q1)<|p4 ▸ q2
 .rcases e with e|e|⟨ks,e⟩
  .obtain⟨p1,p2⟩:=pre i _ e (by intro z;cases z);exact h.loc i l a (.inl p1)<|p2 ▸ q
  .obtain⟨p1,p2⟩:=pre i _ e (by intro z;cases z);exact h.loc i l a (.inr<|.inl p1)<|p2 ▸ q
  .obtain⟨p1,p2⟩:=pre i _ e (by intro z;cases z);exact h.loc i l a (.inr<|.inr ⟨ks,p1⟩)<|p2 ▸ q
 .obtain⟨x,p0,e0⟩:=abd.mp e;obtain⟨p1,p2⟩:=pre i _ p0 (by rintro rfl;cases e0);exact h.par i l a (by rw[p1];exact e0)<|p2 ▸ q
 .obtain⟨p1,p2⟩:=pre i _ e (by intro z;cases z);obtain⟨a,kvs,e3,e4,e5,q3⟩:=h.aJ i f ks l p1;exact⟨a,kvs,p2.trans e3,e4,e5,IsL.mono (aC.kp (aC.refl H) _) h.ol own _ _ q3⟩
 .obtain⟨p1,p2⟩:=pre i _ e (by intro z;cases z);obtain⟨a,e3,e4⟩:=h.iK i ks p1;exact⟨a,p2.trans e3,e4⟩
def O5{st:Stmt}(F:BQ K x qual st f fd)(S:eE N ps (zZ st))(n:Nat)(nN:Nat)(hn:ps.length=n:=by rfl)(hN:N.length=nN:=by rfl)(hb:∀(aS:Value),fd.code=aS->∀(A:Around) (outer:List Env) (s:Shared) (H:Hp) (E:XK),eD k (A.deeper<|envOfC qual (zZ st) s.heap.objs.size f aS) ->
   lR (Ba h_ P w K mg base N qual (zZ st) f aS A outer s H E).DH (vQ st) g):fP P w K mg base h_ (k+1) f fd ps (fQ K n<|aY n nN g):=by
 subst hn hN;obtain⟨oc,od,kV,doc,pm,an,aS,ct,AK,rfl,lk,sC⟩:=F.ex;refine O6 lk sC S (λvs H Q E h=>?_) λA outer s H vs Q E hr h=>?_
 .obtain⟨O0,as,rs,eR,hl,hR,_⟩:=h
  have:=hR.len
  simp at this;omega
 .obtain⟨O0,as,rs,eR,hl,hR,no,e,q⟩:=h;have NC:as.length=vs.length:=by simpa using hR.len
  refine⟨_,fI.DH<|hb aS rfl A outer s H E hr,?_⟩;obtain⟨fl,e1,e2⟩:=aF e;have lL:L2.start N vs=vs.map aA++bg (N.length-ps.length) aB:=by unfold L2.start;rw[<-NC,hl]
  rw[lL];have R0:=R.start (k:=N.length-ps.length) hR;have fin:∀(σ':St) (H':Hp) (r':En),R K O0 H' r' σ'->Kp H (as++bg (N.length-ps.length) .un) (vs.map aA++bg (N.length-ps.length) aB) H' r' σ'->CD K O0 H as vs H' (r'.take ps.length):=λσ' H' r' R' k'=>by
   refine⟨λb o eb nb=>k'.keep b o eb λz=>nb<|(oP rfl NC).mp z,k'.live,k'.lst,λi l ei=>?_,λi ks l ei=>?_⟩
   rotate_left
   .have hi:i<as.length:=(ba.mp ei).1;obtain⟨e3,e4⟩:=k'.par i true (by rw[be hi,ei];rfl);obtain⟨eC,l',e3⟩:=OB e3;rw[be (by simp;omega)] at e4;obtain⟨a,kvs,e5,e6,e7,e8⟩:=R'.aJ i true eC l' e3;rw[e4] at e5;have ev:vs[i]?=aA (.ref a):=by
     rw[av] at e5;cases e8:vs[i]? with
     |none=>rw[e8] at e5;cases e5
     |some y=>rw[e8] at e5;cases e5;rfl
    exact⟨eC,l',a,kvs,by rw[qr<|by omega];exact e3,ev,e6,e7,IsL.mono (aC.kp (aC.refl H') _) R'.ol (λ_ z _=>.inl z) _ _ e8⟩
   have hi:i<as.length:=(ba.mp ei).1;obtain⟨e3,e4⟩:=k'.par i false (by rw[be hi,ei];rfl);obtain⟨l',e3⟩:=GD e3;rw[be (by simp;omega)] at e4;obtain⟨a,xs,e5,e6,e7⟩:=R'.own i l' (by rw[e3];rfl);rw[e4] at e5;have ev:vs[i]?=aA (.ref a):=by
    rw[av] at e5;cases e8:vs[i]? with
    |none=>rw[e8] at e5;cases e5
    |some y=>rw[e8] at e5;cases e5;rfl
   exact⟨l',a,xs,by rw[qr<|by omega];exact e3,ev,e6,IsL.mono (aC.kp (aC.refl H') _) R'.ol (λ_ z _=>.inl z) _ _ e7⟩
  refine⟨O0,_,fl,R0,e1,?_⟩;cases fl with
  |nx r'=>cases e2;exact λσ' H' R' k'=>q .aE H' (fin σ' H' r' R' k') (by rw[y9])
  |bk r'=>cases e2
  |ct r'=>cases e2
  |rt d r'=>cases e2;exact λv σ' H' R' k' i'=>q v H' (fin σ' H' r' R' k') i'
  |rf l r'=>
   cases e2;refine λa xs σ' H' R' k' fr VV ea il=>q a xs H' (fin σ' H' r' R' k') ?_ ea il
   rcases fr with z|⟨i,m,ei,_⟩
   .exact z
   .exfalso;by_cases hi:i<as.length
    .rw[be hi] at ei;rcases ei with ei|⟨ks,ei⟩|⟨ks,ei⟩
     .exact(no i m).1 ei
     .exact(no i m).2.2.1 ks ei
     .exact(no i m).2.2.2 ks ei
    .rw[bm<|by omega,fq] at ei;rcases ei with ei|⟨ks,ei⟩|⟨ks,ei⟩<;>split at ei<;>cases ei
  |rg ks l r'=>
   cases e2;refine λa kvs σ' H' R' k' fr VV ea ek il=>q a kvs H' (fin σ' H' r' R' k') ?_ ea ek il
   rcases fr with z|⟨i,m,ei,_⟩
   .exact z
   .exfalso;by_cases hi:i<as.length
    .rw[be hi] at ei;rcases ei with ei|⟨eC,ei⟩|⟨eC,ei⟩
     .exact(no i m).1 ei
     .exact(no i m).2.2.1 eC ei
     .exact(no i m).2.2.2 eC ei
    .rw[bm<|by omega,fq] at ei;rcases ei with ei|⟨eC,ei⟩|⟨eC,ei⟩<;>split at ei<;>cases ei
def dJ{st:Stmt}(F:BQ K x qual st f fd)(S:eE N ps (zZ st))(n:Nat)(nN:Nat)(hn:ps.length=n:=by rfl)(hN:N.length=nN:=by rfl)(hb:∀(aS:Value) (A:Around) (outer:List Env) (s:Shared) (H:Hp) (E:XK),eD k (A.deeper<|envOfC qual (zZ st) s.heap.objs.size f aS) ->
   lR (Ba h_ P w K mg base N qual (zZ st) f aS A outer s H E).DH (vQ st) g):fP P w K mg base h_ (k+1) f fd ps (fQ K n<|aY n nN g):=O5 F S n nN hn hN λaS _=>hb aS
def Jo(n:Nat):fP P w K mg base h_ k f fd ps (fQ K n λ_=>aB):=
 ⟨(λvs H Q E h=>by obtain⟨_,_,_,_,_,_,_,e,_⟩:=h;cases e),(λA outer s H args us vs Q E _ _ _ _ h=>by obtain⟨_,_,_,_,_,_,_,e,_⟩:=h;cases e)⟩
end
def OV(Q:VK):VK:=λx H=>Q x H\/∃c kvs,x=.ref c/\H c=aA (.dK kvs)/\∀ob,Q x (upd H c<|.eG ob<|.dK kvs)
def Lc(I:Inv X pZ σ H s)(ec:H c=aA (.dK kvs)):∃ob,Inv X pZ σ (upd H c<|.eG ob<|.dK kvs) s:=by
 obtain⟨z,hd,vs,rel,dd⟩:=EM I.aI ec;obtain⟨ep,da⟩:=dd.dictAt;obtain⟨ob,fO,ho,r⟩:=id da;exact⟨ob,pY (ob:=.eG ob<|.dK kvs) (h':=s.heap) (t':=s.toks) I (by rw[ec];exact trivial) ⟨rfl,λ_ _=>rfl⟩ ⟨_,ho⟩ ⟨ho,z,hd,vs,rel,dd⟩⟩
def Lh(h:PE X a t):PE X a (λσ H Q=>t σ H<|OV Q):=by
 intro pZ s σ H Q I hq;refine aK (h pZ s σ H _ I hq) λu s1 ⟨x,H1,I1,rx,q⟩=>?_
 rcases q with q|⟨c,kvs,ex,ec,q⟩
 .exact⟨x,H1,I1,rx,q⟩
 .obtain⟨ob,I2⟩:=Lc I1 ec;exact⟨x,_,I2,rx,q ob⟩
def PJ{st:Stmt}(h:PS X st t):PS X st (λD σ H=>∃c kvs,H c=aA (.dK kvs)/\∀ob,t D σ<|upd H c<|.eG ob<|.dK kvs):=by
 intro pZ s σ H D I ⟨c,kvs,ec,q⟩;obtain⟨ob,I2⟩:=Lc I ec;exact h pZ s σ _ D I2<|q ob
def Is.fz{K:Fg}{O:Addr->Prop}{H1:Hp}{c:Addr}(ol:cG O H1)(no:¬O c)(e:H1 c=aA (.dK kvs))(ek:kvs.map (·.1)=ks)(il:IsL K (λb=>O b\/b=c) H1 l (kvs.map (·.2)))(ob:Obj):Is K O (upd H1 c<|.eG ob<|.dK kvs) (.aJ ks l) (.ref c):=by
 have DC:cG (λb=>O b\/b=c) H1:=λb z=>z.elim (ol b) λz=>by subst z;exact⟨.dK kvs,e,trivial⟩
 rw[jP];exact⟨c,kvs,rfl,no,⟨ob,zR⟩,ek,IsL.mono (λb o eb nb=>by rw[zT λz=>nb<|.inr z];exact eb) DC (λ_ z _=>.inl z) _ _ il⟩
def JI(s:aC H H1)(n:H c=aB):aC H (upd H1 c o):=λb u e=>by rw[zT<|xD e n];exact s b u e
noncomputable def MN:Rs->D
 |.v d=>d
 |.f l=>.lst l
 |.g ks l=>.aJ ks l
def yE(n:Nat)(m:MF)(fs:ML):ME:=λr=>(fs r).bind λds=>if ds.length=n then (m<|ds.map .v).map λp=>MN p.1 else aB
def jC(n:Nat)(m:MF)(fs:ML):ML:=λr=>(fs r).bind λds=>if ds.length=n then (m<|ds.map .v).bind λp=>match p.1 with
 |.f l=>aA l
 |_=>aB
 else aB
section
variable{K:Fg}
def KE(ol:cG O H)(h:IsL K O H ds vs):R K O H (ds.map .v) (vs.map aA):=by
 have no:∀(i:Nat) (l:List D),((ds.map Sl.v)[i]?).bind Sl.own≠aA l:=λi l e=>by
  rw[av] at e;cases e1:ds[i]? with
  |none=>rw[e1] at e;cases e
  |some x=>rw[e1] at e;cases e
 refine⟨by simp[h.length],λi d e=>?_,λi l e=>absurd (uR e)<|no i l,λi j a l m e1=>absurd e1<|no i l,ol,λi l a e=>absurd (show((ds.map Sl.v)[i]?).bind Sl.own=aA l by rcases e with e|e|⟨_,e⟩<;>rw[e]<;>rfl)<|no i l,λi l a e=>absurd (cU e).choose_spec<|no i _,λi _ ks l e=>absurd (show((ds.map Sl.v)[i]?).bind Sl.own=aA l by rw[e];rfl)<|no i l,λi ks e=>absurd (show((ds.map Sl.v)[i]?).bind Sl.own=aA [] by rw[e];rfl)<|no i []⟩;rw[av] at e;cases e1:ds[i]? with
 |none=>rw[e1] at e;cases e
 |some x=>
  rw[e1] at e;cases e;obtain⟨v,e2,q⟩:=h.get e1;exact⟨v,by rw[av,e2];rfl,Is.mono (aC.kp (aC.refl H) _) ol (λa z _=>z.elim id λ⟨j,l,ej,_⟩=>absurd ej<|no j l) _ _ q⟩
def UB{ds:List D}{σ:St}{a:Addr}:¬g_ (ds.map .v) σ a:=λ⟨i,l,e,_⟩=>by
 rw[av] at e;cases e1:ds[i]? with
 |none=>rw[e1] at e;cases e
 |some x=>rw[e1] at e;cases e
def CD.same{O0:Addr->Prop}{H H':Hp}{ds:List D}{vs:List V}{eR:List Sl}(h:CD K O0 H (ds.map .v) vs H' eR):aC H H':=λb o e=>h.keep b o e UB
end
section
variable{X:Cx}{k n:Nat}{f:Addr}{fd:FuncData}{ps:List Str}{m:MF}{x:Str}{p pos:Pos}{e:Expr}{es:List Expr}{fs:ML}
def oA{O0:Addr->Prop}{r:En}{σ:St}{H H1:Hp}{ds:List D}{vs:List V}{rs:Rs}{eR:List Sl}{Q:VK}{E:XK}(hR:R X.K O0 H r σ)(s1:aC H H1)(il:IsL X.K (Ow O0 r σ) H1 ds vs)(hl:ds.length=n)(em:m (ds.map .v)=aA (rs,eR))(q:Og X.K (Ow O0 r σ) H1 (ds.map .v) vs eR Q rs):fQ X.K n m (vs++[]) H1 Q E:=by
 rw[ff];refine⟨Ow O0 r σ,ds.map .v,rs,eR,by simpa using hl,KE (hR.same s1).ol il,λi l=>?_,em,q⟩;rw[av];cases e1:ds[i]? with
 |none=>exact⟨(λz=>by cases z),(λz=>by cases z),(λ_ z=>by cases z),(λ_ z=>by cases z)⟩
 |some y=>exact⟨(λz=>by cases z),(λz=>by cases z),(λ_ z=>by cases z),(λ_ z=>by cases z)⟩
def yJ(F:fP X.prog X.w X.K X.mg X.base h_ k f fd ps (fQ X.K n m))(hr:eD k X.A)(hg:Gl X x)(hm:X.mg x=aA (.ref f))(hk:jv X.K (.ref f)=true)(hb:Binds X.K fd ps [])(ha:DA X (e::es) fs)(fX:iH x:=by decide)(he:iF X e es:=by rfl)(hpl:sJ X es pos:=by rfl):DE X (.Call (.Name x p) (e::es) [] pos) (yE n m fs):=by
 refine PE.aH (Lh<|gG (E:=λ_ _ _=>False) (dvs:=[]) F hr hg hm hk hb .nil JR ha fX he hpl) λσ H Q h=>?_
 obtain⟨O0,r,d,hR,e,q⟩:=h;obtain⟨ds,e1,e2⟩:=aF e;split at e2
 .rename_i hl;obtain⟨⟨rs,eR⟩,e3,rfl⟩:=aT e2;refine⟨O0,r,ds,hR,e1,λvs H1 s1 il=>oA hR s1 il hl e3 ?_⟩;cases rs with
  |v d=>exact λv H2 pf iv=>.inl<|q v H2 (s1.trans pf.same) iv
  |f l=>
   refine λa xs H2 pf na ea eW=>.inl<|q _ H2 (s1.trans pf.same) ?_
   have R1:=hR.same s1;have DC:cG (λb=>Ow O0 r σ b\/b=a) H2:=λb z=>z.elim (λz=>(R1.same pf.same).ol b z) λz=>by subst z;exact⟨.lst xs,ea,trivial⟩
   show Is X.K (Ow O0 r σ) H2 (.lst l)<|.ref a;rw[zY];exact⟨a,xs,rfl,.inl ⟨R1.AL na,.inl ea⟩,IsL.mono (aC.kp (aC.refl H2) _) DC (λ_ z _=>.inl z) _ _ eW⟩
  |g ks l=>
   exact λa kvs H2 pf na ea ek eW=>.inr ⟨a,kvs,rfl,ea,λob=>q _ _ (JI (s1.trans pf.same)<|s1.free na)<|Is.fz ((hR.same s1).same pf.same).ol ((hR.same s1).AL na) ea ek eW ob⟩
 .cases e2
def gW(F:fP X.prog X.w X.K X.mg X.base h_ k f fd ps (fQ X.K n m))(hr:eD k X.A)(hg:Gl X x)(hm:X.mg x=aA (.ref f))(hk:jv X.K (.ref f)=true)(hb:Binds X.K fd ps [])(ha:DA X (e::es) fs)(fX:iH x:=by decide)(he:iF X e es:=by rfl)(hpl:sJ X es pos:=by rfl):DF X (.Call (.Name x p) (e::es) [] pos) (jC n m fs):=by
 refine PE.aH (gG (E:=λ_ _ _=>False) (dvs:=[]) F hr hg hm hk hb .nil JR ha fX he hpl) λσ H Q h=>?_
 obtain⟨O0,r,l,hR,e,q⟩:=h;obtain⟨ds,e1,e2⟩:=aF e;split at e2
 .rename_i hl;obtain⟨⟨rs,eR⟩,e3,e4⟩:=aF e2;refine⟨O0,r,ds,hR,e1,λvs H1 s1 il=>oA hR s1 il hl e3 ?_⟩;cases rs with
  |v d=>cases e4
  |f l'=>cases e4;exact λa xs H2 pf na ea eW=>q a xs H2 (s1.trans pf.same) (s1.free na) ea eW
  |g ks l'=>cases e4
 .cases e2
end
noncomputable def Hf:D->Option (List D)
 |.lst l=>aA l
 |.tup l=>aA l
 |_=>aB
def aR(f:ME):ML:=λr=>(f r).bind Hf
def kW{l:List D}{i:Nat}(h:i<l.length):∃d,l[i]?=aA d:=⟨l[i],by simp[h]⟩
def T4{K:Fg}{O M:Addr->Prop}(mo:∀a,M a->O a){H:Hp}{a:Addr}{xs:List V}{ds:List D}(ol:cG O H)(rd:∀H1,d7 M H H1->aN K H1 a xs)(il:IsL K O H ds xs):BZ K O M H (IP K a) ds:=by
 intro i H1 O' kp oo;have sR:d7 O H H1:=λb o e n=>kp b o e λz=>n<|mo b z
 have Bs:aN K H1 a xs:=rd H1 kp;refine⟨λhi=>⟨?_,λx H' y=>?_⟩,λhi=>⟨xs,Bs,by rw[<-il.length];exact uc hi.symm⟩⟩
 .obtain⟨d,e⟩:=kW hi;obtain⟨v,e1,_⟩:=il.get e;exact⟨xs,v,Bs,e1⟩
 .obtain⟨rfl,y⟩:=y;refine⟨aC.refl _,λd e=>?_⟩;obtain⟨v,e1,q⟩:=il.get e
  have:=y xs Bs
  rw[e1] at this;cases this;exact Is.mono sR ol oo _ _ q
def RX{K:Fg}{O M:Addr->Prop}(mo:∀a,M a->O a){H:Hp}{a:Addr}{xs:List V}{ds:List D}(ol:cG O H)(rd:aM K H a xs)(il:IsL K O H ds xs):BZ K O M H (IN K a) ds:=by
 intro i H1 O' kp oo;have sR:d7 O H H1:=λb o e n=>kp b o e λz=>n<|mo b z
 have Bs:aM K H1 a xs:=aM.keep sR ol rd;refine⟨λhi=>⟨?_,λx H' y=>?_⟩,λhi=>⟨xs,Bs,by rw[<-il.length];exact uc hi.symm⟩⟩
 .obtain⟨d,e⟩:=kW hi;obtain⟨v,e1,_⟩:=il.get e;exact⟨xs,v,Bs,e1⟩
 .obtain⟨rfl,y⟩:=y;refine⟨aC.refl _,λd e=>?_⟩;obtain⟨v,e1,q⟩:=il.get e
  have:=y xs Bs
  rw[e1] at this;cases this;exact Is.mono sR ol oo _ _ q
def Rv(hl:PE X l tl):PI X tg l (λσ H Rr=>tl σ H λx H1=>∃a,x=.ref a/\(((∃xs,aN X.K H1 a xs)/\Rr (IP X.K a) H1)\/((∃xs,aM X.K H1 a xs)/\Rr (IN X.K a) H1))):=by
 intro pZ s σ H R I h;refine aK (hl pZ s σ H _ I h) λv s1 ⟨x,H1,I1,r1,q1⟩=>?_
 obtain⟨a,e,q⟩:=q1;subst e;cases r1;rcases q with⟨⟨xs,hq⟩,q⟩|⟨⟨xs,hq⟩,q⟩
 .obtain⟨its,rv,p,hz⟩:=I1.list hq;refine ny p.isList ?_;refine⟨s1.heap.objs.size,[s1.heap.objs.size],_,_,H1,rfl,I1.kept (t':=s1.toks) λb o e=>ac _ e,X3 a _,⟨_,ax _ rfl,rfl,rfl⟩,λb hb=>?_,q⟩;have e:b=s1.heap.objs.size:=by simpa using hb
  subst e;exact I1.Ar (al _)<|I1.aI.fresh<|al _
 .obtain⟨its,rv,p,hz⟩:=I1.tuple hq;refine ug (show s1.heap.IsTuple a its.toArray from p) ?_;refine⟨s1.heap.objs.size,[s1.heap.objs.size],_,_,H1,rfl,I1.kept (t':=s1.toks) λb o e=>ac _ e,rT a _,⟨_,ax _ rfl,rfl,rfl⟩,λb hb=>?_,q⟩;have e:b=s1.heap.objs.size:=by simpa using hb
  subst e;exact I1.Ar (al _)<|I1.aI.fresh<|al _
def kB(hl:DE X l f):DI X tg l (aR f):=by
 refine PI.aH (Rv hl) λσ H Rr h=>?_
 obtain⟨O0,r,ds,hR,e,q⟩:=h;obtain⟨d,e1,e2⟩:=aF e;refine⟨O0,r,d,hR,e1,λv H1 s1 i1=>?_⟩;have ol:=(hR.same s1).ol;cases d with
 |lst l'=>
  cases e2;rw[zY] at i1;obtain⟨a,xs,rfl,rd,il⟩:=i1;exact⟨a,rfl,.inl ⟨⟨xs,rd.sq⟩,q _ H1 s1<|T4 (λa z=>.inr z.own) ol (λH2 k2=>rd.imp (λz=>Rd.keep k2 (λy=>z.1<|.inr y.own) z.2) id) il⟩⟩
 |tup l'=>
  cases e2;rw[zX] at i1;obtain⟨a,xs,rfl,rd,il⟩:=i1;exact⟨a,rfl,.inr ⟨⟨xs,rd⟩,q _ H1 s1<|RX (λa z=>.inr z.own) ol rd il⟩⟩
 |_=>cases e2
noncomputable def BX(lo:Int)(n:Nat):List D:=(fg n).map λi=>.int<|lo+(i:Nat)
def RW{K:Fg}(lo:Int)(n:Nat):BZ K O M H (Ge lo n) (BX lo n):=by
 intro i H1 O' kp oo;have hl:(BX lo n).length=n:=by simp[BX]
 refine⟨λhi=>⟨by rw[hl] at hi;exact hi,λx H' y=>?_⟩,λhi=>by rw[hl] at hi;exact uc hi.symm⟩;obtain⟨rfl,rfl⟩:=y;refine⟨aC.refl _,λd e=>?_⟩;rw[hl] at hi;unfold BX at e;rw[av,xc hi] at e;cases e;rw[zM]
noncomputable def intD:D->Option Int
 |.int i=>aA i
 |_=>aB
def mR(f:ME):ML:=λr=>(f r).bind λd=>(intD d).bind λj=>if -(2 ^ 62)<=j/\j<2 ^ 62 then aA (BX 0 j.toNat) else aB
def dF(e:intD d=aA i):d=.int i:=by
 cases d<;>first|cases e;rfl|cases e
def pW(hg:Gl X "range")(hm:X.mg "range" = aB)(ha:DE X l f)(hs:bp [l] X.env=[(false,eval l X.env)]:=by rfl):DI X tg (.Call (.Name "range" p) [l] [] pos) (mR f):=by
 refine PI.aH (WM hg hm (yN ha x8 hs) hs) λσ H Rr h=>?_
 obtain⟨O0,r,ds,hR,e,q⟩:=h;obtain⟨d,e1,e2⟩:=aF e;obtain⟨j,e3,e4⟩:=aF e2;cases dF e3;split at e4
 .rename_i hj;cases e4;refine⟨O0,r,_,hR,e1,λv H1 s1 i1=>?_⟩;rw[zM] at i1;exact⟨j,by rw[i1],hj.1,hj.2,q _ H1 s1<|RW 0 _⟩
 .cases e4
noncomputable def QV(env:Env):List (Str×NameKind)->List (Str×Addr)->List (Str×Addr)
 |[],acc=>acc
 |(n,k)::r,acc=>if k=.free then QV env r ((n,(env.cells.lookup n).getD 0)::acc) else QV env r acc
theorem bL:∀(names:List (Str×NameKind)) (acc:List (Str×Addr)),(∀y∈names,y.2=.free->∃c,env.cells.lookup y.1=aA c) ->
  (forIn names acc (λ(x:Str×NameKind) (cs:List (Str×Addr))=>match x with
   |(name,kind)=>if (kind == NameKind.free)=true then do let a <- cellOf env name;pure (ForInStep.yield ((name,a)::cs)) else pure<|ForInStep.yield cs):Sem (List<|Str×Addr))=pure (QV env names acc)
 |[],acc,_=>rfl
 |(n,k)::r,acc,h=>by
  rw[zi];by_cases hk:k=.free
  .obtain⟨c,hc⟩:=h (n,k) dg hk;have ih:=bL r ((n,c)::acc) λy hy=>h y<|bt _ hy
   subst hk;show((do let a <- cellOf env n;pure (ForInStep.yield ((n,a)::acc))) >>= _:Sem _)=_;unfold cellOf;rw[hc];unfold QV;rw[if_pos rfl,hc];exact ih
  .have hb:(k == NameKind.free)=false:=by simpa using hk
   have ih:=bL r acc λy hy=>h y<|bt _ hy
   unfold QV;rw[if_neg hk];simp only[hb];exact ih
def vR(h:∀y∈scope.names,y.2=.free->∃c,env.cells.lookup y.1=aA c):closureFor scope env=pure (QV env scope.names []):=by
 unfold closureFor
 have:=bL (env:=env) scope.names [] h
 first
  |exact this
  |(simp only[bind_pure];exact this)
  |(rw[<-this];rfl)
theorem nK:∀(names:List (Str×NameKind)) (acc:List (Str×Addr)),(∀y∈names,y.2=.free->∃c,env.cells.lookup y.1=aA c)->(∀c,acc.lookup x=aA c->env.cells.lookup x=aA c) ->
  (QV env names acc).lookup x=aA c->env.cells.lookup x=aA c
 |[],acc,_,ha,e=>ha c e
 |(n,k)::r,acc,h,ha,e=>by
  unfold QV at e;split at e
  .rename_i hk;refine nK r _ (λy hy=>h y<|bt _ hy) (λc' e'=>?_) e;rw[jd] at e';split at e'
   .rename_i hx;have lK:x=n:=by simpa using hx
    subst lK;obtain⟨c2,q⟩:=h (x,k) dg hk;rw[q] at e' ⊢;simpa using e'
   .exact ha c' e'
  .exact nK r _ (λy hy=>h y<|bt _ hy) ha e
theorem nO:∀(names:List (Str×NameKind)) (acc:List (Str×Addr)),(∃c,acc.lookup x=aA c)->∃c,(QV env names acc).lookup x=aA c
 |[],acc,h=>h
 |(n,k)::r,acc,h=>by
  unfold QV;split
  .refine nO r _ ?_;rw[jd];split
   .exact⟨_,rfl⟩
   .exact h
  .exact nO r _ h
theorem d3:∀(names:List (Str×NameKind)) (acc:List (Str×Addr)),(x,NameKind.free)∈names->∃c,(QV env names acc).lookup x=aA c
 |[],_,h=>nomatch h
 |(n,k)::r,acc,h=>by
  unfold QV;rcases bb.mp h with z|z
  .cases z;rw[if_pos rfl];refine nO r _ ?_;rw[jd];simp
  .split
   .exact d3 r _ z
   .exact d3 r _ z
theorem jU{env:Env}:∀{names:List (Str×NameKind)} {x:Str} {k:NameKind},(names.map λ(n,k)=>if (k == NameKind.free && env.scope.kind == .function && env.kindOf n == aA .cell) then (n,NameKind.cell) else (n,k)).lookup x=aA k ->
  ∃k',names.lookup x=aA k'/\(k=k'\/(k'=.free/\k=.cell))
 |[],_,_,h=>by simp at h
 |(n,k0)::r,x,k,h=>by
  have h':acv x ((if (k0 == NameKind.free && env.scope.kind == .function && env.kindOf n == aA .cell)=true then (n,NameKind.cell) else (n,k0))::(r.map λ(n,k)=>if (k == NameKind.free && env.scope.kind == .function && env.kindOf n == aA .cell) then (n,NameKind.cell) else (n,k)))=aA k:=h;rw[jd];by_cases hc:(k0 == NameKind.free && env.scope.kind == .function && env.kindOf n == aA .cell)=true
  .rw[if_pos hc,jd] at h';split at h'
   .rename_i hx;cases h';refine⟨k0,rfl,.inr ⟨?_,rfl⟩⟩;simp only[fu,beq_iff_eq] at hc;exact hc.1.1
   .rename_i hx;exact jU h'
  .rw[if_neg hc,jd] at h';split at h'
   .rename_i hx;cases h';exact⟨k0,rfl,.inl rfl⟩
   .rename_i hx;exact jU h'
theorem uE{env:Env}:∀{names:List (Str×NameKind)} {x:Str},names.lookup x=aA .free ->
  let l:=(names.map λ(n,k)=>if (k == NameKind.free && env.scope.kind == .function && env.kindOf n == aA .cell) then (n,NameKind.cell) else (n,k));l.lookup x=aA .cell\/l.lookup x=aA .free
 |[],_,h=>by simp at h
 |(n,k0)::r,x,h=>by
  show acv x ((if (k0 == NameKind.free && env.scope.kind == .function && env.kindOf n == aA .cell)=true then (n,NameKind.cell) else (n,k0))::_)=_\/acv x ((if (k0 == NameKind.free && env.scope.kind == .function && env.kindOf n == aA .cell)=true then (n,NameKind.cell) else (n,k0))::_)=_;rw[jd] at h;cases hx:x == n with
  |true=>
   rw[hx] at h;cases h;split
   .left;rw[jd,hx]
   .right;rw[jd,hx]
  |false=>
   rw[hx] at h;have ih:=uE (env:=env) h;split
   .rw[jd,hx];exact ih
   .rw[jd,hx];exact ih
def eI(X:Cx)(N':List Str)(scope:Scope)(C:Addr)(fp:List Addr)(s:Shared)(H:Hp):Cx where
 prog:=X.prog
 w:=X.w
 K:=X.K
 mg:=X.mg
 base:=X.base
 A:=X.A
 N:=N'
 s₀:=s
 H₀:=H
 env:=compEnvC scope (QV X.env scope.names []) C X.env
 outer:=X.stack
 stack:=X.stack
 ex:=fp
 fn:=λ_=>false
 calm:=X.calm
 pn:=[]
 xe:=λ_ _=>False
structure i7(X:Cx)(N':List Str)(cap:List Nat)(scope:Scope):Prop where
 kind:scope.kind=.function
 nc:∀y∈scope.names,y.2≠.cell
 nm:∀y∈scope.names,y.2=.local->scope.names.lookup y.1=aA .local
 fr:∀y∈scope.names,y.2=.free->X.env.kindOf y.1=aA .cell\/X.env.kindOf y.1=aA .free
 F_:∀(i j:Nat),cap[i]?=aA j->∃x,N'[i]?=aA x/\X.N[j]?=aA x/\scope.names.lookup x=aA .free
 len:cap.length<=N'.length
def l4(cap:List Nat)(n:Nat)(σ:St):St:=(cap.map λj=>(σ[j]?).getD aB)++bg (n-cap.length) aB
def i7.IB(o:i7 X N' cap scope)(ok:X.Ok):∀y∈scope.names,y.2=.free->∃c,X.env.cells.lookup y.1=aA c:=λy hy e=>ok.has y.1<|o.fr y hy e
def i7.sub(o:i7 X N' cap scope)(ok:X.Ok)(e:(QV X.env scope.names []).lookup x=aA c):X.env.cells.lookup x=aA c:=nK scope.names [] (o.IB ok) (λ_ z=>by simp at z) e
def UM(o:i7 X N' cap scope)(I:Inv X pZ σ H s)(sA:∀b∈fp,gZ X pZ H b)(eF:∀b∈fp,b<s.heap.objs.size){h':Heap}{t':Nat}(ns:h'.Ns s.heap.objs.size (λ_=>aB))(kp:∀b u,s.heap.get? b=aA u->h'.get? b=aA u):Inv (eI X N' scope s.heap.objs.size fp s H) [] (l4 cap N'.length σ) H { s with heap:=h',toks:=t' }:=by
 have hf:H s.heap.objs.size=aB:=I.aI.fresh<|al _;have VS:∀b∈fp,b∉iY X.stack:=λb hb z=>by
  obtain⟨f0,f1,f2,f3,f4,f5⟩:=sA b hb;rcases bb.mp (I.Hr b z) with q|q
  .exact f1 q
  .exact f2 q
 have VL:(eI X N' scope s.heap.objs.size fp s H).Ok:=by
  refine⟨I.ok.mod,o.kind,I.ok.glob,I.ok.blt,al _,λx y c e1 e2=>I.ok.inj x y c (o.sub I.ok e1)<|o.sub I.ok e2,λx hx=>?_,λx c z=>(by cases z),I.ok.hd,I.ok.frames,.inl rfl,λb hb=>⟨bh<|eF b hb,λx c e=>(sA b hb).2.2.2.2.1 x c<|o.sub I.ok e⟩,
   λb ob e=>I.bs b ob e,cz I.ok.t_ I.sz,λb ob e hb=>?_,VS,I.stack,⟨I.MC,I.tabIn⟩⟩
  .have key:scope.names.lookup x=aA .free:=by
    rcases hx with hx|hx
    .obtain⟨k',e1,e2⟩:=jU (env:=X.env) (names:=scope.names) (x:=x) (k:=.cell) hx;rcases e2 with e2|e2
     .subst e2;exact absurd rfl<|o.nc _<|jf e1
     .rw[e2.1] at e1;exact e1
    .obtain⟨k',e1,e2⟩:=jU (env:=X.env) (names:=scope.names) (x:=x) (k:=.free) hx;rcases e2 with e2|e2
     .subst e2;exact e1
     .exact absurd e2.2 (by decide)
   exact d3 scope.names []<|jf key
  .rcases(sA b hb).2.2.2.1 with z|z
   .exact I.ok.Bv b ob e z
   .exact absurd (bw (bw (aw e) I.ok.t_) z)<|qq _
 refine⟨VL,rfl,I.bare,Un.kept kp,⟨λ_=>aB,ns,λi x v hN hs hv=>?_⟩,λx c e=>?_,hf,λx c e=>I.sE x c<|o.sub I.ok e,λp hp=>?_,I.aI.kept kp,?_⟩
 .have hN:N'[i]?=aA x:=hN;by_cases hi:i<cap.length
  .unfold l4 at hs;rw[be<|by simpa using hi,av] at hs;obtain⟨j,hj⟩:∃j,cap[i]?=aA j:=⟨cap[i],by simp[hi]⟩;rw[hj] at hs;have D_:σ[j]?=aA (aA v):=by
    have FO:(σ[j]?).getD aB=aA v:=bv hs;cases e:σ[j]? with
    |none=>rw[e] at FO;cases FO
    |some y=>rw[e] at FO;have:y=aA v:=FO;rw[this]
   obtain⟨x',e1,e2,e3⟩:=o.F_ i j hj;rw[hN] at e1;cases e1;have hk:=o.fr (x,.free) (jf e3) rfl;obtain⟨m,hn,hl⟩:=I.loc;have Wt:F' X.env.scope x:=hk.elim (λz=>.inr<|.inl z) λz=>.inr<|.inr z
   obtain⟨u,r,lk⟩:=hl j x v e2 D_ Wt;refine⟨u,r,.inr ⟨uE (env:=X.env) e3,?_⟩⟩;rcases lk with⟨z,_⟩|⟨_,c,hc,F2⟩
   .have z':X.env.kindOf x=aA .local:=z;rw[z'] at hk;rcases hk with hk|hk<;>cases hk
   .obtain⟨c',sW⟩:=d3 (env:=X.env) scope.names []<|jf e3;have Eh:=o.sub I.ok sW;rw[hc] at Eh;cases Eh;obtain⟨ob,q1,q2⟩:=F2;exact⟨c,sW,ob,kp _ _ q1,q2⟩
  .unfold l4 at hs;rw[bm<|by simpa using si hi,fq] at hs;split at hs<;>cases hs
 .obtain⟨v,ob,q1,q2⟩:=I.cell x c<|o.sub I.ok e;exact⟨v,ob,kp _ _ q1,q2⟩
 .exact absurd (show p∈([]:List (Addr×Obj)) from hp) (by simp)
 .unfold l4;show _=N'.length;rw[ag,ah,wm]
  have:=o.len
  omega
def uU(I:Inv X pZ σ H s)(sA:∀b∈fp,gZ X pZ H b)(J:Inv (eI X N' scope s.heap.objs.size fp s H) [] σ2 H2 s2)(sb:dz s.heap.objs.size s2.heap h'):Inv X pZ σ H2 { s2 with heap:=h' }:=by
 have hb:Un (iY X.stack) fp H H2 s.heap s2.heap:=J.base;have ne:∀b o,s.heap.get? b=aA o->b≠s.heap.objs.size:=λb o e=>bh<|aw e
 have fr:H2 s.heap.objs.size=aB:=J.free;refine I.Á (s':={ s2 with heap:=h' }) (ch:=fp) J.os ?_ ?_ J.bare λb hb=>⟨(sA b hb).2.2.2.1,(sA b hb).2.1,(sA b hb).2.2.2.2.1,(sA b hb).2.2.2.2.2⟩
 .refine⟨λb o e n h1 h2=>?_,λb o e n h1 h2=>?_,λb o e n h2=>hb.free b o e n h2,λb o e h2=>?_,hb.Ae,hb.sZ,hb.Af⟩
  .exact sb.extBut b o (ne b o e)<|hb.keep b o e n h1 h2
  .obtain⟨sl,q⟩:=hb.slot b o e n h1 h2;exact⟨sl,sb.extBut b _ (ne b o e) q⟩
  .obtain⟨o',q⟩:=hb.there b o e h2;exact⟨o',sb.extBut b _ (ne b o e) q⟩
 .intro b u e;have nb:∀c w,H2 c=aA w->c≠s.heap.objs.size:=λc w q z=>by rw[z,fr] at q;cases q
  refine(J.aI b u e).Ag (λc v hc q=>sb.extBut c v ?_ q) (λ_ q=>q) (λ_ _ q=>q) λ_ _ _ q=>q
  rcases hc with z|z
  .rw[z];exact nb b u e
  .exact nb c _ z
def Hi(tc:Option TT)(te:TE)(K1:V->Hp->Prop)(K0:Hp->Prop):St->Hp->Prop:=λσ H=>match tc with
 |none=>te σ H K1
 |some c=>c σ H λb H1=>if b=true then te σ H1 K1 else K0 H1
def Fb(cap:List Nat)(n:Nat)(wi:TI)(g:TG)(tc:Option TT)(te:TE):TE:=λσ H Q=>wi σ H λJ H1=>∀p,H1 p=aB->∃W:Nat->Nat->List V->St->Hp->Prop,(∃m,W 0 m [] (l4 cap n σ)<|upd H1 p<|.lst [])/\∀i m ys σ2 H2,W i m ys σ2 H2->H2 p=aA (.lst ys)/\ys.length<ar /\
 ((J.stop i H2/\Q (.ref p) H2)\/(J.go i H2/\∀x H3,J.C7 i H2 x H3->g x σ2 H3 λσ4 H4=>Hi tc te (λy H5=>H5 p=aA (.lst ys)/\∃m',m'<m/\W (i+1) m' (ys++[y]) σ4 (upd H5 p<|.lst<|ys++[y])) (λH5=>∃m',m'<m/\W (i+1) m' ys σ4 H5) σ4 H4))
def rA(W:Nat->Shared->Prop)(each:∀k t,W k t->wpAny (model prog w) A (pyNext it) (λgot t1=>match got with
   |none=>Z (.ok .next) t1
   |some y=>wpAny (model prog w) A (letOwnedTupleGo Hn it y) (λ_ t2=>wpAny (model prog w) A (assign Hn env y) (λ_ t3=>
     wpAny (model prog w) A (forIn tests true λc b=>if b=true then do let ok <- isTrue c env (eval c env);pure (ForInStep.yield ok) else pure<|ForInStep.yield b) (λgood t4=>
      if good=true then wpAny (model prog w) A (eval elt env) (λx t5=>
       wpAny (model prog w) A (call (.builtin "list.append") [out,x]) (λ_ t6=>∃j,j<k/\W j t6) (λ_ _=>False) t5) (λ_ _=>False) t4
      else ∃j,j<k/\W j t4) (λ_ _=>False) t3) (λ_ _=>False) t2) (λ_ _=>False) t1) (λ_ _=>False) t)(k:Nat)(h0:W k t0):codeAny (model prog w) A (.compLoop (.ListComp elt [⟨Hn,src,tests,0⟩] scope pos) 0 it out env) Z t0:=by
 refine codeAny_loop rfl W (λk t hW=>?_) k h0;show wpAny _ A ((compTurn (.ListComp elt [⟨Hn,src,tests,0⟩] scope pos) 0 it out env).onRaise (λx=>do noteFrame x env;theTreesLotGoes x)) _ _ t;refine wpAny_noted ?_;rw[compTurn_list];refine aa<|xg<|aa<|je (each k t hW) (λgot t1 g1=>?_) λ_ _ no=>no.elim;cases got with
 |none=>exact af g1
 |some y=>
  refine aa<|je g1 (λ_ t2 g2=>aa<|je g2 (λ_ t3 g3=>aa<|je g3 (λgood t4 g4=>?_) λ_ _ no=>no.elim) λ_ _ no=>no.elim) λ_ _ no=>no.elim;cases good with
  |false=>exact af ⟨rfl,g4⟩
  |true=>
   exact aa<|aa<|je g4 (λx t5 g5=>aa<|je g5 (λ_ t6 g6=>af<|af ⟨rfl,g6⟩) λ_ _ no=>no.elim) λ_ _ no=>no.elim
def p9{elt tg iter:Expr}{ifs:List Expr}{pos:Pos}{g:TG}{tc:Option TT}{te:TE}{J:It}{it:Addr}{tn:Nat->Heap->Prop}{Q:VK}{RR:Value->Addr->Result->Shared->Prop}(hc:X.calm=true)(o:i7 X N' cap scope)(hg:∀C fp s H,PG (eI X N' scope C fp s H) tg g)(ht:match (generalizing:=false) tc with|none=>ifs=[]|some c=>∃e,ifs=[e]/\∀C fp s H,PT (eI X N' scope C fp s H) e c)(he:∀C fp s H,PE (eI X N' scope C fp s H) elt te)(I:Inv X pZ σ H s)(T:Turn X.prog X.w X.K tg J fp it tn)(st:tn 0 s.heap)(sA:∀b∈fp,gZ X pZ H b)(hw:∀p,H p=aB->∃W:Nat->Nat->List V->St->Hp->Prop,(∃m,W 0 m [] (l4 cap N'.length σ)<|upd H p<|.lst [])/\∀i m ys σ2 H2,W i m ys σ2 H2->H2 p=aA (.lst ys)/\ys.length<ar /\
   ((J.stop i H2/\Q (.ref p) H2)\/(J.go i H2/\∀x H3,J.C7 i H2 x H3->g x σ2 H3 λσ4 H4=>Hi tc te (λy H5=>H5 p=aA (.lst ys)/\∃m',m'<m/\W (i+1) m' (ys++[y]) σ4 (upd H5 p<|.lst<|ys++[y])) (λH5=>∃m',m'<m/\W (i+1) m' ys σ4 H5) σ4 H4)))(Yu:∀(p:Addr) (s3 s':Shared) (H3 H2:Hp) (σ2:St),Inv X pZ σ H3 s3->(∀b∈fp,gZ X pZ H3 b)->Inv (eI X N' scope s3.heap.objs.size fp s3 H3) [] σ2 H2 s'->Q (.ref p) H2->RR (.ref p) s3.heap.objs.size (.ok .next) s'):wpAny (model X.prog X.w) X.A (newList []) (λacc s₃=>wpAny (model X.prog X.w) X.A (newFunctionEnv scope X.env.globals (QV X.env scope.names []) [] X.env.qual aB .none<|some X.env) (λOb s₄=>
   codeAny (model X.prog X.w) X.A (.compStart (.ListComp elt [⟨tg,iter,ifs,0⟩] scope pos) 0 (.ref it) acc { Ob with scope:=relabel scope X.env }) (RR acc Ob.locals) s₄) X.xe s₃) X.xe s:=by
 refine dq ?_;obtain⟨W,⟨m0,w0⟩,turn⟩:=hw s.heap.objs.size<|I.aI.fresh<|al _;have VW:∀b∈fp,b<s.heap.objs.size:=λb hb=>by
  obtain⟨ob,e,_⟩:=T.obj 0 _ st b hb;exact aw e
 have I3:=I.H_ (its:=[]) (ys:=[]) (t':=s.toks) .nil<|bu _;generalize Nx:({ s with heap:=s.heap.push { cls:=.type "list",data:=.seq ([]:List Value).toArray },toks:=s.toks }:Shared)=s3 at I3;have û:({ s with heap:=s.heap.push { cls:=.type "list",dict:=aB,data:=.seq ([]:List Value).toArray } }:Shared)=s3:=Nx;have Iz:∀b∈fp,gZ X pZ (upd H s.heap.objs.size<|.lst []) b:=λb hb=>⟨by rw[zT<|bh<|VW b hb];exact(sA b hb).1,(sA b hb).2⟩
 have Db:tn 0 s3.heap:=T.keep 0 _ _ st λb _ ob e=>by rw[<-Nx];exact ac _ e
 have M_:∀b∈fp,b<s3.heap.objs.size:=λb hb=>by
  obtain⟨ob,e,_⟩:=T.obj 0 _ Db b hb;exact aw e
 refine wpAny_newFunctionEnv o.nc (by intro y hy;simp at hy) (λh₁ Xk Xc=>?_) o.kind;have old:∀b ob,s3.heap.get? b=aA ob->h₁.get? b=aA ob:=λb ob e=>Xc.extBut b ob (bh<|aw e)<|ac _ e
 have I4:=UM (t':=s3.toks+([]:List (Str×Value)).length) o I3 Iz M_ (by simpa using Xk) old;have MG:tn 0 h₁:=T.keep 0 _ _ Db λb _ ob e=>old b ob e
 have IG:∀H',(∀b∈fp,H' b=aB)->∀b∈fp,gZ (eI X N' scope s3.heap.objs.size fp s3<|upd H s.heap.objs.size<|.lst []) [] H' b:=λH' hn b hb=>by
  refine⟨hn b hb,bh<|M_ b hb,I4.ok.Cz b hb,.inl hb,(I4.ok.F6 b hb).2,λp hp=>absurd (show p∈([]:List (Addr×Obj)) from hp)<|by simp⟩
 have loop:codeAny (model X.prog X.w) X.A (.compLoop (.ListComp elt [⟨tg,iter,ifs,0⟩] scope pos) 0 (.ref it) (.ref s.heap.objs.size)<|compEnvC scope (QV X.env scope.names []) s3.heap.objs.size X.env) (RR (.ref s.heap.objs.size) s3.heap.objs.size) { s3 with heap:=h₁,toks:=s3.toks+([]:List (Str×Value)).length }:=by
  refine rA (λn s'=>∃i ys σ' H',Inv (eI X N' scope s3.heap.objs.size fp s3<|upd H s.heap.objs.size<|.lst []) [] σ' H' s'/\tn i s'.heap/\(∀b∈fp,H' b=aB)/\W i n ys σ' H') ?_ m0 ⟨0,[],_,_,I4,MG,λb hb=>(Iz b hb).1,w0⟩;rintro n s5 ⟨i,ys,σ5,H5,I5,B',F5,w5⟩;obtain⟨ý,Wk,br⟩:=turn i n ys σ5 H5 w5;rcases br with⟨stop,q⟩|⟨go,step⟩
  .refine aK (T.done (eI X N' scope s3.heap.objs.size fp s3<|upd H s.heap.objs.size<|.lst []) rfl rfl rfl hc i [] s5 _ H5 (λ_ _=>False) I5 (IG H5 F5) B' stop) λr s6 ⟨hr,I6⟩=>?_
   subst hr;exact Yu _ s3 s6 _ H5 _ I3 Iz I6 q
  .refine aK (T.item (eI X N' scope s3.heap.objs.size fp s3<|upd H s.heap.objs.size<|.lst []) rfl rfl rfl hc i [] s5 _ H5 (λ_ _=>False) I5 (IG H5 F5) B' go) λr s6 ⟨u,hr,h6⟩=>?_
   subst hr;refine aK h6 λ_ s7 ⟨x,H7,I7,r7,y7,Ht,Zd⟩=>?_
   have Ê:=I7.pinned (IG H7 Zd)<|T.obj _ _ Ht;refine aK (hg _ _ _ _ _ s7 _ H7 x u _ Ê r7<|step x H7 y7) λ_ s8 ⟨σ8,H8,I8,q8⟩=>?_
   have again:∀{H9:Hp} {σ9:St} {s9:Shared} {Fc:List V},Inv (eI X N' scope s3.heap.objs.size fp s3<|upd H s.heap.objs.size<|.lst []) ([]++oM fp s7.heap) σ9 H9 s9->(∃m',m'<n/\W (i+1) m' Fc σ9 H9) ->
     ∃m,m<n/\∃i ys σ' H',Inv (eI X N' scope s3.heap.objs.size fp s3<|upd H s.heap.objs.size<|.lst []) [] σ' H' s9/\tn i s9.heap/\(∀b∈fp,H' b=aB)/\W i m ys σ' H':=λ{H9 σ9 s9 Fc} I9 z=>by
    obtain⟨m',hm,w9⟩:=z;refine⟨m',hm,i+1,Fc,σ9,H9,I9.B8,T.keep _ _ _ Ht λb hb ob e=>(I9.pin (b,ob)<|cr _<|cr _<|kU hb e).1,λb hb=>?_,w9⟩;obtain⟨ob,e,d⟩:=T.obj _ _ Ht b hb;exact(I9.pin (b,ob)<|cr _<|cr _<|kU hb e).2.1
   have app:∀{s9:Shared} {H9:Hp} {y:V} {u9:Value},Inv (eI X N' scope s3.heap.objs.size fp s3<|upd H s.heap.objs.size<|.lst []) ([]++oM fp s7.heap) σ8 H9 s9->RelV y u9->(H9 s.heap.objs.size=aA (.lst ys)/\∃m',m'<n/\W (i+1) m' (ys++[y]) σ8 (upd H9 s.heap.objs.size<|.lst<|ys++[y])) ->
     wpAny (model X.prog X.w) X.A (call (.builtin "list.append") [.ref s.heap.objs.size,u9]) (λ_ s₅=>∃m,m<n/\∃i ys σ' H',Inv (eI X N' scope s3.heap.objs.size fp s3<|upd H s.heap.objs.size<|.lst []) [] σ' H' s₅/\tn i s₅.heap/\(∀b∈fp,H' b=aB)/\W i m ys σ' H') (λ_ _=>False) s9:=λ{s9 H9 y u9} I9 r9 z9=>by
    refine aK (cY (X:=eI X N' scope s3.heap.objs.size fp s3<|upd H s.heap.objs.size<|.lst []) _ s9 σ8 H9 (.ref s.heap.objs.size) [y] (.ref s.heap.objs.size) [u9] (λ_ H'=>∃m',m'<n/\W (i+1) m' (ys++[y]) σ8 H') I9 rfl (.cons r9 .nil) ⟨_,ys,y,rfl,rfl,z9.1,Wk,z9.2⟩) λ_ Vw ⟨_,Ì,IS,_,Hj⟩=>?_
    exact again IS Hj
   cases tc with
   |none=>
    have hi:ifs=[]:=ht;subst hi;refine wpAny_tests_nil ?_;rw[if_pos rfl];exact aK (he _ _ _ _ _ s8 σ8 H8 _ I8 q8) λu9 s9 ⟨y,H9,I9,r9,z9⟩=>app I9 r9 z9
   |some c=>
    obtain⟨e,IA,Yh⟩:=ht;subst IA;refine wpAny_tests_one<|aK (Yh _ _ _ _ _ s8 σ8 H8 _ I8 q8) λb s9 ⟨H9,I9,q9⟩=>?_;cases b with
    |false=>
     rw[if_neg bc] at q9 ⊢;exact again I9 q9
    |true=>
     rw[if_pos rfl] at q9 ⊢;exact aK (he _ _ _ _ _ s9 σ8 H9 _ I9 q9) λå Vw ⟨y,Ì,IS,VA,Hj⟩=>app IS VA Hj
 exact codeAny_compStart_list loop<|T.self X.A 0 _ _ _ MG loop
def UF(hc:X.calm=true)(o:i7 X N' cap scope)(hi:PI X tg iter wi)(hg:∀C fp s H,PG (eI X N' scope C fp s H) tg g)(ht:match (generalizing:=false) tc with|none=>ifs=[]|some c=>∃e,ifs=[e]/\∀C fp s H,PT (eI X N' scope C fp s H) e c)(he:∀C fp s H,PE (eI X N' scope C fp s H) elt te)(hs:∀x,jy iter X.env x=pure x:=by intro _;rfl):PE X (.ListComp elt [⟨tg,iter,ifs,0⟩] scope pos) (Fb cap N'.length wi g tc te):=by
 intro pZ s σ H Q I h;rw[eval_ListComp];refine aal (use:=aB) rfl hs (vR<|o.IB I.ok) o.kind o.nm<|aK (hi pZ s σ H _ I h) λxv s1 h1=>aK h1 λFK s2 h2=>?_;obtain⟨it,fp,tn,J,H2,rfl,I2,T,eT,f2,hw⟩:=h2;refine p9 (Q:=Q) hc o hg ht he I2 T eT f2 hw ?_;intro p s3 s' H3 H4 σ4 I3 f3 J4 q;obtain⟨m,hn,_⟩:=J4.loc;exact⟨m,hn,λh' sb=>⟨.ref p,H4,uU I3 f3 J4 sb,rfl,q⟩⟩
def mY(hc:X.calm=true)(o:i7 X N' cap scope)(hi:PI X tg iter wi)(hg:∀C fp s H,PG (eI X N' scope C fp s H) tg g)(ht:match (generalizing:=false) tc with|none=>ifs=[]|some c=>∃e,ifs=[e]/\∀C fp s H,PT (eI X N' scope C fp s H) e c)(he:∀C fp s H,PE (eI X N' scope C fp s H) elt te)(hN:X.N.Nodup)(hy:X.N[i]?=aA y)(hx:Loc X.env.scope y)(hf:iQ X y)(Bz:kq (.ListComp elt [⟨tg,iter,ifs,0⟩] scope pos) (aA<|.Name y py) Bn.line X.env=pure true)(hs:∀x,jy iter X.env x=pure x:=by intro _;rfl):PS X (.Assign [.Name y py] (.ListComp elt [⟨tg,iter,ifs,0⟩] scope pos) Bn) (Jm (Fb cap N'.length wi g tc te)<|B4 i):=by
 intro pZ s σ H D I h;rw[exec_Assign_Name_used _ _ _ _ Bz];refine aa<|xg<|aa ?_;show wpAny _ X.A (do let _ <- comprehension (.ListComp elt [⟨tg,iter,ifs,0⟩] scope pos) scope X.env _ (newList []) false (eval iter X.env) (aA<|assign (.Name y py) X.env)) _ _ s;refine aa (je (aal (use:=aA<|assign (.Name y py) X.env) (Q:=λ_ s'=>SP X pZ D .next s') rfl hs (vR<|o.IB I.ok) o.kind o.nm
  (aK (hi pZ s σ H _ I h) λxv s1 h1=>aK h1 λFK s2 h2=>?_)) (λ_ s' hq=>af<|af hq) λ_ _ e=>e)
 obtain⟨it,fp,tn,J,H2,rfl,I2,T,eT,f2,hw⟩:=h2;refine p9 (Q:=λv H1=>B4 i v σ H1 D.nx) hc o hg ht he I2 T eT f2 hw ?_;intro p s3 s' H3 H4 σ4 I3 f3 J4 q;obtain⟨m,hn,_⟩:=J4.loc;have I5:Inv X pZ σ H4 s':=uU I3 f3 J4<|yh _ _;have fc:gZ X pZ H4 s3.heap.objs.size:=I3.Ar (al _) J4.free;show wpAny _ X.A (assign (.Name y py) X.env<|.ref p) _ _ _;refine wpAny_assign_Name<|n5 (v:=.ref p) I5 hN hy hx rfl (λs6 I6 ⟨a,sb,ha⟩=>?_) hf;have fC:s3.heap.objs.size≠a:=by
  rcases ha with ha|ha
  .rw[ha];exact fc.2.1
  .exact λz=>fc.2.2.2.2.1 y a ha z.symm
 refine⟨m,hn.sameBut sb fC,λh' Dg=>⟨_,H4,?_,q⟩⟩;exact I6.turned (t':=s6.toks) (it:=s3.heap.objs.size) (λb ob hb e=>Dg.extBut b ob hb e) fc.1 fc.2.1 fc.2.2.2.1 fc.2.2.2.2.1 fc.2.2.2.2.2
noncomputable def qO:D->D->Option D
 |.int i,.int j=>aA<|.int<|i+j
 |.str s,.str t=>if s.length+t.length<=ar then aA (.str<|s++t) else aB
 |.lst l,.lst m=>if l.length+m.length<=ar then aA (.lst<|l++m) else aB
 |.tup l,.tup m=>if l.length+m.length<=ar/\l.isEmpty=false/\m.isEmpty=false then aA (.tup<|l++m) else aB
 |_,_=>aB
noncomputable def BY:D->D->Option D
 |.int i,.int j=>aA<|.int<|i-j
 |_,_=>aB
noncomputable def XU:D->D->Option D
 |.int i,.int j=>if (-(2 ^ 64)<i/\i<2 ^ 64)\/(-(2 ^ 64)<j/\j<2 ^ 64) then aA (.int<|i*j) else aB
 |_,_=>aB
noncomputable def xJ:D->D->Option D
 |.int i,.int j=>if 0<j/\j<1073741824 then aA (.int<|i / j) else aB
 |_,_=>aB
noncomputable def w6:D->D->Option D
 |.int i,.int j=>if 0<j then aA (.int<|i % j) else aB
 |_,_=>aB
noncomputable def sM:D->D->Option D
 |.int i,.int j=>if 0<=j/\j<=1000000/\i.natAbs<2 ^ 64 then aA (.int<|i ^ j.toNat) else aB
 |_,_=>aB
noncomputable def sY:D->D->Option D
 |.int i,.int j=>aA<|.bl<|decide (j<i)
 |_,_=>aB
noncomputable def Ek:D->D->Option Bool
 |.int i,.int j=>aA<|decide (i=j)
 |.str s,.str t=>aA<|decide (s=t)
 |.bl a,.bl b=>aA<|decide (a=b)
 |.aE,.aE=>aA true
 |.aE,.int _=>aA false
 |.int _,.aE=>aA false
 |.aE,.str _=>aA false
 |.str _,.aE=>aA false
 |.int _,.str _=>aA false
 |.str _,.int _=>aA false
 |_,_=>aB
def N2(x y:D):Option D:=(Ek x y).map .bl
def Nb(x y:D):Option D:=(Ek x y).map λb=>.bl !b
noncomputable def mP(x y:D):Option D:=match y with
 |.aE=>match x with
  |.aE=>aA<|.bl false
  |_=>aA<|.bl true
 |_=>aB
def Km(K:Fg):R2:=λx y H Q=>∃l b xs zs,x=.ref l/\y=.ref b/\aN K H l xs/\aN K H b zs/\xs.length+zs.length<=ar/\∀p,H p=aB->Q (.ref p) (upd H p<|.lst<|xs++zs)
def M4:a9 X (binaryOp .Add) (Km X.K):=by
 intro pZ s σ H x y v u Q I rx ry h;obtain⟨l,b,xs,zs,rfl,rfl,hH,hB,hz,q⟩:=h;cases rx;cases ry;obtain⟨its,r,⟨⟨cls,dd,data,sl⟩,n,e,hc,Yf,hd⟩,z⟩:=I.list hH;obtain⟨a8,r2,⟨⟨Oa,F9,data2,Cd⟩,n2,e2,sD,Ye,hd2⟩,z2⟩:=I.list hB;have hl:=r.length;have Ef:=r2.length;cases (show cls=_ from hc);cases (show dd=_ from Yf);cases (show data=_ from hd);cases (show Oa=_ from sD);cases (show F9=_ from Ye);cases (show data2=_ from hd2);refine abt ⟨_,e,rfl⟩ ⟨_,e2,rfl⟩ noFill_list_add seq_list_add PySem.F.slot_list_add PySem.F.entry_list_add (PySem.F.args_list_add_2 _ _) (list_addW l b its.toArray a8.toArray n n2 aB aB sl Cd (by rw[ao,ao];omega)) ⟨e,e2,?_⟩;have ea:its.toArray++a8.toArray=(its++a8).toArray:=by simp
 rw[ea];exact⟨.ref _,_,I.H_ (t':=s.toks) (r.append r2) (by rw[ag];omega),rfl,q _ I.fresh⟩
def Kq(K:Fg):R2:=λx y H Q=>l6 (λi j=>.int<|i+j) x y H Q\/(∃i j,x=.str i/\y=.str j/\i.length+j.length<=ar/\Q (.str<|i++j) H)\/Km K x y H Q\/Kn K x y H Q
def xG:a9 X (binaryOp .Add) (Kq X.K):=VH.or<|VG.or<|M4.or S0
def TK(s t:List Nat):((⟨s.toArray⟩:Str)++(⟨t.toArray⟩:Str))=(⟨(s++t).toArray⟩:Str):=by
 show(⟨s.toArray++t.toArray⟩:Str)=_;simp
def v7(s:List Nat):(⟨s.toArray⟩:Str).length=s.length:=by simp[vk]
def xH{K:Fg}:e_ K (Kq K) qO:=by
 intro O H dx dy d vx vy Q ol ix iy e q;unfold qO at e;split at e
 .have e:=bv e;subst e;rw[zM] at ix iy;exact .inl ⟨_,_,ix,iy,q _ H (aC.refl H)<|by rw[zM]⟩
 .rename_i s t;split at e
  .rename_i hl;cases e;rw[yC] at ix iy;refine .inr<|.inl ⟨_,_,ix,iy,by rw[v7,v7];exact hl,q _ H (aC.refl H) ?_⟩;rw[yC,TK]
  .cases e
 .rename_i l m;split at e
  .rename_i hl;cases e;rw[zY] at ix iy;obtain⟨a,xs,rfl,hs,il⟩:=ix;obtain⟨b,ys,rfl,fH,eW⟩:=iy;have e1:=il.length;have e2:=eW.length;refine .inr<|.inr<|.inl ⟨a,b,xs,ys,rfl,rfl,hs.sq,fH.sq,by omega,λp hp=>q _ _ (zW hp) ?_⟩;rw[zY];refine⟨p,_,rfl,.inl ⟨λz=>?_,.inl zR⟩,(il.append eW).same (zW hp) ol⟩;obtain⟨zs,ez,_⟩:=ol p z;rw[hp] at ez;cases ez
  .cases e
 .rename_i l m;split at e
  .rename_i hl;cases e;rw[zX] at ix iy;obtain⟨a,xs,rfl,hs,il⟩:=ix;obtain⟨b,ys,rfl,fH,eW⟩:=iy;have e1:=il.length;have e2:=eW.length;refine .inr<|.inr<|.inr ⟨a,b,xs,ys,rfl,rfl,hs,fH,?_,by omega,λz=>?_,λ_ p hp=>q _ _ (zW hp) ?_⟩
   .rintro rfl
    have:l=[]:=by simpa using e1
    subst this;simp at hl
   .subst z
    have:m=[]:=by simpa using e2
    subst this;simp at hl
   .rw[zX];exact⟨p,_,rfl,aM.of zR,(il.append eW).same (zW hp) ol⟩
  .cases e
 .cases e
def CP{K:Fg}(h:∀dx dy d,m dx dy=aA d->∃i j,dx=.int i/\dy=.int j/\C i j/\∀O H,Is K O H d<|g i j):e_ K (rI C g) m:=by
 intro O H dx dy d vx vy Q ol ix iy e q;obtain⟨i,j,rfl,rfl,hc,hd⟩:=h dx dy d e;rw[zM] at ix iy;exact⟨i,j,ix,iy,hc,q _ H (aC.refl H)<|hd O H⟩
def Kf{K:Fg}(h:∀dx dy d,m dx dy=aA d->∃i j,dx=.int i/\dy=.int j/\∀O H,Is K O H d<|g i j):e_ K (l6 g) m:=by
 intro O H dx dy d vx vy Q ol ix iy e q;obtain⟨i,j,rfl,rfl,hd⟩:=h dx dy d e;rw[zM] at ix iy;exact⟨i,j,ix,iy,q _ H (aC.refl H)<|hd O H⟩
def Qu{K:Fg}:e_ K (l6 λi j=>.int<|i-j) BY:=Kf λdx dy d e=>by
 unfold BY at e;split at e
 .cases e;exact⟨_,_,rfl,rfl,λO H=>by rw[zM]⟩
 .cases e
def oX{K:Fg}:e_ K (rI Gk λi j=>.int<|i*j) XU:=CP λdx dy d e=>by
 unfold XU at e;split at e
 .split at e
  .rename_i hc;cases e;exact⟨_,_,rfl,rfl,hc,λO H=>by rw[zM]⟩
  .cases e
 .cases e
def wG{K:Fg}:e_ K (rI IX λi j=>.int<|i / j) xJ:=CP λdx dy d e=>by
 unfold xJ at e;split at e
 .split at e
  .rename_i hc;cases e;exact⟨_,_,rfl,rfl,hc,λO H=>by rw[zM]⟩
  .cases e
 .cases e
def wD{K:Fg}:e_ K (rI (λ_ j=>0<j) λi j=>.int<|i % j) w6:=CP λdx dy d e=>by
 unfold w6 at e;split at e
 .split at e
  .rename_i hc;cases e;exact⟨_,_,rfl,rfl,hc,λO H=>by rw[zM]⟩
  .cases e
 .cases e
def G'{K:Fg}:e_ K (rI IY λi j=>.int<|i ^ j.toNat) sM:=CP λdx dy d e=>by
 unfold sM at e;split at e
 .split at e
  .rename_i hc;cases e;exact⟨_,_,rfl,rfl,hc,λO H=>by rw[zM]⟩
  .cases e
 .cases e
def GP{K:Fg}:e_ K (l6 λi j=>.bl<|decide (j<i)) sY:=Kf λdx dy d e=>by
 unfold sY at e;split at e
 .cases e;exact⟨_,_,rfl,rfl,λO H=>by rw[yG]⟩
 .cases e
def KR{K:Fg}(ix:Is K O H dx vx)(iy:Is K O H dy vy)(e:Ek dx dy=aA b):GF vx vy=true/\decide (vx=vy)=b:=by
 cases dx<;>cases dy<;>first|(simp only[Ek,reduceCtorEq] at e;done)|skip
 all_goals simp only[Ek,gn] at e
 all_goals subst e
 all_goals first|rw[zM] at ix|rw[yC] at ix|rw[yG] at ix|rw[y9] at ix
 all_goals first|rw[zM] at iy|rw[yC] at iy|rw[yG] at iy|rw[y9] at iy
 all_goals subst ix iy
 all_goals refine⟨rfl,?_⟩
 all_goals simp
def Pe{K:Fg}:e_ K HD N2:=by
 intro O H dx dy d vx vy Q ol ix iy e q;obtain⟨b,e1,rfl⟩:=aT e;obtain⟨h1,h2⟩:=KR ix iy e1;exact⟨h1,q _ H (aC.refl H)<|by rw[yG,h2]⟩
def Pg{K:Fg}:e_ K HB Nb:=by
 intro O H dx dy d vx vy Q ol ix iy e q;obtain⟨b,e1,rfl⟩:=aT e;obtain⟨h1,h2⟩:=KR ix iy e1;exact⟨h1,q _ H (aC.refl H)<|by rw[yG,h2]⟩
def Is.VO{K:Fg}(h:Is K O H d v):decide (v=.aE)=(match d with | .aE=>true|_=>false):=by
 cases d with
 |aJ ks l=>rw[jP] at h;obtain⟨a,kvs,rfl,_⟩:=h;rfl
 |aE=>rw[y9] at h;subst h;rfl
 |bl b=>rw[yG] at h;subst h;rfl
 |int i=>rw[zM] at h;subst h;rfl
 |str s=>rw[yC] at h;subst h;rfl
 |ty n=>rw[Is.Vd] at h;subst h;rfl
 |ref a=>rw[Is.Vy] at h;subst h;rfl
 |tup l=>rw[zX] at h;obtain⟨a,xs,rfl,_⟩:=h;rfl
 |lst l=>rw[zY] at h;obtain⟨a,xs,rfl,_⟩:=h;rfl
def gI{K:Fg}:e_ K (λx y H Q=>y=.aE/\Q (.bl<|!decide (x=.aE)) H) mP:=by
 intro O H dx dy d vx vy Q ol ix iy e q;unfold mP at e;cases dy<;>first|(cases e;done)|skip
 rw[y9] at iy;refine⟨iy,q _ H (aC.refl H) ?_⟩;have h:=ix.VO;cases dx<;>cases e<;>rw[yG,h]<;>rfl
noncomputable def jJ:D->Bool
 |.int _=>true
 |.str _=>true
 |_=>false
noncomputable def iZ:D->D->Bool
 |.int i,.int j=>decide (i=j)
 |.str s,.str t=>decide (s=t)
 |_,_=>false
def inD(neg:Bool)(x y:D):Option D:=match y with
 |.lst l=>if jJ x=true/\l.all jJ=true then aA (.bl (if neg then !(l.any λz=>iZ z x) else l.any λz=>iZ z x)) else aB
 |.tup l=>if jJ x=true/\l.all jJ=true then aA (.bl (if neg then !(l.any λz=>iZ z x) else l.any λz=>iZ z x)) else aB
 |_=>aB
def gS{K:Fg}(h:Is K O H d v)(f:jJ d=true):k7 v=true:=by
 cases d<;>first|(cases f;done)|skip
 .rw[zM] at h;subst h;rfl
 .rw[yC] at h;subst h;rfl
def KP{K:Fg}(h:Is K O H d v)(f:jJ d=true)(h':Is K O H e u)(f':jJ e=true):iP v u=iZ d e:=by
 cases d<;>first|(cases f;done)|skip
 all_goals cases e<;>first|(cases f';done)|skip
 all_goals first|rw[zM] at h|rw[yC] at h
 all_goals first|rw[zM] at h'|rw[yC] at h'
 all_goals subst h h'
 .simp[iP,iZ];rw[Bool.beq_eq_decide_eq]
 .rfl
 .rfl
 .rename_i s t;simp only[iP,iZ];by_cases z:s=t
  .subst z;simp
  .rw[decide_eq_false z,beq_eq_false_iff_ne];intro z'
   have:s.toArray=t.toArray:=by injection z'
   exact z (by simpa using this)
theorem E3{K:Fg}(h:Is K O H d v)(f:jJ d=true):∀{l:List D} {xs:List V},IsL K O H l xs->l.all jJ=true->xs.all k7=true/\FM v xs=l.any λz=>iZ z d
 |[],xs,il,_=>by unfold IsL at il;subst il;exact⟨rfl,rfl⟩
 |e::l,xs,il,fa=>by
  unfold IsL at il;obtain⟨u,r,rfl,i1,i2⟩:=il;rw[km,fu] at fa;obtain⟨q1,q2⟩:=E3 h f i2 fa.2;refine⟨by rw[km,gS i1 fa.1,q1];rfl,?_⟩;unfold FM at q2 ⊢;rw[jt,jt,q2,KP i1 fa.1 h f]
def Kg{K:Fg}(neg:Bool):e_ K (HC K neg) (inD neg):=by
 intro O H dx dy d vx vy Q ol ix iy e q;unfold inD at e;cases dy<;>first|(cases e;done)|skip
 .rename_i l;simp only at e;split at e
  .rename_i hl;cases e;rw[zX] at iy;obtain⟨a,xs,rfl,hs,il⟩:=iy;obtain⟨q1,q2⟩:=E3 ix hl.1 il hl.2;exact⟨a,xs,rfl,.inr hs,gS ix hl.1,q1,q _ H (aC.refl H)<|by rw[yG,q2]⟩
  .cases e
 .rename_i l;simp only at e;split at e
  .rename_i hl;cases e;rw[zY] at iy;obtain⟨a,xs,rfl,hs,il⟩:=iy;obtain⟨q1,q2⟩:=E3 ix hl.1 il hl.2;exact⟨a,xs,rfl,.inl hs.sq,gS ix hl.1,q1,q _ H (aC.refl H)<|by rw[yG,q2]⟩
  .cases e
def aD:D->D->Option D
 |.lst l,.int i=>f9 l i
 |.tup l,.int i=>f9 l i
 |.str s,.int i=>if s.length<=ar then (f9 s i).map λc=>.str [c] else aB
 |_,_=>aB
def XM(hl:l.length=m.length)(e:f9 l i=aA x):∃j:Nat,l[j]?=aA x/\∀y,m[j]?=aA y->f9 m i=aA y:=by
 unfold f9 at e ⊢;obtain⟨j,e1,e2⟩:=aF e;exact⟨j,e2,λy ey=>by rw[<-hl,e1];exact ey⟩
def Jr(fl:ML)(g:ME):ME:=λr=>(fl r).bind λl=>(g r).bind λd=>(intD d).bind λi=>f9 l i
def rO(fl:ML):ME:=λr=>(fl r).map λl=>.int l.length
def Pf{K:Fg}:e_ K (MR K) aD:=by
 intro O H dx dy d vx vy Q ol ix iy e q;unfold aD at e;split at e
 .rename_i l i;rw[zY] at ix;rw[zM] at iy;obtain⟨p,xs,rfl,hs,il⟩:=ix;obtain⟨j,e1,e2⟩:=XM il.length e;obtain⟨v,e3,iv⟩:=il.get e1;exact .inl ⟨p,xs,i,v,rfl,iy,hs.sq,e2 v e3,q _ H (aC.refl H) iv⟩
 .rename_i l i;rw[zX] at ix;rw[zM] at iy;obtain⟨p,xs,rfl,hs,il⟩:=ix;obtain⟨j,e1,e2⟩:=XM il.length e;obtain⟨v,e3,iv⟩:=il.get e1;exact .inr<|.inl ⟨p,xs,i,v,rfl,iy,hs,e2 v e3,q _ H (aC.refl H) iv⟩
 .rename_i s i;split at e
  .rename_i hl;obtain⟨c,e1,rfl⟩:=aT e;rw[yC] at ix;rw[zM] at iy;exact .inr<|.inr ⟨_,i,c,ix,iy,by rw[v7];exact hl,by simpa using e1,q _ H (aC.refl H)<|by rw[yC]⟩
  .cases e
 .cases e
def yI(ha:DE X a f)(hb:DE X b g)(hs:XQ b:=by intro _ _;rfl):DE X (.Subscript a b pos) (zJ aD f g):=
 PE.aH (Kj Qd ha hb hs) λσ H Q h=>two (ta:=lE X.K f) (tb:=lE X.K g) Pf h
def P4(ha:DB X a fl)(hb:DE X b g)(hs:XQ b:=by intro _ _;rfl):DE X (.Subscript a b pos) (Jr fl g):=by
 refine PE.aH (Kj Nr ha hb hs) λσ H Q h=>?_
 obtain⟨O0,r,d,hR,e,q⟩:=h;obtain⟨l,e1,e⟩:=aF e;obtain⟨d',e2,e⟩:=aF e;obtain⟨i,e3,e⟩:=aF e;cases dF e3;refine⟨O0,r,l,hR,e1,λp xs H1 s1 rd il=>⟨O0,r,_,hR.same s1,e2,λv2 H2 s2 i2=>?_⟩⟩;rw[zM] at i2;obtain⟨j,e4,e5⟩:=XM il.length e;obtain⟨v,e6,iv⟩:=il.get e4;exact⟨p,xs,i,v,rfl,i2,s2.seq rd,e5 v e6,q v H2 (s1.trans s2)<|iv.same s2 (hR.same s1).ol⟩
noncomputable def mF:D->Option D
 |.lst l=>aA<|.int l.length
 |.tup l=>aA<|.int l.length
 |.str s=>if s.length<=ar then aA (.int s.length) else aB
 |_=>aB
def rB:fJ X (.builtin "len") (λxs H Q=>(∃p ys,xs=[.ref p]/\(aN X.K H p ys\/aM X.K H p ys)/\Q (.int ys.length) H)\/(∃z,xs=[.str z]/\z.length<=ar/\Q (.int z.length) H)):=À.or mL
def SO{K:Fg}{O:Addr->Prop}{H:Hp}{x d:D}{v:V}{Q:VK}(i1:Is K O H x v)(e:mF x=aA d)(q:∀v,Is K O H d v->Q v H):(∃p ys,[v]=[.ref p]/\(aN K H p ys\/aM K H p ys)/\Q (.int ys.length) H)\/(∃z,[v]=[.str z]/\z.length<=ar/\Q (.int z.length) H):=by
 cases x<;>first|(simp only[mF,reduceCtorEq] at e;done)|skip
 .simp only[mF] at e;split at e
  .rename_i hl;cases e;rw[yC] at i1;subst i1;exact .inr ⟨_,rfl,by rw[v7];exact hl,q _<|by rw[zM,v7]⟩
  .cases e
 .simp only[mF,gn] at e;subst e;rw[zX] at i1;obtain⟨p,ys,rfl,hs,il⟩:=i1;exact .inl ⟨p,ys,rfl,.inr hs,q _<|by rw[zM,il.length]⟩
 .simp only[mF,gn] at e;subst e;rw[zY] at i1;obtain⟨p,ys,rfl,hs,il⟩:=i1;exact .inl ⟨p,ys,rfl,.inl hs.sq,q _<|by rw[zM,il.length]⟩
def pX(hg:Gl X "len")(hm:X.mg "len" = aB)(ha:DE X a f)(hs:bp [a] X.env=(false,eval a X.env)::bp [] X.env:=by rfl):DE X (.Call (.Name "len" p') [a] [] pos) (aX mF f):=by
 refine PE.aH (jH rB hg hm PySem.boot_len (yN ha x8 hs) (he:=hs)) λσ H Q h=>?_
 obtain⟨O0,r,d,hR,e,q⟩:=h;obtain⟨x,e1,e2⟩:=aF e;exact⟨O0,r,x,hR,e1,λv H1 s1 i1=>SO i1 e2 λv' iv=>q v' H1 s1 iv⟩
def XB(hg:Gl X "len")(hm:X.mg "len" = aB)(ha:DB X a fl)(hs:bp [a] X.env=(false,eval a X.env)::bp [] X.env:=by rfl):DE X (.Call (.Name "len" p') [a] [] pos) (rO fl):=by
 refine PE.aH (jH rB hg hm PySem.boot_len (yN ha x8 hs) (he:=hs)) λσ H Q h=>?_
 obtain⟨O0,r,d,hR,e,q⟩:=h;obtain⟨l,e1,rfl⟩:=aT e;exact⟨O0,r,l,hR,e1,λp xs H1 s1 rd il=>.inl ⟨p,xs,rfl,.inl rd,q _ H1 s1<|by rw[zM,il.length]⟩⟩
noncomputable def Fe:D->Option String
 |.aE=>aA "NoneType"
 |.bl _=>aA "bool"
 |.int _=>aA "int"
 |.str _=>aA "str"
 |.tup _=>aA "tuple"
 |.lst _=>aA "list"
 |_=>aB
noncomputable def Hq:List (String×String×Bool):=[("bool", "int",true),("NoneType", "int",false),("NoneType", "str",false),("NoneType", "bool",false),("NoneType", "tuple",false),("NoneType", "list",false),
 ("bool", "str",false),("bool", "tuple",false),("bool", "list",false),("int", "bool",false),("int", "str",false),("int", "tuple",false),("int", "list",false),
 ("str", "int",false),("str", "bool",false),("str", "tuple",false),("str", "list",false),("tuple", "int",false),("tuple", "bool",false),("tuple", "str",false),("tuple", "list",false),
 ("list", "int",false),("list", "bool",false),("list", "str",false),("list", "tuple",false)]
def E4(t T:String):Option Bool:=if t=T then aA true else (Hq.find? λx=>x.1 == t && x.2.1 == T).map (·.2.2)
def dG(T:String)(d:D):Option D:=(Fe d).bind λt=>(E4 t T).map .bl
def TQ(K:Fg):∀p∈Hq,ww K (.type p.1) (.type p.2.1)=aA p.2.2:=by
 unfold Hq
 repeat (first|exact adl _|refine acy.mpr ⟨rfl,?_⟩)
def Qk(K:Fg)(e:E4 t T=aA b):ww K (.type t) (.type T)=aA b:=by
 unfold E4 at e;split at e
 .rename_i h;subst h;cases e;unfold ww;rw[if_pos<|by simp]
 .obtain⟨⟨x,y,c⟩,e1,e2⟩:=aT e;have hm:=List.mem_of_find?_eq_some e1;have hp:=List.find?_some e1;simp only[fu,beq_iff_eq] at hp;obtain⟨rfl,rfl⟩:=hp;subst e2;exact(TQ K _ hm).trans rfl
def Of(K:Fg)(H:Hp)(x:V)(t:String):Prop:=match x with
 |.aE=>t = "NoneType"
 |.bl _=>t = "bool"
 |.int _=>t = "int"
 |.str _=>t = "str"
 |.ref a=>(t = "list" /\ ∃xs,aN K H a xs)\/(t = "tuple" /\ ∃xs,aM K H a xs)
 |_=>False
def rC:fJ X (.builtin "isinstance") (λxs H Q=>∃x t T b,xs=[x,.ty T]/\Of X.K H x t/\E4 t T=aA b/\Q (.bl b) H):=by
 intro pZ s σ H xs us Q I r h;obtain⟨x,t,T,b,rfl,ht,e,q⟩:=h;obtain⟨u,v,rfl,r1,r2⟩:=Vals.two r;cases (show v=Value.type T from r2);have e':=Qk X.K e;have fin:∀tk,EP X pZ σ Q (.bool b) { s with toks:=tk }:=λtk=>⟨.bl b,H,I.tok tk,rfl,q⟩
 cases x with
 |aE=>cases (show t=_ from ht);exact uT I r1 (.aE) e' fin
 |bl y=>cases (show t=_ from ht);exact uT I r1 (.bl y) e' fin
 |int i=>cases (show t=_ from ht);exact uT I r1 (.int i) e' fin
 |str y=>cases (show t=_ from ht);exact uT I r1 (.str y) e' fin
 |ref a=>
  cases (show u=Value.ref a from r1);rcases(show(t = "list" /\ ∃xs,aN X.K H a xs)\/(t = "tuple" /\ ∃xs,aM X.K H a xs) from ht) with⟨rfl,xs,hs⟩|⟨rfl,xs,hs⟩
  .obtain⟨its,_,⟨o,n,h1,h2,_⟩,_⟩:=I.list hs;exact ie ya I.fK ⟨o,h1,h2⟩ e' (λz=>nomatch z) fin
  .obtain⟨its,_,⟨o,h1,h2,_⟩,_⟩:=I.tuple hs;exact ie PySem.W.kitx_tuple I.fK ⟨o,h1,h2⟩ e' (λz=>nomatch z) fin
 |_=>exact ku ht
def RS{K:Fg}(h:Is K O H d v)(e:Fe d=aA t):Of K H v t:=by
 cases d<;>first|(simp only[Fe,reduceCtorEq] at e;done)|skip
 all_goals simp only[Fe,gn] at e
 all_goals subst e
 .rw[y9] at h;subst h;rfl
 .rw[yG] at h;subst h;rfl
 .rw[zM] at h;subst h;rfl
 .rw[yC] at h;subst h;rfl
 .rw[zX] at h;obtain⟨a,xs,rfl,hs,_⟩:=h;exact .inr ⟨rfl,xs,hs⟩
 .rw[zY] at h;obtain⟨a,xs,rfl,hs,_⟩:=h;exact .inl ⟨rfl,xs,hs.sq⟩
def jY(hg:Gl X "isinstance")(hm:X.mg "isinstance" = aB)(ha:DE X a f)(hT:PE X (.Name x pt) (tC<|.ty T))(hs:bp [a,.Name x pt] X.env=(false,eval a X.env)::bp [.Name x pt] X.env:=by rfl)(fH:bp [.Name x pt] X.env=(false,eval (.Name x pt) X.env)::bp [] X.env:=by rfl):DE X (.Call (.Name "isinstance" p') [a,.Name x pt] [] pos) (aX (dG T) f):=by
 refine PE.aH (jH rC hg hm PyProof.Rows.boot_isinstance (yN ha (yN hT x8 fH) hs) (he:=hs)) λσ H Q h=>?_
 obtain⟨O0,r,d,hR,e,q⟩:=h;obtain⟨x,e1,e2⟩:=aF e;obtain⟨t,e3,e4⟩:=aF e2;obtain⟨b,e5,rfl⟩:=aT e4;exact⟨O0,r,x,hR,e1,λv H1 s1 i1=>⟨v,t,T,b,rfl,RS i1 e3,e5,q _ H1 s1<|by rw[yG]⟩⟩
def gK(r:En)(i:Nat):Option (List D):=(r[i]?).bind Sl.ml
def b6(i:Nat)(l:List D)(r:En):Option En:=match r[i]? with
 |some (.o _)=>aA<|r.set i<|.o l
 |some (.p _)=>aA<|r.set i<|.p l
 |_=>aB
section
variable{K:Fg}
def oJ(e:b6 i l' r=aA r'):∃x y,r[i]?=aA x/\r'=r.set i y/\y.own=aA l'/\y.mt=aA l'/\(∃l,x.mt=aA l)/\True:=by
 unfold b6 at e;cases e1:r[i]? with
 |none=>rw[e1] at e;cases e
 |some x=>rw[e1] at e;cases x<;>cases e<;>exact⟨_,_,rfl,rfl,rfl,rfl,⟨_,rfl⟩,trivial⟩
def R.HP{x y:Sl}{o':HO}(h:R K O0 H r σ)(ex:r[i]?=aA x)(xm:x.mt=aA l0)(ha:σ[i]?=aA (aA<|.ref a))(kp:∀b o,b≠a->H b=aA o->H' b=aA o)(lv:∀b,b≠a->H' b=aB->H b=aB)(e':H' a=aA o')(VZ:Mb o')(yv:∀d,y≠.v d)(yl:∀m,y.ls=aA m->∃xs,o'=.lst xs/\IsL K (Ow O0 r σ) H' m xs)(yc:∀m,(aA y=aA (.o m)\/aA y=aA (.z m)\/∃ks,aA y=aA (.d false ks m))->∃n,(aA x=aA (.o n)\/aA x=aA (.z n)\/∃ks,aA x=aA (.d false ks n)))(yk:y.pk=x.pk)(yd:∀f ks m,y=.d f ks m->∃kvs,o'=.dK kvs/\kvs.map (·.1)=ks/\IsL K (Ow O0 r σ) H' m (kvs.map (·.2)))(yt:∀ks,y=.t ks->o'=.dT (ks.map λk=>(k,.bl true))):R K O0 H' (r.set i y) σ/\Kp H r σ H' (r.set i y) σ:=by
 have hi:i<r.length:=(ba.mp ex).1;have xo:(r[i]?).bind Sl.own=aA l0:=by rw[ex];exact cX xm
 have HS:kL r σ a:=⟨i,l0,xo,ha⟩;have Ni:g_ r σ a:=⟨i,l0,by rw[ex];exact xm,ha⟩;have IK:∀{q:Sl->Option (List D)},i8 q r σ a->∀b,i8 q (r.set i y) σ b->i8 q r σ b:=λz b ⟨j,m,e1,q1⟩=>by
  by_cases hj:i=j
  .subst hj;rw[ha] at q1;cases q1;exact z
  .rw[zG hj] at e1;exact⟨j,m,e1,q1⟩
 have sub:∀{H2:Hp} b,Ow O0 (r.set i y) σ b->H2 b≠aB->Ow O0 r σ b:=λb z _=>z.imp id<|IK HS b
 have keep:d7 (Ow O0 r σ) H H':=λb o e1 n=>kp b o (λz=>n (by subst z;exact .inr HS)) e1
 have lst:∀b o,H b=aA o->Mb o->∃o',H' b=aA o'/\Mb o':=λb o e1 mb=>by
  by_cases hb:b=a
  .subst hb;exact⟨_,e',VZ⟩
  .exact⟨o,kp b _ hb e1,mb⟩
 have M5:cG (Ow O0 r σ) H':=λb z=>by obtain⟨o,q,mb⟩:=h.ol b z;exact lst b o q mb
 have Cn:∀{j:Nat} {m:List D} {b:Addr},i≠j->(r[j]?).bind Sl.own=aA m->σ[j]?=aA (aA<|.ref b)->b≠a:=λhj e1 q1 z=>by
  subst z;exact hj<|h.apart i _ _ l0 _ xo e1 ha q1
 have get:∀(j:Nat) (m:List D),((r.set i y)[j]?).bind Sl.own=aA m->∃m',(r[j]?).bind Sl.own=aA m':=λj m e1=>by
  by_cases hj:i=j
  .subst hj;exact⟨l0,xo⟩
  .rw[zG hj] at e1;exact⟨m,e1⟩
 refine⟨⟨by simp[h.len],λj d e1=>?_,λj m e1=>?_,λj k b m n e1 e2 q1 q2=>?_,λb z=>?_,λj m b e1 q1=>?_,λj m b e1 q1=>?_,λj f ks m e1=>?_,λj ks e1=>?_⟩,⟨λb o e1 n=>kp b o (λz=>n (by subst z;exact Ni)) e1,λb e1=>?_,lst,λb z=>.inl<|IK HS b z,λb z=>.inl<|IK Ni b z,λj m e1=>?_,λj m e1=>?_⟩⟩
 .have hj:i≠j:=λz=>by subst z;rw[zQ hi] at e1;exact yv d<|bv e1
  rw[zG hj] at e1;obtain⟨v,q1,q2⟩:=h.val j d e1;exact⟨v,q1,Is.mono keep h.ol sub _ _ q2⟩
 .by_cases hj:i=j
  .subst hj;rw[zQ hi] at e1;obtain⟨xs,rfl,il⟩:=yl m e1;exact⟨a,xs,ha,e',IsL.mono (aC.kp (aC.refl H') _) M5 sub _ _ il⟩
  .rw[zG hj] at e1;obtain⟨b,ys,q1,q2,q3⟩:=h.own j m e1;exact⟨b,ys,q1,kp b _ (Cn hj (uR e1) q1) q2,IsL.mono keep h.ol sub _ _ q3⟩
 .obtain⟨m',z1⟩:=get j m e1;obtain⟨n',z2⟩:=get k n e2;exact h.apart j k b m' n' z1 z2 q1 q2
 .obtain⟨o,q,mb⟩:=h.o0 b z;exact lst b o q mb
 .by_cases hj:i=j
  .subst hj;rw[zQ hi] at e1;obtain⟨n,z⟩:=yc m e1;exact h.loc i n b (by rw[ex];exact z) q1
  .rw[zG hj] at e1;exact h.loc j m b e1 q1
 .by_cases hj:i=j
  .subst hj;rw[zQ hi] at e1;exact h.par i m b (by rw[ex];exact yk.symm.trans e1) q1
  .rw[zG hj] at e1;exact h.par j m b e1 q1
 .by_cases hj:i=j
  .subst hj;rw[zQ hi] at e1;obtain⟨kvs,rfl,hk,il⟩:=yd f ks m<|bv e1;exact⟨a,kvs,ha,e',hk,IsL.mono (aC.kp (aC.refl H') _) M5 sub _ _ il⟩
  .rw[zG hj] at e1;obtain⟨b,kvs,q1,q2,q4,q3⟩:=h.aJ j f ks m e1;exact⟨b,kvs,q1,kp b _ (Cn hj (by rw[e1];rfl) q1) q2,q4,IsL.mono keep h.ol sub _ _ q3⟩
 .by_cases hj:i=j
  .subst hj;rw[zQ hi] at e1;exact⟨a,ha,e'.trans<|congrArg _<|yt ks<|bv e1⟩
  .rw[zG hj] at e1;obtain⟨b,q1,q2⟩:=h.iK j ks e1;exact⟨b,q1,kp b _ (Cn hj (by rw[e1];rfl) q1) q2⟩
 .by_cases hb:b=a
  .subst hb;rw[e'] at e1;cases e1
  .exact lv b hb e1
 .by_cases hj:i=j
  .subst hj;rw[ex] at e1;exact⟨by rw[zQ hi];exact yk.trans e1,rfl⟩
  .exact⟨by rw[zG hj];exact e1,rfl⟩
 .have hj:i≠j:=λz=>by subst z;rw[ex] at e1;cases e1;cases xm
  exact⟨by rw[zG hj];exact e1,rfl⟩
def R.put(h:R K O0 H r σ)(e:b6 i l' r=aA r')(ha:σ[i]?=aA (aA<|.ref a))(kp:∀b o,b≠a->H b=aA o->H' b=aA o)(lv:∀b,b≠a->H' b=aB->H b=aB)(e':H' a=aA (.lst xs'))(il:IsL K (Ow O0 r σ) H' l' xs'):R K O0 H' r' σ/\Kp H r σ H' r' σ:=by
 unfold b6 at e;cases e1:r[i]? with
 |none=>rw[e1] at e;cases e
 |some x=>
  rw[e1] at e;cases x<;>cases e<;>exact h.HP e1 rfl ha kp lv e' trivial (λ_ z=>by cases z) (λm z=>by cases z;exact⟨_,rfl,il⟩) (λm z=>by rcases z with z|z|⟨_,z⟩<;>first|(cases z;done)|exact⟨_,.inl rfl⟩) rfl (λ_ _ _ z=>by cases z) (λ_ z=>by cases z)
theorem R.upd(h:R K O0 H r σ)(e:b6 i l' r=aA r')(ha:σ[i]?=aA (aA<|.ref a))(hx:H a=aA (.lst xs))(il:IsL K (Ow O0 r σ) H l' xs'):R K O0 (upd H a<|.lst xs') r' σ/\Kp H r σ (upd H a<|.lst xs') r' σ:=by
 have Aj:Ow O0 r σ a:=by
  obtain⟨x,y,ex,_,_,_,⟨l0,xm⟩,_⟩:=oJ e;exact .inr ⟨i,l0,by rw[ex];exact cX xm,ha⟩
 refine h.put e ha (λb o hb e1=>by rw[zT hb];exact e1) (λb hb e1=>by rw[zT hb] at e1;exact e1) zR ?_;exact IsL.mono (λb o e1 n=>by rw[zT λz=>n (by subst z;exact Aj)];exact e1) h.ol (λ_ z _=>z) _ _ il
end
def nA(i:Nat)(f:ME):En->Option (D×En):=λr=>(f r).bind λd=>(gK r i).bind λl=>if l.length<ar then (b6 i (l++[d]) r).map λr'=>(.aE,r') else aB
def pC(i:Nat)(f:En->Option (D×En)):En->Option (D×En):=λr0=>(f r0).bind λp=>(gK r0 i).bind λ_=>(gK p.2 i).bind λl=>if l.length<ar then (b6 i (l++[p.1]) p.2).map λr'=>(.aE,r') else aB
def vW(i:Nat):En->Option (D×En):=λr=>(gK r i).bind λl=>(l[l.length-1]?).bind λd=>(b6 i l.dropLast r).map λr'=>(d,r')
def w_(i:Nat)(f:ME):En->Option (D×En):=λr=>(f r).bind λd=>(Hf d).bind λm=>(gK r i).bind λl=>if l.length+m.length<=ar then (b6 i (l++m) r).map λr'=>(.aE,r') else aB
def IsL.dropLast{K:Fg}(h:IsL K O H l vs):IsL K O H l.dropLast vs.dropLast:=by
 rw[acq,acq,h.length];exact h.take _
def gJ{K:Fg}(h:R K O0 H r σ)(e:gK r i=aA l):∃a xs,σ[i]?=aA (aA<|.ref a)/\H a=aA (.lst xs)/\IsL K (Ow O0 r σ) H l xs:=by
 obtain⟨y,e1,e2⟩:=aF e;exact h.own i l (by rw[e1];exact(J6 e2).2)
def wK(i:Nat)(h:PE X (.Name x pn) (ZN i))(he:DE X e f)(fW:As apos eA:=by rfl)(fY:kj (.Name x pn) "append" X.env (eval (.Name x pn) X.env)=eval (.Name x pn) X.env:=by rfl)(iX:A5 X [e] eA:=by rfl)(hs:bp [e] X.env=(false,eval e X.env)::bp [] X.env:=by rfl):DX X (.Call (.Attribute (.Name x pn) "append" apos) [e] [] eA) (nA i f):=by
 refine PE.aH (C4 mf aas aar cY h (yN he x8 hs) fY iX fW hs) λσ H Q hq=>?_
 obtain⟨O0,r,d',r',hR,e,q⟩:=hq;obtain⟨d,e1,e⟩:=aF e;obtain⟨l,e2,e⟩:=aF e;split at e
 .rename_i hl;obtain⟨r2,e3,e4⟩:=aT e;cases e4;obtain⟨a,xs,q1,q2,q3⟩:=gJ hR e2;refine⟨.ref a,q1,.inl ⟨rfl,xs,aN.of q2⟩,O0,r,d,hR,e1,λv H1 s1 i1=>?_⟩;have R1:=hR.same s1;obtain⟨R2,k2⟩:=R1.upd (xs':=xs++[v]) e3 q1 (s1 _ _ q2)<|(q3.same s1 hR.ol).append<|.cons i1 .nil;exact⟨a,xs,v,rfl,rfl,s1 _ _ q2,by rw[<-q3.length];exact hl,q _ _ R2 ((Kp.of_same r σ s1).trans k2)<|by rw[y9]⟩
 .cases e
def bJ(i:Nat)(h:PE X (.Name x pn) (ZN i))(he:DX X e fx)(fW:As apos eA:=by rfl)(fY:kj (.Name x pn) "append" X.env (eval (.Name x pn) X.env)=eval (.Name x pn) X.env:=by rfl)(iX:A5 X [e] eA:=by rfl)(hs:bp [e] X.env=(false,eval e X.env)::bp [] X.env:=by rfl):DX X (.Call (.Attribute (.Name x pn) "append" apos) [e] [] eA) (pC i fx):=by
 refine PE.aH (C4 mf aas aar cY h (yN he x8 hs) fY iX fW hs) λσ H Q hq=>?_
 obtain⟨O0,r,d',r',hR,e,q⟩:=hq;obtain⟨⟨d,r1⟩,e1,e⟩:=aF e;obtain⟨l0,e0,e⟩:=aF e;obtain⟨l,e2,e⟩:=aF e;split at e
 .rename_i hl;obtain⟨r2,e3,e4⟩:=aT e;cases e4;obtain⟨a0,U9,p1,p2,p3⟩:=gJ hR e0;refine⟨.ref a0,p1,.inl ⟨rfl,U9,aN.of p2⟩,O0,r,d,r1,hR,e1,λv H1 R1 k1 i1=>?_⟩;obtain⟨a,xs,q1,q2,q3⟩:=gJ R1 e2;rw[p1] at q1;cases q1;obtain⟨R2,k2⟩:=R1.upd (xs':=xs++[v]) e3 p1 q2<|q3.append<|.cons i1 .nil;exact⟨_,xs,v,rfl,rfl,q2,by rw[<-q3.length];exact hl,q _ _ R2 (k1.trans k2)<|by rw[y9]⟩
 .cases e
def dP(i:Nat)(h:PE X (.Name x pn) (ZN i))(fY:kj (.Name x pn) "pop" X.env (eval (.Name x pn) X.env)=eval (.Name x pn) X.env:=by rfl)(fW:As apos eA:=by rfl):DX X (.Call (.Attribute (.Name x pn) "pop" apos) [] [] eA) (vW i):=by
 refine PE.aH (Rj mf PySem.F.slot_list_pop PySem.F.type_list_pop RD h fY fW) λσ H Q hq=>?_
 obtain⟨O0,r,d',r',hR,e,q⟩:=hq;obtain⟨l,e2,e⟩:=aF e;obtain⟨d,e1,e⟩:=aF e;obtain⟨r2,e3,e4⟩:=aT e;have e5:d=d':=congrArg ip e4;have e6:r2=r':=congrArg yb e4;subst e5 e6;obtain⟨a,xs,q1,q2,q3⟩:=gJ hR e2;obtain⟨v,ev,iv⟩:=q3.get e1;obtain⟨R2,k2⟩:=hR.upd (xs':=xs.dropLast) e3 q1 q2 q3.dropLast;refine⟨.ref a,q1,.inl ⟨rfl,xs,aN.of q2⟩,a,xs,v,rfl,rfl,q2,by rw[<-q3.length];exact ev,q _ _ R2 k2 ?_⟩;have Aj:Ow O0 r σ a:=by
  obtain⟨y,z1,z2⟩:=aF e2;exact .inr ⟨i,l,by rw[z1];exact cX (J6 z2).1,q1⟩
 have Cm:∀b,Ow O0 r2 σ b->H b≠aB->Ow O0 r σ b:=λb z n=>z.imp id λz=>(k2.new b z).elim id λz=>absurd z n
 exact Is.mono (λb o e1 n=>by rw[zT λz=>n (by subst z;exact Aj)];exact e1) hR.ol Cm _ _ iv
noncomputable def Ew:Option Sl->Sl
 |some (.v d)=>.v d
 |_=>.un
def lU(cap:List Nat)(n:Nat)(r:En):En:=(cap.map λj=>Ew r[j]?)++bg (n-cap.length) .un
def jK(bd:D->En->Option En)(c:MB)(x:ME):List D->En->Option (List D)
 |[],_=>aA []
 |d::t,r=>(bd d r).bind λr1=>(c r1).bind λb=>if b=true then (x r1).bind λy=>(jK bd c x t r1).map (y::·) else jK bd c x t r1
def uN:MB:=λ_=>aA true
def qR(cap:List Nat)(n:Nat)(it:ML)(bd:D->En->Option En)(c:MB)(x:ME):ML:=λr=>(it r).bind λl=>if l.length<ar then jK bd c x l (lU cap n r) else aB
def jX(cap:List Nat)(n:Nat)(it:ML)(bd:D->En->Option En)(x:ME):ML:=qR cap n it bd uN x
theorem R.cap{K:Fg}{O0:Addr->Prop}{H H2:Hp}{r:En}{σ:St}{cap:List Nat}{n:Nat}{p:Addr}{ys:List V}(h:R K O0 H r σ)(s:aC H H2)(hp:H p=aB)(ep:H2 p=aA (.lst ys)):R K (λb=>Ow O0 r σ b\/b=p) H2 (lU cap n r) (l4 cap n σ):=by
 have Bw:∀(i:Nat) (l:List D),((lU cap n r)[i]?).bind Sl.own≠aA l:=λi l e=>by
  unfold lU at e;by_cases hi:i<cap.length
  .rw[be<|by simpa using hi,av] at e;obtain⟨j,hj⟩:∃j,cap[i]?=aA j:=⟨cap[i],by simp[hi]⟩;rw[hj] at e;have e':(Ew r[j]?).own=aA l:=e;cases ej:r[j]? with
   |none=>rw[ej] at e';cases e'
   |some y=>rw[ej] at e';cases y<;>cases e'
  .rw[bm<|by simpa using si hi,fq] at e;split at e<;>cases e
 have ol:cG (λb=>Ow O0 r σ b\/b=p) H2:=λb z=>z.elim (λz=>(h.same s).ol b z) λz=>by subst z;exact⟨.lst ys,ep,trivial⟩
 refine⟨by simp[lU,l4],λi d e=>?_,λi l e=>absurd (uR e)<|Bw i l,λi j a l m e1=>absurd e1<|Bw i l,ol,λi l a e=>absurd (show((lU cap n r)[i]?).bind Sl.own=aA l by rcases e with e|e|⟨_,e⟩<;>rw[e]<;>rfl)<|Bw i l,λi l a e=>absurd (cU e).choose_spec<|Bw i _,λi _ ks l e=>absurd (show((lU cap n r)[i]?).bind Sl.own=aA l by rw[e];rfl)<|Bw i l,λi ks e=>absurd (show((lU cap n r)[i]?).bind Sl.own=aA [] by rw[e];rfl)<|Bw i []⟩;unfold lU at e;by_cases hi:i<cap.length
 .rw[be<|by simpa using hi,av] at e;obtain⟨j,hj⟩:∃j,cap[i]?=aA j:=⟨cap[i],by simp[hi]⟩;rw[hj] at e;have e':Ew r[j]?=.v d:=bv e;have ej:r[j]?=aA (.v d):=by
   cases ej:r[j]? with
   |none=>rw[ej] at e';cases e'
   |some y=>rw[ej] at e';cases y<;>cases e';rfl
  obtain⟨v,e1,q⟩:=h.val j d ej;refine⟨v,?_,?_⟩
  .unfold l4;rw[be<|by simpa using hi,av,hj];show aA ((σ[j]?).getD aB)=_;rw[e1];rfl
  .refine Is.mono (aC.kp s _) h.ol (λa z nn=>?_) _ _ q;rcases z with(z|z)|⟨k,l,ek,_⟩
   .exact z
   .subst z;exact absurd hp nn
   .exact absurd ek<|Bw k l
 .rw[bm<|by simpa using si hi,fq] at e;split at e<;>cases e
section
variable{X:Cx}{N':List Str}{cap:List Nat}{scope:Scope}{elt tg iter:Expr}{ifs:List Expr}{pos:Pos}{it:ML}{bd:D->En->Option En}{c:MB}{x:ME}
def dZ{tc:Option TT}(Wz:∀{σ:St} {H:Hp} {K1:V->Hp->Prop} {K0:Hp->Prop} {te:TE},(lT X.K c σ H λb H1=>if b=true then te σ H1 K1 else K0 H1)->Hi tc te K1 K0 σ H)(n:Nat){σ:St}{H:Hp}{Q:VK}(h:lF X.K (qR cap n it bd c x) σ H Q):Fb cap n (lI X.K it) (lG X.K bd) tc (lE X.K x) σ H Q:=by
 obtain⟨O0,r,out,hR,e,q⟩:=h;obtain⟨l,e1,e2⟩:=aF e;split at e2
 .rename_i hlen;refine⟨O0,r,l,hR,e1,λJ H1 s1 yl p hp=>?_⟩;have Nz:H p=aB:=s1.free hp;refine⟨λi m ys σ2 H2=>m=l.length-i/\i<=l.length/\ys.length<=i/\H2 p=aA (.lst ys)/\aC H1 H2/\∃r2 dn rest,R X.K (λb=>Ow O0 r σ b\/b=p) H2 r2 σ2/\(∀a,¬kL r2 σ2 a)/\IsL X.K (λb=>Ow O0 r σ b\/b=p) H2 dn ys/\jK bd c x (l.drop i) r2=aA rest/\dn++rest=out,
   ⟨l.length,by simp,bu _,al _,zR,zW hp,lU cap n r,[],out,?_,?_,.nil,by simpa using e2,rfl⟩,?_⟩
  .exact R.cap hR (s1.trans<|zW hp) Nz zR
  .rintro a ⟨i,l',e',_⟩;unfold lU at e';by_cases hi:i<cap.length
   .rw[be<|by simpa using hi,av] at e';obtain⟨j,hj⟩:∃j,cap[i]?=aA j:=⟨cap[i],by simp[hi]⟩;rw[hj] at e';have F8:(Ew r[j]?).own=aA l':=e';cases ej:r[j]? with
    |none=>rw[ej] at F8;cases F8
    |some y=>rw[ej] at F8;cases y<;>cases F8
   .rw[bm<|by simpa using si hi,fq] at e';split at e'<;>cases e'
  .rintro i m ys σ2 H2 ⟨rfl,BB,Wo,sT,s2,r2,dn,rest,R2,DK,eW,e3,eo⟩;refine⟨sT,by omega,?_⟩;obtain⟨y1,y2⟩:=yl i H2 (λb=>Ow O0 r σ b\/b=p) (aC.kp s2 _) λa z nn=>z.elim id λz=>by subst z;exact absurd hp nn
   by_cases eF:i<l.length
   .obtain⟨go,yd⟩:=y1 eF;have hd:l[i]?=aA l[i]:=by simp[eF]
    rw[dX hd] at e3;obtain⟨r3,e4,e5⟩:=aF e3;obtain⟨b,e6,e7⟩:=aF e5;refine .inr ⟨go,λv H3 yv=>?_⟩;obtain⟨s3,iv⟩:=yd v H3 yv;have R3:=R2.same s3;have Cm:∀a,Ow (λb=>Ow O0 r σ b\/b=p) r2 σ2 a->Ow O0 r σ a\/a=p:=λa z=>z.elim id λz=>absurd z<|DK a
    refine⟨_,r2,l[i],r3,R3,?_,e4,λσ4 R4 k4=>?_⟩
    .exact Is.mono (aC.kp (aC.refl H3) _) R3.o0 (λa z _=>Cm a z) _ _<|iv _ hd
    have Al:∀a,¬kL r3 σ4 a:=λa z=>by
     rcases k4.new a z with z'|z'
     .exact DK a z'
     .obtain⟨xs,ex,_⟩:=R4.ol a<|.inr z;rw[z'] at ex;cases ex
    have ê:∀a,Ow (λb=>Ow O0 r σ b\/b=p) r3 σ4 a->Ow O0 r σ a\/a=p:=λa z=>z.elim id λz=>absurd z<|Al a
    refine Wz ⟨_,r3,b,R4,e6,λH5 s5=>?_⟩;have R5:=R4.same s5;cases b with
    |false=>
     rw[if_neg bc] at e7;refine Gu ⟨l.length-(i+1),by omega,rfl,eF,by omega,(s3.trans s5) _ _ sT,s2.trans<|s3.trans s5,r3,dn,rest,R5,Al,?_,e7,eo⟩;exact eW.same (s3.trans s5) R2.o0
    |true=>
     rw[if_pos rfl] at e7;obtain⟨y,e8,e9⟩:=aF e7;obtain⟨Fn,BI,II⟩:=aT e9;refine Gv ⟨_,r3,y,R5,e8,λu H6 s6 iu=>?_⟩;have Hy:=s3.trans<|s5.trans s6;have Im:=Hy _ _ sT;have R6:=R5.same s6;have kk:d7 (λb=>Ow O0 r σ b\/b=p) H6 (upd H6 p<|.lst<|ys++[u]):=λb' o e' nn=>by rw[zT λz=>nn<|.inr z];exact e'
     refine⟨Im,l.length-(i+1),by omega,rfl,eF,by simp;omega,zR,?_,r3,dn++[y],Fn,?_,Al,?_,BI,?_⟩
     .intro b' o e';have hb:b'≠p:=λz=>by subst z;rw[hp] at e';cases e'
      rw[zT hb];exact Hy _ _<|s2 _ _ e'
     .refine⟨R6.len,λj d ej=>?_,λj m ej=>?_,R6.apart,λb' z=>?_,R6.loc,R6.par,λj f ks m ej=>?_,λj ks ej=>?_⟩
      .obtain⟨w,q1,q2⟩:=R6.val j d ej;exact⟨w,q1,Is.mono (λb' o e' nn=>kk b' o e' λz=>nn<|.inl z) R6.ol (λ_ z _=>z) _ _ q2⟩
      .obtain⟨a',xs',q1,q2,_⟩:=R6.own j m ej;exact absurd ⟨j,m,uR ej,q1⟩<|Al a'
      .rcases z with z|z
       .by_cases hb:b'=p
        .subst hb;exact⟨_,zR,trivial⟩
        .rw[zT hb];exact R6.o0 b'<|.inl z
       .subst z;exact⟨_,zR,trivial⟩
      .obtain⟨a',kvs,q1,q2,_⟩:=R6.aJ j f ks m ej;exact absurd ⟨j,m,by rw[ej];rfl,q1⟩<|Al a'
      .obtain⟨a',q1,q2⟩:=R6.iK j ks ej;exact absurd ⟨j,[],by rw[ej];rfl,q1⟩<|Al a'
     .have i1:=eW.same Hy R2.o0;have i2:Is X.K (λb=>Ow O0 r σ b\/b=p) H6 y u:=Is.mono (aC.kp (aC.refl H6) _) R6.ol (λa z _=>.inl z) _ _ iu;exact IsL.mono kk R6.o0 (λ_ z _=>z) _ _<|i1.append<|.cons i2 .nil
     .rw[<-eo,<-II];simp
   .have hl:l.drop i=[]:=vq (by omega);rw[hl] at e3;have Zr:aA []=aA rest:=e3;cases Zr;rw[ff] at eo;subst eo;exact .inl ⟨y2<|by omega,q p ys H2 (s1.trans s2) Nz sT eW⟩
 .cases e2
def gV(hc:X.calm=true)(o:i7 X N' cap scope)(hi:DI X tg iter it)(hg:∀C fp s H,DG (eI X N' scope C fp s H) tg bd)(he:∀C fp s H,DE (eI X N' scope C fp s H) elt x)(n:Nat)(hn:N'.length=n:=by rfl)(hs:∀x,jy iter X.env x=pure x:=by intro _;rfl):DF X (.ListComp elt [⟨tg,iter,[],0⟩] scope pos) (jX cap n it bd x):=by
 subst hn;exact PE.aH (UF (g:=lG X.K bd) (te:=lE X.K x) (tc:=aB) hc o hi hg rfl he hs) λσ H Q h=>dZ (tc:=aB) (λ{σ H K1 K0 te} z=>by
  obtain⟨O0,r,b,hR,e,q⟩:=z;unfold uN at e;cases e;have z1:(if true=true then te σ H K1 else K0 H):=q H<|aC.refl H;rw[if_pos rfl] at z1;exact z1) N'.length h
end
def A7(X:Cx)(scope:Scope):List Nat->List Str->Prop
 |[],_=>True
 |j::t,x::r=>X.N[j]?=aA x/\scope.names.lookup x=aA .free/\A7 X scope t r
 |_::_,[]=>False
def A7.get:∀{cap:List Nat} {N':List Str},A7 X scope cap N'->∀(i j:Nat),cap[i]?=aA j->∃x,N'[i]?=aA x/\X.N[j]?=aA x/\scope.names.lookup x=aA .free
 |[],_,_,i,j,e=>by simp at e
 |k::t,[],h,_,_,_=>ku h
 |k::t,x::r,h,0,j,e=>by
  have e':k=j:=by simpa using e
  subst e';exact⟨x,rfl,h.1,h.2.1⟩
 |k::t,x::r,h,i+1,j,e=>by
  obtain⟨y,q1,q2⟩:=A7.get h.2.2 i j (by simpa using e);exact⟨y,by simpa using q1,q2⟩
def A7.len:∀{cap:List Nat} {N':List Str},A7 X scope cap N'->cap.length<=N'.length
 |[],_,_=>bu _
 |k::t,[],h=>ku h
 |k::t,x::r,h=>Nat.succ_le_succ<|A7.len h.2.2
def d0(kind:scope.kind=.function:=by rfl)(nc:∀y∈scope.names,y.2≠.cell:=by decide +kernel)(nm:∀y∈scope.names,y.2=.local->scope.names.lookup y.1=aA .local:=by decide +kernel)(fr:∀y∈scope.names,y.2=.free->X.env.kindOf y.1=aA .cell\/X.env.kindOf y.1=aA .free:=by repeat (first|exact adl _|refine acy.mpr ⟨λe=>(by first|exact absurd e (by decide)|exact .inl rfl|exact .inr rfl),?_⟩))(F_:A7 X scope cap N':=by repeat (first|exact trivial|refine⟨rfl,rfl,?_⟩)):i7 X N' cap scope:=⟨kind,nc,nm,fr,F_.get,F_.len⟩
end DD
namespace ZZ
open PySem
def PB(h1:s.heap.IsTupleIter ti tu k)(h2:s.heap.IsTuple tu ys)(h3:ys[k]?=aA y)(h4:∀g,g.IsTupleIter ti tu (k+1)->dz ti s.heap g->Q y { s with heap:=g }):wpAny (model prog w) A (ia<|.ref ti) Q E s:=by
 obtain⟨a,ha,ca,da⟩:=id h1;obtain⟨b,hb,_,nb,db⟩:=h2;unfold ia;refine aa<|gq (name:=jj "__next__") h1.typeIs ou<|fm ou h1.typeIs zn ?_<|zj _;show wpAny _ _ (field (.ref ti) 0 >>= _) _ _ s;refine aa<|ik ha da (x:=.ref tu) rfl ?_;show wpAny _ _ (if (Value.ref tu == Value.none)=true then _ else _) _ _ s;rw[if_neg (show ¬((Value.ref tu == Value.none)=true) from bc)];show wpAny _ _ (field (.ref ti) 1 >>= _) _ _ s;refine aa<|ik ha da (x:=.int k 0) rfl ?_;show wpAny _ _ (seqItems? (.ref tu) >>= _) _ _ s;refine aa<|iw hb db ?_;simp only[gy,h3];refine aa<|ju ha da (by simp)<|af ⟨y,rfl,af<|h4 _ ?_<|gx ..⟩;refine⟨_,gu _ ha<|acl<|uo da _,(Obj.cls_mapFields ..).trans ca,?_⟩;rw[uo da];simp[rawInt]
def OQ(hh:A.handled=aB)(h1:s.heap.IsTupleIter ti tu k)(h2:s.heap.IsTuple tu ys)(h3:ys[k]?=aB)(h4:∀g e,acz ti s.heap g->(∃o,g.get? e=aA o/\o.cls=.type "StopIteration")->E (.ref e) { s with heap:=g }):wpAny (model prog w) A (ia<|.ref ti) Q E s:=by
 obtain⟨a,ha,ca,da⟩:=id h1;obtain⟨b,hb,_,nb,db⟩:=h2;unfold ia;refine aa<|gq (name:=jj "__next__") h1.typeIs ou<|fm ou h1.typeIs zn ?_<|zj _;show wpAny _ _ (field (.ref ti) 0 >>= _) _ _ s;refine aa<|ik ha da (x:=.ref tu) rfl ?_;show wpAny _ _ (if (Value.ref tu == Value.none)=true then _ else _) _ _ s;rw[if_neg (show ¬((Value.ref tu == Value.none)=true) from bc)];show wpAny _ _ (field (.ref ti) 1 >>= _) _ _ s;refine aa<|ik ha da (x:=.int k 0) rfl ?_;show wpAny _ _ (seqItems? (.ref tu) >>= _) _ _ s;refine aa<|iw hb db ?_;simp only[gy,h3];refine aa<|ue<|aa<|ju ha da (by simp) ?_;show wpAny _ _ (newExc (.type "StopIteration") [] >>= _) _ _ _;refine aa ?_;simp only[newExc,newTuple];refine aa (dq ?_<|by size_fits);refine aa (m:=firstArgMember _ _)<|yw (a:=Value.none) (by first|rfl|(simp only[firstArgMember];rfl)) ?_;refine dq ?_ (by size_fits);simp only[raiseNew];refine aa<|aaj ?_;first|rw[show A.in1.handled=aB from hh]|rw[hh]
 refine aa<|af<|acs ?_;exact h4 _ _ (((gx ..).extBut.push _).push _) ⟨_,ax _ rfl,rfl⟩
def Zv(hh:A.handled=aB)(ti tu:Addr)(ne:tu≠ti)(ys:Array Value):Draws prog w A ti [ti,tu] ys.size (λi v=>ys[i]?=aA v) (λi h=>h.IsTupleIter ti tu i/\h.IsTuple tu ys) where
 live:=λ_ _ st=>let ⟨o,e,_⟩:=st.1;⟨o,e⟩
 frame:=λ_ _ _ st k=>⟨st.1.at λo e=>k ti (by simp) o e,st.2.at λo e=>k tu (by simp) o e⟩
 item:=λi s Q E hi st q=>PB st.1 st.2 (y:=ys[i]) (by simp[hi]) λg a b=>q _ g s.toks (by simp[hi]) ⟨a,st.2.at λo e=>b.extBut _ _ ne e⟩ b
 done:=λs Q E st q=>OQ hh st.1 st.2 (by simp) q
structure Ap(z a b i j:Addr)(f g:List Addr):Prop where
 az:a≠z
 bz:b≠z
 iz:i≠z
 jz:j≠z
 ab:a≠b
 ai:a≠i
 aj:a≠j
 bi:b≠i
 bj:b≠j
 ij:i≠j
 fz:z∉f
 fb:b∉f
 fj:j∉f
 gz:z∉g
 gb:b∉g
 gi:i∉g
section
variable{R:Nat->Value->Prop}
def PF{Q:Value->Shared->Prop}(D:Draws prog w A i f n P S)(C:Draws prog w A j g m R U)(ap:Ap z a b i j f g)(hz:IsZip s.heap z a b .none)(ha:IsPair s.heap a (.ref i) (.ref j))(hb:IsPair s.heap b p q)(hS:S k s.heap)(hU:U k s.heap)(hn:k<n)(hm:k<m)(h:∀x y g' tk,P k x->R k y->IsZip g' z a b (rawInt s.heap.objs.size)->IsPair g' b x y->S (k+1) g'->U (k+1) g'->IsPair g' s.heap.objs.size x y->g'.objs.size=s.heap.objs.size+1 ->
   (∀c o,c≠z->c≠b->c≠i->c≠j->s.heap.get? c=aA o->g'.get? c=aA o)->Q (.ref s.heap.objs.size) { s with heap:=g',toks:=tk }):wpAny (model prog w) A (Builtin.«zip.__next__» ⟨[.ref z],[]⟩) (λr s'=>∃y,r=.done (.ret y)/\Q y s') E s:=by
 show wpAny _ _ (field (.ref z) 2 >>= _) _ _ _;refine aa<|ik hz rfl (x:=.bool false) rfl ?_;show wpAny _ _ (field (.ref z) 3 >>= _) _ _ _;refine aa<|ik hz rfl (x:=.ref a) rfl<|aa<|iw ha rfl ?_;show wpAny _ _ (kn (.ref z) >>= _) _ _ _;refine aa ?_;unfold kn;refine aa<|ik hz rfl (x:=.none) rfl<|af ?_;simp only[if_true];refine aa<|ue<|aa<|ik hz rfl (x:=.ref b) rfl ?_;refine aa<|mw hz (by simp) λg1 z1 t1=>?_
 replace z1:IsZip g1 z a b .ellipsis:=z1
 have sS:∀{c:Addr} {o:Obj},c≠z->s.heap.get? c=aA o->g1.get? c=aA o:=λn e=>t1.extBut _ _ n e
 refine aa ?_;simp only[vb,List.zipIdx_nil,zi,List.forIn_nil];refine aa<|aa<|xh ?_;show wpAny _ _ (ia (.ref i) >>= _) _ _ _;refine aa<|D.item k _ _ _ hn (D.frame _ _ _ hS λc hc o e=>sS (λw'=>ap.fz<|w' ▸ hc) e) λx g2 Hm Px S2 t2=>af ?_;have b2:IsPair g2 b p q:=t2.extBut _ _ ap.bi<|sS ap.bz hb;refine aa<|iw b2 rfl<|aa<|wn b2 λg3 b3 t3=>?_
 replace b3:IsPair g3 b x q:=b3
 refine aa<|yz<|af ?_;refine aa<|aa<|xh ?_;show wpAny _ _ (ia (.ref j) >>= _) _ _ _;have U3:U k g3:=C.frame _ _ _ hU λc hc o e=>t3.extBut _ _ (λw'=>ap.gb<|w' ▸ hc)<|t2.extBut _ _ (λw'=>ap.gi<|w' ▸ hc)<|sS (λw'=>ap.gz<|w' ▸ hc) e
 refine aa<|C.item k _ _ _ hm U3 λy g4 ç Ry U4 t4=>af ?_;have b4:IsPair g4 b x q:=t4.extBut _ _ ap.bj b3;refine aa<|iw b4 rfl<|aa<|wn b4 λg5 b5 t5=>?_
 replace b5:IsPair g5 b x y:=b5
 refine aa<|yz<|af<|af ?_;refine aa<|iw b5 rfl<|aa<|wo ?_;have sz:g5.objs.size=s.heap.objs.size:=by rw[t5.1,t4.1,t3.1,t2.1,t1.1]
 have z5:IsZip g5 z a b .ellipsis:=t5.extBut _ _ ap.bz.symm<|t4.extBut _ _ ap.jz.symm<|t3.extBut _ _ ap.bz.symm<|t2.extBut _ _ ap.iz.symm z1;have k5:∀c o,c≠z->c≠b->c≠i->c≠j->s.heap.get? c=aA o->g5.get? c=aA o:=λc o c1 c2 c3 c4 e=>t5.extBut _ _ c2<|t4.extBut _ _ c4<|t3.extBut _ _ c2<|t2.extBut _ _ c3<|sS c1 e
 have S5:S (k+1) g5:=D.frame _ _ _ S2 λc hc o e=>t5.extBut _ _ (λw'=>ap.fb<|w' ▸ hc)<|t4.extBut _ _ (λw'=>ap.fj<|w' ▸ hc)<|t3.extBut _ _ (λw'=>ap.fb<|w' ▸ hc) e
 have U5:U (k+1) g5:=C.frame _ _ _ U4 λc hc o e=>t5.extBut _ _ (λw'=>ap.gb<|w' ▸ hc) e
 have zl:z<g5.objs.size:=aw z5;show wpAny _ _ (xf (.ref z) (.ref g5.objs.size) >>= _) _ _ _;refine aa ?_;unfold xf;have z6:IsZip (g5.push { cls:=.type "tuple",data:=.seq #[x,y] }) z a b .ellipsis:=ac _ z5;refine aa<|mw z6 (by simp) λg7 z7 t7=>?_
 replace z7:IsZip g7 z a b (rawInt g5.objs.size):=z7
 refine mw z7 (by simp) λg8 z8 t8=>?_
 replace z8:IsZip g8 z a b (rawInt g5.objs.size):=z8
 have up:∀c o,c≠z->g5.get? c=aA o->g8.get? c=aA o:=λc o c1 e=>t8.extBut _ _ c1<|t7.extBut _ _ c1<|ac _ e
 have p8:IsPair g8 g5.objs.size x y:=t8.extBut _ _ (lr zl)<|t7.extBut _ _ (lr zl)<|ax _ rfl;have s8:g8.objs.size=g5.objs.size+1:=by rw[t8.1,t7.1,ig]
 rw[sz] at z8 p8 s8;refine af ⟨_,rfl,(?_)⟩;show Q (.ref g5.objs.size) _;rw[sz];exact h x y g8 _ Px Ry z8 (up _ _ ap.bz b5) (D.frame _ _ _ S5 λc hc o e=>up c o (λw'=>ap.fz<|w' ▸ hc) e) (C.frame _ _ _ U5 λc hc o e=>up c o (λw'=>ap.gz<|w' ▸ hc) e) p8 s8 λc o c1 c2 c3 c4 e=>up c o c1<|k5 c o c1 c2 c3 c4 e
def OR(D:Draws prog w A i f n P S)(C:Draws prog w A j g m R U)(ap:Ap z a b i j f g)(hz:IsZip s.heap z a b .none)(ha:IsPair s.heap a (.ref i) (.ref j))(hb:IsPair s.heap b p q)(hS:S k s.heap)(hU:U k s.heap)(hk:(k=n)\/(k<n/\k=m))(h:∀g' e,(∀c o,c≠z->c≠b->c≠i->c≠j->s.heap.get? c=aA o->g'.get? c=aA o)->(∃o,g'.get? e=aA o/\o.cls=.type "StopIteration")->∀tk,E (.ref e) { s with heap:=g',toks:=tk }):wpAny (model prog w) A (xi.«zip.__next__» ⟨[.ref z],[]⟩) Q E s:=by
 show wpAny _ _ (field (.ref z) 2 >>= _) _ _ _;refine aa<|ik hz rfl (x:=.bool false) rfl ?_;show wpAny _ _ (field (.ref z) 3 >>= _) _ _ _;refine aa<|ik hz rfl (x:=.ref a) rfl<|aa<|iw ha rfl ?_;show wpAny _ _ (kn (.ref z) >>= _) _ _ _;refine aa ?_;unfold kn;refine aa<|ik hz rfl (x:=.none) rfl<|af ?_;simp only[if_true];refine aa<|ue<|aa<|ik hz rfl (x:=.ref b) rfl ?_;refine aa<|mw hz (by simp) λg1 z1 t1=>?_
 replace z1:IsZip g1 z a b .ellipsis:=z1
 have sS:∀{c:Addr} {o:Obj},c≠z->s.heap.get? c=aA o->g1.get? c=aA o:=λn e=>t1.extBut _ _ n e
 refine aa ?_;simp only[vb,List.zipIdx_nil,zi,List.forIn_nil];refine aa<|aa<|xh ?_;show wpAny _ _ (ia (.ref i) >>= _) _ _ _;have S1:S k g1:=D.frame _ _ _ hS λc hc o e=>sS (λw'=>ap.fz<|w' ▸ hc) e
 rcases hk with hk|⟨hn,hk⟩
 .subst hk;refine aa<|D.done _ _ _ S1 λg2 e t2 he=>?_;obtain⟨oe,ho,ce⟩:=he;have z2:IsZip g2 z a b .ellipsis:=t2 _ _ ap.iz.symm z1;have ez:e≠z:=λx=>by subst x;rw[z2] at ho;cases ho;simp at ce
  exact mw z2 (by simp) λg3 _ t3=>h g3 e (λc o c1 _ c3 _ x=>t3.extBut _ _ c1<|t2 _ _ c3<|sS c1 x) ⟨oe,t3.extBut _ _ ez ho,ce⟩ _
 .subst hk;refine aa<|D.item k _ _ _ hn S1 λx g2 Hm Px S2 t2=>af ?_;have b2:IsPair g2 b p q:=t2.extBut _ _ ap.bi<|sS ap.bz hb;refine aa<|iw b2 rfl<|aa<|wn b2 λg3 b3 t3=>?_;refine aa<|yz<|af ?_;refine aa<|aa<|xh ?_;show wpAny _ _ (ia (.ref j) >>= _) _ _ _;have U3:U k g3:=C.frame _ _ _ hU λc hc o e=>t3.extBut _ _ (λw'=>ap.gb<|w' ▸ hc)<|t2.extBut _ _ (λw'=>ap.gi<|w' ▸ hc)<|sS (λw'=>ap.gz<|w' ▸ hc) e
  refine aa<|C.done _ _ _ U3 λg4 e t4 he=>?_;obtain⟨oe,ho,ce⟩:=he;have z4:IsZip g4 z a b .ellipsis:=t4 _ _ ap.jz.symm<|t3.extBut _ _ ap.bz.symm<|t2.extBut _ _ ap.iz.symm z1;have ez:e≠z:=λx=>by subst x;rw[z4] at ho;cases ho;simp at ce
  exact mw z4 (by simp) λg5 _ t5=>h g5 e (λc o c1 c2 c3 c4 x=>t5.extBut _ _ c1<|t4 _ _ c4<|t3.extBut _ _ c2<|t2.extBut _ _ c3<|sS c1 x) ⟨oe,t5.extBut _ _ ez ho,ce⟩ _
end
noncomputable abbrev tI(t:Addr):Obj:={ cls:=.type "tuple_iterator",data:=.fields #[.ref t,.int 0 0] }
noncomputable abbrev tP(u v:Value):Obj:={ cls:=.type "tuple",data:=.seq #[u,v] }
noncomputable abbrev tZ(a b:Addr):Obj:={ cls:=.type "zip",data:=.fields #[.none,.bool false,.bool false,.ref a,.ref b] }
abbrev zH(h:Heap)(t u:Addr):Heap:=((((h.push<|tI t).push<|tI u).push<|tP (.ref h.objs.size)<|.ref (h.push<|tI t).objs.size).push<|tP .none .none).push<|tZ ((h.push<|tI t).push<|tI u).objs.size (((h.push<|tI t).push<|tI u).push<|tP (.ref h.objs.size)<|.ref (h.push<|tI t).objs.size).objs.size
def OS(t u:Addr)(xs ys:Array Value):Meets (Builtin.«zip.__new__» ⟨[.type "zip",.ref t,.ref u],[]⟩) (λ_ R s=>s.heap.IsTuple t xs/\s.heap.IsTuple u ys/\R (.ok<|.ret<|.ref ((((s.heap.push<|tI t).push<|tI u).push<|tP (.ref s.heap.objs.size)<|.ref (s.heap.push<|tI t).objs.size).push<|tP .none .none).objs.size) { s with heap:=zH s.heap t u }):=
 .of_wp λprog w A R s h=>by
  obtain⟨hp,g,d,tk,os⟩:=s;obtain⟨h1,h2,h⟩:=h;have W_:=sub_zip;have L1:acd (zc ⟨hp,g,d,tk,os⟩) t xs:=h1;have L2:acd (zc ⟨hp.push<|tI t,g,d,tk,os⟩) u ys:=h2.at λo e=>ac _ e
  wp_walk using ug L1,ug L2
  exact⟨_,rfl,h⟩
def Ot(h1:s.heap.IsTuple t xs)(h2:s.heap.IsTuple u ys)(h:∀g,IsZip g (s.heap.objs.size+4) (s.heap.objs.size+2) (s.heap.objs.size+3) .none->IsPair g (s.heap.objs.size+2) (.ref s.heap.objs.size) (.ref<|s.heap.objs.size+1)->IsPair g (s.heap.objs.size+3) .none .none ->
   g.IsTupleIter s.heap.objs.size t 0->g.IsTupleIter (s.heap.objs.size+1) u 0->(∀c o,s.heap.get? c=aA o->g.get? c=aA o)->Q (.ref<|s.heap.objs.size+4) { s with heap:=g }):wpAny (model prog w) A (call (.type "zip") [.ref t,.ref u]) Q E s:=by
 refine callType_new F.called_zip (by decide) (F.typeCall_zip_2 _ _) (F.newCall_zip_2 _ _) (λobj=>ada obj _ _) F.entry_zip_new (OS t u xs ys) ⟨h1,h2,?_⟩;have z1:(s.heap.push<|tI t).objs.size=s.heap.objs.size+1:=ig ..;have z2:((s.heap.push<|tI t).push<|tI u).objs.size=s.heap.objs.size+2:=by rw[ig,z1]
 have z3:(((s.heap.push<|tI t).push<|tI u).push<|tP (.ref s.heap.objs.size)<|.ref (s.heap.push<|tI t).objs.size).objs.size=s.heap.objs.size+3:=by rw[ig,z2]
 have z4:((((s.heap.push<|tI t).push<|tI u).push<|tP (.ref s.heap.objs.size)<|.ref (s.heap.push<|tI t).objs.size).push<|tP .none .none).objs.size=s.heap.objs.size+4:=by rw[ig,z3]
 have kp:∀c o,s.heap.get? c=aA o->(zH s.heap t u).get? c=aA o:=λc o x=>ac _<|ac _<|ac _<|ac _<|ac _ x
 have g1:(zH s.heap t u).get? s.heap.objs.size=aA (tI t):=ac _<|ac _<|ac _<|ac _<|ax _ rfl;have g2:(zH s.heap t u).get? (s.heap.push<|tI t).objs.size=aA (tI u):=ac _<|ac _<|ac _<|ax _ rfl;have g3:(zH s.heap t u).get? ((s.heap.push<|tI t).push<|tI u).objs.size=aA (tP (.ref s.heap.objs.size)<|.ref (s.heap.push<|tI t).objs.size):=ac _<|ac _<|ax _ rfl;have g4:(zH s.heap t u).get? (((s.heap.push<|tI t).push<|tI u).push<|tP (.ref s.heap.objs.size)<|.ref (s.heap.push<|tI t).objs.size).objs.size=aA (tP .none .none):=ac _<|ax _ rfl;have g5:(zH s.heap t u).get? ((((s.heap.push<|tI t).push<|tI u).push<|tP (.ref s.heap.objs.size)<|.ref (s.heap.push<|tI t).objs.size).push<|tP .none .none).objs.size=aA (tZ ((s.heap.push<|tI t).push<|tI u).objs.size (((s.heap.push<|tI t).push<|tI u).push<|tP (.ref s.heap.objs.size)<|.ref (s.heap.push<|tI t).objs.size).objs.size):=ax _ rfl;rw[z4] at g5 ⊢;rw[z3] at g4 g5;rw[z2] at g3 g5;rw[z1] at g2 g3;exact⟨⟨_,g5,rfl⟩,h _ g5 g3 g4 ⟨_,g1,rfl,rfl⟩ ⟨_,g2,rfl,rfl⟩ kp⟩
def IU{R:Nat->Value->Prop}(D:Draws prog w A.in1 i f n P S)(C:Draws prog w A.in1 j g m R U)(ap:Ap z a b i j f g)(hz:IsZip s.heap z a b .none)(ha:IsPair s.heap a (.ref i) (.ref j))(hb:IsPair s.heap b p q)(hS:S k s.heap)(hU:U k s.heap)(hn:k<n)(hm:k<m)(h:∀x y g' tk,P k x->R k y->IsZip g' z a b (rawInt s.heap.objs.size)->IsPair g' b x y->S (k+1) g'->U (k+1) g'->IsPair g' s.heap.objs.size x y->g'.objs.size=s.heap.objs.size+1 ->
   (∀c o,c≠z->c≠b->c≠i->c≠j->s.heap.get? c=aA o->g'.get? c=aA o)->Q (aA<|.ref s.heap.objs.size) { s with heap:=g',toks:=tk }):wpAny (model prog w) A (pyNext<|.ref z) Q E s:=by
 have hT:s.TypeIs (.ref z) "zip" := ⟨_,hz,rfl⟩;unfold pyNext;refine aa<|ql<|gq (name:=jj "__next__") hT wg<|fm wg hT F.entry_zip_next ?_<|F.args_zip_next_1 _;refine je (PF (Q:=λv s'=>Q (aA v) s') D C ap hz ha hb hS hU hn hm h) (λfin s' hq=>?_) λ_ _ x=>x
 obtain⟨v,e,hq⟩:=hq;exact⟨v,e,af hq⟩
def IV{R:Nat->Value->Prop}(D:Draws prog w A.in1 i f n P S)(C:Draws prog w A.in1 j g m R U)(ap:Ap z a b i j f g)(hz:IsZip s.heap z a b .none)(ha:IsPair s.heap a (.ref i) (.ref j))(hb:IsPair s.heap b p q)(hS:S k s.heap)(hU:U k s.heap)(hk:(k=n)\/(k<n/\k=m))(h:∀g' tk,(∀c o,c≠z->c≠b->c≠i->c≠j->s.heap.get? c=aA o->g'.get? c=aA o)->Q aB { s with heap:=g',toks:=tk }):wpAny (model prog w) A (pyNext<|.ref z) Q E s:=by
 have hT:s.TypeIs (.ref z) "zip" := ⟨_,hz,rfl⟩;unfold pyNext;refine aa<|ql<|gq (name:=jj "__next__") hT wg<|fm wg hT F.entry_zip_next (OR D C ap hz ha hb hS hU hk λg' e kp he tk=>?_)<|F.args_zip_next_1 _;obtain⟨o,ho,hc⟩:=he;refine aa<|uz (T:="StopIteration") (b:=true) ⟨o,ho,hc⟩ zt ?_;exact af<|h _ _ kp
end ZZ
namespace DD
open PySem PySem.Spec PyProof.Rows L2
def nC{ch:List Addr}(I:Inv X pZ σ H s)(eZ:∀b∈ch,gZ X pZ H b)(hT:s.heap.objs.size<=T)(kp:∀b o,b∉ch->s.heap.get? b=aA o->h'.get? b=aA o)(hz:vs.length<=ar)(hv:Vals vs its)(ht:IsTup h' T its.toArray):Inv X pZ σ (upd H T<|.tup vs) { s with heap:=h',toks:=t' }:=by
 have hn:H T=aB:=I.aI.fresh hT;have old:∀{b:Addr} {o:Obj},s.heap.get? b=aA o->b≠T:=λe=>bh<|bw (aw e) hT
 have tr:∀{b:Addr} {u:HO},H b=aA u->b≠T:=λe=>xD e hn
 have C9:∀{b:Addr} {u:HO},H b=aA u->b∉ch:=λ{b u} e z=>by rw[(eZ b z).1] at e;cases e
 refine I.step (g':=s.gens) (d':=s.drawn) (ch:=ch) (λb hb=>⟨(eZ b hb).2.2.2.1,(eZ b hb).2.1,(eZ b hb).2.2.2.2.1,(eZ b hb).2.2.2.2.2⟩) (λb o _ _ hc e _=>kp b o hc e) (λb o _ _ hc e _=>⟨o.slots,kp b o hc e⟩)
  (λb o _ e n=>by rw[zT<|old e];exact n) (λb o hc e=>⟨o,kp b o hc e⟩) (λb xs e=>by rw[zT<|tr e];exact e) (λb o u e=>by rw[zT<|tr e];exact e) (λb ps e=>⟨#[],by rw[zT<|tr e,e];simp⟩) (λm hm=>?_) (λb u e=>?_) I.bare
 .obtain⟨o,es,ep,ho,r⟩:=hm;exact⟨o,es,ep,kp _ o (λz=>(eZ _ z).2.1 rfl) ho,r⟩
 .by_cases hb:b=T
  .subst hb;rw[zR] at e;cases e;exact⟨hz,its,hv,ht⟩
  .rw[zT hb] at e;refine(I.aI b u e).Ag (λc v hc q=>kp c v ?_ q) (λc q=>by rw[zT<|tr q];exact q) (λc xs q=>by rw[zT<|tr q];exact q) λc o u q=>by rw[zT<|tr q];exact q
   rcases hc with z|z
   .rw[z];exact C9 e
   .exact C9 z
def dE{ch:List Addr}(I:Inv X pZ σ H s)(eZ:∀b∈ch,gZ X pZ H b)(kp:∀b o,b∉ch->s.heap.get? b=aA o->h'.get? b=aA o):Inv X pZ σ H { s with heap:=h',toks:=t' }:=by
 have C9:∀{b:Addr} {u:HO},H b=aA u->b∉ch:=λ{b u} e z=>by rw[(eZ b z).1] at e;cases e
 refine I.step (g':=s.gens) (d':=s.drawn) (ch:=ch) (λb hb=>⟨(eZ b hb).2.2.2.1,(eZ b hb).2.1,(eZ b hb).2.2.2.2.1,(eZ b hb).2.2.2.2.2⟩) (λb o _ _ hc e _=>kp b o hc e) (λb o _ _ hc e _=>⟨o.slots,kp b o hc e⟩)
  (λb o _ e n=>n) (λb o hc e=>⟨o,kp b o hc e⟩) (λb xs e=>e) (λb o u e=>e) (λb ps e=>⟨#[],by rw[e];simp⟩) (λm hm=>?_) (λb u e=>?_) I.bare
 .obtain⟨o,es,ep,ho,r⟩:=hm;exact⟨o,es,ep,kp _ o (λz=>(eZ _ z).2.1 rfl) ho,r⟩
 .refine(I.aI b u e).Ag (λc v hc q=>kp c v ?_ q) (λ_ q=>q) (λ_ _ q=>q) λ_ _ _ q=>q
  rcases hc with z|z
  .rw[z];exact C9 e
  .exact C9 z
def QU{h:Heap}{a b:Addr}{o o':Obj}{n m:String}(e:h.get? a=aA o)(c:o.cls=.type n)(e':h.get? b=aA o')(c':o'.cls=.type m)(d:n≠m):a≠b:=by
 rintro rfl;rw[e] at e';cases e';rw[c] at c';injection c' with q;exact d q
def IQ(K:Fg)(a:Addr):It:=
 ⟨λi H=>∃xs x,aN K H a xs/\xs[i]?=aA x,λi H x H'=>∃T y,x=.ref T/\H T=aB/\H'=upd H T (.tup [.int i,y])/\∀xs,aN K H a xs->xs[i]?=aA y,λi H=>∃xs,aN K H a xs/\xs.length=i⟩
def X5{P:Program}{w:World}{K:Fg}{elts:List Expr}{k:Nat}{tp:Pos}(a e it:Addr)(NN:e≠it):Turn P w K (.Tuple elts k tp) (IQ K a) [e,it] e (λi h=>(∃old,IsEnum h e it i old)/\h.IsListIter it a i) where
 mem:=by simp
 obj:=λi h st b hb=>by
  obtain⟨⟨old,h1⟩,o,h2,h3,h4⟩:=st;have fM:b=e\/b=it:=by simpa using hb
  rcases fM with rfl|rfl
  .exact⟨_,h1,λv z=>by cases z⟩
  .exact⟨o,h2,λv z=>by rw[h4] at z;cases z⟩
 keep:=λi h g st kp=>⟨let ⟨old,h1⟩:=st.1;⟨old,kp e (by simp) _ h1⟩,st.2.at λo q=>kp it (by simp) o q⟩
 item:=by
  intro X hP hw hK hc i pZ s σ H E I hf st hg;subst hP hw hK;obtain⟨xs,x,hq,hx⟩:=hg;obtain⟨its,rv,p,hz⟩:=I.list hq;obtain⟨u,hu,ru⟩:=rv.get hx;obtain⟨oa,na,ea,ca,_⟩:=id p;obtain⟨⟨old,h1⟩,oi,h2,h3,h4⟩:=id st;have ID:a≠e:=QU ea ca h1 rfl (by decide);have IC:a≠it:=QU ea ca h2 h3 (by decide);have W:=WalksT.enumerate (prog:=X.prog) (w:=X.w) (A:=X.A) (I.ok.hd hc) e it a NN ID IC its.toArray;have hi:i<its.toArray.size:=by
   obtain⟨q,_⟩:=ba.mp hu;simpa using q
  refine W.item i s _ _ hi ⟨st.1,st.2,p.isList⟩ λT vals g tk pt hT DR mid kp=>⟨_,rfl,W.go elts k tp i T _ _ _ mid λg2 eT lJ=>?_⟩
  obtain⟨t,y,hy,rfl⟩:=pt;have q_:y=u:=by
   have:its[i]?=aA y:=by simpa using hy
   rw[hu] at this;exact(bv this).symm
  subst q_;have Wh:IsTup g2 T #[.int i t,y]:=by
   obtain⟨o,q1,q2⟩:=DR;exact⟨o,lJ T o (W.apart i T _ mid) q1,q2⟩
  refine⟨.ref T,upd H T<|.tup [.int i,x],nC (s:=s) (t':=tk) I (its:=[.int i t,y]) (ch:=[e,it]) hf hT (λb o hb q=>lJ b o hb<|kp b o hb q) (by show 2<=ar;decide) (.cons ⟨t,rfl⟩<|.cons ru .nil) Wh,rfl,⟨T,x,rfl,I.aI.fresh hT,rfl,λys Wn=>by rw[I.Ia Wn hq];exact hx⟩,⟨eT.1,eT.2.1⟩,λb hb=>?_⟩;have Yo:b≠T:=by
   have fM:b=e\/b=it:=by simpa using hb
   rcases fM with rfl|rfl
   .exact bh<|bw (aw h1) hT
   .exact bh<|bw (aw h2) hT
  rw[zT Yo];exact(hf b hb).1
 done:=by
  intro X hP hw hK hc i pZ s σ H E I hf st hg;subst hP hw hK;obtain⟨xs,hq,hx⟩:=hg;obtain⟨its,rv,p,hz⟩:=I.list hq;obtain⟨oa,na,ea,ca,_⟩:=id p;obtain⟨⟨old,h1⟩,oi,h2,h3,h4⟩:=id st;have ID:a≠e:=QU ea ca h1 rfl (by decide);have IC:a≠it:=QU ea ca h2 h3 (by decide);have W:=WalksT.enumerate (prog:=X.prog) (w:=X.w) (A:=X.A) (I.ok.hd hc) e it a NN ID IC its.toArray;have hl:its.toArray.size=i:=by rw[ao,<-rv.length];exact hx
  exact W.done s _ _ (by rw[hl];exact⟨st.1,st.2,p.isList⟩) λg tk kp=>⟨rfl,dE I hf kp⟩
 self:=λ_ _ _ _ _ st h=>let ⟨⟨_,h1⟩,_⟩:=st;wpAny_pyIter_enum h1 h
def CF(sq:Hp->Addr->List V->Prop)(a b:Addr):It:=
 ⟨λi H=>∃xs ys x y,sq H a xs/\sq H b ys/\xs[i]?=aA x/\ys[i]?=aA y,λi H x H'=>∃T u v,x=.ref T/\H T=aB/\H'=upd H T (.tup [u,v])/\(∀xs,sq H a xs->xs[i]?=aA u)/\∀ys,sq H b ys->ys[i]?=aA v,λi H=>∃xs ys,sq H a xs/\sq H b ys/\(xs.length=i\/(i<xs.length/\ys.length=i))⟩
def Jz(I:Inv X pZ σ H s)(h:X.K.lookup a=aA o)(f:gZ X pZ H b):a≠b:=by
 rintro rfl;have e:=I.ok.mod.FJ a o h;rcases f.2.2.2.1 with z|z
 .exact I.ok.Bv a o e z
 .exact absurd (bw (bw (aw e) I.ok.t_) z)<|qq _
def J_(h:Rd H a u)(f:gZ X pZ H b):a≠b:=by
 rintro rfl;obtain⟨o,e⟩:=Rd.some h;rw[f.1] at e;cases e
structure Dw(K:Fg)(sq:Hp->Addr->List V->Prop)(Am:Heap->Addr->Addr->Nat->Prop)(nm:String):Prop where
 get:∀{X:Cx} {pZ σ H s a xs},X.K=K->Inv X pZ σ H s->sq H a xs->∃its:List Value,Vals xs its/\xs.length<=ar/\∃o,s.heap.get? a=aA o/\o.cls=.type nm/\∃n,o.data=.seq its.toArray n
 inj:∀{X:Cx} {pZ σ H s a xs ys},X.K=K->Inv X pZ σ H s->sq H a xs->sq H a ys->xs=ys
 ne:∀{X:Cx} {pZ σ H s a xs b},X.K=K->Inv X pZ σ H s->sq H a xs->gZ X pZ H b->a≠b
 it:∀{h i a k},Am h i a k->∃o,h.get? i=aA o/\∃vs,o.data=.fields vs
 at_:∀{h h':Heap} {i a k},Am h i a k->(∀o,h.get? i=aA o->h'.get? i=aA o)->Am h' i a k
 dr:∀{prog w A} (_:A.handled=aB) (i a:Addr) (_:a≠i) (ys:Array Value),Draws prog w A i [i,a] ys.size (λk v=>ys[k]?=aA v) (λk h=>Am h i a k/\∃o,h.get? a=aA o/\o.cls=.type nm/\∃n,o.data=.seq ys n)
def Mr(K:Fg):Dw K (aN K) Heap.IsListIter "list" where
 get:=λ{X pZ σ H s a xs} hK I h=>by
  subst hK;obtain⟨its,r,⟨o,n,e,c,_,d⟩,z⟩:=I.list h;exact⟨its,r,z,o,e,c,n,d⟩
 inj:=λ{X pZ σ H s a xs ys} hK I h g=>by subst hK;exact I.Ia h g
 ne:=λ{X pZ σ H s a xs b} hK I h f=>by
  subst hK;rcases h with h|⟨o,_,_,hk,_⟩
  .exact J_ h f
  .exact Jz I hk f
 it:=λ{h i a k} ⟨o,e,c,d⟩=>⟨o,e,_,d⟩
 at_:=λh k=>h.at k
 dr:=λhh i a ne ys=>Draws.list hh i a ne ys
def KN(K:Fg):Dw K (aM K) Heap.IsTupleIter "tuple" where
 get:=λ{X pZ σ H s a xs} hK I h=>by
  subst hK;obtain⟨its,r,⟨o,e,c,n,d⟩,z⟩:=I.tuple h;exact⟨its,r,z,o,e,c,n,d⟩
 inj:=λ{X pZ σ H s a xs ys} hK I h g=>by subst hK;exact I.Mw h g
 ne:=λ{X pZ σ H s a xs b} hK I h f=>by
  subst hK;rcases h with h|⟨o,_,_,hk,_⟩
  .exact J_ h f
  .exact Jz I hk f
 it:=λ{h i a k} ⟨o,e,c,d⟩=>⟨o,e,_,d⟩
 at_:=λh k=>h.at k
 dr:=λhh i a ne ys=>ZZ.Zv hh i a ne ys
structure ZA(z p q i j:Addr):Prop where
 pz:p≠z
 qz:q≠z
 iz:i≠z
 jz:j≠z
 pq:p≠q
 pi:p≠i
 pj:p≠j
 qi:q≠i
 qj:q≠j
 ij:i≠j
def ZI{K:Fg}(W:Dw K sq Am nm)(a b z p q i j:Addr)(ap:ZA z p q i j):Turn P w K (.Tuple elts k tp) (CF sq a b) [z,p,q,i,j] z (λn h=>IsZip h z p q .none/\IsPair h p (.ref i) (.ref j)/\(∃u v,IsPair h q u v)/\Am h i a n/\Am h j b n) where
 mem:=by simp
 obj:=λn h st c hc=>by
  obtain⟨h1,h2,⟨u,v,h3⟩,h4,h5⟩:=st;obtain⟨oi,ei,vi,di⟩:=W.it h4;obtain⟨oj,ej,vj,dj⟩:=W.it h5;have sW:c=z\/c=p\/c=q\/c=i\/c=j:=by simpa using hc
  rcases sW with rfl|rfl|rfl|rfl|rfl
  .exact⟨_,h1,λv z=>by cases z⟩
  .exact⟨_,h2,λv z=>by cases z⟩
  .exact⟨_,h3,λv z=>by cases z⟩
  .exact⟨_,ei,λv z=>by rw[di] at z;cases z⟩
  .exact⟨_,ej,λv z=>by rw[dj] at z;cases z⟩
 keep:=λn h g st kp=>by
  obtain⟨h1,h2,⟨u,v,h3⟩,h4,h5⟩:=st;exact⟨kp z (by simp) _ h1,kp p (by simp) _ h2,⟨u,v,kp q (by simp) _ h3⟩,W.at_ h4 λo e=>kp i (by simp) o e,W.at_ h5 λo e=>kp j (by simp) o e⟩
 item:=by
  intro X hP hw hK hc n pZ s σ H E I hf st hg;subst hP hw;obtain⟨xs,ys,x,y,hx,hy,ex,ey⟩:=hg;obtain⟨its,rv,Ii,oa,ea,ca,na,da⟩:=W.get hK I hx;obtain⟨a8,Ai,Ih,ob,eb,cb,nb,db⟩:=W.get hK I hy;obtain⟨u,hu,ru⟩:=rv.get ex;obtain⟨v,hv,iB⟩:=Ai.get ey;obtain⟨h1,h2,⟨u0,v0,h3⟩,h4,h5⟩:=st;have fa:∀c∈[z,p,q,i,j],a≠c:=λc hc=>W.ne hK I hx<|hf c hc
  have fb:∀c∈[z,p,q,i,j],b≠c:=λc hc=>W.ne hK I hy<|hf c hc
  have hn:n<its.toArray.size:=by obtain⟨q',_⟩:=ba.mp hu;simpa using q'
  have hm:n<a8.toArray.size:=by obtain⟨q',_⟩:=ba.mp hv;simpa using q'
  have BL:ZZ.Ap z p q i j [i,a] [j,b]:=⟨ap.pz,ap.qz,ap.iz,ap.jz,ap.pq,ap.pi,ap.pj,ap.qi,ap.qj,ap.ij,
   by simp;exact⟨ap.iz.symm,(fa z<|by simp).symm⟩,by simp;exact⟨ap.qi,(fa q<|by simp).symm⟩,by simp;exact⟨ap.ij.symm,(fa j<|by simp).symm⟩,by simp;exact⟨ap.jz.symm,(fb z<|by simp).symm⟩,by simp;exact⟨ap.qj,(fb q<|by simp).symm⟩,by simp;exact⟨ap.ij,(fb i<|by simp).symm⟩⟩
  refine ZZ.IU (W.dr (A:=X.A.in1) (I.ok.hd hc) i a (fa i<|by simp) its.toArray) (W.dr (A:=X.A.in1) (I.ok.hd hc) j b (fb j<|by simp) a8.toArray) BL h1 h2 h3 ⟨h4,oa,ea,ca,na,da⟩ ⟨h5,ob,eb,cb,nb,db⟩ hn hm λx' y' g tk px py z1 q1 s1 u1 t1 sz kp=>⟨_,rfl,?_⟩
  refine aac z1 λg2 z2 sb=>?_
  have lK:x'=u:=by
   have:its[n]?=aA x':=by simpa using px
   rw[hu] at this;exact(bv this).symm
  have q_:y'=v:=by
   have:a8[n]?=aA y':=by simpa using py
   rw[hv] at this;exact(bv this).symm
  subst lK q_;have zl:z<s.heap.objs.size:=aw h1;have lJ:∀c o,c∉[z,q,i,j]->s.heap.get? c=aA o->g2.get? c=aA o:=λc o hc e=>by
   simp at hc;exact sb.extBut _ _ hc.1<|kp c o hc.1 hc.2.1 hc.2.2.1 hc.2.2.2 e
  have DR:IsTup g2 s.heap.objs.size #[x',y']:=⟨_,sb.extBut _ _ (lr zl) t1,rfl,_,rfl⟩;have BC:∀c∈[z,q,i,j],gZ X pZ H c:=λc hc=>hf c (by simp at hc ⊢;rcases hc with h|h|h|h<;>simp[h])
  refine⟨.ref s.heap.objs.size,upd H s.heap.objs.size<|.tup [x,y],nC (s:=s) (t':=tk) I (its:=[x',y']) (ch:=[z,q,i,j]) BC (al _) lJ (by show 2<=ar;decide) (.cons ru<|.cons iB .nil) DR,rfl,⟨_,x,y,rfl,I.aI.fresh<|al _,rfl,λzs p_=>by rw[W.inj hK I p_ hx];exact ex,λzs p_=>by rw[W.inj hK I p_ hy];exact ey⟩,?_,λc hc=>?_⟩
  .refine⟨z2,sb.extBut _ _ ap.pz<|kp p _ ap.pz ap.pq ap.pi ap.pj h2,⟨_,_,sb.extBut _ _ ap.qz q1⟩,W.at_ s1.1 λo e=>sb.extBut _ _ ap.iz e,W.at_ u1.1 λo e=>sb.extBut _ _ ap.jz e⟩
  .have eF:c<s.heap.objs.size:=by
    obtain⟨oi,ei,_⟩:=W.it h4;obtain⟨oj,ej,_⟩:=W.it h5;simp at hc;rcases hc with rfl|rfl|rfl|rfl|rfl
    .exact zl
    .exact aw h2
    .exact aw h3
    .exact aw ei
    .exact aw ej
   rw[zT<|bh eF];exact(hf c hc).1
 done:=by
  intro X hP hw hK hc n pZ s σ H E I hf st hg;subst hP hw;obtain⟨xs,ys,hx,hy,hl⟩:=hg;obtain⟨its,rv,Ii,oa,ea,ca,na,da⟩:=W.get hK I hx;obtain⟨a8,Ai,Ih,ob,eb,cb,nb,db⟩:=W.get hK I hy;obtain⟨h1,h2,⟨u0,v0,h3⟩,h4,h5⟩:=st;have fa:∀c∈[z,p,q,i,j],a≠c:=λc hc=>W.ne hK I hx<|hf c hc
  have fb:∀c∈[z,p,q,i,j],b≠c:=λc hc=>W.ne hK I hy<|hf c hc
  have e1:=rv.length;have e2:=Ai.length;have BL:ZZ.Ap z p q i j [i,a] [j,b]:=⟨ap.pz,ap.qz,ap.iz,ap.jz,ap.pq,ap.pi,ap.pj,ap.qi,ap.qj,ap.ij,
   by simp;exact⟨ap.iz.symm,(fa z<|by simp).symm⟩,by simp;exact⟨ap.qi,(fa q<|by simp).symm⟩,by simp;exact⟨ap.ij.symm,(fa j<|by simp).symm⟩,by simp;exact⟨ap.jz.symm,(fb z<|by simp).symm⟩,by simp;exact⟨ap.qj,(fb q<|by simp).symm⟩,by simp;exact⟨ap.ij,(fb i<|by simp).symm⟩⟩
  have BC:∀c∈[z,q,i,j],gZ X pZ H c:=λc hc=>hf c (by simp at hc ⊢;rcases hc with h|h|h|h<;>simp[h])
  refine ZZ.IV (W.dr (A:=X.A.in1) (I.ok.hd hc) i a (fa i<|by simp) its.toArray) (W.dr (A:=X.A.in1) (I.ok.hd hc) j b (fb j<|by simp) a8.toArray) BL h1 h2 h3 ⟨h4,oa,ea,ca,na,da⟩ ⟨h5,ob,eb,cb,nb,db⟩ ?_ λg tk kp=>⟨rfl,dE I BC λc o hc e=>?_⟩
  .simp only[ao];rcases hl with h|⟨h,h'⟩
   .left;omega
   .right;omega
  .simp at hc;exact kp c o hc.1 hc.2.1 hc.2.2.1 hc.2.2.2 e
 self:=λ_ _ _ _ _ st h=>se st.1 h
section
variable{X:Cx}{pos:Pos}{a b c:Expr}{f g h:ME}
noncomputable def Y0:List D->Option (List Int)
 |[]=>aA []
 |.int i::r=>(Y0 r).map (i::·)
 |_=>aB
theorem YZ{K:Fg}:∀{l:List D} {ns:List Int} {vs:List V},Y0 l=aA ns->IsL K O H l vs->vs=ns.map V.int
 |[],ns,vs,e,il=>by cases e;unfold IsL at il;subst il;rfl
 |d::l,ns,vs,e,il=>by
  unfold IsL at il;obtain⟨v,r,rfl,i1,i2⟩:=il;cases d<;>first|(simp only[Y0,reduceCtorEq] at e;done)|skip
  simp only[Y0] at e;obtain⟨ms,e1,rfl⟩:=aT e;rw[zM] at i1;rw[i1,YZ e1 i2];rfl
def mE(fl:ML):ME:=λr=>(fl r).map .tup
def bK(hg:Gl X "tuple")(hm:X.mg "tuple" = aB)(ha:DB X a fl)(hs:bp [a] X.env=(false,eval a X.env)::bp [] X.env:=by rfl):DE X (.Call (.Name "tuple" p') [a] [] pos) (mE fl):=by
 refine PE.aH (kT d4 hg hm PyProof.Rows.boot_tuple (yN ha x8 hs) (he:=hs)) λσ H Q hq=>?_
 obtain⟨O0,r,d,hR,e,q⟩:=hq;obtain⟨l,e1,rfl⟩:=aT e;refine⟨O0,r,l,hR,e1,λp xs H1 s1 sq il=>⟨p,xs,rfl,.inl ⟨sq,λt ht=>q _ _ (s1.trans<|zW ht) ?_⟩⟩⟩;rw[zX];exact⟨t,xs,rfl,aM.of zR,il.same (zW ht) (hR.same s1).ol⟩
def Av(h:DF X a fl):DB X a fl:=by
 refine PE.aH h λσ H Q hq=>?_
 obtain⟨O0,r,l,hR,e,q⟩:=hq;refine⟨O0,r,l,hR,e,λp xs H1 s1 n1 e1 il=>q p xs H1 s1 (aN.of e1) ?_⟩;have ol:cG (λb=>Ow O0 r σ b\/b=p) H1:=λb z=>z.elim (λz=>(hR.same s1).ol b z) λz=>by subst z;exact⟨.lst xs,e1,trivial⟩
 exact IsL.mono (aC.kp (aC.refl H1) _) ol (λa z _=>.inl z) l xs il
end
open PySem PySem.Spec PyProof.Rows L2 PySem.StrLaws
def XW(xs:List α)(lo hi:Option Int):List α:=(xs.drop<|HT.aL xs.length 0 lo).take<|HT.aL xs.length xs.length hi-HT.aL xs.length 0 lo
def Z0(n d:Nat)(hd:d<=n)(o:Option Int):HT.aL n d o<=n:=HT.MM n d hd o
def oB(lo hi:Option Int)(n:Nat):ud lo hi 1 n=ud (aA ((HT.aL n 0 lo:Nat):Int)) (aA ((HT.aL n n hi:Nat):Int)) 1 n:=by
 have key:∀(v:Option Int) (d:Nat),d<=n->(match v with|none=>(d:Int)|some i=>max 0<|min (if i<0 then i+(n:Int) else i) (n:Int))=max 0 (min (if ((HT.aL n d v:Nat):Int)<0 then ((HT.aL n d v:Nat):Int)+(n:Int) else ((HT.aL n d v:Nat):Int)) (n:Int)):=by
  intro v d hd;have hle:=Z0 n d hd v;have h0:¬(((HT.aL n d v:Nat):Int)<0):=by omega
  rw[if_neg h0];cases v with
  |none=>
   have e:HT.aL n d aB=d:=rfl;rw[e];show(d:Int)=_;omega
  |some i=>
   have e:HT.aL n d (aA i)=if i<0 then (i+(n:Int)).toNat else min i.toNat n:=rfl
   show max 0 (min (if i<0 then i+(n:Int) else i) (n:Int))=_;rw[e] at hle ⊢
   split<;>split at hle<;>omega
 have e1:(1:Int) > 0:=by omega
 unfold xt;simp only[e1,if_true];have k1:=key lo 0<|bu _;have k2:=key hi n<|al _;cases lo<;>cases hi<;>simp only at k1 k2 ⊢<;>rw[<-k1,<-k2]<;>rfl
def uC(x:Str)(lo hi:Option Int):sliceText x lo hi=⟨(XW x.cps.toList lo hi).toArray⟩:=by
 have hl:x.cps.toList.length=x.length:=by simp[vk]
 unfold XW;rw[hl];have ha:=Z0 x.length 0 (bu _) lo;have hb:=Z0 x.length x.length (al _) hi;have e:sliceText x lo hi=sliceText x (aA ((HT.aL x.length 0 lo:Nat):Int)) (aA ((HT.aL x.length x.length hi:Nat):Int)):=by
  unfold sliceText;rw[oB lo hi x.length]
 rw[e];by_cases BG:HT.aL x.length 0 lo<=HT.aL x.length x.length hi
 .exact sliceText_nat x BG hb
 .have z:HT.aL x.length x.length hi-HT.aL x.length 0 lo=0:=by omega
  rw[z,List.take_zero];have em:ud (aA ((HT.aL x.length 0 lo:Nat):Int)) (aA ((HT.aL x.length x.length hi:Nat):Int)) 1 x.length=[]:=by
   have e1:(1:Int) > 0:=by omega
   unfold xt;simp only[e1,if_true];have h0:¬(((HT.aL x.length 0 lo:Nat):Int)<0):=by omega
   have h1:¬(((HT.aL x.length x.length hi:Nat):Int)<0):=by omega
   rw[if_neg h0,if_neg h1];unfold PySem.sliceRange;simp only[e1,if_true];split
   .omega
   .rfl
  unfold sliceText;rw[em];split
  .rename_i q;have q':x.length=0:=by
                  have:0=x.length:=by simpa using q
                  exact this.symm
   apply Str.ext'
   have:x.cps.size=0:=q'
   exact Array.eq_empty_of_size_eq_zero this
  .rfl
def Jj:V->Option Int->Option Int->Hp->VK->Prop:=λx lo hi H Q=>∃z,x=.str z/\z.length<=ar/\Q (.str ⟨(XW z.cps.toList lo hi).toArray⟩) H
def Ui(xs:List α)(lo hi:Option Int):(XW xs lo hi).length<=xs.length:=by
 unfold XW;rw[cu,kr];omega
def rX:A3 X Jj:=by
 intro pZ s σ H x v vl vu lo hi sl Q I rx hs pl pu hq;obtain⟨z,rfl,hz,q⟩:=hq;obtain⟨t,rfl⟩:=rx;refine⟨"str",_,PySem.F.slot_str_getitem.lookup,typeIs_str _ _ _,?_⟩;have main:∀(l u:Option (Int×Tok)),l.map (·.1)=lo->u.map (·.1)=hi->s.heap.IsSlice sl l u aB->wpAny (model X.prog X.w) X.A (getItem (.str z t)<|.ref sl) (EP X pZ σ Q) X.xe s:=by
  intro l u hl hu r_;refine wpAny_getItem_str_slice r_ rfl ?_;have e:∀t' k,EP X pZ σ Q (.str (sliceText z lo hi) t') { s with toks:=k }:=λt' k=>⟨.str _,H,I.tok k,⟨t',rfl⟩,by rw[uC];exact q⟩
  have hle:(sliceText z lo hi).length<=ar:=by
   rw[uC,v7]
   have:=Ui z.cps.toList lo hi
   have h2:z.cps.toList.length=z.length:=by simp[vk]
   omega
  unfold sliceMade slicePicked;rw[hl,hu];exact post_val_or_str ⟨hle,e⟩
 obtain⟨o,h1,h2,h3⟩:=hs;cases pl with
 |none=>cases pu with
  |none=>exact main aB aB rfl rfl ⟨o,h1,h2,h3⟩
  |int j tj=>exact main aB (aA (j,tj)) rfl rfl ⟨o,h1,h2,h3⟩
 |int i ti=>cases pu with
  |none=>exact main (aA (i,ti)) aB rfl rfl ⟨o,h1,h2,h3⟩
  |int j tj=>exact main (aA (i,ti)) (aA (j,tj)) rfl rfl ⟨o,h1,h2,h3⟩
abbrev MO:=En->Option (Option Int)
def mO:MO:=λ_=>aA aB
def w4(f:ME):MO:=λr=>(f r).bind λd=>(intD d).map aA
def lO(K:Fg)(f:MO):TO:=λσ H Q=>∃O0 r o,R K O0 H r σ/\f r=aA o/\∀H',aC H H'->Q o H'
def DO(X:Cx)(e:Option Expr)(f:MO):Prop:=PO X e<|lO X.K f
def PO.aH(h:PO X e t)(i:∀σ H Q,t' σ H Q->t σ H Q):PO X e t':=λpZ s σ H Q I q=>h pZ s σ H Q I<|i σ H Q q
def XA:DO X aB mO:=PO.aH Te λσ H Q ⟨O0,r,o,hR,e,q⟩=>by
 unfold mO at e;cases e;exact q H<|aC.refl H
def kJ(ha:DE X a f):DO X (aA a) (w4 f):=PO.aH (Tf ha) λσ H Q ⟨O0,r,o,hR,e,q⟩=>by
 obtain⟨d,e1,e2⟩:=aF e;obtain⟨i,e3,rfl⟩:=aT e2;cases dF e3;exact⟨O0,r,_,hR,e1,λv H1 s1 i1=>⟨i,by rw[zM] at i1;exact i1,q H1 s1⟩⟩
def Cc(d:D)(lo hi:Option Int):Option D:=match d with
 |.lst l=>aA<|.lst<|XW l lo hi
 |.tup l=>if HT.aL l.length 0 lo=0/\HT.aL l.length l.length hi=l.length then aB else aA<|.tup<|XW l lo hi
 |.str s=>if s.length<=ar then aA (.str<|XW s lo hi) else aB
 |_=>aB
def fB(f:ME)(lo hi:MO):ME:=λr=>(f r).bind λd=>(lo r).bind λi=>(hi r).bind λj=>Cc d i j
def OE(K:Fg):V->Option Int->Option Int->Hp->VK->Prop:=λx lo hi H Q=>Ji K x lo hi H Q\/Jk K x lo hi H Q\/Jj x lo hi H Q
def IsL.cut{K:Fg}(h:IsL K O H l xs)(lo hi:Option Int):IsL K O H (XW l lo hi) (Au xs lo hi):=by
 unfold XW Au;rw[h.length];exact(h.drop _).take _
def B2{lo:Option Expr}(ha:DE X a f)(hl:DO X lo fl)(hh:DO X hi fh):DE X (.Subscript a (.Slice lo hi aB p2) pos) (fB f fl fh):=by
 refine PE.aH (UG (r:=OE X.K) (Vq.or<|Vp.or rX) ha hl hh) λσ H Q hq=>?_
 obtain⟨O0,r,d,hR,e,q⟩:=hq;obtain⟨x,e1,e⟩:=aF e;obtain⟨i,e2,e⟩:=aF e;obtain⟨j,e3,e⟩:=aF e;refine⟨O0,r,x,hR,e1,λv H1 s1 i1=>⟨O0,r,i,hR.same s1,e2,λH2 s2=>⟨O0,r,j,hR.same<|s1.trans s2,e3,λH3 s3=>?_⟩⟩⟩;have Fm:=(s1.trans s2).trans s3;have R3:=hR.same Fm;have i3:=i1.same (s2.trans s3) (hR.same s1).ol;cases x<;>first|(simp only[Cc,reduceCtorEq] at e;done)|skip
 .simp only[Cc] at e;split at e
  .rename_i iV;cases e;rw[yC] at i3;refine .inr<|.inr ⟨_,i3,by rw[v7];exact iV,q _ H3 Fm<|by rw[yC]⟩
  .cases e
 .simp only[Cc] at e;split at e
  .cases e
  .rename_i hw;cases e;rw[zX] at i3;obtain⟨p,xs,rfl,hs,il⟩:=i3;refine .inr<|.inl ⟨p,xs,rfl,hs,by rw[<-il.length];exact hw,λt ht=>q _ _ (Fm.trans<|zW ht) ?_⟩;rw[zX];exact⟨t,_,rfl,aM.of zR,(il.cut i j).same (zW ht) R3.ol⟩
 .simp only[Cc,gn] at e;subst e;rw[zY] at i3;obtain⟨p,xs,rfl,hs,il⟩:=i3;refine .inl ⟨p,xs,rfl,hs.sq,λt ht=>q _ _ (Fm.trans<|zW ht) ?_⟩;rw[zY];exact⟨t,_,rfl,.inl ⟨R3.AL ht,.inl zR⟩,(il.cut i j).same (zW ht) R3.ol⟩
def Sg(n:Nat):jq aB aB (-1) (n:Int)=((n:Int)-1,-1):=by
 unfold jq;simp
def Si(n:Nat):ib ((n:Int)-1) (-1) (-1)=n:=by
 unfold ib;have h1:¬((-1:Int) > 0):=by omega
 simp only[h1,if_false];split
 .have : -(-1:Int)=1:=by omega
  rw[this,Int.ediv_one];omega
 .omega
def Sh{sl:Addr}{t:Tok}{n:Nat}{Q:Int×Int×Nat->Shared->Prop}(hs:s.heap.IsSliceOf sl .none .none (.int (-1) t))(h:Q ((n:Int)-1,-1,n) s):wpAny (model prog w) A (ox (.ref sl)<|pure (n:Int)) Q E s:=by
 obtain⟨os,ho,hc,hd⟩:=id hs;unfold ox aah;refine aa<|aa<|ik ho hd (x:=.none) rfl<|aa<|ik ho hd (x:=.none) rfl<|aa<|ik ho hd (x:=.int (-1) t) rfl<|af ?_;refine aa<|slicePart_int ?_;show wpAny _ _ (if ((-1:Int) == 0)=true then _ else _) _ _ s;rw[if_neg<|by decide];refine aa<|wq<|aa<|wq<|aa<|af ?_;show wpAny _ _ (match jq aB aB (-1) (n:Int) with|(lo,hi)=>pure (lo,(-1:Int),ib lo hi<|-1)) _ _ s;rw[Sg n];show wpAny _ _ (pure ((n:Int)-1,(-1:Int),ib ((n:Int)-1) (-1)<|-1)) _ _ s;rw[Si];exact af h
theorem KY:∀(l:List α),(∀m∈l,F m=aA (G m))->l.filterMap F=l.map G
 |[],_=>rfl
 |a::l,h=>by
  rw[tt,h a dg,am,KY l λm hm=>h m<|bt _ hm]
def U6(xs:Array Value):((fg xs.size).filterMap λ(m:Nat)=>xs[((xs.size:Int)-1+(m:Int)*(-1)).toNat]?).toArray=xs.toList.reverse.toArray:=by
 congr 1
 apply yg;intro k;have e:∀m,m<xs.size->xs[((xs.size:Int)-1+(m:Int)*(-1)).toNat]?=aA (xs.toList.reverse.getD m .none):=by
  intro m hm;have h1:((xs.size:Int)-1+(m:Int)*(-1)).toNat=xs.size-1-m:=by omega
  rw[h1,cy,List.getElem?_reverse<|by simpa using hm];have h2:xs.size-1-m<xs.size:=by omega
  simp[h2]
 have e2:(fg xs.size).filterMap (λ(m:Nat)=>xs[((xs.size:Int)-1+(m:Int)*(-1)).toNat]?)=(fg xs.size).map λm=>xs.toList.reverse.getD m .none:=by
  exact KY _ λm hm=>e m<|jo.mp hm
 rw[e2,av];by_cases hk:k<xs.size
 .rw[xc hk,au<|by simpa using hk];simp[cy,hk]
 .rw[ji<|by simpa using hk,ji<|by simpa using hk];rfl
def TZ(ht:IsTup s.heap t its)(hs:s.heap.IsSliceOf sl .none .none (.int (-1) tk))(hsz:its.size<=ar)(h:Q (.ref s.heap.objs.size) { s with heap:=s.heap.push { cls:=.type "tuple",data:=.seq its.toList.reverse.toArray } }):wpAny (model prog w) A (getItem (.ref t)<|.ref sl) Q E s:=by
 have hz:sizeOk (.seq its.toList.reverse.toArray):=by show its.toList.reverse.toArray.size<=ar;simpa using hsz
 obtain⟨os,ho,hc,hd⟩:=id hs;have hT:s.TypeIs (.ref sl) "slice" := ⟨os,ho,hc⟩;unfold getItem
 try with_reducible refine gc ?_
 first|refine aa (af ?_)|skip
 refine aa<|wpAny_sequenceKey ht.typeIs (by decide) ?_;refine aa<|gq (name:=jj "__getitem__") ht.typeIs ir<|fm ir ht.typeIs ade ?_<|args_tuple_getitem _ _;show wpAny _ _ (aab (.ref t) >>= _) _ _ s;refine aa<|tupleItemsOf_ ht<|aa<|rl hT ?_;rw[if_pos<|by decide];refine aa<|Sh hs ?_;show wpAny _ _ (if (((its.size:Int)-1) == 0 && (-1:Int) == 1 && its.size == its.size)=true then _ else _) _ _ s;rw[if_neg<|by simp,U6]
 first
  |exact aa (m:=ii _)<|dq (af ⟨_,rfl,af h⟩) hz
  |exact aa (m:=ii _)<|dq (aa<|af<|af ⟨_,rfl,af h⟩) hz
  |exact aa<|aa (m:=ii _)<|dq (af<|af ⟨_,rfl,af h⟩) hz
  |exact aa<|aa (m:=ii _)<|dq (af ⟨_,rfl,af h⟩) hz
def ON(K:Fg)(ta:TE):TE:=λσ H Q=>ta σ H λx H1=>(∃p xs,x=.ref p/\aN K H1 p xs/\∀q,H1 q=aB->Q (.ref q) (upd H1 q<|.lst xs.reverse))\/(∃p xs,x=.ref p/\aM K H1 p xs/\∀q,H1 q=aB->Q (.ref q) (upd H1 q<|.tup xs.reverse))
def Ro(he:PE X a ta):PE X (.Subscript a (.Slice aB aB (aA<|.UnaryOp .USub (.Constant (.int 1) j p3) pos) p2) pn) (ON X.K ta):=by
 intro pZ s σ H Q I h;refine zu<|aK (he pZ s σ H _ I h) λv s1 ⟨x,H1,I1,r1,q1⟩=>?_;refine wpAny_Slice ?_;rw[aam];refine af<|af ?_;rw[evalPart_some];have lL:PE X (.UnaryOp .USub (.Constant (.int 1) j p3) pos) (My (rU λi=>.int<|-i)<|tC<|.int 1):=Pk RT Li;refine aK (lL pZ s1 σ H1 (λw H'=>w=.int (-1)/\H'=H1) I1 ⟨1,rfl,rfl,rfl⟩) λu s2 ⟨y,H2,I2,r2,q2,eH⟩=>?_
 subst eH q2;obtain⟨t,rfl⟩:=r2;have I4:Inv X pZ σ H2 { s2 with heap:=s2.heap.push { cls:=.type "slice",data:=.fields #[.none,.none,.int (-1) t] } }:=I2.kept (t':=s2.toks) λb ob q=>ac _ q
 have r_:({ s2 with heap:=s2.heap.push { cls:=.type "slice",data:=.fields #[.none,.none,.int (-1) t] } }:Shared).heap.IsSliceOf s2.heap.objs.size .none .none (.int (-1) t):=Heap.IsSliceOf.new ..;rcases q1 with⟨p,xs,rfl,hx,q⟩|⟨p,xs,rfl,hx,q⟩
 .cases r1;obtain⟨its,r,pl,hz⟩:=I4.list hx;have hlen:=r.length;refine tail_any (ops:=[.ref p,.ref s2.heap.objs.size]) pl.isList.typeIs xx.lookup (aak pl.isList r_ .none .none (.int (-1) t) (by simp) ?_ (by simp only[ao];omega)) (by with_unfolding_all rfl);rw[PySem.W.krv_pick];exact⟨.ref _,_,I4.H_ (t':=s2.toks) r.reverse (by rw[kg];exact hz),rfl,q _ I4.fresh⟩
 .cases r1;obtain⟨its,r,pl,hz⟩:=I4.tuple hx;have hlen:=r.length;refine tail_any (ops:=[.ref p,.ref s2.heap.objs.size]) pl.typeIs ir.lookup (TZ pl r_ (by simp only[ao];omega) ?_) (by with_unfolding_all rfl);refine⟨.ref _,_,I4.laid (t':=s2.toks) (o:=.tup xs.reverse) (λb ob q=>ac _ q) (al _) ?_,rfl,q _<|I4.aI.fresh<|al _⟩;exact⟨by rw[kg];exact hz,_,r.reverse,abh _ _⟩
noncomputable def lY:D->Option D
 |.lst l=>aA<|.lst l.reverse
 |.tup l=>aA<|.tup l.reverse
 |_=>aB
def GZ(ha:DE X a f):DE X (.Subscript a (.Slice aB aB (aA<|.UnaryOp .USub (.Constant (.int 1) j p3) pos) p2) pn) (aX lY f):=by
 refine PE.aH (Ro ha) λσ H Q hq=>?_
 obtain⟨O0,r,d,hR,e,q⟩:=hq;obtain⟨x,e1,e2⟩:=aF e;refine⟨O0,r,x,hR,e1,λv H1 s1 i1=>?_⟩;have R1:=hR.same s1;cases x<;>first|(simp only[lY,reduceCtorEq] at e2;done)|skip
 .simp only[lY,gn] at e2;subst e2;rw[zX] at i1;obtain⟨p,xs,rfl,hs,il⟩:=i1;refine .inr ⟨p,xs,rfl,hs,λt ht=>q _ _ (s1.trans<|zW ht) ?_⟩;rw[zX];exact⟨t,_,rfl,aM.of zR,il.reverse.same (zW ht) R1.ol⟩
 .simp only[lY,gn] at e2;subst e2;rw[zY] at i1;obtain⟨p,xs,rfl,hs,il⟩:=i1;refine .inl ⟨p,xs,rfl,hs.sq,λt ht=>q _ _ (s1.trans<|zW ht) ?_⟩;rw[zY];exact⟨t,_,rfl,.inl ⟨R1.AL ht,.inl zR⟩,il.reverse.same (zW ht) R1.ol⟩
open PySem PySem.Spec PyProof.Rows L2 PySem.StrLaws PySem.Builtin.Str
def á(z y:Str)(h:(partsBetween z (occurrences z y 0 z.length<|z.length+1) y.length).length<=ar):(Txt.split z y).length<=ar:=by
 unfold Txt.split;have h1:1<=ar:=by decide
 split
 .exact h1
 .split
  .exact h1
  .exact h
def z2(F:V->V->Hp->Prop):List V->Hp->Prop
 |[x,y],H=>F x y H
 |_,_=>False
def RZ:∀{vs:List V} {H:Hp},z2 F vs H->∃x y,vs=[x,y]/\F x y H
 |[x,y],_,h=>⟨x,y,rfl,h⟩
 |[],_,h=>h.elim
 |[_],_,h=>h.elim
 |_::_::_::_,_,h=>h.elim
def z1(F:V->Hp->Prop):List V->Hp->Prop
 |[x],H=>F x H
 |_,_=>False
def RY:∀{vs:List V} {H:Hp},z1 F vs H->∃x,vs=[x]/\F x H
 |[x],_,h=>⟨x,rfl,h⟩
 |[],_,h=>h.elim
 |_::_::_,_,h=>h.elim
def CB(n:Nat)(h:i≠j):@Ne Addr (n+i:Nat) (n+j:Nat):=λe=>h<|adj (show n+i=n+j from e)
def CI(n:Nat)(h:0≠j):@Ne Addr (n:Nat) (n+j:Nat):=λe=>h<|adj (show n+0=n+j from e)
def Gm(n:Nat):ZA (n+4) (n+2) (n+3) n (n+1):=⟨CB n<|by decide,CB n<|by decide,CI n<|by decide,CB n<|by decide,CB n<|by decide,(CI n<|by decide).symm,CB n<|by decide,(CI n<|by decide).symm,CB n<|by decide,CI n<|by decide⟩
noncomputable def XY(l m:List D):List D:=ye (λx y=>.tup [x,y]) l m
def nR{l m:List D}{i:Nat}{d:D}(h:(XY l m)[i]?=aA d):∃x y,l[i]?=aA x/\m[i]?=aA y/\d=.tup [x,y]:=by
 unfold XY at h;rw[List.getElem?_zipWith] at h;cases e1:l[i]? with
 |none=>rw[e1] at h;cases h
 |some x=>
  cases e2:m[i]? with
  |none=>rw[e1,e2] at h;cases h
  |some y=>rw[e1,e2] at h;cases h;exact⟨x,y,rfl,rfl,rfl⟩
def Lv{K:Fg}{O M:Addr->Prop}{sq:Hp->Addr->List V->Prop}(mo:∀a,M a->O a){H:Hp}{u v:Addr}{xs ys:List V}{l m:List D}(ol:cG O H)(kx:∀H1,d7 M H H1->sq H1 u xs)(ky:∀H1,d7 M H H1->sq H1 v ys)(il:IsL K O H l xs)(im:IsL K O H m ys):BZ K O M H (CF sq u v) (XY l m):=by
 intro i H1 O' kp oo;have sR:d7 O H H1:=λb o e n=>kp b o e λz=>n<|mo b z
 have hlen:(XY l m).length=min l.length m.length:=by simp[XY]
 refine⟨λhi=>⟨?_,λx H' y=>?_⟩,λhi=>⟨xs,ys,kx H1 kp,ky H1 kp,?_⟩⟩
 .obtain⟨d,e⟩:=kW hi;obtain⟨dx,dy,e1,e2,_⟩:=nR e;obtain⟨vx,q1,_⟩:=il.get e1;obtain⟨vy,q2,_⟩:=im.get e2;exact⟨xs,ys,vx,vy,kx H1 kp,ky H1 kp,q1,q2⟩
 .obtain⟨T,p,q,rfl,nT,rfl,h1,h2⟩:=y;refine⟨zW nT,λd e=>?_⟩;obtain⟨dx,dy,e1,e2,rfl⟩:=nR e;obtain⟨vx,q1,i1⟩:=il.get e1;obtain⟨vy,q2,i2⟩:=im.get e2;have p1:=h1 xs<|kx H1 kp;have p2:=h2 ys<|ky H1 kp;rw[q1] at p1;rw[q2] at p2;cases p1;cases p2;have kk:d7 O H (upd H1 T<|.tup [p,q]):=λb o e' n=>by
   have:=sR b o e' n
   rw[zT<|xD this nT];exact this
  rw[zX];exact⟨T,_,rfl,aM.of zR,.cons (Is.mono kk ol oo _ _ i1)<|.cons (Is.mono kk ol oo _ _ i2) .nil⟩
 .have e1:=il.length;have e2:=im.length;rw[hlen] at hi;omega
def ES{K:Fg}(mo:∀a,M a->O a)(h:Ep K O H a xs):∀H1,d7 M H H1->aN K H1 a xs:=λH1 k=>h.imp (λz=>Rd.keep k (λy=>z.1<|mo _ y) z.2) id
def GL{K:Fg}(mo:∀a,M a->O a)(ol:cG O H)(h:aM K H a xs):∀H1,d7 M H H1->aM K H1 a xs:=λH1 k=>aM.keep (λb o e n=>k b o e λz=>n<|mo b z) ol h
def S'(hg:Gl X "enumerate")(hm:X.mg "enumerate" = aB)(ha:PE X a ta)(hs:bp [a] X.env=[(false,eval a X.env)]:=by rfl):PI X (.Tuple elts k tp) (.Call (.Name "enumerate" p) [a] [] pos) (λσ H R=>ta σ H λx H1=>∃u,x=.ref u/\(∃xs,aN X.K H1 u xs)/\R (IQ X.K u) H1):=by
 intro pZ s σ H R I h;have hA:PA X [a] (C6 ta EA):=yN ha x8 hs;refine Call_<|mG I hg hm PyProof.Rows.boot_enumerate<|og (aK (hA pos pZ s σ H (z1 λx H1=>∃u,x=.ref u/\(∃xs,aN X.K H1 u xs)/\R (IQ X.K u) H1) I h) λus s1 ⟨vs,H1,I1,r1,q1⟩=>?_) hs rfl;obtain⟨_,rfl,u,rfl,⟨xs,hx⟩,q⟩:=RY q1;obtain⟨uu,rfl,ru⟩:=Vals.one r1;cases ru;obtain⟨its,_,pl,_⟩:=I1.list hx;refine call_enumerate_list pl.isList λh' z1 z2 _ kp=>wpAny_pyIter_enum z1 ?_
 refine⟨_,[s1.heap.objs.size+1,s1.heap.objs.size],_,_,H1,rfl,I1.kept (t':=s1.toks) kp,X5 u _ _ (CI _<|by decide).symm,⟨⟨_,z1⟩,z2⟩,λb hb=>?_,q⟩;have hle:s1.heap.objs.size<=b:=by
  simp only[mj,bb,or_false] at hb;rcases hb with h|h
  .rw[h];exact mh _ _
  .rw[h];exact al _
 exact I1.Ar hle<|I1.aI.fresh hle
noncomputable def B3(l:List D):List D:=l.zipIdx.map λp=>.tup [.int (p.2:Nat),p.1]
def WW(f:ME):ML:=λr=>(f r).bind λd=>match d with
 |.lst l=>aA<|B3 l
 |_=>aB
def Y8{l:List D}{i:Nat}{d:D}(h:(B3 l)[i]?=aA d):∃x,l[i]?=aA x/\d=.tup [.int i,x]:=by
 unfold B3 at h;rw[av,List.getElem?_zipIdx] at h;cases e1:l[i]? with
 |none=>rw[e1] at h;cases h
 |some x=>rw[e1] at h;simp at h;exact⟨x,rfl,h.symm⟩
def Ml(hg:Gl X "enumerate")(hm:X.mg "enumerate" = aB)(ha:DE X a f)(hs:bp [a] X.env=[(false,eval a X.env)]:=by rfl):DI X (.Tuple elts k tp) (.Call (.Name "enumerate" p) [a] [] pos) (WW f):=by
 refine PI.aH (S' hg hm ha hs) λσ H Rr hq=>?_
 obtain⟨O0,r,ds,hR,e,q⟩:=hq;obtain⟨x,e1,e⟩:=aF e;refine⟨O0,r,x,hR,e1,λv1 H1 s1 i1=>?_⟩;have R1:=hR.same s1;cases x<;>first|(simp only[reduceCtorEq] at e;done)|skip
 rename_i l;simp only[gn] at e;subst e;rw[zY] at i1;obtain⟨u,xs,rfl,hx,il⟩:=i1;refine⟨u,rfl,⟨xs,hx.sq⟩,q _ H1 s1 ?_⟩;intro i H2 O' kp oo;have sR:d7 (Ow O0 r σ) H1 H2:=λb o e n=>kp b o e λz=>n<|.inr z.own
 have Hu:=ES (M:=g_ r σ) (λa z=>.inr z.own) hx H2 kp;have hlen:(B3 l).length=l.length:=by simp[B3]
 refine⟨λhi=>⟨?_,λy H' yy=>?_⟩,λhi=>⟨xs,Hu,by rw[<-il.length,<-hlen];exact hi.symm⟩⟩
 .obtain⟨d,ed⟩:=kW hi;obtain⟨dx,ex,_⟩:=Y8 ed;obtain⟨vx,q1,_⟩:=il.get ex;exact⟨xs,vx,Hu,q1⟩
 .obtain⟨T,w,rfl,nT,rfl,h1⟩:=yy;refine⟨zW nT,λd ed=>?_⟩;obtain⟨dx,ex,rfl⟩:=Y8 ed;obtain⟨vx,q1,i1⟩:=il.get ex;have p1:=h1 xs Hu;rw[q1] at p1;cases p1;have kk:d7 (Ow O0 r σ) H1 (upd H2 T<|.tup [.int i,w]):=λb o e' n=>by
   have:=sR b o e' n
   rw[zT<|xD this nT];exact this
  rw[zX];exact⟨T,_,rfl,aM.of zR,.cons (by rw[zM])<|.cons (Is.mono kk R1.ol oo _ _ i1) .nil⟩
def Bi(i:Nat)(g:MS):MS:=λr=>match r[i]? with
 |some (.o l)=>g<|r.set i<|.v<|.lst l
 |_=>aB
def R.rel{K:Fg}(h:R K O0 H r σ)(e:r[i]?=aA (.o l)):R K O0 H (r.set i<|.v<|.lst l) σ/\Kp H r σ H (r.set i<|.v<|.lst l) σ:=by
 have hi:i<r.length:=(ba.mp e).1;obtain⟨a,xs,e1,e2,e3⟩:=h.own i l (by rw[e];rfl);have sub:∀{q:Sl->Option (List D)} (_:∀d,q (.v d)=aB) b,i8 q (r.set i<|.v<|.lst l) σ b->i8 q r σ b:=λ{q} hq b ⟨j,m,ej,qj⟩=>by
  by_cases hj:i=j
  .subst hj;rw[zQ hi] at ej;have N3:q (.v<|.lst l)=aA m:=ej;rw[hq] at N3;cases N3
  .rw[zG hj] at ej;exact⟨j,m,ej,qj⟩
 have Fh:∀b,Ow O0 (r.set i<|.v<|.lst l) σ b->H b≠aB->Ow O0 r σ b:=λb z _=>z.imp id<|sub (λ_=>rfl) b
 have na:¬Ow O0 (r.set i<|.v<|.lst l) σ a:=λz=>by
  rcases z with z|⟨j,m,ej,qj⟩
  .exact h.loc i l a (.inl e) e1 z
  .have hj:i≠j:=λz=>by subst z;rw[zQ hi] at ej;cases ej
   rw[zG hj] at ej;exact hj<|h.apart i j a l m (by rw[e];rfl) ej e1 qj
 have ne:∀(j:Nat) (m:List D),((r.set i<|.v<|.lst l)[j]?).bind Sl.own=aA m->i≠j:=λj m ej z=>by subst z;rw[zQ hi] at ej;cases ej
 refine⟨⟨by simp[h.len],λj d ej=>?_,λj m ej=>?_,λj k b m n e4 e5 q1 q2=>?_,h.o0,λj m b ej q=>?_,λj m b ej q=>?_,λj f ks m ej=>?_,λj ks ej=>?_⟩,⟨λb o eb _=>eb,λb eb=>eb,λb o eb mb=>⟨o,eb,mb⟩,λb z=>.inl<|sub (λ_=>rfl) b z,λb z=>.inl<|sub (λ_=>rfl) b z,λj m ej=>?_,λj m ej=>?_⟩⟩
 .by_cases hj:i=j
  .subst hj;rw[zQ hi] at ej;cases ej;refine⟨.ref a,e1,?_⟩;rw[zY];exact⟨a,xs,rfl,.inl ⟨na,.inl e2⟩,IsL.mono (aC.kp (aC.refl H) _) h.ol Fh _ _ e3⟩
  .rw[zG hj] at ej;obtain⟨v,q1,q2⟩:=h.val j d ej;exact⟨v,q1,Is.mono (aC.kp (aC.refl H) _) h.ol Fh _ _ q2⟩
 .have hj:=ne j m<|uR ej;rw[zG hj] at ej;obtain⟨b,ys,q1,q2,q3⟩:=h.own j m ej;exact⟨b,ys,q1,q2,IsL.mono (aC.kp (aC.refl H) _) h.ol Fh _ _ q3⟩
 .have hj:=ne j m e4;have hk:=ne k n e5;rw[zG hj] at e4;rw[zG hk] at e5;exact h.apart j k b m n e4 e5 q1 q2
 .have hj:i≠j:=ne j m (by rcases ej with ej|ej|⟨_,ej⟩<;>rw[ej]<;>rfl);rw[zG hj] at ej;exact h.loc j m b ej q
 .have hj:i≠j:=ne j _ (cU ej).choose_spec;rw[zG hj] at ej;exact h.par j m b ej q
 .have hj:=ne j m (by rw[ej];rfl);rw[zG hj] at ej;obtain⟨b,kvs,q1,q2,q4,q3⟩:=h.aJ j f ks m ej;exact⟨b,kvs,q1,q2,q4,IsL.mono (aC.kp (aC.refl H) _) h.ol Fh _ _ q3⟩
 .have hj:=ne j [] (by rw[ej];rfl);rw[zG hj] at ej;exact h.iK j ks ej
 .have hj:i≠j:=λz=>by subst z;rw[e] at ej;cases ej
  exact⟨by rw[zG hj];exact ej,rfl⟩
 .have hj:i≠j:=λz=>by subst z;rw[e] at ej;cases ej
  exact⟨by rw[zG hj];exact ej,rfl⟩
def G1(i:Nat)(h:lR X Vk g):lR X Vk (Bi i g):=by
 refine fI.aH h λDn σ H hq=>?_
 obtain⟨O0,r,fl,hR,e,q⟩:=hq;unfold Bi at e;have⟨l,e1,e2⟩:∃l,r[i]?=aA (.o l)/\g (r.set i<|.v<|.lst l)=aA fl:=by
  split at e
  .rename_i l h;exact⟨l,h,e⟩
  .cases e
 obtain⟨R1,k1⟩:=hR.rel e1;exact⟨O0,_,fl,R1,e2,lQ.before R1 k1 q⟩
def VU:cG (λ_=>False) H:=λ_ z=>z.elim
theorem Ky(fC:l≠it):∀(n i:Nat) (s:Shared) (Q:List Value->Shared->Prop),s.heap.IsListIter it l i->s.heap.IsList l ys->i+n<=ys.size ->
  (∀g,g.IsListIter it l (i+n)->dz it s.heap g->Q ((ys.toList.drop i).take n) { s with heap:=g })->wpAny (model prog w) A (draw (.ref it) n) Q E s
 |0,i,s,Q,h1,_,_,h=>by
  show wpAny _ _ (pure []) Q E s;exact af (by simpa using h s.heap h1 (yh ..))
 |n+1,i,s,Q,h1,h2,h3,h=>by
  have hl:i<ys.size:=by omega
  show wpAny _ _ (pyNext (.ref it) >>= _) Q E s;refine aa<|vf h1 h2 (x:=ys[i]) (by simp[hl]) λg1 k1 t1=>?_;refine aa<|gc<|Ky fC n (i+1) _ _ k1 (h2.extBut t1.extBut fC) (by omega) λg2 k2 t2=>af ?_;have hd:ys.toList.drop i=ys[i]::ys.toList.drop (i+1):=by simp[aaf,hl]
  have:=h g2 (by rw[show i+(n+1)=i+1+n by omega];exact k2)<|t1.trans t2
  rw[hd,List.take_succ_cons] at this;exact this
def Uc(hh:A.handled=aB)(h2:s.heap.IsList l ys)(h:∀g,acz s.heap.objs.size s.heap g->Q ys.toList { s with heap:=g }):wpAny (model prog w) A (unpackItems (.ref l) ys.size aB) Q E s:=by
 have eF:l≠s.heap.objs.size:=by obtain⟨o,e,_⟩:=h2;exact bh<|aw e
 unfold unpackItems;refine aa ?_;unfold notIterableAtAll;refine aa<|qt h2.typeIs F.slot_list_iter.lookup<|af ?_;simp only[bx,if_false];refine aa<|gc<|ny h2 ?_;refine aa<|gc<|Ky eF ys.size 0 _ _ ⟨_,ax _ rfl,rfl,rfl⟩ (h2.push _) (by omega) λg1 k1 t1=>?_;have ha:List.take ys.size (List.drop 0 ys.toList)=ys.toList:=by rw[List.drop_zero];exact vo (by simp)
 rw[ha,if_neg<|by simp];refine aa<|gc<|wk hh k1 ((h2.push _).extBut t1.extBut eF) (by simp) λg2 t2=>?_;simp only[Option.isSome_none,bx,if_false];exact af<|h g2 λb o hb e=>t2 b o hb<|t1.extBut b o hb<|ac _ e
def Rt(hc:X.calm=true)(h:sH X es t)(hn:(md es X.env).length=n:=by rfl)(lL:(md es X.env).findIdx? (·.1)=aB:=by rfl):PG X (.Tuple es k pos) (λv σ H Q=>∃a xs,v=.ref a/\(aM X.K H a xs\/aN X.K H a xs)/\xs.length=n/\t xs σ H Q):=by
 intro pZ s σ H v u Q I r hw;obtain⟨a,xs,e1,hq,hl,hw⟩:=hw;subst e1;cases r;rcases hq with hq|hq
 .exact Ru hc h hn lL pZ s σ H (.ref a) (.ref a) Q I rfl ⟨a,xs,rfl,hq,hl,hw⟩
 .obtain⟨its,rv,pl,hz⟩:=I.list hq;rw[assign_Tuple];refine aa<|xg ?_;unfold unpack;rw[lL];have hsz:(md es X.env).length=its.toArray.size:=by rw[hn,ao,<-rv.length];exact hl.symm
  rw[hsz];refine aa<|gc<|Uc (I.ok.hd hc) pl.isList λg hx=>?_;have I1:Inv X pZ σ H { s with heap:=g }:=I.kept (t':=s.toks) λb o e=>hx b o (bh<|aw e) e
  exact h pZ _ σ H xs _ Q I1 (by simpa using rv) hw
def qA(n:Nat)(bs:List D->En->Option En):D->En->Option En:=λd r=>match d with
 |.tup l=>if l.length=n then bs l r else aB
 |.lst l=>if l.length=n then bs l r else aB
 |_=>aB
def dY(hc:X.calm=true)(h:Gi X es bs)(hn:(md es X.env).length=n:=by rfl)(lL:(md es X.env).findIdx? (·.1)=aB:=by rfl):DG X (.Tuple es k pos) (qA n bs):=by
 refine PG.aH (Rt hc h hn lL) λv σ H Q h=>?_
 obtain⟨O0,r,d,r',hR,iv,e,q⟩:=h;cases d<;>first|(simp only[qA,reduceCtorEq] at e;done)|skip
 .rename_i l;rw[zX] at iv;obtain⟨a,xs,rfl,hs,il⟩:=iv;simp only[qA] at e;split at e
  .rename_i hl;exact⟨a,xs,rfl,.inl hs,by rw[<-il.length];exact hl,O0,r,l,r',hR,il,e,q⟩
  .cases e
 .rename_i l;rw[zY] at iv;obtain⟨a,xs,rfl,hs,il⟩:=iv;simp only[qA] at e;split at e
  .rename_i hl;exact⟨a,xs,rfl,.inr hs.sq,by rw[<-il.length];exact hl,O0,r,l,r',hR,il,e,q⟩
  .cases e
set_option maxRecDepth 9000 in
def OZ(l:Addr)(xs:Array Value)(n:Nat)(b:Addr)(cl:Value)(dd:Option Addr)(ys:Array Value)(n2:Nat)(sl:Array (Option Value))(sB:cl=.type "tuple")(h0:¬(!xs.isEmpty && me (xs.size+ys.size))=true)(h1:xs.size<=ar)(h2:xs.size+ys.size<=ar+1):Meets (Builtin.«list.extend» ⟨[.ref l,.ref b],[]⟩) (λ_ R s=>s.heap.get? l=aA { cls:=.type "list",dict:=aB,data:=.seq xs n,slots:=#[] }/\s.heap.get? b=aA { cls:=cl,dict:=dd,data:=.seq ys n2,slots:=sl }/\R (.ok<|.ret Value.none) { s with heap:=s.heap.update l<|cj λx=>x++ys,toks:=s.toks }):=
 .of_wp λprog w A R s h=>by
  subst sB;obtain⟨hp,g,d,tk,os⟩:=s;obtain⟨hl,hb,h⟩:=h;have f1:=AutoSeq1.idx_int;have f2:=aaz;have f3:=ace;have f4:=abk;have f5:=abl;have hz:(xs++ys).size<=ar+1:=by rw[Array.size_append];exact h2
  wp_walk using (wb hl rfl (hz:=h1) (_hz':=hz)),wpAny_loadPart' hl,wpAny_loadPart' hb;exact⟨_,rfl,h⟩
set_option maxRecDepth 9000 in
def OY(l:Addr)(xs:Array Value)(n:Nat)(b:Addr)(cl:Value)(dd:Option Addr)(ys:Array Value)(n2:Nat)(sl:Array (Option Value))(sB:cl=.type "list")(h0:¬(!xs.isEmpty && me (xs.size+ys.size))=true)(h1:xs.size<=ar)(h2:xs.size+ys.size<=ar+1):Meets (Builtin.«list.extend» ⟨[.ref l,.ref b],[]⟩) (λ_ R s=>s.heap.get? l=aA { cls:=.type "list",dict:=aB,data:=.seq xs n,slots:=#[] }/\s.heap.get? b=aA { cls:=cl,dict:=dd,data:=.seq ys n2,slots:=sl }/\R (.ok<|.ret Value.none) { s with heap:=s.heap.update l<|cj λx=>x++ys,toks:=s.toks }):=
 .of_wp λprog w A R s h=>by
  subst sB;obtain⟨hp,g,d,tk,os⟩:=s;obtain⟨hl,hb,h⟩:=h;have f1:=AutoSeq1.idx_int;have f2:=aaz;have f3:=ace;have f4:=abk;have f5:=abl;have hz:(xs++ys).size<=ar+1:=by rw[Array.size_append];exact h2
  wp_walk using (wb hl rfl (hz:=h1) (_hz':=hz)),wpAny_loadPart' hl,wpAny_loadPart' hb;exact⟨_,rfl,h⟩
def PR(K:Fg):V->List V->Hp->VK->Prop:=λx vs H Q=>∃l b xs zs,x=.ref l/\vs=[.ref b]/\H l=aA (.lst xs)/\(aN K H b zs\/aM K H b zs)/\xs.length+zs.length<=ar/\Q .aE (upd H l<|.lst<|xs++zs)
def Tl:Eo X "list.extend" (PR X.K):=by
 intro pZ s σ H x vs v us Q I rx rv h;obtain⟨l,b,xs,zs,rfl,rfl,hH,hB,hz,q⟩:=h;cases rx;obtain⟨u,rfl,ru⟩:=rv.one;cases ru;obtain⟨z,its,n,r,hl,e⟩:=I.HX hH;have fin:∀(a8:List Value),Vals zs a8->¬(!its.toArray.isEmpty && me (its.toArray.size+a8.toArray.size))=true/\its.toArray.size<=ar/\its.toArray.size+a8.toArray.size<=ar+1 /\
   EP X pZ σ Q Value.none { s with heap:=s.heap.update l<|cj λx=>x++a8.toArray,toks:=s.toks }:=λa8 r2=>by
  have Ef:=r2.length;have hsz:its.toArray.size+a8.toArray.size<=ar:=by rw[ao,ao];omega
  refine⟨by rw[Uy hsz,wz];exact bc,by rw[ao];omega,by omega,.aE,_,I.HY (its':=its++a8) hH e (by simp) (r.append r2) ?_,rfl,q⟩;rw[ag];omega
 rcases hB with hB|hB
 .obtain⟨a8,r2,⟨⟨c2,d2,Zu,Cd⟩,n2,g2,hc,hd,hs⟩,z2⟩:=I.list hB;simp only at hc hd hs;subst hs;obtain⟨f1,f2,f3,f4⟩:=fin a8 r2;exact vh F.slot_list_extend ⟨_,e,rfl⟩ adm (adb _ _) (OY l its.toArray n b _ _ a8.toArray n2 _ hc f1 f2 f3) ⟨e,g2,f4⟩
 .obtain⟨a8,r2,⟨⟨c2,d2,Zu,Cd⟩,g2,hc,n2,hs⟩,z2⟩:=I.tuple hB;simp only at hc hs;subst hs;obtain⟨f1,f2,f3,f4⟩:=fin a8 r2;exact vh F.slot_list_extend ⟨_,e,rfl⟩ adm (adb _ _) (OZ l its.toArray n b _ _ a8.toArray n2 _ hc f1 f2 f3) ⟨e,g2,f4⟩
def dQ(i:Nat)(h:PE X (.Name x pn) (ZN i))(he:DE X e f)(fW:As apos eA:=by rfl)(fY:kj (.Name x pn) "extend" X.env (eval (.Name x pn) X.env)=eval (.Name x pn) X.env:=by rfl)(iX:A5 X [e] eA:=by rfl)(hs:bp [e] X.env=(false,eval e X.env)::bp [] X.env:=by rfl):DX X (.Call (.Attribute (.Name x pn) "extend" apos) [e] [] eA) (w_ i f):=by
 refine PE.aH (C4 mf PySem.F.slot_list_extend PySem.F.type_list_extend Tl h (yN he x8 hs) fY iX fW hs) λσ H Q hq=>?_
 obtain⟨O0,r,d',r',hR,e,q⟩:=hq;obtain⟨d,e1,e⟩:=aF e;obtain⟨m,em,e⟩:=aF e;obtain⟨l,e2,e⟩:=aF e;split at e
 .rename_i hl;obtain⟨r2,e3,e4⟩:=aT e;cases e4;obtain⟨a,xs,q1,q2,q3⟩:=gJ hR e2;refine⟨.ref a,q1,.inl ⟨rfl,xs,aN.of q2⟩,O0,r,d,hR,e1,λv H1 s1 i1=>?_⟩;have R1:=hR.same s1;have key:∃b zs,v=.ref b/\(aN X.K H1 b zs\/aM X.K H1 b zs)/\IsL X.K (Ow O0 r σ) H1 m zs:=by
   cases d<;>first|(cases em;done)|skip
   .cases em;rw[zX] at i1;obtain⟨b,zs,rfl,h1,h2⟩:=i1;exact⟨b,zs,rfl,.inr h1,h2⟩
   .cases em;rw[zY] at i1;obtain⟨b,zs,rfl,h1,h2⟩:=i1;exact⟨b,zs,rfl,.inl h1.sq,h2⟩
  obtain⟨b,zs,rfl,hb,il⟩:=key;obtain⟨R2,k2⟩:=R1.upd (xs':=xs++zs) e3 q1 (s1 _ _ q2)<|(q3.same s1 hR.ol).append il;exact⟨a,b,xs,zs,rfl,rfl,s1 _ _ q2,hb,by rw[<-q3.length,<-il.length];exact hl,q _ _ R2 ((Kp.of_same r σ s1).trans k2)<|by rw[y9]⟩
 .cases e
def sK:List V->List V->Bool
 |[],[]=>true
 |x::xs,y::ys=>iP x y && sK xs ys
 |_,_=>false
def B1:List D->List D->Bool
 |[],[]=>true
 |x::xs,y::ys=>iZ x y && B1 xs ys
 |_,_=>false
def EQ(xs ys:List V)(j:Nat):Bool:=match xs[j]?,ys[j]? with
 |some x,aA y=>iP x y
 |_,_=>false
theorem cT:∀(xs ys:List V),xs.length=ys.length->(fg xs.length).all (EQ xs ys)=sK xs ys
 |[],[],_=>rfl
 |x::xs,y::ys,h=>by
  rw[ak,List.range_succ_eq_map,km,List.all_map,sK,<-cT xs ys<|by simpa using h];rfl
 |[],y::ys,h=>by simp at h
 |x::xs,[],h=>by simp at h
theorem nH:∀(xs ys:List V),xs.length≠ys.length->sK xs ys=false
 |[],[],h=>by simp at h
 |x::xs,y::ys,h=>by rw[sK,nH xs ys<|by simpa using h,wz]
 |[],y::ys,h=>rfl
 |x::xs,[],h=>rfl
theorem nG{K:Fg}:∀{l:List D} {xs:List V},IsL K O H l xs->l.all jJ=true->xs.all k7=true
 |[],xs,h,_=>by unfold IsL at h;subst h;rfl
 |d::l,xs,h,f=>by
  rw[km,fu] at f;unfold IsL at h;obtain⟨v,r,rfl,h1,h2⟩:=h;rw[km,gS h1 f.1,nG h2 f.2];rfl
theorem LU{K:Fg}:∀{l m:List D} {xs ys:List V},IsL K O H l xs->IsL K O H m ys->l.all jJ=true->m.all jJ=true->sK xs ys=B1 l m
 |[],m,xs,ys,h,h',_,_=>by
  unfold IsL at h;subst h;cases m with
  |nil=>unfold IsL at h';subst h';rfl
  |cons e m=>unfold IsL at h';obtain⟨v,r,rfl,_,_⟩:=h';rfl
 |d::l,m,xs,ys,h,h',f,f'=>by
  unfold IsL at h;obtain⟨v,r,rfl,h1,h2⟩:=h;cases m with
  |nil=>unfold IsL at h';subst h';rfl
  |cons e m=>
   rw[km,fu] at f f';unfold IsL at h';obtain⟨v',r',rfl,Y_,Yz⟩:=h';rw[sK,B1,LU h2 Yz f.2 f'.2,KP h1 f.1 Y_ f'.1]
def LV{K:Fg}:∀{l m:List D} {xs ys:List V},IsL K O H l xs->IsL K O H m ys->l.all jJ=true->m.all jJ=true->xs.all k7=true/\ys.all k7=true/\sK xs ys=B1 l m:=λh h' f f'=>⟨nG h f,nG h' f',LU h h' f f'⟩
def EC(K:Fg)(neg:Bool):R2:=λx y H Q=>∃p q xs ys,x=.ref p/\y=.ref q/\aN K H p xs/\aN K H q ys/\xs.all k7=true/\ys.all k7=true/\Q (.bl (if neg then !sK xs ys else sK xs ys)) H
def LA{xs:List V}{j:Nat}{x:V}(h:xs.all k7=true)(e:xs[j]?=aA x):k7 x=true:=so.mp h x<|jw e
def Q5(r:Vals xs its)(h:j<its.toArray.size):∃x,xs[j]?=aA x/\RelV x its.toArray[j]:=by
 have hj:j<xs.length:=by rw[r.length];simpa using h
 obtain⟨u,e,q⟩:=r.get (i:=j) (x:=xs[j]) (by simp[hj]);refine⟨xs[j],by simp[hj],?_⟩
 have:its.toArray[j]=u:=by
  have h':j<its.length:=by simpa using h
  simp only[List.getElem_toArray];rw[au h'] at e;exact bv e
 rw[this];exact q
def YW{A:Around}{s:Shared}{xs ys:List V}{its a8:List Value}(r:Vals xs its)(r2:Vals ys a8)(fx:xs.all k7=true)(fy:ys.all k7=true):∀j (h1:j<its.toArray.size) (h2:j<a8.toArray.size),gg A s its.toArray[j] a8.toArray[j] (EQ xs ys j):=by
 intro j h1 h2;obtain⟨x,e1,q1⟩:=Q5 r h1;obtain⟨y,e2,q2⟩:=Q5 r2 h2
 have:EQ xs ys j=iP x y:=by unfold EQ;rw[e1,e2]
 rw[this];exact KO q1 q2 (LA fx e1)<|LA fy e2
def Qx(hu:X.A.units<cLine):a9 X (jc .Eq) (EC X.K false):=by
 intro pZ s σ H x y v u Q I rx ry h;obtain⟨p,q',xs,ys,rfl,rfl,h1,h2,fx,fy,q⟩:=h;cases rx;cases ry;obtain⟨its,r,pl,hz⟩:=I.list h1;obtain⟨a8,r2,iT,Ij⟩:=I.list h2;have n1:=r.length;have n2:=r2.length;by_cases hl:xs.length=ys.length
 .refine SeqAt.eq_listAt pl.isList iT.isList (by simp only[ao];omega) hu (YW r r2 fx fy)<|yZ I q ?_;rw[ao,<-n1,cT xs ys hl];rfl
 .refine SeqAt.eq_list_lengthsAt pl.isList iT.isList (by simp only[ao,bne_iff_ne];omega) hu<|yZ I q ?_;rw[nH xs ys hl];rfl
def Rb(hu:X.A.units<cLine):a9 X (jc .NotEq) (EC X.K true):=by
 intro pZ s σ H x y v u Q I rx ry h;obtain⟨p,q',xs,ys,rfl,rfl,h1,h2,fx,fy,q⟩:=h;cases rx;cases ry;obtain⟨its,r,pl,hz⟩:=I.list h1;obtain⟨a8,r2,iT,Ij⟩:=I.list h2;have n1:=r.length;have n2:=r2.length;by_cases hl:xs.length=ys.length
 .refine SeqAt.RcNeAt.lists pl.isList iT.isList (by simp only[ao];omega) hu (YW r r2 fx fy) _ _ _ _<|yZ I q ?_;rw[ao,<-n1,cT xs ys hl];rfl
 .refine SeqAt.RcNeAt.lists_lengths pl.isList iT.isList (by simp only[ao,bne_iff_ne];omega) hu _ _ _ _<|yZ I q ?_;rw[nH xs ys hl];rfl
def c_(x y:D):Option D:=match x,y with
 |.lst l,.lst m=>if l.all jJ=true/\m.all jJ=true then aA (.bl<|B1 l m) else aB
 |x,y=>N2 x y
def Co(x y:D):Option D:=match x,y with
 |.lst l,.lst m=>if l.all jJ=true/\m.all jJ=true then aA (.bl<|!B1 l m) else aB
 |x,y=>Nb x y
def Jb(K:Fg):R2:=λx y H Q=>EC K false x y H Q\/HD x y H Q
def Jh(K:Fg):R2:=λx y H Q=>EC K true x y H Q\/HB x y H Q
def jV(hu:X.A.units<cLine):a9 X (jc .Eq) (Jb X.K):=(Qx hu).or Ph
def Ld(hu:X.A.units<cLine):a9 X (jc .NotEq) (Jh X.K):=(Rb hu).or Pj
def jW{K:Fg}:e_ K (Jb K) c_:=by
 intro O H dx dy d vx vy Q ol ix iy e q;unfold c_ at e;split at e
 .rename_i l m;split at e
  .rename_i hf;cases e;rw[zY] at ix iy;obtain⟨a,xs,rfl,hs,il⟩:=ix;obtain⟨b,ys,rfl,D_,AQ⟩:=iy;obtain⟨f1,f2,f3⟩:=LV il AQ hf.1 hf.2;exact .inl ⟨a,b,xs,ys,rfl,rfl,hs.sq,D_.sq,f1,f2,q _ H (aC.refl H) (by rw[yG,f3];rfl)⟩
  .cases e
 .exact .inr<|Pe O H dx dy d vx vy Q ol ix iy e q
def Lk{K:Fg}:e_ K (Jh K) Co:=by
 intro O H dx dy d vx vy Q ol ix iy e q;unfold Co at e;split at e
 .rename_i l m;split at e
  .rename_i hf;cases e;rw[zY] at ix iy;obtain⟨a,xs,rfl,hs,il⟩:=ix;obtain⟨b,ys,rfl,D_,AQ⟩:=iy;obtain⟨f1,f2,f3⟩:=LV il AQ hf.1 hf.2;exact .inl ⟨a,b,xs,ys,rfl,rfl,hs.sq,D_.sq,f1,f2,q _ H (aC.refl H) (by rw[yG,f3];rfl)⟩
  .cases e
 .exact .inr<|Pg O H dx dy d vx vy Q ol ix iy e q
abbrev MZ:=En->Option (List D×List D)
def zP(fs:ML):MZ:=λr=>(fs r).map λes=>([],es)
def lZ(K:Fg)(i:Nat)(f:MZ):TA:=λσ H Q=>∃O0 r l ds es,R K O0 H r σ/\gK r i=aA l/\f r=aA (ds,es)/\∀vs a us H',aC H H'->σ[i]?=aA (aA<|.ref a)->IsL K (Ow O0 r σ) H' ds vs->IsL K (Ow O0 r σ) H' es us->Q (vs++.ref a::us) H'
def DZ(X:Cx)(i:Nat)(es:List Expr)(f:MZ):Prop:=PA X es<|lZ X.K i f
def I_(h:PE X (.Name x pn) (ZN i))(hr:DA X es fs)(hs:bp (.Name x pn::es) X.env=(false,eval (.Name x pn) X.env)::bp es X.env:=by rfl):DZ X i (.Name x pn::es) (zP fs):=by
 refine PA.aH (yN h hr hs) λσ H Q hq=>?_
 obtain⟨O0,r,l,ds,us,hR,em,e,q⟩:=hq;obtain⟨ä,e1,e2⟩:=aT e;cases e2;obtain⟨c,xs,q1,q2,q3⟩:=gJ hR em;exact⟨.ref c,q1,O0,r,_,hR,e1,λvs H1 s1 i1=>q [] c vs H1 s1 q1 .nil i1⟩
noncomputable def bX(ds:List D)(l:List D)(es:List D):List Sl:=ds.map .v++.p l::es.map .v
def wW(e:(bX ds l es)[j]?=aA x):(∃d,x=.v d/\(ds++.aE::es)[j]?=aA d/\j≠ds.length)\/(x=.p l/\j=ds.length):=by
 unfold bX at e;by_cases h:j<ds.length
 .rw[be<|by simpa using h,av] at e;rw[be h];cases e1:ds[j]? with
  |none=>rw[e1] at e;cases e
  |some d=>rw[e1] at e;cases e;exact .inl ⟨d,rfl,rfl,by omega⟩
 .rw[bm<|by simpa using h] at e;rw[bm<|by omega];simp only[ah] at e;cases e2:j-ds.length with
  |zero=>rw[e2] at e;cases e;exact .inr ⟨rfl,by omega⟩
  |succ k=>
   rw[e2,iq,av] at e;rw[iq];cases e1:es[k]? with
   |none=>rw[e1] at e;cases e
   |some d=>rw[e1] at e;cases e;exact .inl ⟨d,rfl,rfl,by omega⟩
def jQ{ds l es m:List D}{j:Nat}{q:Sl->Option (List D)}(hq:∀d,q (.v d)=aB)(e:((bX ds l es)[j]?).bind q=aA m):j=ds.length/\q (.p l)=aA m:=by
 obtain⟨x,e1,e2⟩:=aF e;rcases wW e1 with⟨d,rfl,_⟩|⟨rfl,h⟩
 .rw[hq] at e2;cases e2
 .exact⟨h,e2⟩
def d9:(vs++V.ref c::us)[vs.length]?=aA (.ref c):=by rw[bm<|al _,Nat.sub_self];rfl
def T6{K:Fg}(h1:IsL K O H ds vs)(h2:IsL K O H es us)(e:(ds++.aE::es)[j]?=aA d)(hj:j≠ds.length):∃v,(vs++V.ref c::us)[j]?=aA v/\Is K O H d v:=by
 have hl:=h1.length;by_cases h:j<ds.length
 .rw[be h] at e;obtain⟨v,e1,i1⟩:=h1.get e;exact⟨v,by rw[be<|by omega];exact e1,i1⟩
 .rw[bm<|by omega] at e;rw[bm<|by omega];obtain⟨k,hk⟩:∃k,j-ds.length=k+1:=⟨j-ds.length-1,by omega⟩;rw[hk,iq] at e;rw[<-hl,hk,iq];exact h2.get e
def R.Ou{K:Fg}(ol:cG O H)(hc:O c)(ec:H c=aA (.lst xs))(il:IsL K O H l xs)(h1:IsL K O H ds vs)(h2:IsL K O H es us):R K O H (bX ds l es) ((vs++V.ref c::us).map aA):=by
 have hl:=h1.length;have Ef:=h2.length;have ow:∀b,Ow O (bX ds l es) ((vs++V.ref c::us).map aA) b->H b≠aB->O b:=λb z _=>z.elim id λ⟨j,m,ej,qj⟩=>by
  obtain⟨rfl,_⟩:=jQ (λ_=>rfl) ej;rw[av,hl,d9] at qj;cases qj;exact hc
 refine⟨by simp[bX,hl,Ef],λj d e=>?_,λj m e=>?_,λj k b m m' e1 e2 q1 q2=>?_,ol,λj m b e q=>?_,λj m b e q=>?_,λj _ ks m e=>?_,λj ks e=>?_⟩
 .rcases wW e with⟨d',e',e2,e3⟩|⟨e',_⟩
  .cases e';obtain⟨v,e4,i4⟩:=T6 (c:=c) h1 h2 e2 e3;exact⟨v,by rw[av,e4];rfl,Is.mono (aC.kp (aC.refl H) _) ol ow _ _ i4⟩
  .cases e'
 .obtain⟨rfl,e2⟩:=jQ (λ_=>rfl) e;cases e2;exact⟨c,xs,by rw[av,hl,d9];rfl,ec,IsL.mono (aC.kp (aC.refl H) _) ol ow _ _ il⟩
 .rw[(jQ (λ_=>rfl) e1).1,(jQ (λ_=>rfl) e2).1]
 .exfalso;rcases e with e|e|⟨_,e⟩<;>rcases wW e with⟨d',e',_⟩|⟨e',_⟩<;>cases e'
 .obtain⟨rfl,_⟩:=jQ (q:=Sl.own) (λ_=>rfl) (cU e).choose_spec;rw[av,hl,d9] at q;cases q;exact hc
 .rcases wW e with⟨d',e',_⟩|⟨e',_⟩<;>cases e'
 .rcases wW e with⟨d',e',_⟩|⟨e',_⟩<;>cases e'
def c6(n:Nat)(m:MF)(i:Nat)(z:MZ):En->Option (D×En):=λr=>(gK r i).bind λl=>(z r).bind λq=>if q.1.length+1+q.2.length=n then (m<|bX q.1 l q.2).bind λp=>match p.1 with
 |.v d=>match p.2[q.1.length]? with
  |some (.p l')=>(b6 i l' r).map λr'=>(d,r')
  |_=>aB
 |_=>aB
 else aB
def b8(e:b6 i l' r=aA r')(h:kL r' σ b):kL r σ b:=by
 obtain⟨x,y,ex,rfl,yo,ym,⟨l0,xm⟩,_⟩:=oJ e;obtain⟨j,m,ej,qj⟩:=h;by_cases hj:j=i
 .subst hj;exact⟨j,l0,by rw[ex];exact cX xm,qj⟩
 .rw[zG λz=>hj z.symm] at ej;exact⟨j,m,ej,qj⟩
def Ms(F:fP X.prog X.w X.K X.mg X.base h_ k fa fd ps (fQ X.K n m))(hr:eD k X.A)(hg:Gl X x)(hm:X.mg x=aA (.ref fa))(hk:jv X.K (.ref fa)=true)(hb:Binds X.K fd ps [])(ha:DZ X i (a::es) z)(fX:iH x:=by decide)(he:iF X a es:=by rfl)(hpl:sJ X es pos:=by rfl):DX X (.Call (.Name x p) (a::es) [] pos) (c6 n m i z):=by
 refine PE.aH (gG (E:=λ_ _ _=>False) (dvs:=[]) F hr hg hm hk hb .nil JR ha fX he hpl) λσ H Q hq=>?_
 obtain⟨O0,r,d,r',hR,e,q⟩:=hq;obtain⟨l,e1,e⟩:=aF e;obtain⟨⟨ds,us⟩,e2,e⟩:=aF e;split at e
 .rename_i hn;obtain⟨⟨rs,eR⟩,e3,e⟩:=aF e;refine⟨O0,r,l,ds,us,hR,e1,e2,λvs c ws H1 s1 hc i1 i2=>?_⟩;show fQ X.K n m ((vs++.ref c::ws)++[]) H1 Q _;rw[ff];have R1:=hR.same s1;obtain⟨c',xs,p1,p2,p3⟩:=gJ R1 e1;rw[hc] at p1;cases p1;have FQ:Ow O0 r σ c:=by
   obtain⟨y,z1,z2⟩:=aF e1;exact .inr ⟨i,l,by rw[z1];exact cX (J6 z2).1,hc⟩
  refine⟨Ow O0 r σ,bX ds l us,rs,eR,by simp[bX];simp only at hn;omega,R.Ou R1.ol FQ p2 p3 i1 i2,λj m'=>⟨λe=>?_,λe=>?_,λ_ e=>?_,λ_ e=>?_⟩,e3,?_⟩
  .rcases wW e with⟨d',e',_⟩|⟨e',_⟩<;>cases e'
  .rcases wW e with⟨d',e',_⟩|⟨e',_⟩<;>cases e'
  .rcases wW e with⟨d',e',_⟩|⟨e',_⟩<;>cases e'
  .rcases wW e with⟨d',e',_⟩|⟨e',_⟩<;>cases e'
  .cases rs with
   |f l=>cases e
   |g ks l=>cases e
   |v d'=>
    simp only at e;split at e
    .rename_i l' ek;obtain⟨r2,e5,e6⟩:=aT e;have BE:d'=d:=congrArg ip e6;have Ea:r2=r':=congrArg yb e6;subst BE Ea;refine λv H2 pf iv=>?_
     have NF:(bX ds l us)[ds.length]?=aA (.p l):=by unfold bX;rw[bm<|by simp];simp
     obtain⟨l2,c2,Bk,f1,f2,f3,f4⟩:=pf.par ds.length l NF;rw[ek] at f1;cases f1;rw[i1.length,d9] at f2;cases f2;have HV:∀b,g_ (bX ds l us) ((vs++V.ref c::ws).map aA) b->b=c:=λb ⟨j,m',ej,qj⟩=>by
      obtain⟨rfl,_⟩:=jQ (λ_=>rfl) ej;rw[av,i1.length,d9] at qj;cases qj;rfl
     obtain⟨R2,k2⟩:=R1.put e5 hc (λb o hb eb=>pf.keep b o eb λz=>hb<|HV b z) (λb hb eb=>pf.live b eb) f3 f4;exact q v H2 R2 ((Kp.of_same r σ s1).trans k2) (Is.mono (aC.kp (aC.refl H2) _) (λb zb=>zb.elim (R2.o0 b) λzb=>by
      obtain⟨ys,ey,mb⟩:=R1.ol b<|.inr zb;exact pf.lst b ys ey mb) (λb zb _=>zb.imp id<|b8 e5) _ _ iv)
    .cases e
 .cases e
def yP{c k}:bp (.Constant c k p::es) env=(false,eval (.Constant c k p) env)::bp es env:=rfl
def yA{x}:bp (.Name x p::es) env=(false,eval (.Name x p) env)::bp es env:=rfl
def ZR{l k}:bp (.Tuple l k p::es) env=(false,eval (.Tuple l k p) env)::bp es env:=rfl
def xT{f l k}:bp (.Call f l k p::es) env=(false,eval (.Call f l k p) env)::bp es env:=rfl
def kD{a b}:bp (.Subscript a b p::es) env=(false,eval (.Subscript a b p) env)::bp es env:=rfl
def ZS{a o b}:bp (.BinOp a o b p::es) env=(false,eval (.BinOp a o b p) env)::bp es env:=rfl
noncomputable def CM:List Expr->Option (List<|List Nat)
 |[]=>aA []
 |.Constant (.str x) _ _::es=>(CM es).map (x.cps.toList::·)
 |_=>aB
def GA(ss:List (List Nat)):ML:=λ_=>aA<|ss.map D.str
theorem LN:∀{es:List Expr} {ss:List (List Nat)},CM es=aA ss->DA X es (GA ss)
 |[],ss,h=>by
  cases h;exact zN
 |e::es,ss,h=>by
  cases e<;>first|(simp only[CM,reduceCtorEq] at h;done)|skip
  rename_i c j p;cases c<;>first|(simp only[CM,reduceCtorEq] at h;done)|skip
  rename_i x;simp only[CM] at h;obtain⟨Vm,e1,rfl⟩:=aT h;exact zC (f:=mC<|.str x.cps.toList) (fs:=GA Vm) (y0 rfl) (LN e1) (hs:=yP)
section
variable{X:Cx}{pos:Pos}{a b tg:Expr}{f g:ME}
noncomputable def A_:List D->Option (List Bool)
 |[]=>aA []
 |.bl i::r=>(A_ r).map (i::·)
 |_=>aB
def Gz(fl:ML):ME:=λr=>(fl r).bind λl=>(A_ l).map λbs=>.bl<|bs.all id
theorem LH{K:Fg}{O:Addr->Prop}{H:Hp}:∀{l:List D} {ns:List Bool} {vs:List V},A_ l=aA ns->IsL K O H l vs->vs=ns.map V.bl
 |[],ns,vs,e,il=>by cases e;unfold IsL at il;subst il;rfl
 |d::l,ns,vs,e,il=>by
  unfold IsL at il;obtain⟨v,r,rfl,i1,i2⟩:=il;cases d<;>first|(simp only[A_,reduceCtorEq] at e;done)|skip
  simp only[A_] at e;obtain⟨ms,e1,rfl⟩:=aT e;rw[yG] at i1;rw[i1,LH e1 i2];rfl
def QZ(hc:X.calm=true):fJ X (.builtin "all") (λxs H Q=>∃(p:Addr) (bs:List Bool),xs=[.ref p]/\aN X.K H p (bs.map V.bl)/\Q (.bl<|bs.all id) H):=by
 intro pZ s σ H xs us Q I r hq;obtain⟨p,bs,rfl,hS,q⟩:=hq;obtain⟨u,rfl,ru⟩:=Vals.one r;cases ru;obtain⟨its,rv,pl,hz⟩:=I.list hS;have hl:=pl.isList;have eF:p<s.heap.objs.size:=by obtain⟨_,e,_⟩:=hl;exact aw e
 have ln:its.length=bs.length:=by have:=rv.length;rw[ah] at this;exact this.symm
 refine call_all_walk<|ny hl ?_;refine⟨s.heap.objs.size,[s.heap.objs.size,p],[s.heap.objs.size],its.toArray.size,_,_,λi=>(bs[i]?).getD true,rfl,Walks.list (A:=X.A.in1) (I.ok.hd hc) _ p (bh eF) its.toArray,⟨⟨_,ax _ rfl,rfl,rfl⟩,hl.push _⟩,λi v s' Q' E' hP hQ=>?_,λh' tk hk=>?_⟩
 .have hv:its[i]?=aA v:=by simpa using hP
  have hi:i<bs.length:=by have:=(ba.mp hv).1;omega
  have e:bs[i]?=aA (bs[i]'hi):=au hi;obtain⟨w',e1,e2⟩:=rv.get (i:=i) (x:=.bl<|bs[i]'hi) (by rw[av,e];rfl);rw[hv] at e1;cases e1;obtain rfl:v=.bool (bs[i]'hi):=e2;simp only[Option.getD_some,e] at hQ;exact nv hQ
 .have e:((fg its.toArray.size).all λi=>(bs[i]?).getD true)=bs.all id:=by
   rw[ao,ln];exact LSm.range_all bs
  rw[e];exact⟨.bl _,H,I.kept<|LSm.kept_iter hk,rfl,q⟩
def PY{p':Pos}{fl:ML}(hg:Gl X "all")(hm:X.mg "all" = aB)(ha:DB X a fl)(hc:X.calm=true:=by rfl)(hs:bp [a] X.env=(false,eval a X.env)::bp [] X.env:=by rfl):DE X (.Call (.Name "all" p') [a] [] pos) (Gz fl):=by
 refine PE.aH (jH (QZ hc) hg hm PyProof.Rows.boot_all (yN ha x8 hs) (he:=hs)) λσ H Q hq=>?_
 obtain⟨O0,r,d,hR,e,q⟩:=hq;obtain⟨l,e1,e2⟩:=aF e;obtain⟨bs,e3,rfl⟩:=aT e2;refine⟨O0,r,l,hR,e1,λp xs H1 s1 sq il=>?_⟩;have ex:=LH e3 il;subst ex;exact⟨p,bs,rfl,sq,q _ H1 s1<|by rw[yG]⟩
end
open Builtin.Str
def J2{K:Fg}{Dn:Ends}(h:lS K (qP i<|qD fl) Dn σ H):lF K fl σ H (λv H1=>B4 i v σ H1 Dn.nx):=by
 obtain⟨O0,r,sF,hR,e,q⟩:=h;obtain⟨d,e1,e2⟩:=aF e;obtain⟨r',e3,rfl⟩:=aT e2;obtain⟨l,e4,rfl⟩:=aT e1;obtain⟨hl,np,rfl⟩:=kQ e3;refine⟨O0,r,l,hR,e4,λp xs H1 s1 n1 e5 i1=>?_⟩;have ol:cG (λb=>Ow O0 r σ b\/b=p) H1:=λb z=>z.elim (λz=>(hR.same s1).ol b z) λz=>by subst z;exact⟨.lst xs,e5,trivial⟩
 have iv:Is K (Ow O0 r σ) H1 (.lst l) (.ref p):=by
  rw[zY];exact⟨p,xs,rfl,.inl ⟨hR.AL n1,.inl e5⟩,IsL.mono (aC.kp (aC.refl H1) _) ol (λa z _=>.inl z) l xs i1⟩
 obtain⟨R1,k1⟩:=(hR.same s1).Dd hl np iv;exact q _ H1 R1<|(Kp.of_same r σ s1).trans k1
def So(i:Nat)(hc:X.calm=true)(o:i7 X N' cap scope)(hi:DI X tg iter it)(hg:∀C fp s H,DG (eI X N' scope C fp s H) tg bd)(he:∀C fp s H,DE (eI X N' scope C fp s H) elt x)(n:Nat)(hN:X.N.Nodup)(hn:N'.length=n:=by rfl)(hy:X.N[i]?=aA y:=by rfl)(hx:Loc X.env.scope y:=by first|exact Or.inl rfl|exact Or.inr rfl)(hf:iQ X y:=by first|exact .inl rfl|exact .inr rfl)(Bz:kq (.ListComp elt [⟨tg,iter,[],0⟩] scope pos) (aA<|.Name y py) Bn.line X.env=pure true:=by rfl)(hs:∀x,jy iter X.env x=pure x:=by intro _;rfl):DS X (.Assign [.Name y py] (.ListComp elt [⟨tg,iter,[],0⟩] scope pos) Bn) (qP i<|qD<|jX cap n it bd x):=by
 subst hn;exact PS.aH (mY (i:=i) (g:=lG X.K bd) (te:=lE X.K x) (tc:=aB) hc o hi hg rfl he hN hy hx hf Bz hs) λDn σ H h=>dZ (tc:=aB) (λ{σ H K1 K0 te} z=>by
  obtain⟨O0,r,b,hR,e,q⟩:=z;unfold uN at e;cases e;have z1:(if true=true then te σ H K1 else K0 H):=q H<|aC.refl H;rw[if_pos rfl] at z1;exact z1) N'.length<|J2 h
def QP(i:Nat)(hc:X.calm=true)(o:i7 X N' cap scope)(hi:DI X tg iter it)(hg:∀C fp s H,DG (eI X N' scope C fp s H) tg bd)(ht:∀C fp s H,DT (eI X N' scope C fp s H) ce c)(he:∀C fp s H,DE (eI X N' scope C fp s H) elt x)(n:Nat)(hN:X.N.Nodup)(hn:N'.length=n:=by rfl)(hy:X.N[i]?=aA y:=by rfl)(hx:Loc X.env.scope y:=by first|exact Or.inl rfl|exact Or.inr rfl)(hf:iQ X y:=by first|exact .inl rfl|exact .inr rfl)(Bz:kq (.ListComp elt [⟨tg,iter,[ce],0⟩] scope pos) (aA<|.Name y py) Bn.line X.env=pure true:=by rfl)(hs:∀x,jy iter X.env x=pure x:=by intro _;rfl):DS X (.Assign [.Name y py] (.ListComp elt [⟨tg,iter,[ce],0⟩] scope pos) Bn) (qP i<|qD<|qR cap n it bd c x):=by
 subst hn;exact PS.aH (mY (i:=i) (g:=lG X.K bd) (te:=lE X.K x) (tc:=aA<|lT X.K c) hc o hi hg ⟨ce,rfl,ht⟩ he hN hy hx hf Bz hs) λDn σ H h=>dZ (tc:=aA<|lT X.K c) (λz=>z) N'.length<|J2 h
end DD
namespace TS
open PySem PyProof.Rows
def CH(h:Heap)(a:Addr)(h':Heap):Prop:=∀b o,b≠a->h.get? b=aA o->h'.get? b=aA o
def XO(h h':Heap):Prop:=∀b o,h.get? b=aA o->h'.get? b=aA o
open PySem PyProof.Rows PySem.W
end TS
namespace DD
open PySem PySem.Spec PyProof.Rows L2
noncomputable def Cp:D->D->Option D
 |.int i,.int j=>aA<|.bl<|decide (i<j)
 |.str s,.str t=>aA<|.bl<|decide (s<t)
 |_,_=>aB
def Q_:a9 X (jc .Lt) (λx y H Q=>∃i j,x=.str i/\y=.str j/\Q (.bl<|decide (i.cps.toList<j.cps.toList)) H):=by
 intro pZ s σ H x y v u Q I rx ry hq;obtain⟨i,j,rfl,rfl,q⟩:=hq;obtain⟨t,rfl⟩:=rx;obtain⟨t',rfl⟩:=ry;exact PySem.P.lt_str ⟨.bl _,H,I,rfl,q⟩
def Jg:R2:=λx y H Q=>l6 (λi j=>.bl<|decide (i<j)) x y H Q\/∃i j,x=.str i/\y=.str j/\Q (.bl<|decide (i.cps.toList<j.cps.toList)) H
def Qz:a9 X (jc .Lt) Jg:=VF.or Q_
def Qt{K:Fg}:e_ K Jg Cp:=by
 intro O H dx dy d vx vy Q ol ix iy e q;cases dx<;>cases dy<;>first|(simp only[Cp,reduceCtorEq] at e;done)|skip
 .simp only[Cp,gn] at e;subst e;rw[zM] at ix iy;exact .inl ⟨_,_,ix,iy,q _ H (aC.refl H)<|by rw[yG]⟩
 .simp only[Cp,gn] at e;subst e;rw[yC] at ix iy;exact .inr ⟨_,_,ix,iy,q _ H (aC.refl H)<|by rw[yG]⟩
def Bg(neg:Bool)(f:ME)(fl:ML):MB:=λr=>(f r).bind λx=>(fl r).bind λl=>(inD neg x<|.lst l).bind Oc
def pR(ha:DE X a f)(hb:DB X b fl)(hm:ki .NotIn b=false:=by rfl):DT X (.Compare a [.NotIn] [b] pos) (Bg true f fl):=by
 refine PT.aH (YA h9 ha hb hm) λσ H Q h=>?_
 obtain⟨O0,r,k,hR,e,q⟩:=h;obtain⟨x,e1,e⟩:=aF e;obtain⟨l,e2,e⟩:=aF e;obtain⟨d,e3,e4⟩:=aF e;refine⟨O0,r,x,hR,e1,λv1 H1 s1 i1=>⟨O0,r,l,hR.same s1,e2,λp xs H2 s2 sq il=>?_⟩⟩;have o_:=i1.same s2 (hR.same s1).ol;simp only[inD] at e3;split at e3
 .rename_i hl;cases e3;obtain⟨q1,q2⟩:=E3 o_ hl.1 il hl.2;cases e4;exact⟨p,xs,rfl,.inl sq,gS o_ hl.1,q1,_,by rw[q2];rfl,q H2<|s1.trans s2⟩
 .cases e3
mutual
noncomputable def aW:D->PyData
 |.aE=>.none
 |.bl b=>.bool b
 |.int i=>.int i
 |.str s=>.str ⟨s.toArray⟩
 |.tup l=>.tuple<|z_ l
 |.lst l=>.list<|z_ l
 |.ty _=>.none
 |.ref _=>.none
 |.aJ _ _=>.none
noncomputable def z_:List D->List PyData
 |[]=>[]
 |d::l=>aW d::z_ l
end
mutual
noncomputable def m_:D->Bool
 |.tup l=>Be l
 |.lst l=>Be l
 |.ty _=>false
 |.ref _=>false
 |.aJ _ _=>false
 |_=>true
noncomputable def Be:List D->Bool
 |[]=>true
 |d::l=>m_ d && Be l
end
def i_(d:D):Bool:=m_ d && (aW d).canLay0 && decide ((aW d).depth<=150)
mutual
theorem bA(I:Inv X pZ σ H s):∀(d:D) (v:V) (u:Value),m_ d=true->Is X.K O H d v->RelV v u->∃as,Reads s.heap u (aW d) as
 |.aE,v,u,_,h,r=>by rw[y9] at h;subst h;cases r;exact⟨_,.none⟩
 |.bl b,v,u,_,h,r=>by rw[yG] at h;subst h;cases r;exact⟨_,.bool b⟩
 |.int i,v,u,_,h,r=>by rw[zM] at h;subst h;obtain⟨t,rfl⟩:=r;exact⟨_,.int i t⟩
 |.str x,v,u,_,h,r=>by rw[yC] at h;subst h;obtain⟨t,rfl⟩:=r;exact⟨_,.str _ t⟩
 |.ty n,v,u,o,_,_=>by simp[m_] at o
 |.ref a,v,u,o,_,_=>by simp[m_] at o
 |.aJ ks l,v,u,o,_,_=>by simp[m_] at o
 |.tup l,v,u,o,h,r=>by
  rw[zX] at h;obtain⟨a,xs,rfl,sq,il⟩:=h;cases r;obtain⟨its,rv,⟨ob,e,c,n,dt⟩,_⟩:=I.tuple sq;obtain⟨as,q⟩:=cR I l xs its (by simpa [m_] using o) il rv;exact⟨_,.tuple e c dt<|by simpa using q⟩
 |.lst l,v,u,o,h,r=>by
  rw[zY] at h;obtain⟨a,xs,rfl,sq,il⟩:=h;cases r;obtain⟨its,rv,⟨ob,n,e,c,_,dt⟩,_⟩:=I.list sq.sq;obtain⟨as,q⟩:=cR I l xs its (by simpa [m_] using o) il rv;exact⟨_,.list e c dt<|by simpa using q⟩
theorem cR(I:Inv X pZ σ H s):∀(l:List D) (vs:List V) (us:List Value),Be l=true->IsL X.K O H l vs->Vals vs us->∃as,ReadsAll s.heap us (z_ l) as
 |[],vs,us,_,h,r=>by unfold IsL at h;subst h;cases r;exact⟨_,.nil⟩
 |d::l,vs,us,o,h,r=>by
  unfold IsL at h;obtain⟨v,vr,rfl,h1,h2⟩:=h;simp only[Be,fu] at o;cases r with
  |cons r1 r2=>
   obtain⟨as,q1⟩:=bA I d v _ o.1 h1 r1;obtain⟨bs,q2⟩:=cR I l vr _ o.2 h2 r2;exact⟨_,.cons q1 q2⟩
end
def Hk(r:eD k A):A.units+200<cLine:=by have:=r.un;omega
def aO:Sl->Prop
 |.un=>True
 |.v _=>True
 |_=>False
def yD(e:r[i]?=aA x)(h:aO x):yV i d r=aA (r.set i<|.v d):=by
 unfold yV;rw[e];cases x<;>first|rfl|cases h
def tK(e:r[i]?=aA (.o<|S++[d])):vW i r=aA (d,r.set i<|.o S):=by
 simp[vW,gK,e,Sl.ml,b6]
def Q1(e:r[i]?=aA (.o S))(e2:f r=aA d)(h:S.length<ar):nA i f r=aA (.aE,r.set i<|.o<|S++[d]):=by
 simp[nA,gK,e,Sl.ml,b6,e2,h]
def rS(e:r[i]?=aA (.v d)):zE i r=aA d:=by
 unfold zE;rw[e]
def yF(e:g r=aA (.nx r')):yO g h r=h r':=by
 unfold yO;rw[e];rfl
def RI(e:g r=aA (.rt d r')):yO g h r=aA (.rt d r'):=by
 unfold yO;rw[e];rfl
def kF(e:f r=aA (d,r')):sX f r=aA (.nx r'):=by
 unfold sX;rw[e];rfl
def kG(e:f r=aA d)(e2:yV i d r=aA r2):qP i f r=aA (.nx r2):=by
 unfold qP;rw[e];show(yV i d r).map Fl.nx=_;rw[e2];rfl
def bM(e:c r=aA true):aU c g h r=g r:=by
 unfold aU;rw[e];rfl
def jE(e:c r=aA false):aU c g h r=h r:=by
 unfold aU;rw[e];rfl
def cK(h:c r=aA true)(e:g r=aA (.nx r')):jB (n+1) c g r=jB n c g r':=by
 show(c r).bind _=_;rw[h,ae,if_pos rfl,e,ae]
def v5(h:c r=aA false):jB (n+1) c g r=aA (.nx r):=by
 show(c r).bind _=_;rw[h,ae,if_neg<|by simp]
def xE{α:Type}(x:α)(l:List α):f9 (x::l) 0=aA x:=yB (j:=0) rfl
def j8(h:bd d r=aA r1)(e:g r1=aA (.nx r')):bH bd g (d::l) r=bH bd g l r':=by
 show(bd d r).bind _=_;rw[h,ae,e,ae]
def zL(e1:f r=aA x)(e2:g r=aA y)(e:m x y=aA d):zJ m f g r=aA d:=by
 unfold zJ;rw[e1,ae,e2];exact e
def cN(e1:f r=aA x)(e:m x=aA d):aX m f r=aA d:=by
 unfold aX;rw[e1];exact e
def j0(e1:f r=aA (.int i))(e2:g r=aA (.int j)):zJ qO f g r=aA (.int<|i+j):=zL e1 e2 rfl
def wH(e1:f r=aA (.int i))(e2:g r=aA (.int j))(h:0<j):zJ w6 f g r=aA (.int<|i % j):=zL e1 e2<|if_pos h
def o4(e1:f r=aA (.int i))(e2:g r=aA (.int j))(h : -(2 ^ 64)<i/\i<2 ^ 64):zJ XU f g r=aA (.int<|i*j):=zL e1 e2<|if_pos<|.inl h
def wJ(e1:f r=aA (.int i))(e2:g r=aA (.int j))(h:0<j/\j<1073741824):zJ xJ f g r=aA (.int<|i / j):=zL e1 e2<|if_pos h
def zF:mC d r=aA d:=rfl
def zD(e1:f r=aA x)(e2:fl r=aA l):zB f fl r=aA (x::l):=by
 unfold zB;rw[e1,ae,e2];rfl
def zO:zV r=aA []:=rfl
def qS(e:fl r=aA l)(h:l.length<=100):qD (xX fl) r=aA (.lst l):=by
 unfold qD xX;rw[e,ae,if_pos<|cz h<|by decide];rfl
def xI(e:fl r=aA l)(h:l.length<=100):qQ fl r=aA (.tup l):=by
 unfold qQ;rw[e,ae,if_pos<|cz h<|by decide]
def yK(e:fl r=aA l)(hl:l.length=n)(h:∃as,m (l.map .v)=aA (p,as)):yE n m fl r=aA (MN p):=by
 obtain⟨as,h⟩:=h;unfold yE;rw[e,ae,if_pos hl,h];rfl
def wZ(e:f r=aA (.bl b)):aP f r=aA b:=by
 unfold aP;rw[e];rfl
def yS(e:f r=aA d):kM f r=aA (.rt d r):=by
 unfold kM;rw[e];rfl
def yR(d:D)(e:f r=aA d)(e2:yV k d r=aA r2)(q:h r2=z):yO (qP k f) h r=z:=by
 rw[yF<|kG e e2];exact q
def yY(e:c r=aA false)(q:h r=z):yO (aU c a xV) h r=z:=by
 rw[yF (r':=r) (by rw[jE e];rfl)];exact q
def kR(e:c r=aA true)(q:a r=aA (.rt d r')):yO (aU c a xV) h r=aA (.rt d r'):=RI (by rw[bM e];exact q)
def jI(e:s (as++bg (N-n) .un)=aA (.rt d r')):∃bs,aY n N s as=aA (.v d,bs):=by
 unfold aY;rw[e];exact⟨_,rfl⟩
def ZP(h:s.length+t.length<=100):qO (.str s) (.str t)=aA (.str<|s++t):=if_pos (cz h<|by decide)
def GU{lo:MO}(e1:f r=aA x)(e2:lo r=aA a)(e3:hi r=aA b)(e:Cc x a b=aA d):fB f lo hi r=aA d:=by
 unfold fB;rw[e1,ae,e2,ae,e3];exact e
def j6(e:g r=aA (.int i)):w4 g r=aA (aA i):=by
 unfold w4;rw[e];rfl
def E2(e1:f r=aA (.int i))(e2:g r=aA (.int j)):aP (zJ sY f g) r=aA (decide (j<i)):=wZ<|zL e1 e2 rfl
def SR(h:l.length+m.length<=100000):qO (.lst l) (.lst m)=aA (.lst<|l++m):=if_pos (cz h<|by decide)
def GX(s:List α)(k:Nat):XW s aB (aA (k:Int))=s.take k:=by
 unfold XW;rw[HT.Hw,HT.Vv,List.drop_zero,Nat.sub_zero,acn];omega
def LL(s:List α)(i k:Nat):XW s (aA (i:Int)) (aA (k:Int))=(s.take k).drop i:=by
 unfold XW;rw[HT.Hw,HT.Hw,List.drop_take];by_cases h:i<=s.length
 .rw[Nat.min_eq_left h,acn,kr];rw[acm,acm,Nat.min_assoc,abx]
 .have e1:s.drop (min i s.length)=[]:=abz (by omega);have e2:s.drop i=[]:=abz (by omega);rw[e1,e2];simp
def WG(e:f r=aA (.int (n:Int)))(h:n<1000):mR f r=aA ((fg n).map λk=>.int<|(0:Int)+(k:Nat)):=by
 have h1 : -(2 ^ 62:Int)<=(n:Int)/\(n:Int)<2 ^ 62:=by constructor<;>omega
 have h2:DD.intD (.int (n:Int))=aA (n:Int):=by unfold DD.intD;rfl
 unfold mR;rw[e,ae,h2,ae,if_pos h1,gy];unfold BX;rfl
def Gy(e1:f r=aA (.lst l))(e2:g r=aA (.lst m))(h:l.length+m.length<=100000):zJ qO f g r=aA (.lst<|l++m):=zL e1 e2<|SR h
def AZ(h1:yV i a r=aA r1)(h2:yV j b r1=aA r2):qA 2 (yH (yV i)<|yH (yV j) qL) (.tup [a,b]) r=aA r2:=by
 show((yV i a r).bind λz=>(yV j b z).bind λy=>aA y)=_;rw[h1,ae,h2];rfl
def nF{K:Fg}(ol:cG O H)(hp:H p=aB)(h:IsL K O H l xs):IsL K (λb=>O b\/b=p) (upd H p<|.lst ys) l xs:=
 IsL.mono (aC.kp (zW hp) _) ol (λa z n=>z.elim id λz=>by subst z;exact absurd hp n) _ _ h
def Aw(f g:ML):ML:=λr=>(f r).bind λl=>(g r).bind λm=>if l.length+m.length<=ar then aA (l++m) else aB
def K7(ha:DB X a fl)(hb:DB X b gl):DF X (.BinOp a .Add b pos) (Aw fl gl):=by
 refine PE.aH (Kk M4 ha hb) λσ H Q h=>?_
 obtain⟨O0,r,d,hR,e,q⟩:=h;obtain⟨l,e1,e⟩:=aF e;obtain⟨m,e2,e⟩:=aF e;split at e
 .rename_i hz;cases e;refine⟨O0,r,l,hR,e1,λp xs H1 s1 sq il=>⟨O0,r,m,hR.same s1,e2,λp' ys H2 s2 Ah AQ=>?_⟩⟩;refine⟨p,p',xs,ys,rfl,rfl,s2.seq sq,Ah,by rw[<-il.length,<-AQ.length];exact hz,λt ht=>q t _ _ ((s1.trans s2).trans<|zW ht) ((s1.trans s2).free ht) zR ?_⟩;exact nF (hR.same<|s1.trans s2).ol ht<|(il.same s2 (hR.same s1).ol).append AQ
 .cases e
def mI(bd:D->En->Option En)(x:En->Option (D×En)):List D->En->Option (List D×En)
 |[],r=>aA ([],r)
 |d::l,r=>(bd d r).bind λr1=>(x r1).bind λp=>(mI bd x l p.2).map λq=>(p.1::q.1,q.2)
def pB(i n:Nat)(it:ML)(bd:D->En->Option En)(x:En->Option (D×En)):En->Option (D×En):=λr=>(it r).bind λl=>(gK r i).bind λL=>if l.length<ar then (mI bd x l (Sl.p L::bg (n-1) Sl.un)).bind λ(q:List D×En)=>match (q.2[0]?:Option Sl) with
 |some (.p L')=>(b6 i L' r).map λr'=>(.lst q.1,r')
 |_=>aB
 else aB
section
variable{X:Cx}{N':List Str}{scope:Scope}{elt tg iter:Expr}{pos:Pos}{it:ML}{bd:D->En->Option En}{x:En->Option (D×En)}{i:Nat}
def tM(hu:q .un=aB)(e:((Sl.p L::bg k Sl.un)[j]?).bind q=aA m):j=0/\q (.p L)=aA m:=by
 cases j with
 |zero=>exact⟨rfl,e⟩
 |succ j=>
  rw[iq,fq] at e;split at e
  .rw[ae,hu] at e;cases e
  .cases e
def R.Z_{K:Fg}(ol:cG O H)(ha:O a)(ea:H a=aA (.lst xs))(il:IsL K O H L xs):R K O H (.p L::bg k .un) (aA (.ref a)::bg k aB):=by
 have ow:∀b,Ow O (.p L::bg k .un) (aA (.ref a)::bg k aB) b->H b≠aB->O b:=λb z _=>z.elim id λ⟨j,m,ej,qj⟩=>by
  obtain⟨rfl,_⟩:=tM rfl ej;cases qj;exact ha
 have get:∀(j:Nat) (x:Sl),(Sl.p L::bg k Sl.un)[j]?=aA x->(j=0/\x=.p L)\/x=.un:=λj x e=>by
  cases j with
  |zero=>cases e;exact .inl ⟨rfl,rfl⟩
  |succ j=>
   rw[iq,fq] at e;split at e
   .cases e;exact .inr rfl
   .cases e
 refine⟨by simp,λj d e=>?_,λj m e=>?_,λj j' b m m' e1 e2 _ _=>?_,ol,λj m b e _=>?_,λj m b e q=>?_,λj _ ks m e=>?_,λj ks e=>?_⟩
 .rcases get _ _ e with⟨_,z⟩|z<;>cases z
 .obtain⟨rfl,e2⟩:=tM rfl e;cases e2;exact⟨a,xs,rfl,ea,IsL.mono (aC.kp (aC.refl H) _) ol ow _ _ il⟩
 .rw[(tM rfl e1).1,(tM rfl e2).1]
 .rcases e with e|e|⟨_,e⟩<;>rcases get _ _ e with⟨_,z⟩|z<;>cases z
 .obtain⟨x,e1,e2⟩:=aF e;rcases get _ _ e1 with⟨rfl,z⟩|z
  .cases q;exact ha
  .subst z;cases e2
 .rcases get _ _ e with⟨_,z⟩|z<;>cases z
 .rcases get _ _ e with⟨_,z⟩|z<;>cases z
def tY(hx:∀r d r',x r=aA (d,r')->∀σ b,kL r' σ b->kL r σ b){σ:St}{H:Hp}{Q:VK}(h:lX X.K (pB i N'.length it bd x) σ H Q):Fb [i] N'.length (lI X.K it) (lG X.K bd) aB (lX X.K x) σ H Q:=by
 obtain⟨O0,r,dv,r',hR,e,q⟩:=h;obtain⟨l,e1,e⟩:=aF e;obtain⟨L,e2,e⟩:=aF e;split at e
 .rename_i hlen;obtain⟨⟨out,rE⟩,e3,e⟩:=aF e;simp only at e;split at e
  .rename_i L' eL;obtain⟨MT,e4,e5⟩:=aT e;have BE:D.lst out=dv:=congrArg ip e5;have Ea:MT=r':=congrArg yb e5;subst BE Ea;refine⟨O0,r,l,hR,e1,λJ H1 s1 yl p hp=>?_⟩;have R1:=hR.same s1;obtain⟨a,xs,ha,Ik,il⟩:=gJ R1 e2;have Nj:g_ r σ a:=⟨i,L,RC e2,ha⟩;have Aj:Ow O0 r σ a:=.inr Nj.own;have Ec:a≠p:=λz=>by subst z;rw[hp] at Ik;cases Ik
   have Xl:¬Ow O0 r σ p:=R1.AL hp
   let O':Addr->Prop:=λb=>Ow O0 r σ b\/b=p
   have VI:cG O' (upd H1 p<|.lst []):=λb z=>by
    by_cases hb:b=p
    .subst hb;exact⟨_,zR,trivial⟩
    .rw[zT hb];exact z.elim (R1.ol b) λz=>absurd z hb
   have Xa:l4 [i] N'.length σ=aA (.ref a)::bg (N'.length-1) aB:=by
    unfold l4;rw[am,vp,ha];rfl
   rw[Xa];refine⟨λk m ys σ2 H2=>m=l.length-k/\k<=l.length/\ys.length<=k/\H2 p=aA (.lst ys)/\σ2[0]?=aA (aA<|.ref a)/\(∀b u,b≠a->H1 b=aA u->H2 b=aA u)/\(∀b,H2 b=aB->H1 b=aB) /\
     ∃r2 dn rest,R X.K O' H2 r2 σ2/\(∀b,kL r2 σ2 b->b=a)/\(∃L2,r2[0]?=aA (.p L2))/\IsL X.K O' H2 dn ys/\mI bd x (l.drop k) r2=aA (rest,rE)/\dn++rest=out,
    ⟨l.length,by simp,bu _,al _,zR,?_,?_,?_,_,[],out,R.Z_ (k:=N'.length-1) VI (.inl Aj) (by rw[zT Ec];exact Ik)<|nF R1.ol hp il,?_,⟨L,rfl⟩,.nil,by simpa using e3,rfl⟩,?_⟩
   .rfl
   .intro b u hb eb;rw[zT (λz=>by subst z;rw[hp] at eb;cases eb)];exact eb
   .intro b eb;by_cases hb:b=p
    .subst hb;exact hp
    .rw[zT hb] at eb;exact eb
   .rintro b ⟨j,m,ej,qj⟩;obtain⟨rfl,_⟩:=tM rfl ej;cases qj;rfl
   .rintro k m ys σ2 H2 ⟨rfl,NE,Wo,sT,fH,lJ,Nn,r2,dn,rest,R2,DK,⟨L2,Zp⟩,eW,e6,eo⟩;refine⟨sT,by omega,?_⟩;have hO:∀b,Ow O' r2 σ2 b->O' b:=λb z=>z.elim id λz=>.inl (by rw[DK b z];exact Aj)
    obtain⟨y1,y2⟩:=yl k H2 O' (λb u eb nb=>lJ b u (λz=>nb (by rw[z];exact Nj)) eb) λb z nn=>z.elim id λz=>by subst z;exact absurd hp nn
    by_cases eF:k<l.length
    .obtain⟨go,yd⟩:=y1 eF;have hd:l[k]?=aA l[k]:=by simp[eF]
     rw[dX hd] at e6;obtain⟨r3,e7,e8⟩:=aF e6;obtain⟨⟨y,r4⟩,e9,BI⟩:=aF e8;obtain⟨⟨Fn,Vz⟩,II,N8⟩:=aT BI;have Ys:y::Fn=rest:=congrArg ip N8;have Yr:Vz=rE:=congrArg yb N8;subst Ys Yr;refine .inr ⟨go,λv H3 yv=>?_⟩;obtain⟨s3,iv⟩:=yd v H3 yv;have R3:=R2.same s3;refine⟨O',r2,l[k],r3,R3,?_,e7,λσ4 R4 k4=>?_⟩
     .exact Is.mono (aC.kp (aC.refl H3) _) R3.o0 (λb z _=>hO b z) _ _<|iv _ hd
     have Xg:=s3 _ _ sT;have Al:∀b,kL r3 σ4 b->b=a:=λb z=>by
      rcases k4.new b z with z'|z'
      .exact DK b z'
      .obtain⟨zs,ez,_⟩:=R4.ol b<|.inr z;rw[z'] at ez;cases ez
     obtain⟨Zn,Xd⟩:=k4.par 0 false (by rw[Zp];rfl);obtain⟨L3,Zo⟩:=GD Zn;refine⟨O',r3,y,r4,R4,e9,λu H6 R6 k6 iu=>?_⟩;have nm:∀b,g_ r3 σ4 b->b=a:=λb z=>Al b z.own
     have Im:H6 p=aA (.lst ys):=k6.keep p _ Xg λz=>Ec (nm p z).symm
     have FF:∀b,kL r4 σ4 b->b=a:=λb z=>by
      exact Al b<|hx _ _ _ e9 σ4 b z
     obtain⟨Zl,_⟩:=k6.par 0 false (by rw[Zo];rfl);obtain⟨L4,Zm⟩:=GD Zl;have kk:d7 O' H6 (upd H6 p<|.lst<|ys++[u]):=λb' o' e' nn=>by rw[zT λz=>nn<|.inr z];exact e'
     have Wd:d7 O' H3 H6:=λb' o' e' nn=>k6.keep b' o' e' λz=>nn<|.inl (by rw[nm b' z];exact Aj)
     refine⟨Im,l.length-(k+1),by omega,rfl,eF,by simp;omega,zR,by rw[Xd];exact fH,?_,?_,r4,dn++[y],Fn,?_,FF,⟨L4,Zm⟩,?_,II,by rw[<-eo];simp⟩
     .intro b u' hb eb;have F3:b≠p:=λz=>by subst z;rw[hp] at eb;cases eb
      rw[zT F3];exact k6.keep b _ (s3 _ _<|lJ b u' hb eb) λz=>hb<|nm b z
     .intro b eb;by_cases hb:b=p
      .subst hb;exact hp
      .rw[zT hb] at eb;exact Nn b<|s3.free<|k6.live b eb
     .refine⟨R6.len,λj d ej=>?_,λj m ej=>?_,R6.apart,λb' z=>?_,R6.loc,R6.par,λj f ks m ej=>?_,λj ks ej=>?_⟩
      .obtain⟨w,q1,q2⟩:=R6.val j d ej;exact⟨w,q1,Is.mono (λb' o' e' nn=>kk b' o' e' λz=>nn<|.inl z) R6.ol (λ_ z _=>z) _ _ q2⟩
      .obtain⟨a',xs',q1,q2,q3⟩:=R6.own j m ej;have Ei:=FF a' ⟨j,m,uR ej,q1⟩;exact⟨a',xs',q1,by rw[zT (by rw[Ei];exact Ec)];exact q2,IsL.mono (λb' o' e' nn=>kk b' o' e' λz=>nn<|.inl z) R6.ol (λ_ z _=>z) _ _ q3⟩
      .rcases z with z|z
       .by_cases hb:b'=p
        .subst hb;exact⟨_,zR,trivial⟩
        .rw[zT hb];exact R6.o0 b'<|.inl z
       .subst z;exact⟨_,zR,trivial⟩
      .obtain⟨a',kvs,q1,q2,q4,q3⟩:=R6.aJ j f ks m ej;have Ei:=FF a' ⟨j,m,by rw[ej];rfl,q1⟩;exact⟨a',kvs,q1,by rw[zT (by rw[Ei];exact Ec)];exact q2,q4,IsL.mono (λb' o' e' nn=>kk b' o' e' λz=>nn<|.inl z) R6.ol (λ_ z _=>z) _ _ q3⟩
      .obtain⟨a',q1,q2⟩:=R6.iK j ks ej;have Ei:=FF a' ⟨j,[],by rw[ej];rfl,q1⟩;exact⟨a',q1,by rw[zT (by rw[Ei];exact Ec)];exact q2⟩
     .have i1:=IsL.mono Wd R3.o0 (λ_ z _=>z) _ _<|eW.same s3 R2.o0;have i2:Is X.K O' H6 y u:=Is.mono (aC.kp (aC.refl H6) _) R6.ol (λa z _=>.inl z) _ _ iu;exact IsL.mono kk R6.o0 (λ_ z _=>z) _ _<|i1.append<|.cons i2 .nil
    .have hl:l.drop k=[]:=vq (by omega);rw[hl] at e6;have Zq:aA ([],r2)=aA (rest,rE):=e6;cases Zq;rw[ff] at eo;subst eo;obtain⟨c0,zs,q0,q1,q2⟩:=R2.own 0 L' (by rw[eL];rfl);rw[fH] at q0;cases q0;obtain⟨RE,kE⟩:=R1.put e4 ha lJ (λb _=>Nn b) q1<|IsL.mono (aC.kp (aC.refl H2) _) R2.ol (λb z _=>.inl<|.inl z) _ _ q2;refine .inl ⟨y2<|by omega,q _ H2 RE ((Kp.of_same r σ s1).trans kE) ?_⟩;rw[zY];have np:∀b,Ow O0 MT σ b->Ow O0 r σ b:=λb z=>z.imp id λz=>b8 e4 z
     exact⟨p,ys,rfl,.inl ⟨λz=>Xl<|np p z,.inl sT⟩,IsL.mono (aC.kp (aC.refl H2) _) R2.o0 (λb z _=>.inl<|np b z) _ _ eW⟩
  .cases e
 .cases e
def Uw{K:Fg}{Dn:Ends}(h:lS K (kH j fx) Dn σ H):lX K fx σ H (λv H1=>B4 j v σ H1 Dn.nx):=by
 obtain⟨O0,r,fl,hR,e,q⟩:=h;obtain⟨⟨d,r1⟩,e1,e2⟩:=aF e;obtain⟨r',e3,rfl⟩:=aT e2;obtain⟨hl,np,rfl⟩:=kQ e3;refine⟨O0,r,d,r1,hR,e1,λv H1 R1 k1 i1=>?_⟩;obtain⟨R2,k2⟩:=R1.Dd hl np i1;exact q _ H1 R2<|k1.trans k2
def Um(j:Nat)(hc:X.calm=true)(o:i7 X N' [i] scope)(hi:DI X tg iter it)(hg:∀C fp s H,DG (eI X N' scope C fp s H) tg bd)(he:∀C fp s H,DX (eI X N' scope C fp s H) elt x)(hx:∀r d r',x r=aA (d,r')->∀σ b,kL r' σ b->kL r σ b)(n:Nat)(hN:X.N.Nodup)(hn:N'.length=n:=by rfl)(hy:X.N[j]?=aA y:=by rfl)(Wp:Loc X.env.scope y:=by first|exact Or.inl rfl|exact Or.inr rfl)(hf:iQ X y:=by first|exact .inl rfl|exact .inr rfl)(Bz:kq (.ListComp elt [⟨tg,iter,[],0⟩] scope pos) (aA<|.Name y py) Bn.line X.env=pure true:=by rfl)(hs:∀x,jy iter X.env x=pure x:=by intro _;rfl):DS X (.Assign [.Name y py] (.ListComp elt [⟨tg,iter,[],0⟩] scope pos) Bn) (kH j<|pB i n it bd x):=by
 subst hn;exact PS.aH (mY (i:=j) (g:=lG X.K bd) (te:=lX X.K x) (tc:=aB) hc o hi hg rfl he hN hy Wp hf Bz hs) λDn σ H h=>tY hx<|Uw h
def Tg:∀r d r',vW j r=aA (d,r')->∀σ b,kL r' σ b->kL r σ b:=λr d r' e σ b h=>by
 obtain⟨l,_,e⟩:=aF e;obtain⟨d',_,e⟩:=aF e;obtain⟨r2,e3,e4⟩:=aT e
 have:r2=r':=congrArg yb e4
 subst this;exact b8 e3 h
end
abbrev BO:=En->Option (List D×En)
def V8(K:Fg)(f:BO):TA:=λσ H Q=>∃O0 r l r',R K O0 H r σ/\f r=aA (l,r')/\∀vs H',R K O0 H' r' σ->Kp H r σ H' r' σ->IsL K (Ow O0 r' σ) H' l vs->Q vs H'
def Es(X:Cx)(es:List Expr)(f:BO):Prop:=PA X es<|V8 X.K f
def rQ(fx:En->Option (D×En)):BO:=λr=>(fx r).map λp=>([p.1],p.2)
def kN(f:ME)(z:BO):BO:=λr=>(f r).bind λd=>(z r).map λq=>(d::q.1,q.2)
def Uq(ha:DX X a fx)(hs:bp [a] X.env=(false,eval a X.env)::bp [] X.env:=by rfl):Es X [a] (rQ fx):=by
 refine PA.aH (yN ha x8 hs) λσ H Q hq=>?_
 obtain⟨O0,r,l,r',hR,e,q⟩:=hq;obtain⟨⟨d,r1⟩,e1,e2⟩:=aT e;cases e2;exact⟨O0,r,d,r1,hR,e1,λv H1 R1 k1 i1=>q [v] H1 R1 k1<|.cons i1 .nil⟩
def Is.kp{K:Fg}(hR:R K O0 H r σ)(k:Kp H r σ H' r' σ')(h:Is K (Ow O0 r σ) H d v):Is K (Ow O0 r' σ') H' d v:=
 Is.mono (λb o e nn=>k.keep b o e λz=>nn<|.inr z.own) hR.ol (λb z n=>z.imp id λz=>(k.new b z).elim id λz=>absurd z n) _ _ h
def nI(ha:DE X a f)(hr:Es X es z)(hs:iF X a es:=by rfl):Es X (a::es) (kN f z):=by
 refine PA.aH (yN ha hr hs) λσ H Q hq=>?_
 obtain⟨O0,r,l,r',hR,e,q⟩:=hq;obtain⟨d,e1,e⟩:=aF e;obtain⟨⟨l',r1⟩,e2,e3⟩:=aT e;cases e3;refine⟨O0,r,d,hR,e1,λv H1 s1 i1=>⟨O0,r,l',r1,hR.same s1,e2,λvs H2 R2 k2 i2=>q (v::vs) H2 R2 ((Kp.of_same r σ s1).trans k2)<|.cons (Is.kp (hR.same s1) k2 i1) i2⟩⟩
end DD
namespace ZZ
open PySem
noncomputable abbrev lI(t:Addr):Obj:={ cls:=.type "list_iterator",data:=.fields #[.ref t,.int 0 0] }
abbrev Bj(h:Heap)(t u:Addr):Heap:=((((h.push<|tI t).push<|lI u).push<|tP (.ref h.objs.size)<|.ref (h.push<|tI t).objs.size).push<|tP .none .none).push<|tZ ((h.push<|tI t).push<|lI u).objs.size (((h.push<|tI t).push<|lI u).push<|tP (.ref h.objs.size)<|.ref (h.push<|tI t).objs.size).objs.size
def PH(t u:Addr)(xs ys:Array Value):Meets (Builtin.«zip.__new__» ⟨[.type "zip",.ref t,.ref u],[]⟩) (λ_ R s=>s.heap.IsTuple t xs/\s.heap.IsList u ys/\R (.ok<|.ret<|.ref ((((s.heap.push<|tI t).push<|lI u).push<|tP (.ref s.heap.objs.size)<|.ref (s.heap.push<|tI t).objs.size).push<|tP .none .none).objs.size) { s with heap:=Bj s.heap t u }):=
 .of_wp λprog w A R s h=>by
  obtain⟨hp,g,d,tk,os⟩:=s;obtain⟨h1,h2,h⟩:=h;have W_:=sub_zip;have L1:acd (zc ⟨hp,g,d,tk,os⟩) t xs:=h1;have L2:Heap.IsList (zc ⟨hp.push<|tI t,g,d,tk,os⟩) u ys:=h2.at λo e=>ac _ e
  wp_walk using ug L1,ny L2
  exact⟨_,rfl,h⟩
def Oq(h1:s.heap.IsTuple t xs)(h2:s.heap.IsList u ys)(h:∀g,IsZip g (s.heap.objs.size+4) (s.heap.objs.size+2) (s.heap.objs.size+3) .none->IsPair g (s.heap.objs.size+2) (.ref s.heap.objs.size) (.ref<|s.heap.objs.size+1)->IsPair g (s.heap.objs.size+3) .none .none ->
   g.IsTupleIter s.heap.objs.size t 0->g.IsListIter (s.heap.objs.size+1) u 0->(∀c o,s.heap.get? c=aA o->g.get? c=aA o)->Q (.ref<|s.heap.objs.size+4) { s with heap:=g }):wpAny (model prog w) A (call (.type "zip") [.ref t,.ref u]) Q E s:=by
 refine callType_new F.called_zip (by decide) (F.typeCall_zip_2 _ _) (F.newCall_zip_2 _ _) (λobj=>ada obj _ _) F.entry_zip_new (PH t u xs ys) ⟨h1,h2,?_⟩;have z1:(s.heap.push<|tI t).objs.size=s.heap.objs.size+1:=ig ..;have z2:((s.heap.push<|tI t).push<|lI u).objs.size=s.heap.objs.size+2:=by rw[ig,z1]
 have z3:(((s.heap.push<|tI t).push<|lI u).push<|tP (.ref s.heap.objs.size)<|.ref (s.heap.push<|tI t).objs.size).objs.size=s.heap.objs.size+3:=by rw[ig,z2]
 have z4:((((s.heap.push<|tI t).push<|lI u).push<|tP (.ref s.heap.objs.size)<|.ref (s.heap.push<|tI t).objs.size).push<|tP .none .none).objs.size=s.heap.objs.size+4:=by rw[ig,z3]
 have kp:∀c o,s.heap.get? c=aA o->(Bj s.heap t u).get? c=aA o:=λc o x=>ac _<|ac _<|ac _<|ac _<|ac _ x
 have g1:(Bj s.heap t u).get? s.heap.objs.size=aA (tI t):=ac _<|ac _<|ac _<|ac _<|ax _ rfl;have g2:(Bj s.heap t u).get? (s.heap.push<|tI t).objs.size=aA (lI u):=ac _<|ac _<|ac _<|ax _ rfl;have g3:(Bj s.heap t u).get? ((s.heap.push<|tI t).push<|lI u).objs.size=aA (tP (.ref s.heap.objs.size)<|.ref (s.heap.push<|tI t).objs.size):=ac _<|ac _<|ax _ rfl;have g4:(Bj s.heap t u).get? (((s.heap.push<|tI t).push<|lI u).push<|tP (.ref s.heap.objs.size)<|.ref (s.heap.push<|tI t).objs.size).objs.size=aA (tP .none .none):=ac _<|ax _ rfl;have g5:(Bj s.heap t u).get? ((((s.heap.push<|tI t).push<|lI u).push<|tP (.ref s.heap.objs.size)<|.ref (s.heap.push<|tI t).objs.size).push<|tP .none .none).objs.size=aA (tZ ((s.heap.push<|tI t).push<|lI u).objs.size (((s.heap.push<|tI t).push<|lI u).push<|tP (.ref s.heap.objs.size)<|.ref (s.heap.push<|tI t).objs.size).objs.size):=ax _ rfl;rw[z4] at g5 ⊢;rw[z3] at g4 g5;rw[z2] at g3 g5;rw[z1] at g2 g3;exact⟨⟨_,g5,rfl⟩,h _ g5 g3 g4 ⟨_,g1,rfl,rfl⟩ ⟨_,g2,rfl,rfl⟩ kp⟩
end ZZ
namespace DD
open PySem PySem.Spec PyProof.Rows L2
def Ez(sq Ah:Hp->Addr->List V->Prop)(a b:Addr):It:=
 ⟨λi H=>∃xs ys x y,sq H a xs/\Ah H b ys/\xs[i]?=aA x/\ys[i]?=aA y,λi H x H'=>∃T u v,x=.ref T/\H T=aB/\H'=upd H T (.tup [u,v])/\(∀xs,sq H a xs->xs[i]?=aA u)/\∀ys,Ah H b ys->ys[i]?=aA v,λi H=>∃xs ys,sq H a xs/\Ah H b ys/\(xs.length=i\/(i<xs.length/\ys.length=i))⟩
def X2{K:Fg}(W:Dw K sq Am nm)(W':Dw K Ah Wi õ)(a b z p q i j:Addr)(ap:ZA z p q i j):Turn P w K (.Tuple elts k tp) (Ez sq Ah a b) [z,p,q,i,j] z (λn h=>IsZip h z p q .none/\IsPair h p (.ref i) (.ref j)/\(∃u v,IsPair h q u v)/\Am h i a n/\Wi h j b n) where
 mem:=by simp
 obj:=λn h st c hc=>by
  obtain⟨h1,h2,⟨u,v,h3⟩,h4,h5⟩:=st;obtain⟨oi,ei,vi,di⟩:=W.it h4;obtain⟨oj,ej,vj,dj⟩:=W'.it h5;have sW:c=z\/c=p\/c=q\/c=i\/c=j:=by simpa using hc
  rcases sW with rfl|rfl|rfl|rfl|rfl
  .exact⟨_,h1,λv z=>by cases z⟩
  .exact⟨_,h2,λv z=>by cases z⟩
  .exact⟨_,h3,λv z=>by cases z⟩
  .exact⟨_,ei,λv z=>by rw[di] at z;cases z⟩
  .exact⟨_,ej,λv z=>by rw[dj] at z;cases z⟩
 keep:=λn h g st kp=>by
  obtain⟨h1,h2,⟨u,v,h3⟩,h4,h5⟩:=st;exact⟨kp z (by simp) _ h1,kp p (by simp) _ h2,⟨u,v,kp q (by simp) _ h3⟩,W.at_ h4 λo e=>kp i (by simp) o e,W'.at_ h5 λo e=>kp j (by simp) o e⟩
 item:=by
  intro X hP hw hK hc n pZ s σ H E I hf st hg;subst hP hw;obtain⟨xs,ys,x,y,hx,hy,ex,ey⟩:=hg;obtain⟨its,rv,Ii,oa,ea,ca,na,da⟩:=W.get hK I hx;obtain⟨a8,Ai,Ih,ob,eb,cb,nb,db⟩:=W'.get hK I hy;obtain⟨u,hu,ru⟩:=rv.get ex;obtain⟨v,hv,iB⟩:=Ai.get ey;obtain⟨h1,h2,⟨u0,v0,h3⟩,h4,h5⟩:=st;have fa:∀c∈[z,p,q,i,j],a≠c:=λc hc=>W.ne hK I hx<|hf c hc
  have fb:∀c∈[z,p,q,i,j],b≠c:=λc hc=>W'.ne hK I hy<|hf c hc
  have hn:n<its.toArray.size:=by obtain⟨q',_⟩:=ba.mp hu;simpa using q'
  have hm:n<a8.toArray.size:=by obtain⟨q',_⟩:=ba.mp hv;simpa using q'
  have BL:ZZ.Ap z p q i j [i,a] [j,b]:=⟨ap.pz,ap.qz,ap.iz,ap.jz,ap.pq,ap.pi,ap.pj,ap.qi,ap.qj,ap.ij,
   by simp;exact⟨ap.iz.symm,(fa z<|by simp).symm⟩,by simp;exact⟨ap.qi,(fa q<|by simp).symm⟩,by simp;exact⟨ap.ij.symm,(fa j<|by simp).symm⟩,by simp;exact⟨ap.jz.symm,(fb z<|by simp).symm⟩,by simp;exact⟨ap.qj,(fb q<|by simp).symm⟩,by simp;exact⟨ap.ij,(fb i<|by simp).symm⟩⟩
  refine ZZ.IU (W.dr (A:=X.A.in1) (I.ok.hd hc) i a (fa i<|by simp) its.toArray) (W'.dr (A:=X.A.in1) (I.ok.hd hc) j b (fb j<|by simp) a8.toArray) BL h1 h2 h3 ⟨h4,oa,ea,ca,na,da⟩ ⟨h5,ob,eb,cb,nb,db⟩ hn hm λx' y' g tk px py z1 q1 s1 u1 t1 sz kp=>⟨_,rfl,?_⟩
  refine aac z1 λg2 z2 sb=>?_
  have lK:x'=u:=by
   have:its[n]?=aA x':=by simpa using px
   rw[hu] at this;exact(bv this).symm
  have q_:y'=v:=by
   have:a8[n]?=aA y':=by simpa using py
   rw[hv] at this;exact(bv this).symm
  subst lK q_;have zl:z<s.heap.objs.size:=aw h1;have lJ:∀c o,c∉[z,q,i,j]->s.heap.get? c=aA o->g2.get? c=aA o:=λc o hc e=>by
   simp at hc;exact sb.extBut _ _ hc.1<|kp c o hc.1 hc.2.1 hc.2.2.1 hc.2.2.2 e
  have DR:IsTup g2 s.heap.objs.size #[x',y']:=⟨_,sb.extBut _ _ (lr zl) t1,rfl,_,rfl⟩;have BC:∀c∈[z,q,i,j],gZ X pZ H c:=λc hc=>hf c (by simp at hc ⊢;rcases hc with h|h|h|h<;>simp[h])
  refine⟨.ref s.heap.objs.size,upd H s.heap.objs.size<|.tup [x,y],nC (s:=s) (t':=tk) I (its:=[x',y']) (ch:=[z,q,i,j]) BC (al _) lJ (by show 2<=ar;decide) (.cons ru<|.cons iB .nil) DR,rfl,⟨_,x,y,rfl,I.aI.fresh<|al _,rfl,λzs p_=>by rw[W.inj hK I p_ hx];exact ex,λzs p_=>by rw[W'.inj hK I p_ hy];exact ey⟩,?_,λc hc=>?_⟩
  .refine⟨z2,sb.extBut _ _ ap.pz<|kp p _ ap.pz ap.pq ap.pi ap.pj h2,⟨_,_,sb.extBut _ _ ap.qz q1⟩,W.at_ s1.1 λo e=>sb.extBut _ _ ap.iz e,W'.at_ u1.1 λo e=>sb.extBut _ _ ap.jz e⟩
  .have eF:c<s.heap.objs.size:=by
    obtain⟨oi,ei,_⟩:=W.it h4;obtain⟨oj,ej,_⟩:=W'.it h5;simp at hc;rcases hc with rfl|rfl|rfl|rfl|rfl
    .exact zl
    .exact aw h2
    .exact aw h3
    .exact aw ei
    .exact aw ej
   rw[zT<|bh eF];exact(hf c hc).1
 done:=by
  intro X hP hw hK hc n pZ s σ H E I hf st hg;subst hP hw;obtain⟨xs,ys,hx,hy,hl⟩:=hg;obtain⟨its,rv,Ii,oa,ea,ca,na,da⟩:=W.get hK I hx;obtain⟨a8,Ai,Ih,ob,eb,cb,nb,db⟩:=W'.get hK I hy;obtain⟨h1,h2,⟨u0,v0,h3⟩,h4,h5⟩:=st;have fa:∀c∈[z,p,q,i,j],a≠c:=λc hc=>W.ne hK I hx<|hf c hc
  have fb:∀c∈[z,p,q,i,j],b≠c:=λc hc=>W'.ne hK I hy<|hf c hc
  have e1:=rv.length;have e2:=Ai.length;have BL:ZZ.Ap z p q i j [i,a] [j,b]:=⟨ap.pz,ap.qz,ap.iz,ap.jz,ap.pq,ap.pi,ap.pj,ap.qi,ap.qj,ap.ij,
   by simp;exact⟨ap.iz.symm,(fa z<|by simp).symm⟩,by simp;exact⟨ap.qi,(fa q<|by simp).symm⟩,by simp;exact⟨ap.ij.symm,(fa j<|by simp).symm⟩,by simp;exact⟨ap.jz.symm,(fb z<|by simp).symm⟩,by simp;exact⟨ap.qj,(fb q<|by simp).symm⟩,by simp;exact⟨ap.ij,(fb i<|by simp).symm⟩⟩
  have BC:∀c∈[z,q,i,j],gZ X pZ H c:=λc hc=>hf c (by simp at hc ⊢;rcases hc with h|h|h|h<;>simp[h])
  refine ZZ.IV (W.dr (A:=X.A.in1) (I.ok.hd hc) i a (fa i<|by simp) its.toArray) (W'.dr (A:=X.A.in1) (I.ok.hd hc) j b (fb j<|by simp) a8.toArray) BL h1 h2 h3 ⟨h4,oa,ea,ca,na,da⟩ ⟨h5,ob,eb,cb,nb,db⟩ ?_ λg tk kp=>⟨rfl,dE I BC λc o hc e=>?_⟩
  .simp only[ao];rcases hl with h|⟨h,h'⟩
   .left;omega
   .right;omega
  .simp at hc;exact kp c o hc.1 hc.2.1 hc.2.2.1 hc.2.2.2 e
 self:=λ_ _ _ _ _ st h=>se st.1 h
def T5{K:Fg}(mo:∀a,M a->O a)(ol:cG O H)(kx:∀H1,d7 M H H1->sq H1 u xs)(ky:∀H1,d7 M H H1->Ah H1 v ys)(il:IsL K O H l xs)(im:IsL K O H m ys):BZ K O M H (Ez sq Ah u v) (XY l m):=by
 intro i H1 O' kp oo;have sR:d7 O H H1:=λb o e n=>kp b o e λz=>n<|mo b z
 have hlen:(XY l m).length=min l.length m.length:=by simp[XY]
 refine⟨λhi=>⟨?_,λx H' y=>?_⟩,λhi=>⟨xs,ys,kx H1 kp,ky H1 kp,?_⟩⟩
 .obtain⟨d,e⟩:=kW hi;obtain⟨dx,dy,e1,e2,_⟩:=nR e;obtain⟨vx,q1,_⟩:=il.get e1;obtain⟨vy,q2,_⟩:=im.get e2;exact⟨xs,ys,vx,vy,kx H1 kp,ky H1 kp,q1,q2⟩
 .obtain⟨T,p,q,rfl,nT,rfl,h1,h2⟩:=y;refine⟨zW nT,λd e=>?_⟩;obtain⟨dx,dy,e1,e2,rfl⟩:=nR e;obtain⟨vx,q1,i1⟩:=il.get e1;obtain⟨vy,q2,i2⟩:=im.get e2;have p1:=h1 xs<|kx H1 kp;have p2:=h2 ys<|ky H1 kp;rw[q1] at p1;rw[q2] at p2;cases p1;cases p2;have kk:d7 O H (upd H1 T<|.tup [p,q]):=λb o e' n=>by
   have:=sR b o e' n
   rw[zT<|xD this nT];exact this
  rw[zX];exact⟨T,_,rfl,aM.of zR,.cons (Is.mono kk ol oo _ _ i1)<|.cons (Is.mono kk ol oo _ _ i2) .nil⟩
 .have e1:=il.length;have e2:=im.length;rw[hlen] at hi;omega
def Pz(K:Fg)(ta tb:TE):TI:=λσ H R=>ta σ H λx H1=>tb σ H1 λy H2=>∃u v,x=.ref u/\y=.ref v /\
 (((∃xs,aN K H2 u xs)/\(∃ys,aN K H2 v ys)/\R (CF (aN K) u v) H2)\/((∃xs,aM K H2 u xs)/\(∃ys,aM K H2 v ys)/\R (CF (aM K) u v) H2)\/((∃xs,aM K H2 u xs)/\(∃ys,aN K H2 v ys)/\R (Ez (aM K) (aN K) u v) H2))
def Tb(hg:Gl X "zip")(hm:X.mg "zip" = aB)(ha:PE X a ta)(hb:PE X b tb)(hs:bp [a,b] X.env=[(false,eval a X.env),(false,eval b X.env)]:=by rfl)(fH:bp [b] X.env=[(false,eval b X.env)]:=by rfl):PI X (.Tuple elts k tp) (.Call (.Name "zip" p) [a,b] [] pos) (Pz X.K ta tb):=by
 intro pZ s σ H R I h;have hA:PA X [a,b] (C6 ta<|C6 tb EA):=yN ha (yN hb x8 fH) (hs.trans<|by rw[fH]);refine Call_<|mG I hg hm PyProof.Rows.boot_zip<|og (aK (hA pos pZ s σ H (z2 λx y H2=>∃u v,x=.ref u/\y=.ref v/\(((∃xs,aN X.K H2 u xs)/\(∃ys,aN X.K H2 v ys)/\R (CF (aN X.K) u v) H2)\/((∃xs,aM X.K H2 u xs)/\(∃ys,aM X.K H2 v ys)/\R (CF (aM X.K) u v) H2)\/((∃xs,aM X.K H2 u xs)/\(∃ys,aN X.K H2 v ys)/\R (Ez (aM X.K) (aN X.K) u v) H2))) I h) λus s1 ⟨vs,H1,I1,r1,q1⟩=>?_) (by rw[hs,fH]) (by rw[fH];rfl);obtain⟨_,_,rfl,u,v,rfl,rfl,q5⟩:=RZ q1;obtain⟨uu,vv,rfl,ru,rv⟩:=Vals.two r1;cases ru;cases rv;have IH:∀b∈[s1.heap.objs.size+4,s1.heap.objs.size+2,s1.heap.objs.size+3,s1.heap.objs.size,s1.heap.objs.size+1],gZ X pZ H1 b:=λb hb=>by
  have hle:s1.heap.objs.size<=b:=by
   simp only[mj,bb,or_false] at hb;rcases hb with h|h|h|h|h
   .rw[h];exact mh _ _
   .rw[h];exact mh _ _
   .rw[h];exact mh _ _
   .rw[h];exact al _
   .rw[h];exact mh _ _
  exact I1.Ar hle<|I1.aI.fresh hle
 rcases q5 with q2|q2|q2
 .obtain⟨⟨xs,hx⟩,⟨ys,hy⟩,q⟩:=q2;obtain⟨its,_,pl,_⟩:=I1.list hx;obtain⟨a8,_,iT,_⟩:=I1.list hy;refine call_zip_2 pl.isList iT.isList λh' z1 z2 z3 z4 z5 _ kp=>se z1 ?_
  exact⟨_,_,_,_,H1,rfl,I1.kept (t':=s1.toks) kp,ZI (Mr X.K) u v _ _ _ _ _<|Gm _,⟨z1,z2,⟨_,_,z3⟩,z4,z5⟩,IH,q⟩
 .obtain⟨⟨xs,hx⟩,⟨ys,hy⟩,q⟩:=q2;obtain⟨its,_,pl,_⟩:=I1.tuple hx;obtain⟨a8,_,iT,_⟩:=I1.tuple hy;refine ZZ.Ot pl iT λh' z1 z2 z3 z4 z5 kp=>se z1 ?_
  exact⟨_,_,_,_,H1,rfl,I1.kept (t':=s1.toks) kp,ZI (KN X.K) u v _ _ _ _ _<|Gm _,⟨z1,z2,⟨_,_,z3⟩,z4,z5⟩,IH,q⟩
 .obtain⟨⟨xs,hx⟩,⟨ys,hy⟩,q⟩:=q2;obtain⟨its,_,pl,_⟩:=I1.tuple hx;obtain⟨a8,_,iT,_⟩:=I1.list hy;refine ZZ.Oq pl iT.isList λh' z1 z2 z3 z4 z5 kp=>se z1 ?_
  exact⟨_,_,_,_,H1,rfl,I1.kept (t':=s1.toks) kp,X2 (KN X.K) (Mr X.K) u v _ _ _ _ _<|Gm _,⟨z1,z2,⟨_,_,z3⟩,z4,z5⟩,IH,q⟩
def C3(f g:ME):ML:=λr=>(f r).bind λd=>(g r).bind λe=>match d,e with
 |.lst l,.lst m=>aA<|XY l m
 |.tup l,.tup m=>aA<|XY l m
 |.tup l,.lst m=>aA<|XY l m
 |_,_=>aB
def Sn(hg:Gl X "zip")(hm:X.mg "zip" = aB)(ha:DE X a f)(hb:DE X b g)(hs:bp [a,b] X.env=[(false,eval a X.env),(false,eval b X.env)]:=by rfl)(fH:bp [b] X.env=[(false,eval b X.env)]:=by rfl):DI X (.Tuple elts k tp) (.Call (.Name "zip" p) [a,b] [] pos) (C3 f g):=by
 refine PI.aH (Tb hg hm ha hb hs fH) λσ H Rr hq=>?_
 obtain⟨O0,r,ds,hR,e,q⟩:=hq;obtain⟨x,e1,e⟩:=aF e;obtain⟨y,e2,e⟩:=aF e;refine⟨O0,r,x,hR,e1,λv1 H1 s1 i1=>⟨O0,r,y,hR.same s1,e2,λv2 H2 s2 i2=>?_⟩⟩;have R2:=hR.same<|s1.trans s2;have o_:=i1.same s2 (hR.same s1).ol;have mo:∀a,g_ r σ a->Ow O0 r σ a:=λa z=>.inr z.own
 cases x<;>first|(simp only[reduceCtorEq] at e;done)|skip
 all_goals cases y<;>first|(simp only[reduceCtorEq] at e;done)|skip
 .simp only[gn] at e;subst e;rw[zX] at o_ i2;obtain⟨u,xs,rfl,hx,il⟩:=o_;obtain⟨v,ys,rfl,hy,im⟩:=i2;exact⟨u,v,rfl,rfl,.inr<|.inl ⟨⟨xs,hx⟩,⟨ys,hy⟩,q _ H2 (s1.trans s2)<|Lv mo R2.ol (GL mo R2.ol hx) (GL mo R2.ol hy) il im⟩⟩
 .simp only[gn] at e;subst e;rw[zX] at o_;rw[zY] at i2;obtain⟨u,xs,rfl,hx,il⟩:=o_;obtain⟨v,ys,rfl,hy,im⟩:=i2;exact⟨u,v,rfl,rfl,.inr<|.inr ⟨⟨xs,hx⟩,⟨ys,hy.sq⟩,q _ H2 (s1.trans s2)<|T5 mo R2.ol (GL mo R2.ol hx) (ES mo hy) il im⟩⟩
 .simp only[gn] at e;subst e;rw[zY] at o_ i2;obtain⟨u,xs,rfl,hx,il⟩:=o_;obtain⟨v,ys,rfl,hy,im⟩:=i2;exact⟨u,v,rfl,rfl,.inl ⟨⟨xs,hx.sq⟩,⟨ys,hy.sq⟩,q _ H2 (s1.trans s2)<|Lv mo R2.ol (ES mo hx) (ES mo hy) il im⟩⟩
open PySem PySem.Spec PyProof.Rows L2 PySem.W
section
open PySem.W PySem.Calls Builtin Builtin.ObjectAttr Builtin.Getset_descriptor
end
noncomputable def CO:D->D->Option D
 |.str [c],.int n=>if 0<=n/\n<=1000 then aA (.str<|bg n.toNat c) else aB
 |_,_=>aB
def mul_one(c:Nat)(n:Int)(h:0<=n):Txt.mul ⟨#[c]⟩ n=⟨(bg n.toNat c).toArray⟩:=by
 obtain⟨k,rfl⟩:=Int.eq_ofNat_of_zero_le h;have fo:∀(k:Nat) (a:Array Nat),(bg k #[c]).foldl (·++·) a=a++(bg k c).toArray:=by
  intro k
  induction k with
  |zero=>intro a;simp
  |succ k ih=>
   intro a;rw[qd,gp,ih,qd];apply Array.toList_inj.mp;simp
 unfold Txt.mul;split
 .rename_i hk
  have:k=0:=by omega
  subst this;rfl
 .split
  .rename_i hk
   have:k=1:=by
    have z:((⟨#[c]⟩:Str).length == 0)=false:=rfl;rw[z,aax,beq_iff_eq] at hk;omega
   subst this;rfl
  .show(⟨(bg (k:Int).toNat #[c]).foldl (·++·) #[]⟩:Str)=_;rw[fo];simp
noncomputable def Ko:R2:=λx y H Q=>∃(c:Nat) (n:Int),x=.str ⟨#[c]⟩/\y=.int n/\0<=n/\n<=1000/\Q (.str ⟨(bg n.toNat c).toArray⟩) H
def S3:a9 X (binaryOp .Mult) Ko:=by
 intro pZ s σ H x y v u Q I rx ry hq;obtain⟨c,n,rfl,rfl,h0,h1,q⟩:=hq;obtain⟨k,rfl⟩:=rx;obtain⟨k',rfl⟩:=ry;refine SB.mul ⟨?_,λ_ _=>?_,λ_ _=>?_⟩ λt' k=>?_
 .simp only[Bool.or_eq_false_iff,decide_eq_false_iff_not];omega
 .show ¬((1:Nat):Int) > _
  have:(1:Int)<=(2 ^ 63-1) / n:=by
   rename_i hn _;exact(Int.le_ediv_iff_mul_le<|by omega).mpr (by omega)
  omega
 .show ado (1*n.toNat)=false;unfold ado
  have:n.toNat<=1000:=by omega
  simp only[decide_eq_false_iff_not,Nat.one_mul]
  have:(1000:Nat)<=ar:=by decide
  omega
 .rw[mul_one c n h0];exact⟨.str _,H,I.tok _,⟨_,rfl⟩,q⟩
def To{K:Fg}:e_ K Ko CO:=by
 intro O H dx dy d vx vy Q ol ix iy e q;unfold CO at e;split at e
 .rename_i c n;split at e
  .rename_i hh;cases e;rw[yC] at ix;rw[zM] at iy;exact⟨c,n,ix,iy,hh.1,hh.2,q _ H (aC.refl H)<|by rw[yC]⟩
  .cases e
 .cases e
def gL(z:BO):En->Option (D×En):=λr=>(z r).bind λq=>if q.1.length<=ar then aA (.tup q.1,q.2) else aB
def G4{x1}(h:Es X es z):DX X (.Tuple es x1 pos) (gL z):=by
 refine PE.aH (Hc h) λσ H Q h=>?_
 obtain⟨O0,r,d,r',hR,e,q⟩:=h;obtain⟨⟨l,r1⟩,e1,e2⟩:=aF e;split at e2
 .rename_i hl;cases e2;refine⟨O0,r,l,r1,hR,e1,λvs H1 R1 k1 i1=>⟨by rw[<-i1.length];exact hl,λp hp=>?_⟩⟩;refine q _ _ (R1.same<|zW hp) (k1.trans<|Kp.of_same r1 σ<|zW hp) ?_;rw[zX];exact⟨p,vs,rfl,aM.of zR,i1.same (zW hp) R1.ol⟩
 .cases e2
structure Er(ks:List Str)(vs:List Value)(out:List Value):Prop where
 ex:∃ps:List (Str×Value),ps.Perm (ks.zip vs)/\out=ps.map (·.2)/\ps.Pairwise λp q=>¬q.1.cps.toList<p.1.cps.toList
def UX(hS:StrsAre keys ks)(vs:List Value):(keys.zip vs).map (λp=>(strOf p.1,p.2))=ks.zip vs:=by
 rw[<-hS.strs,List.zip_map_left];rfl
def W7{keys:Array Value}{ks:List Str}{vs:List Value}(hS:StrsAre keys.toList ks){xs:Array Keyed}(hp:xs.Perm (keys.zip vs.toArray))(hs:SortedToK strKind xs xs.size):Er ks vs (xs.map (·.2)).toList:=by
 have hl:xs.toList.Perm (keys.toList.zip vs):=by
  have:=oy.mp hp
  rwa [ksk_zip] at this
 have FV:∀p∈xs.toList,∃x t,p.1=.str x t:=λp h=>hS.all _ (sy<|hl.mem_iff.mp h).1
 refine⟨xs.toList.map λp=>(strOf p.1,p.2),?_,?_,?_⟩
 .have:=hl.map λp:Keyed=>(strOf p.1,p.2)
  rwa [UX hS] at this
 .rw[yu,dm];rfl
 ·(rw[ck])
  intro i j hi hj eP
  (have fL:i<xs.size:=by simpa using hi)
  (have FZ:j<xs.size:=by simpa using hj)
  have h1:=hs i j (vn eP) FZ;obtain⟨x,t,ex⟩:=FV xs[i] (by simp);obtain⟨y,u,ey⟩:=FV xs[j] (by simp)
  (rw[KK_str fL (x:=x) (t:=t) (q:=xs[i].2)<|va ex rfl,KK_str FZ (x:=y) (t:=u) (q:=xs[j].2)<|va ey rfl] at h1)
  have h2:¬y.cps.toList<x.cps.toList:=of_decide_eq_false h1
  (simp only[jm,Array.getElem_toList])
  rw[show strOf xs[i].1=x by rw[ex];rfl,show strOf xs[j].1=y by rw[ey];rfl];exact h2
def gM{st:SortSt}(na:s.heap.get? a=aA (seqObj "list" #[] e1))(nk:s.heap.get? kS=aA (seqObj "list" keys e))(FX:kS≠a)(hk:StrsAre keys.toList ks)(hlen:keys.size=vs.length)(iD:vs.length<64)(hp:(arrOf st).Perm (keys.zip vs.toArray))(hs:SortedToK strKind (arrOf st) (arrOf st).size)(Ya:failedOf st=aB)(h:∀out,Er ks vs out.toList->out.size=vs.length->P (.done<|.ret .none) { s with heap:=(s.heap.update kS<|cj λ_=>(#[]:Array Value)).update a (cj λ_=>out) }):wpAny (model prog w) A (ksk_tail a false e1 (.ref kS) st) P E s:=by
 have hsz2:(arrOf st).size=vs.length:=by rw[hp.size_eq,Array.size_zip,hlen,ao,abx]
 have NA:((arrOf st).map (·.2)).size=vs.length:=by rw[Array.size_map];exact hsz2
 (have s1:=gx s.heap kS<|cj λ_=>(#[]:Array Value))
 have Nh:(s.heap.update kS<|cj λ_=>(#[]:Array Value)).get? a=aA (seqObj "list" #[] e1):=(s1.2 a FX.symm).trans na;unfold ksk_tail
 try dsimp only
 refine aa<|qm nk rfl ?_ (by rw[hlen,gk];omega)<|bu _;refine aa<|yz ?_
 (refine aa<|wt Nh rfl ?_)
 (refine aa<|qm Nh rfl ?_ (bu _)<|cz (uc NA) (by rw[gk];omega))
 rw[Ya]
 (simp only[bne_self_eq_false,bx,if_false])
 exact af<|h _ (W7 hk hp hs) NA
section
variable{prog:Program}{w:World}{A:Around}{E:Value->Shared->Prop}{s:Shared}{P:PySem.Fin->Shared->Prop}{a kS:Addr}{vs:List Value}{ks:List Str}{e1:Nat}
def W6{keys:Array Value}{vs:List Value}{ks:List Str}(hS:StrsAre keys.toList ks):KeysOf strKind (keys.zip vs.toArray):=by
 intro p hp;rw[ksk_zip] at hp;obtain⟨x,t,e⟩:=hS.all _ (sy (show(p.1,p.2)∈_ from hp)).1
 (exact⟨x.cps.toList,by rw[e]⟩)
def W5(hS:StrsAre keys.toList ks)(h2:2<=keys.size):keyKind' keys=pure oneType':=by
 obtain⟨v1,v2,rest,e⟩:∃v1 v2 rest,keys.toList=v1::v2::rest:=by
  (have hl:2<=keys.toList.length:=by rw[cw];exact h2)
  match q:keys.toList,hl with
  |v1::v2::rest,_=>exact⟨v1,v2,rest,rfl⟩
 have ek:keys=(v1::v2::rest).toArray:=by rw[<-e,add]
 rw[e] at hS;rw[ek];exact keyKind_strs hS
def W8{keys:Array Value}{e:Nat}(na:s.heap.get? a=aA (seqObj "list" #[] e1))(nk:s.heap.get? kS=aA (seqObj "list" keys e))(FX:kS≠a)(hk:StrsAre keys.toList ks)(hlen:keys.size=vs.length)(iD:vs.length<64)(h:∀out,Er ks vs out.toList->out.size=vs.length->P (.done<|.ret .none) { s with heap:=(s.heap.update kS<|cj λ_=>(#[]:Array Value)).update a (cj λ_=>out) }):wpAny (model prog w) A (ksk_end a false vs.toArray e1 (.ref kS) keys) P E s:=by
 have p_:(keys.zip vs.toArray).size=vs.length:=by rw[Array.size_zip,hlen,ao,abx]
 unfold ksk_end
 try dsimp only
 rw[if_neg<|by decide]
 (by_cases h2:vs.toArray.size<2)
 .rw[if_pos h2,if_pos h2];refine aa<|af ?_;rw[StateT.run_pure];refine aa<|af ?_
  try dsimp only
  refine gM (st:=SortSt.mk' general' (keys.zip vs.toArray) #[] 7 aB) na nk FX hk hlen iD (wj _) ?_ rfl h;intro i j eP hj;have FY:j<(keys.zip vs.toArray).size:=hj;rw[p_] at FY;rw[ao] at h2;obtain rfl:i=j:=by omega
  show decide (_<_)=false;exact decide_eq_false<|uq _
 .rw[if_neg h2,if_neg h2];rw[ao] at h2;rw[W5 hk (by rw[hlen];omega)];refine aa<|af ?_;refine aa (je (wpS_sortRunsK (a₀:=keys.zip vs.toArray) (st:=SortSt.mk' oneType' (keys.zip vs.toArray) #[] 7 aB)
   (Q:=λ_ eJ=>(arrOf eJ).Perm (keys.zip vs.toArray)/\failedOf eJ=aB/\SortedToK strKind (arrOf eJ) (keys.zip vs.toArray).size)
   strKind_oneLt (W6 hk) ⟨wj _,rfl,rfl,rfl⟩ (by rw[p_];omega) (by rw[p_];exact iD) λeJ a1 a2 a3=>⟨a1,a2,a3⟩) ?_ λ_ _ e=>e)
  (rintro ⟨⟨⟩,eJ⟩ s' ⟨rfl,hp,hf,hs⟩)
  try dsimp only
  exact gM na nk FX hk hlen iD hp (by rw[hp.size_eq];exact hs) hf h
theorem n0:∀{us:List Value} {ks:List Str},StrsAre us ks->StrsAre (us++[.str x t]) (ks++[x])
 |_,_,.nil=>.cons _ _ .nil
 |_,_,.cons y u h=>.cons _ _<|n0 h
theorem mV:∀{us:List Value} {ks:List Str},StrsAre us ks->us.length=ks.length
 |_,_,.nil=>rfl
 |_,_,.cons y u h=>congrArg (·+1)<|mV h
def tS{f:Value}(J:Array Value->Nat->Shared->Prop)(hlen:ks.length=vs.length)(iD:vs.length<64)(jk:∀kA e s',J kA e s'->s'.heap.get? kS=aA (seqObj "list" kA e))(push:∀kA e s' k,J kA e s'->kA.size<64->∃c,J (kA.push k) c { s' with heap:=s'.heap.update kS (cj (·.push k)) })(turn:∀(i:Nat) (v:Value) (k:Str),vs[i]?=aA v->ks[i]?=aA k->∀kA e s',J kA e s'->wpAny (model prog w) A (call f [v]) (λu Br=>∃t,u=.str k t/\J kA e Br) (λ_ _=>False) s')(fin:∀kA e s',J kA e s'->StrsAre kA.toList ks->wpAny (model prog w) A (ksk_end a false vs.toArray e1 (.ref kS) kA) P E s')(h0:J #[] 0 s):wpAny (model prog w) A (ksk_rest a f false vs.toArray e1<|.ref kS) P E s:=by
 unfold ksk_rest;refine aa<|ue ?_
 first
  |rw[List.forIn_toArray]
  |((rw[<-xr];simp only[xb]))
 refine aa<|ksk_fold (λi s'=>∃kA e,J kA e s'/\StrsAre kA.toList (ks.take i)) vs 0 s ⟨#[],0,h0,by simpa using StrsAre.nil⟩ ?step ?done
 case step=>
  rintro j x s' hx ⟨kA,e,hJ,hk⟩
  (simp only[ub] at hk ⊢)
  (have hj:j<vs.length:=(ba.mp hx).1)
  obtain⟨k,NG⟩:∃k,ks[j]?=aA k:=⟨_,au<|by omega⟩;have hz:kA.size<=j:=by
   have h1:=mV hk
   (rw[cw,cu] at h1)
   omega
  refine aa<|ql<|je (turn j x k hx NG kA e s' hJ) (λv Br he=>?_) λ_ _ hF=>hF.elim;obtain⟨t,rfl,NW⟩:=he
  try dsimp only
  obtain⟨c,Yy⟩:=push kA e Br (.str k t) NW (by omega);have ek:ks.take (j+1)=ks.take j++[k]:=by rw[List.take_add_one,NG];rfl
  have ea:(kA.push<|Value.str k t).toList=kA.toList++[Value.str k t]:=by simp
  refine aa<|qm (jk _ _ _ NW) rfl ?_ (by rw[gk];omega)<|cz (uc<|Array.size_push ..) (by rw[gk];omega);exact af ⟨rfl,_,c,Yy,by rw[ea,ek];exact n0 hk⟩
 case done=>
  rintro s' ⟨kA,e,hJ,hk⟩;have e3:ks.take (0+vs.length)=ks:=vo (by omega);rw[e3] at hk
  try dsimp only
  refine aa<|abq (jk _ _ _ hJ) rfl ?_;exact fin kA e s' hJ hk
end
def Inv.adopt(I:Inv X pZ σ H s)(k:∀b u,b≠a->s.heap.get? b=aA u->h'.get? b=aA u)(f:gZ X pZ H a)(there:∃u,h'.get? a=aA u)(new:d_ X.prog X.w (upd H a o) h' a o):Inv X pZ σ (upd H a o) { s with heap:=h',toks:=t' }:=by
 obtain⟨hn,hL,_,h1,h2,h3⟩:=f;have ne:∀b u,H b=aA u->b≠a:=λb u e z=>by rw[z,hn] at e;cases e
 refine I.step (g':=s.gens) (d':=s.drawn) (ch:=[a]) (λb hb=>?_) (λb u _ _ hc e _=>k b u (λz=>hc<|by simp[z]) e) (λb u _ _ hc e _=>⟨u.slots,k b u (λz=>hc<|by simp[z]) e⟩) (λb u hc _ n=>by rw[zT λz=>hc<|by simp[z]];exact n)
  (λb u hc e=>⟨u,k b u (λz=>hc<|by simp[z]) e⟩) (λb xs e=>by rw[zT<|ne b _ e];exact e) (λb u xs e=>by rw[zT<|ne b _ e];exact e) (λb ps e=>⟨#[],by rw[zT<|ne b _ e,e];simp⟩) (λm hm=>?_) (λb u e=>?_) I.bare
 .obtain rfl:b=a:=by simpa using hb
  exact⟨h1,hL,h2,h3⟩
 .obtain⟨ob,es,ep,ho,r⟩:=hm;exact⟨ob,es,ep,k _ ob (ua hL) ho,r⟩
 .by_cases hb:b=a
  .subst hb;rw[zR] at e;cases e;exact new
  .rw[zT hb] at e;refine(I.aI b u e).Ag (λc v hc q=>k c v ?_ q) (λc q=>by rw[zT<|ne c _ q];exact q) (λc xs q=>by rw[zT<|ne c _ q];exact q) λc o u q=>by rw[zT<|ne c _ q];exact q
   rcases hc with z|z
   .rw[z];exact hb
   .exact ne c _ z
def XR(I:Inv X pZ σ H s)(h1:X.calm=true->A'.handled=aB)(h2:A'.frames=X.A.frames):Inv { X with A:=A',xe:=xe' } pZ σ H s:=
 ⟨⟨I.ok.mod,I.ok.kind,I.ok.glob,I.ok.blt,I.ok.above,I.ok.inj,I.ok.has,I.ok.CA,h1,h2.trans I.ok.frames,I.ok.C',I.ok.F6,I.ok.bs,I.ok.t_,I.ok.Bv,I.ok.Cz,I.ok.lN,I.ok.BH⟩,I.os,I.bare,I.base,I.loc,I.cell,I.free,I.sE,I.pin,I.aI,I.len⟩
inductive i6:List (Str×V)->List (Str×Value)->Prop
 |nil:i6 [] []
 |cons {k:Str} {x:V} {u:Value} {as:List (Str×V)} {rs:List (Str×Value)}:RelV x u->i6 as rs->i6 ((k,x)::as) ((k,u)::rs)
def i6.zip:∀{ks:List Str} {xs:List V} {us:List Value},Vals xs us->ks.length=xs.length->i6 (ks.zip xs) (ks.zip us)
 |[],_,_,_,_=>by simp;exact .nil
 |k::ks,[],_,h,e=>by simp at e
 |k::ks,x::xs,_,.cons r h,e=>by
  rw[xn,xn];exact .cons r (i6.zip h<|by simpa using e)
def i6.perm(h:ps.Perm rs):∀{as:List (Str×V)},i6 as rs->∃bs,bs.Perm as/\i6 bs ps:=by
 induction h with
 |nil=>intro as h;exact⟨as,.refl _,h⟩
 |cons x p ih=>
  intro as h;cases h with
  |cons r h=>
   obtain⟨bs,q,z⟩:=ih h;exact⟨_,q.cons _,.cons r z⟩
 |swap x y l=>
  intro as h;cases h with
  |cons r h=>cases h with
   |cons r' h=>exact⟨_,.swap ..,.cons r'<|.cons r h⟩
 |trans p1 p2 DW DV=>
  intro as h;obtain⟨bs,q,z⟩:=DV h;obtain⟨cs,q',z'⟩:=DW z;exact⟨cs,q'.trans q,z'⟩
def i6.vals:∀{as:List (Str×V)} {rs:List (Str×Value)},i6 as rs->Vals (as.map (·.2)) (rs.map (·.2))/\as.map (·.1)=rs.map (·.1)
 |_,_,.nil=>⟨.nil,rfl⟩
 |_,_,.cons r h=>⟨.cons r h.vals.1,by rw[am,am,h.vals.2]⟩
structure Gc(ks:List Str)(xs ys:List V):Prop where
 ex:∃qs:List (Str×V),qs.Perm (ks.zip xs)/\ys=qs.map (·.2)/\qs.Pairwise λp q=>¬q.1.cps.toList<p.1.cps.toList
def Er.toV(h:Er ks us out)(hv:Vals xs us)(hl:ks.length=xs.length):∃ys,Gc ks xs ys/\Vals ys out:=by
 obtain⟨ps,hp,rfl,ho⟩:=h.ex;obtain⟨qs,hq,hr⟩:=i6.perm hp<|i6.zip hv hl;obtain⟨h1,h2⟩:=hr.vals;refine⟨qs.map (·.2),⟨qs,hq,rfl,?_⟩,h1⟩;have e:(qs.map (·.1)).Pairwise λp q:Str=>¬q.cps.toList<p.cps.toList:=by
  rw[h2];exact du.mpr ho
 exact du.mp e
noncomputable abbrev Cx.two(X:Cx):Cx:={ X with A:=X.A.in1.in1,xe:=λ_ _=>False }
def PV(hc:X.calm=true)(I:Inv X pZ σ H s)(hS:aN X.K H p xs)(iD:xs.length<64)(hlen:ks.length=xs.length)(turn:∀(i:Nat) (x:V) (k:Str),xs[i]?=aA x->ks[i]?=aA k->∀(Dx:List (Addr×Obj)) (s':Shared) (H':Hp) (u:Value),aC H H'->Inv (Cx.two X) Dx σ H' s'->RelV x u ->
   wpAny (model X.prog X.w) X.A.in1.in1 (call (.ref f) [u]) (λv s2=>∃t H2,v=.str k t/\aC H' H2/\Inv (Cx.two X) Dx σ H2 s2) (λ_ _=>False) s')(q:∀(D:Addr) (ys:List V) (H':Hp),Gc ks xs ys->aC H H'->H D=aB->H' D=aB->Q (.ref D) (upd H' D<|.lst ys)):wpAny (model X.prog X.w) X.A (call (.builtin "sorted") [.ref p] [(jj "key",.ref f)]) (EP X pZ σ Q) X.xe s:=by
 obtain⟨its,rv,pl,hz⟩:=I.list hS;have hl:=rv.length;have iV:its.length<64:=by omega
 refine call_function_entry_kw acu abo abr (ksk_s1 _ _) ?_;unfold Builtin.«sorted»
 (refine aa (m:=checkCount "sorted" 1 1 _)<|af ?_)
 refine aa<|collect_list pl.isList ?_ (by rw[gk];omega)
 (refine aa<|uw ?_ (by rw[gk];omega))
 have hsz:((s.heap.push<|seqObj "list" #[] 0).update s.heap.objs.size<|cj (·++its.toArray)).objs.size=s.heap.objs.size+1:=by
  (rw[yq,zr])
 have AS:(((s.heap.push<|seqObj "list" #[] 0).update s.heap.objs.size<|cj (·++its.toArray)).push<|seqObj "list" its.toArray 0).get? (s.heap.objs.size+1)=aA (seqObj "list" its.toArray 0):=by
  (rw[<-hsz];exact ax _ rfl)
 have keep:∀b o,s.heap.get? b=aA o->(((s.heap.push<|seqObj "list" #[] 0).update s.heap.objs.size<|cj (·++its.toArray)).push<|seqObj "list" its.toArray 0).get? b=aA o:=λb o q=>by
  (have eF:b<s.heap.objs.size:=aw q)
  exact ac _<|(gj _ _ _ _<|bh eF).trans<|ac _ q
 have hsz2:(((s.heap.push<|seqObj "list" #[] 0).update s.heap.objs.size<|cj (·++its.toArray)).push<|seqObj "list" its.toArray 0).objs.size=s.heap.objs.size+2:=by rw[zr,hsz]
 show wpAny _ _ _ _ _ { s with heap:=((s.heap.push<|seqObj "list" #[] 0).update s.heap.objs.size<|cj (·++its.toArray)).push (seqObj "list" its.toArray 0) };rw[hsz];generalize ă:((s.heap.push<|seqObj "list" #[] 0).update s.heap.objs.size<|cj (·++its.toArray)).push (seqObj "list" its.toArray 0)=h1 at AS keep hsz2 ⊢;generalize hD:s.heap.objs.size+1=D at AS ⊢;refine aa<|gc<|wpAny_call_entry_kw zq ⟨_,AS,rfl⟩ zf ?body<|ksk_l1 _ _
 case body=>
  show wpAny (model X.prog X.w) X.A.in1.in1 (Builtin.«list.sort» ⟨[.ref D],[(jj "key",.ref f)]⟩) _ _ _;rw[ksk_t1];have lD:s.heap.objs.size<=D:=by omega
  have lk:s.heap.objs.size<=h1.objs.size+1:=by omega
  have fD:gZ X pZ H D:=I.Ar lD<|I.aI.fresh lD;have fk:gZ X pZ H (h1.objs.size+1):=I.Ar lk<|I.aI.fresh lk;have F4:D≠h1.objs.size+1:=by omega
  obtain⟨e1,Ee⟩:∃e1,(h1.update D<|cj λ_=>(#[]:Array Value)).get? D=aA (seqObj "list" #[] e1):=⟨_,we AS λ_=>#[]⟩;have sb:=gx h1 D<|cj λ_=>(#[]:Array Value);have NH:((h1.update D<|cj λ_=>(#[]:Array Value)).push<|seqObj "tuple" its.toArray 0).objs.size=h1.objs.size+1:=by rw[zr,yq]
  have Nq:∀b o,s.heap.get? b=aA o->(((h1.update D<|cj λ_=>(#[]:Array Value)).push<|seqObj "tuple" its.toArray 0).push<|seqObj "list" #[] 0).get? b=aA o:=λb o e=>ac _<|ac _<|(sb.2 b<|bh<|bw (aw e) lD).trans<|keep b o e
  have Ic:(((h1.update D<|cj λ_=>(#[]:Array Value)).push<|seqObj "tuple" its.toArray 0).push<|seqObj "list" #[] 0).get? (h1.objs.size+1)=aA (seqObj "list" #[] 0):=by rw[<-NH];exact ax _ rfl
  have D0:(((h1.update D<|cj λ_=>(#[]:Array Value)).push<|seqObj "tuple" its.toArray 0).push<|seqObj "list" #[] 0).get? D=aA (seqObj "list" #[] e1):=ac _<|ac _ Ee;unfold ksk_tree;refine aa<|abq AS rfl ?_;refine aa<|qm AS rfl ?_ (by rw[ao,gk];omega)<|bu _
  (refine aa<|wt Ee rfl ?_)
  refine aa<|wo ?_ (by show its.length<=_;rw[gk];omega)
  (refine aa<|uw ?_<|bu _)
  refine gc ?_;rw[NH];generalize h1.objs.size+1=kS at fk F4 Ic ⊢;generalize Ă:((h1.update D<|cj λ_=>(#[]:Array Value)).push<|seqObj "tuple" its.toArray 0).push (seqObj "list" #[] 0)=h4 at Nq Ic D0
  let pk:Array Value->Nat->List (Addr×Obj):=λkA e=>[(kS,seqObj "list" kA e),(D,seqObj "list" #[] e1)]
  let J:Array Value->Nat->Shared->Prop:=λkA e s'=>∃H',aC H H'/\Inv (Cx.two X) (pZ++pk kA e) σ H' s'
  have M8:∀(o:Obj) (c:Array Value) (e:Nat),o=seqObj "list" c e->∀v,o.data≠.cell v:=λo c e z v y=>by subst z;cases y
  have pin:∀{H':Hp} {s':Shared} {kA:Array Value} {e:Nat},Inv (Cx.two X) pZ σ H' s'->H' kS=aB->H' D=aB->s'.heap.get? kS=aA (seqObj "list" kA e)->s'.heap.get? D=aA (seqObj "list" #[] e1)->Inv (Cx.two X) (pZ++pk kA e) σ H' s':=λ{H' s' kA e} I' n1 n2 g1 g2=>I'.HR λp hp=>by
   (rcases aq.mp hp with hp|hp)
   .exact I'.pin p<|cr _ hp
   .rcases bb.mp hp with(rfl|hp)
    .exact⟨g1,n1,fk.2.1,fk.2.2.1,M8 _ _ _ rfl⟩
    ·(rw[bf.mp hp])
     exact⟨g2,n2,fD.2.1,fD.2.2.1,M8 _ _ _ rfl⟩
  have f_:∀{H':Hp} {s':Shared} {kA:Array Value} {e:Nat},Inv (Cx.two X) (pZ++pk kA e) σ H' s'->(s'.heap.get? kS=aA (seqObj "list" kA e)/\H' kS=aB)/\s'.heap.get? D=aA (seqObj "list" #[] e1)/\H' D=aB:=λ{H' s' kA e} I'=>by
   have a:=I'.pin (kS,seqObj "list" kA e)<|cr _<|cr _<|.head _;have b:=I'.pin (D,seqObj "list" #[] e1)<|cr _<|cr _<|.tail _<|.head _;exact⟨⟨a.1,a.2.1⟩,b.1,b.2.1⟩
  refine tS (ks:=ks) J (by omega) iV (λkA e s' hJ=>?jk) (λkA e s' k hJ hz=>?push) (λi v k h1 h2 kA e s' hJ=>?turn) (λkA e s' hJ hk=>?fin) ?h0
  case h0=>exact⟨H,aC.refl _,pin (XR (I.kept (t':=s.toks) Nq) (λh=>I.ok.hd h) rfl) (fk.1) (fD.1) Ic D0⟩
  case jk=>obtain⟨H',sm,I'⟩:=hJ;exact(f_ I').1.1
  case push=>
   obtain⟨H',sm,I'⟩:=hJ;obtain⟨⟨g1,n1⟩,g2,n2⟩:=f_ I';have sb:=gx s'.heap kS<|cj (·.push k);have I2:Inv (Cx.two X) pZ σ H' { s' with heap:=s'.heap.update kS (cj (·.push k)) }:=I'.B8.turned (t':=s'.toks) (λb o hb e=>(sb.2 b hb).trans e) n1 fk.2.1 fk.2.2.2.1 fk.2.2.2.2.1 fk.2.2.2.2.2;exact⟨_,H',sm,pin I2 n1 n2 (we g1 (·.push k))<|(sb.2 D F4).trans g2⟩
  case turn=>
   obtain⟨H',sm,I'⟩:=hJ;have hi:i<xs.length:=by rw[hl];exact(ba.mp h1).1
   obtain⟨u,e,r⟩:=rv.get<|au hi;rw[h1] at e;cases e;refine je (turn i xs[i] k (au hi) h2 _ s' H' v sm I' r) (λu s2 z=>?_) λ_ _ z=>z
   obtain⟨t,H2,e,Vo,I2⟩:=z;exact⟨t,e,H2,sm.trans Vo,I2⟩
  case fin=>
   obtain⟨H',sm,I'⟩:=hJ;obtain⟨⟨g1,n1⟩,g2,n2⟩:=f_ I';have Iv:=mV hk;rw[cw] at Iv;refine W8 g2 g1 F4.symm hk (by omega) iV λout ko lo=>⟨_,rfl,af ⟨_,rfl,?_⟩⟩
   obtain⟨ys,kv,vy⟩:=ko.toV rv hlen;have sb:=gx s'.heap kS<|cj λ_=>(#[]:Array Value);have I2:Inv (Cx.two X) pZ σ H' { s' with heap:=s'.heap.update kS (cj λ_=>(#[]:Array Value)) }:=I'.B8.turned (t':=s'.toks) (λb o hb e=>(sb.2 b hb).trans e) n1 fk.2.1 fk.2.2.2.1 fk.2.2.2.2.1 fk.2.2.2.2.2;have g3:(s'.heap.update kS<|cj λ_=>(#[]:Array Value)).get? D=aA (seqObj "list" #[] e1):=(sb.2 D F4).trans g2;have Fj:=gx (s'.heap.update kS<|cj λ_=>(#[]:Array Value)) D<|cj λ_=>out;obtain⟨c2,g4⟩:∃c2,((s'.heap.update kS<|cj λ_=>(#[]:Array Value)).update D<|cj λ_=>out).get? D=aA (seqObj "list" out c2):=⟨_,we g3 λ_=>out⟩;have U8:ys.length=its.length:=by rw[vy.length,cw,lo]
   have new:d_ X.prog X.w (upd H' D<|.lst ys) ((s'.heap.update kS<|cj λ_=>(#[]:Array Value)).update D<|cj λ_=>out) D (.lst ys):=⟨by rw[U8,gk];omega,out.toList,c2,vy,by rw[add];exact g4⟩;have I3:Inv (Cx.two X) pZ σ (upd H' D<|.lst ys) { s' with heap:=(s'.heap.update kS<|cj λ_=>(#[]:Array Value)).update D (cj λ_=>out) }:=Inv.adopt (s:={ s' with heap:=s'.heap.update kS (cj λ_=>(#[]:Array Value)) }) (t':=s'.toks) I2 (λb o hb e=>(Fj.2 b hb).trans e) ⟨n2,fD.2⟩ ⟨_,g4⟩ new;have I4:Inv X pZ σ (upd H' D<|.lst ys) { s' with heap:=(s'.heap.update kS<|cj λ_=>(#[]:Array Value)).update D (cj λ_=>out) }:=XR (X:=Cx.two X) (A':=X.A) (xe':=X.xe) I3 (λh=>I.ok.hd h) rfl;exact⟨.ref D,_,I4,rfl,q D ys H' kv sm fD.1 n2⟩
noncomputable abbrev KD:=List Nat×D
def B7(l:List KD):Prop:=l.Pairwise λp q=>¬q.1<p.1
open Classical in
def CQ(l:List KD):List D:=if h:∃m,m.Perm l/\B7 m then h.choose.map (·.2) else l.map (·.2)
def ZV(nd:(l.map (·.1)).Nodup)(p:m.Perm l)(h:B7 m):m.map (·.2)=CQ l:=by
 have ex:∃m,m.Perm l/\B7 m:=⟨m,p,h⟩;unfold CQ;rw[dif_pos ex];have Nf:(m.map (·.1)).Nodup:=(p.map _).nodup_iff.mpr nd;have key:∀a∈m,∀b∈m,a.1=b.1->a=b:=λa ha b hb e=>by
  obtain⟨i,hi,rfl⟩:=qg ha
  (obtain⟨j,hj,rfl⟩:=qg hb)
  rcases jh i j with z|z|z
  .exact absurd (by rw[jm,jm];exact e)<|(ck.mp Nf) i j (by simpa using hi) (by simpa using hj) z
  .subst z;rfl
  .exact absurd (by rw[jm,jm];exact e.symm)<|(ck.mp Nf) j i (by simpa using hj) (by simpa using hi) z
 have pm:=p.trans ex.choose_spec.1.symm;rw[aav (le:=λp q:KD=>¬q.1<p.1) (λa b ha hb x y=>key a ha b (pm.mem_iff.mpr hb)<|List.le_antisymm (as:=a.1) (bs:=b.1) x y) h ex.choose_spec.2 pm]
def ET(m:MF)(d:D):Option (List Nat):=(m [.v d]).bind λp=>match p.1 with
 |.v (.str s)=>aA s
 |_=>aB
def B5(m:MF):List D->Option (List KD)
 |[]=>aA []
 |d::l=>(ET m d).bind λs=>(B5 m l).map λr=>(s,d)::r
def EX(m:MF)(fl:ML):ML:=λr=>(fl r).bind λl=>(B5 m l).bind λq=>if q.length<64/\(q.map (·.1)).Nodup then aA (CQ q) else aB
theorem dB:∀{l:List D} {q:List KD},B5 m l=aA q->q.map (·.2)=l
 |[],q,h=>by cases h;rfl
 |d::l,q,h=>by
  obtain⟨s,_,h⟩:=aF h;obtain⟨r,h1,rfl⟩:=aT h;rw[am,dB h1]
theorem pI:∀{l:List D} {q:List KD} {i:Nat} {p:KD},B5 m l=aA q->q[i]?=aA p->l[i]?=aA p.2/\ET m p.2=aA p.1
 |[],q,i,p,h,e=>by cases h;simp at e
 |d::l,q,i,p,h,e=>by
  obtain⟨s,h0,h⟩:=aF h;obtain⟨r,h1,rfl⟩:=aT h;cases i with
  |zero=>cases e;exact⟨rfl,h0⟩
  |succ i=>
   have z:=pI (l:=l) (i:=i) h1 (by simpa using e);exact⟨by simpa using z.1,z.2⟩
inductive iI (K:Fg) (O:Addr->Prop) (H:Hp):List KD->List (Str×V)->Prop
 |nil:iI K O H [] []
 |cons {k:List Nat} {d:D} {x:V} {as:List KD} {bs:List (Str×V)}:Is K O H d x->iI K O H as bs->iI K O H ((k,d)::as) ((⟨k.toArray⟩,x)::bs)
def iI.perm{K:Fg}(h:ps.Perm rs):∀{as:List KD},iI K O H as rs->∃bs,bs.Perm as/\iI K O H bs ps:=by
 induction h with
 |nil=>intro as h;exact⟨as,.refl _,h⟩
 |cons x p ih=>
  intro as h;cases h with
  |cons r h=>
   obtain⟨bs,q,z⟩:=ih h;exact⟨_,q.cons _,.cons r z⟩
 |swap x y l=>
  intro as h;cases h with
  |cons r h=>cases h with
   |cons r' h=>exact⟨_,.swap ..,.cons r'<|.cons r h⟩
 |trans p1 p2 DW DV=>
  intro as h;obtain⟨bs,q,z⟩:=DV h;obtain⟨cs,q',z'⟩:=DW z;exact⟨cs,q'.trans q,z'⟩
def iI.FL{K:Fg}:∀{as:List KD} {bs:List (Str×V)},iI K O H as bs->IsL K O H (as.map (·.2)) (bs.map (·.2))/\bs.map (·.1)=as.map (λp=>(⟨p.1.toArray⟩:Str))
 |_,_,.nil=>⟨.nil,rfl⟩
 |_,_,.cons r h=>⟨.cons r h.FL.1,by rw[am,am,h.FL.2]⟩
def iI.of{K:Fg}:∀{as:List KD} {xs:List V},IsL K O H (as.map (·.2)) xs->iI K O H as ((as.map λp=>(⟨p.1.toArray⟩:Str)).zip xs)
 |[],xs,h=>by unfold IsL at h;subst h;exact .nil
 |(k,d)::as,xs,h=>by
  unfold IsL at h;obtain⟨v,vs,rfl,h1,h2⟩:=h;exact .cons h1<|iI.of h2
def Uj(hc:X.calm=true)(F:fP X.prog X.w X.K X.mg X.base h_ k f fd ps (fQ X.K 1 m))(hr:eD k X.A.in1.in1)(X_:Gl X x)(Xm:X.mg x=aA (.ref f))(hb:Binds X.K fd ps [])(hg:Gl X "sorted")(hm:X.mg "sorted" = aB)(ha:DB X a fl)(hs:bp [a] X.env=(false,eval a X.env)::bp [] X.env:=by rfl)(Wq:iH x:=by decide)(lM:(xy pos<|ur [⟨aA "key",.Name x pk,kp⟩] X.env).all (·.1.isSome)=true:=by rfl)(Xt:(xy pos<|ur [⟨aA "key",.Name x pk,kp⟩] X.env).any (·.1.isNone)=false:=by rfl)(Iv:(xy pos<|ur [⟨aA "key",.Name x pk,kp⟩] X.env).filterMap (·.1)=[jj "key"]:=by rfl)(Aq:wv pos (bp [a] X.env)=(false,eval a X.env)::wv pos (bp [] X.env):=by rfl)(hpl:(wv pos<|bp [a] X.env).any (·.1)=false:=by rfl):DF X (.Call (.Name "sorted" p') [a] [⟨aA "key",.Name x pk,kp⟩] pos) (EX m fl):=by
 intro pZ s σ H Q I hq;obtain⟨O0,r,l',hR,e,q⟩:=hq;obtain⟨l,e1,e2⟩:=aF e;obtain⟨kd,e3,e4⟩:=aF e2;split at e4
 .rename_i hz;cases e4;refine uh<|mG I hg hm qo ?_;refine PyProof.Rows.callWith_kw (aK ((yN ha x8 hs) pos pZ s σ H (λvs H1=>∃(p:Addr) (xs:List V),vs=[.ref p]/\aC H H1/\aN X.K H1 p xs/\IsL X.K (Ow O0 r σ) H1 l xs) I ⟨O0,r,l,hR,e1,λp xs H1 s1 sq il=>⟨p,xs,rfl,s1,sq,il⟩⟩) λus s1 ⟨vs,H1,I1,rv,p,xs,ev,sm,sq,il⟩=>?_) Aq hpl lM Xt;subst ev;obtain⟨u,rfl,ru⟩:=Vals.one rv;cases ru;refine aK ((Td (S8 (v:=.ref f) X_ Xm rfl Wq) R_) pos pZ s1 σ H1 (λzs H2=>zs=[.ref f]/\H2=H1) I1 ⟨rfl,rfl⟩) λws s2 ⟨zs,H2,I2,rz,ez,eh⟩=>?_
  subst ez eh;obtain⟨u,rfl,ru⟩:=Vals.one rz;cases ru;rw[Iv];have Xp:=il.length;have NE:kd.length=l.length:=by rw[<-dB e3,ah]
  show wpAny (model X.prog X.w) X.A (call (.builtin "sorted") [.ref p] [(jj "key",.ref f)]) (EP X pZ σ Q) X.xe s2;refine PV (ks:=kd.map λp=>(⟨p.1.toArray⟩:Str)) hc I2 sq (by omega) (by rw[ah];omega) (λi y k hy hk Dx s' H' u Ca I' ry=>?turn) λD ys H' ko Ca n1 n2=>?fin
  case turn=>
   rw[av] at hk;obtain⟨kp,ek,rfl⟩:=gt.mp hk;obtain⟨el,eo⟩:=pI e3 ek;obtain⟨y',ey,iy⟩:=il.get el;rw[hy] at ey;cases ey;obtain⟨⟨rs,eR⟩,em,er⟩:=aF eo;have R1:=(hR.same sm).same Ca;have Wf:Is X.K (Ow O0 r σ) H' kp.2 y:=Is.mono (aC.kp Ca _) (hR.same sm).ol (λ_ z _=>z) _ _ iy;cases rs with
   |f _=>cases er
   |g _ _=>cases er
   |v d=>
    cases d<;>first|(cases er;done)|skip
    cases er;refine aK (Lo (X:=Cx.two X) (Q:=λv H2=>v=.str ⟨kp.1.toArray⟩/\aC H' H2) (E:=λ_ _ _=>False) F hr hb .nil JR I' (.cons ry .nil)<|oA (X:=Cx.two X) R1 (aC.refl H') (ds:=[kp.2]) (.cons Wf .nil) rfl em λv H2 pf iv=>?_) λv s3 ⟨z,H3,I3,rz,ez,sz⟩=>?_
    .rw[yC] at iv;exact⟨iv,pf.same⟩
    .subst ez;obtain⟨t,rfl⟩:=rz;exact⟨t,H3,rfl,sz,I3⟩
  case fin=>
   obtain⟨qs,hp,rfl,ho⟩:=ko.ex;have eW:IsL X.K (Ow O0 r σ) H' (kd.map (·.2)) xs:=by rw[dB e3];exact il.same Ca (hR.same sm).ol
   obtain⟨bs,hq,hi⟩:=iI.perm hp<|iI.of eW;obtain⟨i1,i2⟩:=hi.FL;have up:B7 bs:=by
    have z:(qs.map (·.1)).Pairwise λp q:Str=>¬q.cps.toList<p.cps.toList:=du.mpr ho
    rw[i2] at z;exact(du.mp z).imp λh=>by simpa using h
   rw[ZV hz.2 hq up] at i1;have R2:=(hR.same sm).same Ca;refine q D _ _ ((sm.trans Ca).trans<|zW n2) (by exact(sm.free n1)) zR ?_;exact IsL.mono (aC.kp (zW n2) _) R2.ol (λb z hb=>z.elim id λz=>absurd n2 (by subst z;exact hb)) _ _ i1
 .cases e4
def CK:D->Option Key
 |.int i=>aA<|.inl i
 |.str s=>aA<|.inr ⟨s.toArray⟩
 |_=>aB
def B0:Key->D
 |.inl i=>.int i
 |.inr s=>.str s.cps.toList
def YU{K:Fg}{O:Addr->Prop}{H:Hp}{d:D}{v:V}{k:Key}(e:CK d=aA k)(h:Is K O H d v):v=kV k:=by
 cases d<;>first|(cases e;done)|skip
 .cases e;rw[zM] at h;exact h
 .cases e;rw[yC] at h;exact h
def LM{K:Fg}{O:Addr->Prop}{H:Hp}(k:Key):Is K O H (B0 k) (kV k):=by
 cases k with
 |inl i=>show Is K O H (.int i)<|.int i;rw[zM]
 |inr s=>show Is K O H (.str s.cps.toList)<|.str s;rw[yC]
def mX(ks:List Key)(l:List D)(k:Key)(d:D):List Key×List D:=if (ks.any λj=>decide (j=k))=true then (ks,ye (λj e=>if j=k then d else e) ks l) else (ks++[k],l++[d])
section
variable{K:Fg}{O0:Addr->Prop}{H H1 H':Hp}{r:En}{σ:St}{i:Nat}{d:D}{v:V}{a:Addr}
theorem Z3{O:Addr->Prop}{k:Key}(hd:Is K O H d v):∀{kvs:List (Key×V)} {l:List D},IsL K O H l (kvs.map (·.2))->IsL K O H (ye (λj e=>if j=k then d else e) (kvs.map (·.1)) l) ((kvs.map λkv=>if kv.1=k then (kv.1,v) else kv).map (·.2))
 |[],[],_=>.nil
 |[],d'::l,h=>by unfold IsL at h;obtain⟨_,_,e,_⟩:=h;cases e
 |p::kvs,[],h=>by unfold IsL at h;cases h
 |p::kvs,d'::l,h=>by
  unfold IsL at h;obtain⟨x,y,e,h1,h2⟩:=h;rw[am] at e;cases e;rw[am,am,am,List.zipWith_cons_cons];refine .cons ?_<|Z3 hd h2;by_cases q:p.1=k
  .rw[if_pos q,if_pos q];exact hd
  .rw[if_neg q,if_neg q];exact h1
def Z7{O:Addr->Prop}{k:Key}{kvs:List (Key×V)}{ks:List Key}{l:List D}(hk:kvs.map (·.1)=ks)(hl:IsL K O H l (kvs.map (·.2)))(hd:Is K O H d v):(uF kvs k v).map (·.1)=(mX ks l k d).1/\IsL K O H (mX ks l k d).2 ((uF kvs k v).map (·.2)):=by
 subst hk;have ea:(kvs.any λkv=>decide (kv.1=k))=((kvs.map (·.1)).any λj=>decide (j=k)):=by rw[aca];rfl
 unfold uF mX;rw[ea];by_cases q:((kvs.map (·.1)).any λj=>decide (j=k))=true
 .rw[if_pos q,if_pos q];refine⟨?_,Z3 hd hl⟩;rw[dm];refine qf λx _=>?_
  show(if x.1=k then (x.1,v) else x).1=x.1
  split<;>rfl
 .rw[if_neg q,if_neg q,bn,bn];exact⟨rfl,hl.append<|.cons hd .nil⟩
def R.Vu{ks:List Key}{l:List D}{kvs:List (Key×V)}{p:Addr}(h:R K O0 H r σ)(s:aC H H1)(n:H p=aB)(e:H1 p=aA (.dK kvs))(hk:kvs.map (·.1)=ks)(hl:IsL K (λb=>Ow O0 r σ b\/b=p) H1 l (kvs.map (·.2)))(hi:i<r.length)(np:∀l,(r[i]?).bind Sl.pk=aB/\r[i]?≠aA (.z l)):R K O0 H1 (r.set i<|.d false ks l) (σ.set i<|some<|.ref p)/\Kp H r σ H1 (r.set i<|.d false ks l) (σ.set i<|some<|.ref p):=
 h.setG s n e trivial (λ_ z=>by cases z) (λm z=>by cases z) rfl (λ_ _ _ z=>by cases z;exact⟨_,rfl,hk,hl⟩) (λ_ z=>by cases z) hi np
def OA{f:Bool}{ks eC:List Key}{l l':List D}:(Sl.d f ks l).pk=(Sl.d f eC l').pk:=by cases f<;>rfl
def R.VE{K:Fg}{O0:Addr->Prop}{H H':Hp}{r:En}{σ:St}{c:Addr}{fb:Bool}{ks eC:List Key}{l l':List D}{sQ:List (Key×V)}(h:R K O0 H r σ)(ei:r[i]?=aA (.d fb ks l))(ha:σ[i]?=aA (aA<|.ref c))(kp:∀b o,b≠c->H b=aA o->H' b=aA o)(lv:∀b,b≠c->H' b=aB->H b=aB)(e':H' c=aA (.dK sQ))(hk:sQ.map (·.1)=eC)(il:IsL K (Ow O0 r σ) H' l' (sQ.map (·.2))):R K O0 H' (r.set i<|.d fb eC l') σ/\Kp H r σ H' (r.set i<|.d fb eC l') σ:=
 h.HP ei rfl ha kp lv e' trivial (λ_ z=>by cases z) (λm z=>by cases z) (λm z=>by rcases z with z|z|⟨_,z⟩<;>cases z;exact⟨_,.inr<|.inr ⟨_,rfl⟩⟩) OA (λ_ _ _ z=>by cases z;exact⟨_,rfl,hk,il⟩) (λ_ z=>by cases z)
def R.Mv{f:Bool}{ks eC:List Key}{l l':List D}{kvs sQ:List (Key×V)}(h:R K O0 H r σ)(ei:r[i]?=aA (.d f ks l))(ha:σ[i]?=aA (aA<|.ref a))(hx:H a=aA (.dK kvs))(hk:sQ.map (·.1)=eC)(il:IsL K (Ow O0 r σ) H l' (sQ.map (·.2))):R K O0 (L2.upd H a<|.dK sQ) (r.set i<|.d f eC l') σ/\Kp H r σ (L2.upd H a<|.dK sQ) (r.set i<|.d f eC l') σ:=by
 have Aj:Ow O0 r σ a:=.inr ⟨i,l,by rw[ei];rfl,ha⟩;exact h.VE ei ha (λb o hb e1=>by rw[zT hb];exact e1) (λb hb e1=>by rw[zT hb] at e1;exact e1) zR hk<|IsL.mono (λb o e1 n=>by rw[zT λz=>n (by subst z;exact Aj)];exact e1) h.ol (λ_ z _=>z) _ _ il
end
def GG(i:Nat)(ks:List Key)(l:List D)(r:En):Option En:=match r[i]? with
 |some (.p _)=>aB
 |some (.z _)=>aB
 |some (.d true _ _)=>aB
 |some _=>aA<|r.set i<|.d false ks l
 |none=>aB
def WB{i:Nat}{r r':En}{ks:List Key}{l:List D}(e:GG i ks l r=aA r'):i<r.length/\(∀l,(r[i]?).bind Sl.pk=aB/\r[i]?≠aA (.z l))/\r'=r.set i (.d false ks l):=by
 unfold GG at e;cases e1:r[i]? with
 |none=>rw[e1] at e;cases e
 |some x=>
  have hi:i<r.length:=(ba.mp e1).1;rw[e1] at e;cases x with
  |d f ks l=>cases f<;>first|(cases e;done)|(cases e;exact⟨hi,λl=>⟨rfl,(λz=>by cases z)⟩,rfl⟩)
  |_=>first|(cases e;done)|(cases e;exact⟨hi,λl=>⟨rfl,(λz=>by cases z)⟩,rfl⟩)
def EV(i:Nat):ML:=λr=>match r[i]? with
 |some (.d _ ks _)=>aA<|ks.map B0
 |_=>aB
def cQ(i:Nat)(fk fe:ME):MS:=λr=>(fe r).bind λd=>(fk r).bind λkd=>(CK kd).bind λk=>match r[i]? with
 |some (.d f ks l)=>if ks.length<ar then aA (.nx<|r.set i<|.d f (mX ks l k d).1 (mX ks l k d).2) else aB
 |_=>aB
section
variable{X:Cx}{a k e:Expr}{f g:ME}{pos ps pn p:Pos}{x:Str}
def pU(i:Nat)(hu:X.A.units+1<cLine)(h:PE X (.Name x pn) (ZN i))(hk:DE X k g)(he:DE X a f)(hs:kq a (aA<|.Subscript (.Name x pn) k ps) pos.line X.env=pure false:=by rfl):DS X (.Assign [.Subscript (.Name x pn) k ps] a pos) (cQ i g f):=by
 refine PS.aH (JN hu h hk he hs) λDn σ H hq=>?_
 obtain⟨O0,r,fl,hR,e,q⟩:=hq;obtain⟨d,e1,e⟩:=aF e;obtain⟨kd,e2,e⟩:=aF e;obtain⟨key,e3,e⟩:=aF e;cases er:r[i]? with
 |none=>rw[er] at e;cases e
 |some y=>
  rw[er] at e;cases y<;>first|(cases e;done)|skip
  rename_i fb ks l;simp only at e;split at e
  .rename_i hlen;cases e;obtain⟨b,kvs,q1,q2,q4,q3⟩:=hR.aJ i fb ks l er;refine⟨O0,r,d,hR,e1,λv H1 s1 i1=>⟨.ref b,q1,O0,r,kd,hR.same s1,e2,λu H2 s2 i2=>?_⟩⟩;have Wv:=YU e3 i2;subst Wv;have R2:=(hR.same s1).same s2;have VC:=(q3.same s1 hR.ol).same s2 (hR.same s1).ol;have o_:Is X.K (Ow O0 r σ) H2 d v:=Is.mono (aC.kp s2 _) (hR.same s1).ol (λ_ z _=>z) _ _ i1;obtain⟨p1,p2⟩:=Z7 (k:=key) q4 VC o_;have Bu:=s2 _ _<|s1 _ _ q2;obtain⟨R3,k3⟩:=R2.Mv er q1 Bu p1 p2;have hl:kvs.length<ar:=by rw[<-q4,ah] at hlen;exact hlen
   exact⟨b,_,rfl,A6.k Bu hl,q σ _ R3<|(Kp.of_same r σ<|s1.trans s2).trans k3⟩
  .cases e
def K8{P:Program}{w:World}{k:Key}{u:Value}(h:(yM P w).is k u=true):RelV (kV k) u:=by
 rcases yT h with⟨i,t,rfl,rfl⟩|⟨y,t,rfl,rfl⟩
 .exact⟨t,rfl⟩
 .exact⟨t,rfl⟩
theorem Q4:∀{xs:List V} {us:List Value},xs.length=us.length->(∀(j:Nat) (u:Value),us[j]?=aA u->∃y,xs[j]?=aA y/\RelV y u)->Vals xs us
 |[],[],_,_=>.nil
 |[],_::_,h,_=>by cases h
 |_::_,[],h,_=>by cases h
 |y::xs,u::us,hl,h=>by
  obtain⟨z,e,q⟩:=h 0 u rfl;cases e;exact .cons q (Q4 (by simpa using hl) λj w ew=>h (j+1) w<|by simpa using ew)
def bW(hc:X.calm=true):fJ X (.type "list") (λxs H Q=>∃p kvs,xs=[.ref p]/\Rd H p (.dK kvs)/\∀l,H l=aB->Q (.ref l) (upd H l<|.lst<|kvs.map λkv=>kV kv.1)):=by
 intro pZ s σ H xs us Q I r h;obtain⟨p,kvs,rfl,e,q⟩:=h;obtain⟨u,rfl,rx⟩:=nY r;cases rx;obtain⟨z,hd,vs,rel,dd⟩:=QQ I.aI e;obtain⟨ep,da⟩:=dd.dictAt;have hlen:=KV.length rel;have Xv:=KV.keys rel;refine PySem.W.kdl_call (PySem.W.kdl_dict (knd:=yM X.prog X.w) (kvs:=vs) (ep:=ep) hd) (I.ok.hd hc) da (by rw[<-hlen];exact z) λh' tk BM c' hk hS BF=>?_
 have vv:Vals (kvs.map λkv=>kV kv.1) BM.toList:=by
  refine Q4 (by rw[ah,hlen,<-BF.1];simp) λj u eu=>?_
  obtain⟨k,x,ev,is⟩:=BF.2 j u (by rw[<-gf];exact eu);refine⟨kV k,?_,K8 is⟩;have e1:(kvs.map (·.1))[j]?=aA k:=by rw[Xv,av,ev];rfl
  rw[av] at e1 ⊢;cases e2:kvs[j]? with
  |none=>rw[e2] at e1;cases e1
  |some kv=>rw[e2] at e1;cases e1;rfl
 exact⟨.ref s.heap.objs.size,_,I.laid (t':=tk) hk (al _) (show d_ X.prog X.w _ h' _ (.lst _) from⟨by rw[ah];exact z,BM.toList,c',vv,by simpa using hS⟩),rfl,q _<|I.aI.fresh<|al _⟩
theorem YQ{K:Fg}{O:Addr->Prop}{H:Hp}:∀kvs:List (Key×V),IsL K O H ((kvs.map (·.1)).map B0) (kvs.map λkv=>kV kv.1)
 |[]=>.nil
 |kv::r=>.cons (LM kv.1)<|YQ r
def Sz(i:Nat){p':Pos}(hc:X.calm=true)(hg:Gl X "list")(hm:X.mg "list" = aB)(h:PE X (.Name x pn) (ZN i))(hs:bp [.Name x pn] X.env=(false,eval (.Name x pn) X.env)::bp [] X.env:=by rfl):DF X (.Call (.Name "list" p') [.Name x pn] [] pos) (EV i):=by
 refine PE.aH (kT (bW hc) hg hm abw (yN h x8 hs) (he:=hs)) λσ H Q hq=>?_
 obtain⟨O0,r,l,hR,e,q⟩:=hq;cases er:r[i]? with
 |none=>unfold EV at e;rw[er] at e;cases e
 |some y=>
  unfold EV at e;rw[er] at e;cases y<;>first|(cases e;done)|skip
  rename_i fb ks l';cases e;obtain⟨b,kvs,q1,q2,q4,q3⟩:=hR.aJ i fb ks l' er;refine⟨.ref b,q1,b,kvs,rfl,.inl q2,λt ht=>?_⟩;subst q4;exact q t _ _ (zW ht) ht zR<|YQ kvs
end
def oI(h:Q 4238894112 { s with toks:=s.toks+1 }):wpAny (model prog w) A (pyHash .none) Q E s:=by
 unfold pyHash pyHashByItsType;have hv:[Value.none].any Value.onHeap=false:=rfl;refine aa ?_;rw[cRoomFor,if_neg (by rw[hv];exact bc)];refine af ?_;refine aa<|qt (T:="NoneType") rfl om.lookup ?_;show wpAny _ _ (if (aA (Value.builtin "NoneType.__hash__") == aA Value.none)=true then _ else _) Q E s;rw[if_neg<|by decide];refine aa<|qt (T:="NoneType") rfl om.lookup ?_;show wpAny _ _ (callSpecialIfBoundUnlessNone? .none "__hash__" _ >>= _) Q E s;refine aa (wpAny_callSpecialIfBoundUnlessNone?_slot (T:="NoneType") rfl om
  (fm (T:="NoneType") om rfl PySem.F.entry_NoneType_hash
   (show wpAny _ _ (do ret (<- mkInt 4238894112)) _ _ s from wpAny_ret_mkInt ?_) (PySem.F.args_NoneType_hash_1 _)))
 exact af h
def QD:Option Key->Value->Bool
 |none,.none=>true
 |none,_=>false
 |some k,v=>mS k v
def xA(h:QD k v=true):(k=aB/\v=.none)\/∃j,k=aA j/\mS j v=true:=by
 cases k with
 |none=>cases v<;>first|exact .inl ⟨rfl,rfl⟩|cases h
 |some j=>exact .inr ⟨j,rfl,h⟩
def gN:mS k .none=false:=by cases k<;>rfl
def Su(h:Q true s):wpAny (model prog w) A (eqBool .none .none) Q E s:=by
 show wpAny (model prog w) A (do rule "eq-bool.same-object";pure true) Q E s;exact aa<|ue<|af h
def YD(prog:Program)(w:World):PySem.KeyKind prog w (Option Key) where
 is:=QD
 hash:=λk=>match k with
  |none=>4238894112
  |some k=>Jp w k
 inj:=λv a b ha hb=>by
  rcases xA ha with⟨rfl,rfl⟩|⟨i,rfl,h1⟩
  .rcases xA hb with⟨rfl,_⟩|⟨j,rfl,h2⟩
   .rfl
   .rw[gN] at h2;cases h2
  .rcases xA hb with⟨rfl,rfl⟩|⟨j,rfl,h2⟩
   .rw[gN] at h1;cases h1
   .rw[(yM prog w).inj v i j h1 h2]
 byValue:=λk v h=>by
  rcases xA h with⟨rfl,rfl⟩|⟨i,rfl,h1⟩
  .rfl
  .exact(yM prog w).byValue i v h1
 pyHash:=λhv h=>by
  rcases xA hv with⟨rfl,rfl⟩|⟨i,rfl,h1⟩
  .exact oI h
  .exact(yM prog w).pyHash h1 h
 eqBool:=λ{A E s a b u v Q} hu hv h=>by
  rcases xA hu with⟨rfl,rfl⟩|⟨i,rfl,h1⟩
  .rcases xA hv with⟨rfl,rfl⟩|⟨j,rfl,h2⟩
   .exact Su (by simpa using h)
   .have h':Q false s:=by rw[decide_eq_false (by intro z;cases z)] at h;exact h
    rcases yT h2 with⟨n,t,rfl,rfl⟩|⟨y,t,rfl,rfl⟩
    .exact adh n t _ _ _ _ h'
    .exact adg y t _ _ _ _ h'
  .rcases xA hv with⟨rfl,rfl⟩|⟨j,rfl,h2⟩
   .have h':Q false s:=by rw[decide_eq_false (by intro z;cases z)] at h;exact h
    rcases yT h1 with⟨n,t,rfl,rfl⟩|⟨y,t,rfl,rfl⟩
    .exact adi n t _ _ _ _ h'
    .exact adf y t _ _ _ _ h'
   .refine(yM prog w).eqBool h1 h2 ?_;have e:decide (aA i=aA j)=decide (i=j):=by
     by_cases q:i=j
     .rw[decide_eq_true q,decide_eq_true<|by rw[q]]
     .rw[decide_eq_false q,decide_eq_false λz=>q<|bv z]
    rw[e] at h;exact h
 «strs»:=λk x t v h=>by
  rcases xA h with⟨rfl,e⟩|⟨i,rfl,h1⟩
  .cases e
  .exact(yM prog w).strs i x t v h1
def vO:Option Key->V
 |none=>.aE
 |some k=>kV k
def KC(r:RelV (vO k) u):(YD P w).is k u=true:=by
 cases k with
 |none=>cases (show u=Value.none from r);rfl
 |some k=>exact C0 (P:=P) (w:=w) r
def Az(kvs:List (Key×V)):Option Key->Option V
 |none=>aB
 |some k=>iS kvs k
def Js{P:Program}{w:World}{h:Heap}{a:Addr}{vs:List (Key×Value)}(d:h.DictOf (yM P w) a vs):h.MapOf (YD P w) a (λk=>match k with|none=>aB|some k=>valueAt vs k):=by
 obtain⟨o,es,ep,ho,hc,F0,hk,hf⟩:=d.mapOf;refine⟨o,es,ep,ho,hc,F0,λe he=>?_,λk=>?_⟩
 .obtain⟨j,h1,h2⟩:=hk e he;exact⟨aA j,h1,h2⟩
 .cases k with
  |some k=>exact hf k
  |none=>
   have VT:∀e∈es,QD aB e.key=false:=λe he=>by
    obtain⟨j,h1,_⟩:=hk e he;rcases yT (show mS j e.key=true from h1) with⟨n,t,_,q⟩|⟨y,t,_,q⟩<;>rw[q]<;>rfl
   show findBy QD es aB=aB;unfold findBy;rw[Array.find?_eq_none.mpr (λe he=>by rw[VT e he];exact bc)];rfl
def Z5(rel:KV kvs vs)(k:Option Key):sG (Az kvs k) (match k with|none=>aB|some k=>valueAt vs k):=by
 cases k with
 |none=>exact trivial
 |some k=>exact rel.val k
def Pd{Q:Value->Shared->Prop}(I:Inv X pZ σ H s)(e:Rd H a (.dK kvs))(ry:RelV (vO k) u)(rd:RelV d r)(h:∀w' s',Inv X pZ σ H s'->RelV ((Az kvs k).getD d) w'->Q w' s'):wpAny (model X.prog X.w) A (call (.builtin "dict.get") [.ref a,u,r]) Q E s:=by
 obtain⟨z,hd,vs,rel,dd⟩:=QQ I.aI e;refine call_meetsIn acj dd.typeIs PySem.F.entry_dict_get (PySem.F.args_dict_get_3 _ _ _) (meets_dict_get_default (YD X.prog X.w) a (KC ry) hd r) ⟨_,Js dd,h _ _ (I.tok _) ?_⟩;exact(Z5 rel k).getD rd
def Oz{Q:Value->Shared->Prop}(I:Inv X pZ σ H s)(e:Rd H a (.dK kvs))(ry:RelV (vO k) u)(h:∀s',Inv X pZ σ H s'->Q (.bool (Az kvs k).isSome) s'):wpAny (model X.prog X.w) A (jc .In u<|.ref a) Q E s:=by
 obtain⟨z,hd,vs,rel,dd⟩:=QQ I.aI e;refine wpAny_in_of (KC ry) hd (Js dd) ?_;rw[<-(Z5 rel k).Nt];exact h _<|I.tok _
abbrev MD:=En->Option (List Key×List D)
def Np(K:Fg)(f:MD):TE:=λσ H Q=>∃O0 r ks l,R K O0 H r σ/\f r=aA (ks,l)/\∀a kvs H',aC H H'->Rd H' a (.dK kvs)->kvs.map (·.1)=ks->IsL K (Ow O0 r σ) H' l (kvs.map (·.2))->Q (.ref a) H'
def V_(K:Fg)(f:MD):TE:=λσ H Q=>∃O0 r ks l,R K O0 H r σ/\f r=aA (ks,l)/\∀a kvs H',aC H H'->H a=aB->H' a=aA (.dK kvs)->kvs.map (·.1)=ks->IsL K (λb=>Ow O0 r σ b\/b=a) H' l (kvs.map (·.2))->Q (.ref a) H'
def Gj(X:Cx)(e:Expr)(f:MD):Prop:=PE X e<|Np X.K f
def CG(X:Cx)(e:Expr)(f:MD):Prop:=PE X e<|V_ X.K f
def m9(f:ME):MD:=λr=>(f r).bind λd=>match d with
 |.aJ ks l=>aA (ks,l)
 |_=>aB
def DN:MD:=λ_=>aA ([],[])
def Ax(f:MD):ME:=λr=>(f r).map λq=>.aJ q.1 q.2
def C5(i:Nat)(f:MD):MS:=λr=>(f r).bind λq=>(GG i q.1 q.2 r).map .nx
def E8(i:Nat):MS:=λr=>match r[i]? with
 |some (.d false ks l)=>aA<|.rg ks l r
 |_=>aB
def Gw:D->Option (Option Key)
 |.aE=>aA aB
 |.int i=>aA<|some<|.inl i
 |.str s=>aA<|some<|.inr ⟨s.toArray⟩
 |_=>aB
def uS:List Key->List D->Key->Option D
 |k'::ks,d::l,k=>if k'=k then aA d else uS ks l k
 |_,_,_=>aB
def C1(ks:List Key)(l:List D):Option Key->Option D
 |none=>aB
 |some k=>uS ks l k
def J8(fd:MD)(fk fx:ME):ME:=λr=>(fd r).bind λq=>(fk r).bind λkd=>(fx r).bind λx=>(Gw kd).map λk=>(C1 q.1 q.2 k).getD x
def pA(neg:Bool)(fk:ME)(fd:MD):MB:=λr=>(fk r).bind λkd=>(fd r).bind λq=>(Gw kd).map λk=>if neg then !(C1 q.1 q.2 k).isSome else (C1 q.1 q.2 k).isSome
def k_(fd:MD)(fk:ME):ME:=λr=>(fd r).bind λq=>(fk r).bind λkd=>(CK kd).bind λk=>uS q.1 q.2 k
def Me{K:Fg}(e:Gw d=aA k)(h:Is K O H d v):v=vO k:=by
 cases d<;>first|(cases e;done)|skip
 .cases e;rw[y9] at h;exact h
 .cases e;rw[zM] at h;exact h
 .cases e;rw[yC] at h;exact h
theorem nB{K:Fg}(k:Key):∀{kvs:List (Key×V)} {l:List D},IsL K O H l (kvs.map (·.2))->(∃d v,uS (kvs.map (·.1)) l k=aA d/\iS kvs k=aA v/\Is K O H d v)\/(uS (kvs.map (·.1)) l k=aB/\iS kvs k=aB)
 |[],[],_=>.inr ⟨rfl,rfl⟩
 |[],d'::l,h=>by unfold IsL at h;obtain⟨_,_,e,_⟩:=h;cases e
 |p::kvs,[],h=>by unfold IsL at h;cases h
 |p::kvs,d'::l,h=>by
  unfold IsL at h;obtain⟨x,y,e,h1,h2⟩:=h;rw[am] at e;cases e;by_cases q:p.1=k
  .exact .inl ⟨d',p.2,by rw[am];unfold uS;rw[if_pos q],cL q,h1⟩
  .have e1:uS ((p::kvs).map (·.1)) (d'::l) k=uS (kvs.map (·.1)) l k:=by rw[am];show(if p.1=k then _ else _)=_;rw[if_neg q]
   rw[e1,cM q];exact nB k h2
def YM{K:Fg}(k:Option Key)(h:IsL K O H l (kvs.map (·.2))):(∃d v,C1 (kvs.map (·.1)) l k=aA d/\Az kvs k=aA v/\Is K O H d v)\/(C1 (kvs.map (·.1)) l k=aB/\Az kvs k=aB):=by
 cases k with
 |none=>exact .inr ⟨rfl,rfl⟩
 |some k=>exact nB k h
def Rd.same(s:aC H H')(h:Rd H a u):Rd H' a u:=by
 rcases h with h|⟨ob,h⟩
 .exact .inl<|s _ _ h
 .exact .inr ⟨ob,s _ _ h⟩
def Bc(h:DE X a f):Gj X a (m9 f):=by
 refine PE.aH h λσ H Q hq=>?_
 obtain⟨O0,r,ks,l,hR,e,q⟩:=hq;obtain⟨d,e1,e⟩:=aF e;refine⟨O0,r,d,hR,e1,λv H1 s1 i1=>?_⟩;cases d<;>first|(cases e;done)|skip
 cases e;rw[jP] at i1;obtain⟨c,kvs,rfl,_,rd,ek,il⟩:=i1;exact q c kvs H1 s1 rd.rd ek il
def QN:CG X (.Dict [] [] pos) DN:=by
 refine PE.aH UD λσ H Q hq=>?_
 obtain⟨O0,r,ks,l,hR,e,q⟩:=hq;cases e;exact λp hp=>q p [] _ (zW hp) hp zR rfl .nil
def Kw(h:CG X a fd):DE X a (Ax fd):=by
 refine PE.aH (Lh h) λσ H Q hq=>?_
 obtain⟨O0,r,d,hR,e,q⟩:=hq;obtain⟨⟨ks,l⟩,e1,rfl⟩:=aT e;exact⟨O0,r,ks,l,hR,e1,λc kvs H1 s1 n1 e2 ek il=>.inr ⟨c,kvs,rfl,e2,λob=>q _ _ (JI s1 n1)<|Is.fz (hR.same s1).ol (hR.AL n1) e2 ek il ob⟩⟩
def pT(i:Nat)(he:CG X e fd)(hN:X.N.Nodup)(hi:X.N[i]?=aA nm:=by rfl)(hx:Loc X.env.scope nm:=by first|exact Or.inl rfl|exact Or.inr rfl)(hs:kq e (aA<|.Name nm pos') pos.line X.env=pure false:=by rfl)(hf:iQ X nm:=by first|exact .inl rfl|exact .inr rfl):DS X (.Assign [.Name nm pos'] e pos) (C5 i fd):=by
 refine PS.aH (tG hN hi hx he hs hf) λDn σ H hq=>?_
 obtain⟨O0,r,sF,hR,e,q⟩:=hq;obtain⟨⟨ks,l⟩,e1,e2⟩:=aF e;obtain⟨r',e4,rfl⟩:=aT e2;obtain⟨hl,np,rfl⟩:=WB e4;refine⟨O0,r,ks,l,hR,e1,λp kvs H1 s1 n1 e3 ek i1=>?_⟩;obtain⟨R1,k1⟩:=hR.Vu s1 n1 e3 ek i1 hl np;exact q _ H1 R1 k1
def Mn(i:Nat)(h:PE X (.Name nm pos') (ZN i)):DS X (.Return (aA<|.Name nm pos') pos) (E8 i):=by
 refine PS.aH (Hd h) λDn σ H hq=>?_
 obtain⟨O0,r,sF,hR,e,q⟩:=hq;have⟨ks,l,e1,e2⟩:∃ks l,r[i]?=aA (.d false ks l)/\sF=.rg ks l r:=by
  unfold E8 at e;split at e
  .rename_i ks l h;cases e;exact⟨ks,l,h,rfl⟩
  .cases e
 subst e2;obtain⟨c,kvs,q1,q2,q4,q3⟩:=hR.aJ i false ks l e1;refine⟨.ref c,q1,q c kvs σ H hR (Kp.refl H r σ) (.inr ⟨i,l,.inr<|.inl ⟨ks,e1⟩,q1⟩) (hR.loc i l c (.inr<|.inr ⟨ks,e1⟩) q1) q2 q4 ?_⟩;exact IsL.mono (aC.kp (aC.refl H) _) hR.ol (λb z _=>z.elim .inl λz=>by subst z;exact .inr ⟨i,l,by rw[e1];rfl,q1⟩) _ _ q3
def Pr(td ty tx:TE):TE:=λσ H Q=>td σ H λx H1=>∃c,x=.ref c/\Ol H1 c/\ty σ H1 λy H2=>tx σ H2 λz H3=>∃kvs k,Rd H3 c (.dK kvs)/\y=vO k/\Q ((Az kvs k).getD z) H3
def S7(ho:PE X o td)(he:PE X e ty)(hf:PE X b tx)(m:M2 X o "get" apos e b eA):PE X (.Call (.Attribute o "get" apos) [e,b] [] eA) (Pr td ty tx):=by
 intro pZ s σ H Q I h;refine wpAny_Call_method m.base m.f8 m.line abb acj PySem.F.type_dict_get<|aK (ho pZ s σ H _ I h) λu s1 ⟨x,H1,I1,rx,c,ex,d,q1⟩=>?_;subst ex;obtain rfl:u=Value.ref c:=rx;obtain⟨t1,t2,_⟩:=Qb I1 d;refine⟨t1,t2,?_⟩;rw[m.trees];refine vw rfl (adc (xq (aK (he pZ s1 σ H1 _ I1 q1) λiv s2 ⟨y,H2,I2,ry,q2⟩=>
  xq (aK (hf pZ s2 σ H2 _ I2 q2) λfv s3 ⟨z,H3,I3,rz,kvs,k,g,ey,q3⟩=>Calls.spliced_nil ?_))))
 subst ey;exact Pd I3 g ry rz λw' s4 I4 iB=>⟨_,H3,I4,iB,q3⟩
def LO(ho:Gj X o fd)(he:DE X e g)(hf:DE X b x)(fY:kj o "get" X.env (eval o X.env)=eval o X.env:=by rfl)(iX:A5 X [e,b] eA:=by rfl)(fW:As apos eA:=by rfl)(Ww:wv eA (bp [e,b] X.env)=[(false,eval e X.env),(false,eval b X.env)]:=by rfl):DE X (.Call (.Attribute o "get" apos) [e,b] [] eA) (J8 fd g x):=by
 refine PE.aH (S7 ho he hf ⟨fY,iX,fW,Ww⟩) λσ H Q hq=>?_
 obtain⟨O0,r,d,hR,e,q⟩:=hq;obtain⟨⟨ks,l⟩,e1,e⟩:=aF e;obtain⟨kd,e2,e⟩:=aF e;obtain⟨dx,e3,e⟩:=aF e;obtain⟨k,e4,rfl⟩:=aT e;refine⟨O0,r,ks,l,hR,e1,λc kvs H1 s1 rd ek il=>⟨c,rfl,.inl ⟨kvs,rd⟩,O0,r,kd,hR.same s1,e2,λy H2 s2 iy=>⟨O0,r,dx,hR.same<|s1.trans s2,e3,λz H3 s3 iz=>?_⟩⟩⟩;have ey:=Me e4 iy;refine⟨kvs,k,Rd.same s3<|Rd.same s2 rd,ey,?_⟩;have R1:=hR.same s1;have Wj:=(il.same s2 R1.ol).same s3 (R1.same s2).ol;subst ek;rcases YM k Wj with⟨dd,v,p1,p2,p3⟩|⟨p1,p2⟩
 .refine q _ H3 (s1.trans<|s2.trans s3) ?_;rw[p1,p2];exact p3
 .refine q _ H3 (s1.trans<|s2.trans s3) ?_;rw[p1,p2];exact iz
def Mp(hk:DE X k g)(ho:Gj X o fd)(hm:ki .In o=false:=by rfl):DT X (.Compare k [.In] [o] pos) (pA false g fd):=by
 refine PT.aH (Sb (t:=λσ H Q=>lE X.K g σ H λy H1=>Np X.K fd σ H1 λx H2=>∃c kvs j,x=.ref c/\Rd H2 c (.dK kvs)/\y=vO j/\Q (.bl (Az kvs j).isSome) H2) ?_ hm) λσ H Q hq=>?_
 .intro pZ s σ H Q I h;refine aK (hk pZ s σ H _ I h) λiv s1 ⟨y,H1,I1,ry,q1⟩=>aK (ho pZ s1 σ H1 _ I1 q1) λu s2 ⟨x,H2,I2,rx,c,kvs,j,ex,rd,ey,q2⟩=>?_
  subst ex ey;obtain rfl:u=Value.ref c:=rx;exact Oz I2 rd ry λs3 I3=>⟨.bl (Az kvs j).isSome,H2,I3,rfl,q2⟩
 .obtain⟨O0,r,t,hR,e,q⟩:=hq;obtain⟨kd,e1,e⟩:=aF e;obtain⟨⟨ks,l⟩,e2,e⟩:=aF e;obtain⟨j,e3,rfl⟩:=aT e;refine⟨O0,r,kd,hR,e1,λy H1 s1 iy=>⟨O0,r,ks,l,hR.same s1,e2,λc kvs H2 s2 rd ek il=>⟨c,kvs,j,rfl,rd,Me e3 iy,_,rfl,?_⟩⟩⟩;subst ek;have q':=q H2<|s1.trans s2;rcases YM j il with⟨dd,v,p1,p2,p3⟩|⟨p1,p2⟩
  .rw[p1] at q';rw[p2];exact q'
  .rw[p1] at q';rw[p2];exact q'
def GY(hu:X.A.units+1<cLine)(ho:Gj X o fd)(hk:DE X k g)(hs:Gp k:=by intro _ _;rfl):DE X (.Subscript o k pos) (k_ fd g):=by
 refine PE.aH (S6 hu ho hk hs) λσ H Q hq=>?_
 obtain⟨O0,r,d,hR,e,q⟩:=hq;obtain⟨⟨ks,l⟩,e1,e⟩:=aF e;obtain⟨kd,e2,e⟩:=aF e;obtain⟨j,e3,e⟩:=aF e;refine⟨O0,r,ks,l,hR,e1,λc kvs H1 s1 rd ek il=>⟨O0,r,kd,hR.same s1,e2,λy H2 s2 iy=>?_⟩⟩;subst ek;have eW:=il.same s2 (hR.same s1).ol;rcases nB j eW with⟨dd,v,p1,p2,p3⟩|⟨p1,p2⟩
 .rw[p1] at e;cases e;exact⟨c,v,rfl,.inl ⟨kvs,j,Rd.same s2 rd,YU e3 iy,p2.symm⟩,q v H2 (s1.trans s2) p3⟩
 .rw[p1] at e;cases e
def uQ{a b:List Nat}(h:¬a<b)(n:a≠b):b<a:=by
 rcases List.le_iff_lt_or_eq.mp (List.not_lt.mp h) with h|h
 .exact h
 .exact absurd h.symm n
structure Pm(n:Nat)(p:Array Nat):Prop where
 perm:p.Perm (fg n).toArray
def Pm.size(h:Pm n p):p.size=n:=by rw[h.perm.size_eq];simp
def Pm.at(h:Pm n p)(hk:k<n):p[k]?=aA (p.getD k 0)/\p.getD k 0<n:=by
 have hs:k<p.size:=by rw[h.size];exact hk
 have e:p.getD k 0=p[k]:=by simp[pc,hs]
 refine⟨by rw[e];simp[hs],?_⟩;have m:=h.perm.mem_iff.mp (show p[k]∈p from Array.getElem_mem hs);rw[e];simpa using m
def Pm.inj(h:Pm n p)(hi:i<n)(hj:j<n)(e:p.getD i 0=p.getD j 0):i=j:=by
 have nd:p.toList.Nodup:=(oy.mp h.perm).nodup_iff.mpr (by simpa using List.nodup_range);have hl:∀{k},k<n->∃q:k<p.toList.length,p.toList[k]=p.getD k 0:=λ{k} hk=>by
  have hs:k<p.size:=by rw[h.size];exact hk
  exact⟨by simpa using hs,by simp[pc,hs]⟩
 obtain⟨q1,e1⟩:=hl hi;obtain⟨q2,e2⟩:=hl hj;rcases jh i j with z|z|z
 .exact absurd (by rw[e1,e2,e])<|ck.mp nd i j q1 q2 z
 .exact z
 .exact absurd (by rw[e1,e2,e])<|ck.mp nd j i q2 q1 z
noncomputable def ky(t:Nat->List Nat)(p:Array Nat)(i:Nat):List Nat:=t<|p.getD i 0
def Df(t:Nat->List Nat)(n:Nat):Prop:=∀i j,i<n->j<n->t i=t j->i=j
def GO(d:Df t n)(h:Pm n p)(hi:i<n)(hj:j<n)(eP:i≠j):ky t p i≠ky t p j:=λe=>eP<|h.inj hi hj<|d _ _ (h.at hi).2 (h.at hj).2 e
def Up(t:Nat->List Nat)(p:Array Nat)(m:Nat):Prop:=∀i j,i<j->j<m->ky t p i<ky t p j
def Dn(t:Nat->List Nat)(p:Array Nat)(m:Nat):Prop:=∀i j,i<j->j<m->ky t p j<ky t p i
def Ab(cmp:Nat->Nat->(Bool->Shared->Prop)->Shared->Prop)(t:Nat->List Nat)(n:Nat)(s:Shared):Prop:=∀i j,i<n->j<n->i≠j->∀(C:Bool->Shared->Prop),C (decide (t i<t j)) s->cmp i j C s
def T0(h:Up t p m)(e:1<=m->ky t p (m-1)<ky t p m):Up t p (m+1):=λi j eP hj=>by
 rcases mx j m with z|z
 .exact h i j eP z
 .obtain rfl:j=m:=by omega
  rcases mx i (j-1) with y|y
  .exact su (h i (j-1) y<|by omega) (e<|by omega)
  .obtain rfl:i=j-1:=by omega
   exact e (by omega)
def Mm(h:Dn t p m)(e:1<=m->ky t p m<ky t p (m-1)):Dn t p (m+1):=λi j eP hj=>by
 rcases mx j m with z|z
 .exact h i j eP z
 .obtain rfl:j=m:=by omega
  rcases mx i (j-1) with y|y
  .exact su (e<|by omega) (h i (j-1) y<|by omega)
  .obtain rfl:i=j-1:=by omega
   exact e (by omega)
theorem GW(ha:Ab cmp t n s)(d:Df t n){p:Array Nat}(hp:Pm n p):∀(f m:Nat) {Q:Nat->Shared->Prop},1<=m->m+f<=n->Up t p m->(∀m',m<=m'->m'<=m+f->Up t p m'->(m'<m+f->ky t p m'<ky t p (m'-1))->Q m' s)->(kas_asc p f m).kasWp cmp Q s
 |0,m,Q,h1,h2,hu,q=>q m (al _) (al _) hu (λz=>absurd z<|by omega)
 |f+1,m,Q,h1,h2,hu,q=>by
  refine ha _ _ (hp.at<|by omega).2 (hp.at<|by omega).2 (λz=>by have:=hp.inj (by omega) (by omega) z;omega) _ ?_;by_cases c:t (p.getD m 0)<t (p.getD (m-1) 0)
  .rw[decide_eq_true c];exact q m (al _) (by omega) hu λ_=>c
  .rw[decide_eq_false c];have c':ky t p (m-1)<ky t p m:=uQ c (GO d hp (by omega) (by omega)<|by omega);exact GW ha d hp f (m+1) (by omega) (by omega) (T0 hu λ_=>c') λm' a1 a2 a3 a4=>q m' (by omega) (by omega) a3 λz=>a4 (by omega)
theorem Mj(ha:Ab cmp t n s)(d:Df t n){p:Array Nat}(hp:Pm n p):∀(f m:Nat) {Q:Array Nat×Nat×Nat->Shared->Prop},1<=m->m+f<=n->Dn t p m->(∀m',m<=m'->m'<=m+f->Dn t p m'->Q (p,m',0) s)->(kas_desc f p m 0).kasWp cmp Q s
 |0,m,Q,h1,h2,hu,q=>q m (al _) (al _) hu
 |f+1,m,Q,h1,h2,hu,q=>by
  refine ha _ _ (hp.at<|by omega).2 (hp.at<|by omega).2 (λz=>by have:=hp.inj (by omega) (by omega) z;omega) _ ?_;by_cases c:t (p.getD m 0)<t (p.getD (m-1) 0)
  .rw[decide_eq_true c];exact Mj ha d hp f (m+1) (by omega) (by omega) (Mm hu λ_=>c) λm' a1 a2 a3=>q m' (by omega) (by omega) a3
  .rw[decide_eq_false c];refine ha _ _ (hp.at<|by omega).2 (hp.at<|by omega).2 (λz=>by have:=hp.inj (by omega) (by omega) z;omega) _ ?_;have c':ky t p (m-1)<ky t p m:=uQ c (GO d hp (by omega) (by omega)<|by omega);rw[decide_eq_true (show t (p.getD (m-1) 0)<t (p.getD m 0) from c')];exact q m (al _) (by omega) hu
def Hg(hp:Pm n p)(i j:Nat):Pm n (kas_rev p i j):=⟨(mirror_perm p i j _).trans hp.perm⟩
def RH(hp:Pm n p)(hm:m<=n)(h:Dn t p m):Up t (kas_rev p 0 m) m:=λi j eP hj=>by
 have e:∀k,k<m->ky t (kas_rev p 0 m) k=ky t p (m-1-k):=λk hk=>by
  have q:=getElem?_mirror_all (xs:=p) (i:=0) (j:=m) (by rw[hp.size];exact hm) k;rw[if_pos ⟨bu _,hk⟩,ub] at q;have a:=((Hg hp 0 m).at (show k<n by omega)).1;have b:=(hp.at (show m-1-k<n by omega)).1;have z:(kas_rev p 0 m)[k]?=p[m-1-k]?:=q;rw[a,b] at z;unfold ky;rw[bv z]
 rw[e i<|by omega,e j hj];exact h _ _ (by omega) (by omega)
def UR(ha:Ab cmp t n s)(d:Df t n)(hp:Pm n p)(h1:1<=m)(hm:m<=n)(h:Dn t p m)(q:∀m' p',1<=m'->m'<=n->Pm n p'->Up t p' m'->Q (m',p') s):(kas_tail3 m n p).kasWp cmp Q s:=by
 unfold kas_tail3;rw[tq];exact GW ha d (Hg hp 0 m) (n-m) m h1 (by omega) (RH hp hm h) λm' a1 a2 a3 _=>q m' _ (by omega) (by omega) (Hg hp 0 m) a3
def Uh(ha:Ab cmp t n s)(d:Df t n)(hp:Pm n p)(h2:2<=n)(q:∀m' p',1<=m'->m'<=n->Pm n p'->Up t p' m'->Q (m',p') s):(kas_count n p).kasWp cmp Q s:=by
 unfold kas_count;rw[tq];refine GW ha d hp (n-1) 1 (al _) (by omega) (λi j eP hj=>by omega) λm a1 a2 a3 a4=>?_
 by_cases e1:(m == n)=true
 .rw[if_pos e1];exact q m p a1 (by omega) hp a3
 .rw[if_neg e1];have fC:m≠n:=λz=>e1 (by rw[z];exact beq_self_eq_true n)
  by_cases e2:m > 1
  .rw[if_pos e2];refine ha _ _ (hp.at<|by omega).2 (hp.at<|by omega).2 (λz=>by have:=hp.inj (by omega) (by omega) z;omega) _ ?_;rw[decide_eq_true (show t (p.getD 0 0)<t (p.getD (m-1) 0) from a3 0 (m-1) (by omega)<|by omega)];exact q m p a1 (by omega) hp a3
  .rw[if_neg e2];obtain rfl:m=1:=by omega
   unfold kas_descPart;rw[tq];have c:=a4 (by omega);refine Mj ha d hp (n-(1+1)) (1+1) (by omega) (by omega) (Mm (m:=1) (λi j eP hj=>by omega) λ_=>c) λm' b1 b2 b3=>?_
   show((if (0:Nat) > 0 then _ else kas_tail3 m' n p):KasT (Nat×Array Nat)).kasWp cmp Q s;rw[if_neg<|by decide];exact UR ha d hp (by omega) (by omega) b3 q
theorem mZ(ha:Ab cmp t n s)(d:Df t n){p:Array Nat}(hp:Pm n p){k:Nat}(hk:k<n)(hu:Up t p k):∀(f l r:Nat) {Q:Nat->Shared->Prop},l<=r->r<=k->r-l<=f->(∀i,i<l->ky t p i<ky t p k)->(∀i,r<=i->i<k->ky t p k<ky t p i) ->
  (∀l',l'<=k->(∀i,i<l'->ky t p i<ky t p k)->(∀i,l'<=i->i<k->ky t p k<ky t p i)->Q l' s)->(kas_place p k f l r).kasWp cmp Q s
 |0,l,r,Q,h1,h2,h3,h4,h5,q=>by
  obtain rfl:l=r:=by omega
  exact q l h2 h4 h5
 |f+1,l,r,Q,h1,h2,h3,h4,h5,q=>by
  unfold kas_place;by_cases e:l ≥ r
  .rw[if_pos e];obtain rfl:l=r:=by omega
   exact q l h2 h4 h5
  .rw[if_neg e];refine ha _ _ (hp.at hk).2 (hp.at<|by omega).2 (λz=>by have:=hp.inj (by omega) (by omega) z;omega) _ ?_;by_cases c:t (p.getD k 0)<t (p.getD ((l+r) / 2) 0)
   .rw[decide_eq_true c];refine mZ ha d hp hk hu f l ((l+r) / 2) (by omega) (by omega) (by omega) h4 (λi b1 b2=>?_) q;rcases mx ((l+r) / 2) i with z|z
    .exact su c<|hu _ _ z b2
    .obtain rfl:i=(l+r) / 2:=by omega
     exact c
   .rw[decide_eq_false c];have c':ky t p ((l+r) / 2)<ky t p k:=uQ c (GO d hp hk (by omega)<|by omega);refine mZ ha d hp hk hu f ((l+r) / 2+1) r (by omega) h2 (by omega) (λi b1=>?_) h5 q;rcases mx i ((l+r) / 2) with z|z
    .exact su (hu _ _ z<|by omega) c'
    .obtain rfl:i=(l+r) / 2:=by omega
     exact c'
def KI(hp:Pm n p)(i j:Nat):Pm n (bubble p i j):=⟨(bubble_perm p i j).trans hp.perm⟩
def Qr(hp:Pm n p)(hk:k<n)(hl:l<=k)(hu:Up t p k)(b1:∀i,i<l->ky t p i<ky t p k)(b2:∀i,l<=i->i<k->ky t p k<ky t p i):Up t (bubble p k<|k-l) (k+1):=by
 have e:∀x,x<n->ky t (bubble p k<|k-l) x=if x=l then ky t p k else if l<x/\x<=k then ky t p (x-1) else ky t p x:=λx hx=>by
  have q:=getElem?_bubble (xs:=p) (src:=k) (by rw[hp.size];exact hk) (k-l) (by omega) x;rw[show k-(k-l)=l by omega,((KI hp k<|k-l).at hx).1,(hp.at hk).1,(hp.at hx).1] at q;unfold ky;by_cases h1:x=l
  .rw[if_pos h1] at q ⊢;rw[bv q]
  .rw[if_neg h1] at q ⊢;by_cases h2:l<x/\x<=k
   .rw[if_pos h2] at q ⊢;rw[(hp.at (show x-1<n by omega)).1] at q;rw[bv q]
   .rw[if_neg h2] at q ⊢;rw[bv q]
 intro i j eP hj;rw[e i<|by omega,e j<|by omega];by_cases i1:i=l
 .rw[if_pos i1,if_neg<|by omega,if_pos<|by omega];exact b2 _ (by omega) (by omega)
 .rw[if_neg i1];by_cases i2:l<i/\i<=k
  .rw[if_pos i2,if_neg<|by omega,if_pos<|by omega];exact hu _ _ (by omega) (by omega)
  .rw[if_neg i2];by_cases j1:j=l
   .rw[if_pos j1];exact b1 _ (by omega)
   .rw[if_neg j1];by_cases j2:l<j/\j<=k
    .rw[if_pos j2];rcases mx i (j-1) with z|z
     .exact hu _ _ z (by omega)
     .exact absurd z (by omega)
    .rw[if_neg j2];exact hu _ _ eP (by omega)
theorem KH(ha:Ab cmp t n s)(d:Df t n):∀(f:Nat) (p:Array Nat) (k:Nat) {Q:Array Nat->Shared->Prop},Pm n p->1<=k->k+f=n->Up t p k->(∀p',Pm n p'->Up t p' n->Q p' s)->(kas_bin f p k).kasWp cmp Q s
 |0,p,k,Q,hp,h1,h2,hu,q=>by
  obtain rfl:k=n:=by omega
  exact q p hp hu
 |f+1,p,k,Q,hp,h1,h2,hu,q=>by
  unfold kas_bin;rw[tq];refine mZ ha d hp (by omega) hu k 0 k (bu _) (al _) (by omega) (λi b=>absurd b<|by omega) (λi b1 b2=>absurd b2<|by omega) λl' c1 c2 c3=>?_
  exact KH ha d f _ (k+1) (KI hp _ _) (by omega) (by omega) (Qr hp (by omega) c1 hu c2 c3) q
def Tw(ha:Ab cmp t n s)(d:Df t n)(h2:2<=n)(q:∀p',Pm n p'->Up t p' n->Q p' s):(kas_sort n).kasWp cmp Q s:=by
 unfold kas_sort;rw[tq];refine Uh ha d ⟨wj _⟩ h2 λm p a1 a2 a3 a4=>?_
 by_cases e:m<n
 .show((if m<n then _ else _):KasT (Array Nat)).kasWp cmp Q s;rw[if_pos e];show(kas_bin (n-max m 1) p<|max m 1).kasWp cmp Q s;rw[Nat.max_eq_left a1];exact KH ha d _ p m a3 a1 (by omega) a4 q
 .show((if m<n then _ else .ret p):KasT (Array Nat)).kasWp cmp Q s;rw[if_neg e];obtain rfl:m=n:=by omega
  exact q p a3 a4
open PySem PySem.Spec PyProof.Rows L2 PySem.W TS
noncomputable def vZ(vs:List Value)(p:Array Nat):Array Value:=List.toArray<|p.toList.map λi=>vs.getD i Value.none
def YB(h:Pm vs.length p):(vZ vs p).size=vs.length:=by unfold vZ;rw[ao,ah,cw,h.size]
def Kl(n:Nat):Pm n (fg n).toArray:=⟨wj _⟩
def Rg:vZ vs (fg vs.length).toArray=vs.toArray:=by
 unfold vZ
 congr 1
 refine sk (by simp) λi h1 h2=>?_
 simp[h2]
def n9(ho:s.heap.get? a=aA (seqObj "list" vs.toArray n))(iD:vs.length<64)(d:Df t vs.length)(hk:∀s':Shared,CH s.heap a s'.heap->2<=vs.length->∀Q:SortKind->Shared->Prop,Q κ s'->wpAny (model prog w) A (keyKind' vs.toArray) Q E s')(hm:∀s':Shared,CH s.heap a s'.heap->Ab (kas_ask prog w A κ vs) t vs.length s')(h:∀p:Array Nat,Pm vs.length p->Up t p vs.length->P (.done<|.ret .none) { s with heap:=sortedHeap s.heap a vs (vZ vs p) }):wpAny (model prog w) A (Builtin.«list.sort» ⟨[.ref a],[]⟩) P E s:=by
 rw[list_sort_plain];have la:=aw ho;have z:vs.toArray.size=vs.length:=by simp
 refine aa<|abq ho rfl<|aa<|qm ho rfl ?_ (hsz:=by rw[z,gk];omega);have⟨e,oe⟩:∃e,(s.heap.update a<|cj λ_=>#[]).get? a=aA (seqObj "list" #[] e):=⟨_,we ho λ_=>#[]⟩;refine aa<|wt oe rfl<|aa<|wo<|aa<|uw<|gc ?_
 let h2:Heap:=((s.heap.update a<|cj λ_=>#[]).push<|seqObj "tuple" vs.toArray 0).push<|seqObj "list" #[] 0
 have ga:h2.get? a=aA (seqObj "list" #[] e):=ac _<|ac _ oe;have lies:CH s.heap a h2:=λb o nb eb=>by
  refine ac _<|ac _ ?_;rw[gj _ _ _ _ nb];exact eb
 show wpAny (model prog w) A _ P E { s with heap:=h2 };by_cases f8:vs.toArray.size<2
 .rw[if_pos f8,if_pos f8];refine aa<|af ?_;dsimp only;rw[StateT.run_pure];refine aa<|af ?_
  let Dc:SortSt:=SortSt.mk' general' (vs.toArray.zip vs.toArray) #[] 7 aB
  have eo:(arrOf Dc).map (·.2)=vZ vs (fg vs.length).toArray:=by
   rw[Rg];show(vs.toArray.zip vs.toArray).map (·.2)=vs.toArray;apply Array.toList_inj.mp;rw[yu,ksk_zip];exact List.map_snd_zip<|al _
  dsimp only;have zz:((arrOf Dc).map (·.2)).size=vs.length:=by rw[eo];exact YB<|Kl _
  refine aa<|wt ga rfl<|aa<|qm ga rfl ?_ (hsz2:=by rw[show(abm (λx=>x.2)<|arrOf Dc).size=vs.length from zz,gk];omega)
  (try rw[show failedOf Dc=aB from rfl])
  simp only[if_false,bne_self_eq_false,bx];rw[show abm (λx=>x.2) (arrOf Dc)=_ from eo];rw[z] at f8;exact af (h _ (Kl _) λi j eP hj=>absurd hj<|by omega)
 .rw[if_neg f8,if_neg f8];refine aa<|hk { s with heap:=h2 } lies (by omega) _ ?_;have NX:2<=vs.length:=by rw[z] at f8;omega
  refine aa (je (kat_run (E:=E) (s:={ s with heap:=h2 }) (Q:=λeJ s'=>s'={ s with heap:=h2 }/\∃p:Array Nat,Pm vs.length p/\Up t p vs.length/\arrOf eJ=p.map (kas_item<|vs.toArray.zip vs.toArray)/\failedOf eJ=aB) (G:=λp s'=>s'={ s with heap:=h2 }/\Pm vs.length p/\Up t p vs.length)
   rfl NX iD (λp' eJ s' a1 a2 a3 a4=>⟨a4.1,p',a4.2.1,a4.2.2,a2,a3⟩) (Tw (hm { s with heap:=h2 } lies) d NX λp hp hu=>⟨rfl,hp,hu⟩)) ?_ λ_ _ e=>e)
  rintro ⟨⟨⟩,eJ⟩ s' ⟨rfl,p,hp,hu,Yp,hf⟩;dsimp only;have eo:(arrOf eJ).map (·.2)=vZ vs p:=kat_snds rfl Yp;have zz:((arrOf eJ).map (·.2)).size=vs.length:=by rw[eo];exact YB hp
  refine aa<|wt ga rfl<|aa<|qm ga rfl ?_ (hsz2:=by rw[show(abm (λx=>x.2)<|arrOf eJ).size=vs.length from zz,gk];omega)
  (try rw[show failedOf eJ=aB from hf])
  simp only[if_false,bne_self_eq_false,bx];rw[show abm (λx=>x.2) (arrOf eJ)=_ from eo];exact af<|h p hp hu
def X7(hl:s.heap.IsList l vs.toArray)(iD:vs.length<64)(d:Df t vs.length)(hk:∀(A:Around) (E:Value->Shared->Prop) (s':Shared),XO s.heap s'.heap->2<=vs.length->∀Q:SortKind->Shared->Prop,Q κ s'->wpAny (model prog w) A (keyKind' vs.toArray) Q E s')(hm:∀(A:Around) (s':Shared),XO s.heap s'.heap->Ab (kas_ask prog w A κ vs) t vs.length s')(h:∀p:Array Nat,Pm vs.length p->Up t p vs.length->Q (.ref<|s.heap.objs.size+1) { s with heap:=sortedAll s.heap vs (vZ vs p) }):wpAny (model prog w) A (call (.builtin "sorted") [.ref l]) Q E s:=by
 refine aag (acu) abo abr (args_sorted1 _) ?_;unfold Builtin.«sorted»;refine aa (m:=checkCount "sorted" 1 1 _)<|af<|aa<|collect_list hl ?_ (hsz:=by rw[gk];omega)
 let h1:Heap:=(s.heap.push<|seqObj "list" #[] 0).update s.heap.objs.size<|cj (·++vs.toArray)
 have z1:h1.objs.size=s.heap.objs.size+1:=by show(Heap.update _ _ _).objs.size=_;rw[yq,zr]
 have f_:(h1.push<|seqObj "list" vs.toArray 0).get? (s.heap.objs.size+1)=aA (seqObj "list" vs.toArray 0):=by rw[<-z1];exact ax _ rfl
 have iA:XO s.heap (h1.push<|seqObj "list" vs.toArray 0):=λb o e=>by
  refine ac _ ?_;have lb:=aw e;show(Heap.update _ _ _).get? b=_;rw[gj _ _ _ _<|bh lb];exact ac _ e
 have eT:∀h':Heap,CH (h1.push<|seqObj "list" vs.toArray 0) (s.heap.objs.size+1) h'->XO s.heap h':=λh' hL b o e=>hL b o (bh<|uv<|aw e)<|iA b o e
 refine(aa<|uw ?_);show wpAny _ _ _ _ _ { s with heap:=h1.push (seqObj "list" vs.toArray 0) };show wpAny _ _ (holding [Value.ref h1.objs.size] _ >>= _) _ _ _;rw[z1];refine aa<|gc<|fm zq ⟨_,f_,rfl⟩ zf (n9 f_ iD d (λs' L=>hk _ _ s'<|eT _ L) (λs' L=>hm _ s'<|eT _ L) λp o1 o2=>⟨_,rfl,?_⟩)<|args_list_sort _;exact af ⟨_,rfl,h p o1 o2⟩
def BP(h:Heap)(v:Value)(k:Str):Prop:=∃(a:Addr) (o:Obj) (r:List Value) (n:Nat) (tk:Tok),v=.ref a/\h.get? a=aA o/\o.cls=.type "tuple" /\ o.data=.seq (Value.str k tk::r).toArray n
def BP.stays(st:XO h h')(p:BP h v k):BP h' v k:=by
 obtain⟨a,o,r,n,tk,e,g,c,d⟩:=p;exact⟨a,o,r,n,tk,e,st _ _ g,c,d⟩
section
variable{prog:Program}{w:World}{A:Around}{E:Value->Shared->Prop}{s:Shared}
def PN(hx:BP s.heap x k)(hy:BP s.heap y j)(ne:k≠j)(q:Q (decide (k.cps.toList<j.cps.toList)) s):wpAny (model prog w) A (keyLt' (tuples' true) x y) Q E s:=by
 obtain⟨a,o,r,n,tk,rfl,g,c,d⟩:=hx;obtain⟨a',o',r',n',AB,rfl,g',c',d'⟩:=hy;refine kat_lt g d g' d' ?_;show KatLex prog w A true _ Q ((Value.str k tk,Value.str j AB)::r.zip r') 0 s;refine kat_cons<|yn ?_;rw[decide_eq_false ne];exact kat_no<|oneLt_str q
theorem JM:∀(vs:List Value) (ks:List Str),vs.length=ks.length->(∀(i:Nat) (v:Value) (k:Str),vs[i]?=aA v->ks[i]?=aA k->BP s.heap v k)->∃fs,fs.length=vs.length/\KatTups s.heap vs fs/\∀f∈fs,∃i t,f=Value.str i t
 |[],_,_,_=>⟨[],rfl,trivial,by simp⟩
 |v::vs,[],h,_=>by cases h
 |v::vs,k::ks,hl,h=>by
  obtain⟨fs,l,kt,g⟩:=JM vs ks (by simpa using hl) λi v k h1 h2=>h (i+1) v k (by simpa using h1) (by simpa using h2)
  obtain⟨a,o,r,n,tk,rfl,e,c,d⟩:=h 0 v k rfl rfl;exact⟨.str k tk::fs,by simp[l],KatTups.cons e c d rfl kt,λf hf=>by
   rcases bb.mp hf with rfl|hf
   .exact⟨k,tk,rfl⟩
   .exact g f hf⟩
end
section
variable{X:Cx}
theorem ZG(h:Vals xs us):∀l:List Nat,(∀i∈l,i<xs.length)->Vals (l.map λi=>xs.getD i .aE) (l.map λi=>us.getD i .none)
 |[],_=>.nil
 |i::l,hl=>by
  have hi:=hl i (by simp);obtain⟨u,e,r⟩:=h.get<|au hi;refine .cons ?_ (ZG h l λj hj=>hl j<|by simp[hj]);show RelV (xs.getD i .aE)<|us.getD i .none;rw[cy,cy,e,au hi];exact r
def XX(ks:List Str)(ys:List V)(h:ks.length=ys.length):(fg ys.length).map (λi=>(ks.getD i default,ys.getD i .aE))=ks.zip ys:=by
 refine sk (by simp[h]) λi h1 h2=>?_
 have hy:i<ys.length:=by simpa using h1
 have hk:i<ks.length:=by omega
 simp[hy,hk]
def mJ:fJ X (.builtin "sorted") (λxs H Q=>∃(p:Addr) (ys:List V) (ks:List Str),xs=[.ref p]/\aN X.K H p ys/\ys.length<64/\ks.length=ys.length /\
  (∀(i:Nat) (x:V) (k:Str),ys[i]?=aA x->ks[i]?=aA k->∃a rest,x=.ref a/\aM X.K H a (.str k::rest))/\(ks.map λk=>k.cps.toList).Nodup/\∀zs l,Gc ks ys zs->H l=aB->Q (.ref l) (upd H l<|.lst zs)):=by
 intro pZ s σ H xs us Q I r hq;obtain⟨p,ys,ks,rfl,sq,iD,hlen,hk,nd,q⟩:=hq;obtain⟨u,rfl,ru⟩:=Vals.one r;cases ru;obtain⟨its,rv,pl,hz⟩:=I.list sq;have hl:=rv.length
 let t:Nat->List Nat:=λi=>(ks.getD i default).cps.toList
 have tk:∀{i:Nat},i<its.length->∃k,ks[i]?=aA k/\ks.getD i default=k:=λ{i} hi=>by
  have fL:i<ks.length:=by omega
  exact⟨ks[i],au fL,by rw[cy,au fL];rfl⟩
 have d:Df t its.length:=λi j hi hj e=>by
  have li:i<(ks.map λk=>k.cps.toList).length:=by rw[ah];omega
  have lj:j<(ks.map λk=>k.cps.toList).length:=by rw[ah];omega
  have ti:∀{i:Nat} (li:i<(ks.map λk=>k.cps.toList).length),(ks.map λk=>k.cps.toList)[i]=t i:=λ{i} li=>by
   have fL:i<ks.length:=by simpa using li
   show _=(ks.getD i default).cps.toList;rw[cy,au fL,jm];rfl
  rcases jh i j with z|z|z
  .exact absurd (by rw[ti li,ti lj,e])<|ck.mp nd i j li lj z
  .exact z
  .exact absurd (by rw[ti li,ti lj,e])<|ck.mp nd j i lj li z
 have pt:∀(i:Nat) (v:Value) (k:Str),its[i]?=aA v->ks[i]?=aA k->BP s.heap v k:=λi v k h1 h2=>by
  have hi:i<ys.length:=by rw[hl];exact(ba.mp h1).1
  obtain⟨u,e,rr⟩:=rv.get<|au hi;rw[h1] at e;cases e;obtain⟨a,rest,ex,st⟩:=hk i ys[i] k (au hi) h2;rw[ex] at rr;cases (show v=Value.ref a from rr);obtain⟨js,rj,⟨o,g,c,n,dd⟩,_⟩:=I.tuple st;cases rj with
  |cons a1 b1=>
   obtain⟨tk,rfl⟩:=a1;exact⟨a,o,_,n,tk,rfl,g,c,dd⟩
 refine X7 (vs:=its) (κ:=tuples' true) (t:=t) pl.isList (by omega) d (λA E s' st h2 Q hQ=>?_) (λA s' st i j hi hj eP C hC=>?_) λpm hp hu=>?_
 .obtain⟨fs,fl,ft,g⟩:=JM (s:=s') its ks (by omega) λi v k h1 h2=>(pt i v k h1 h2).stays st
  refine kat_kind (T:=.type "str") ft (by omega) (λv hv=>?_) (by decide) (by exact hQ);obtain⟨i,t,rfl⟩:=g v hv;exact .now
 .obtain⟨k,e1,e2⟩:=tk hi;obtain⟨k',Zt,N7⟩:=tk hj;have gv:∀{i:Nat},i<its.length->its[i]?=aA (its.getD i Value.none):=λ{i} hi=>by rw[cy,au hi];rfl
  refine PN ((pt i _ k (gv hi) e1).stays st) ((pt j _ k' (gv hj) Zt).stays st) (λz=>eP<|d i j hi hj (by show(ks.getD i default).cps.toList=(ks.getD j default).cps.toList;rw[e2,N7,z])) ?_;have e:t i=k.cps.toList:=by show(ks.getD i default).cps.toList=_;rw[e2]
  have e':t j=k'.cps.toList:=by show(ks.getD j default).cps.toList=_;rw[N7]
  rw[<-e,<-e'];exact hC
 .have inr:∀i∈pm.toList,i<ys.length:=λi hi=>by
   have:=hp.perm.mem_iff.mp<|oz.mp hi
   rw[hl];simpa using this
  let zs:List V:=pm.toList.map λi=>ys.getD i .aE
  have vz:Vals zs (vZ its pm).toList:=by
   show Vals zs (List.toArray _).toList;rw[xb];exact ZG rv pm.toList inr
  obtain⟨e,he⟩:=sortedAll_at s.heap its<|vZ its pm;have lz:zs.length<=ar:=by rw[ah,cw,hp.size];omega
  have fresh:H (s.heap.objs.size+1)=aB:=I.aI.fresh<|rc _;have ko:Gc ks ys zs:=by
   refine⟨pm.toList.map λi=>(ks.getD i default,ys.getD i .aE),?_,by rw[dm];rfl,?_⟩
   .rw[<-XX ks ys hlen];have pp:pm.toList.Perm (fg its.length):=by simpa using oy.mp hp.perm
    rw[hl];exact pp.map _
   .rw[du,ck];intro i j hi hj eP;have fL:i<its.length:=by rw[<-hp.size];simpa using hi
    have FZ:j<its.length:=by rw[<-hp.size];simpa using hj
    have up:=hu i j eP FZ;have ei:∀{i:Nat} (hi:i<pm.toList.length),pm.getD i 0=pm.toList[i]:=λ{i} hi=>by
     have:i<pm.size:=by simpa using hi
     simp[pc,this]
    unfold ky at up;rw[ei hi,ei hj] at up;exact List.lt_asymm up
  exact⟨.ref<|s.heap.objs.size+1,_,I.laid (t':=s.toks) (λb o g=>sortedAll_old g) (rc _) (show d_ X.prog X.w _ _ _ (.lst zs) from⟨lz,(vZ its pm).toList,e,vz,by simpa using he⟩),rfl,q zs _ ko fresh⟩
end
noncomputable def Ex:D->Option (List Nat)
 |.tup (.str s::_)=>aA s
 |_=>aB
def B6:List D->Option (List KD)
 |[]=>aA []
 |d::l=>(Ex d).bind λs=>(B6 l).map λr=>(s,d)::r
def EY(fl:ML):ML:=λr=>(fl r).bind λl=>(B6 l).bind λq=>if q.length<64/\(q.map (·.1)).Nodup then aA (CQ q) else aB
theorem dA:∀{l:List D} {q:List KD},B6 l=aA q->q.map (·.2)=l
 |[],q,h=>by cases h;rfl
 |d::l,q,h=>by
  obtain⟨s,_,h⟩:=aF h;obtain⟨r,h1,rfl⟩:=aT h;rw[am,dA h1]
theorem pH:∀{l:List D} {q:List KD} {i:Nat} {p:KD},B6 l=aA q->q[i]?=aA p->l[i]?=aA p.2/\Ex p.2=aA p.1
 |[],q,i,p,h,e=>by cases h;simp at e
 |d::l,q,i,p,h,e=>by
  obtain⟨s,h0,h⟩:=aF h;obtain⟨r,h1,rfl⟩:=aT h;cases i with
  |zero=>cases e;exact⟨rfl,h0⟩
  |succ i=>
   have z:=pH (l:=l) (i:=i) h1 (by simpa using e);exact⟨by simpa using z.1,z.2⟩
def SH{K:Fg}(e:Ex d=aA k)(h:Is K O H d v):∃a rest,v=.ref a/\aM K H a (.str ⟨k.toArray⟩::rest):=by
 cases d<;>first|(cases e;done)|skip
 rename_i l;cases l with
 |nil=>cases e
 |cons d l=>
  cases d<;>first|(cases e;done)|skip
  cases e;rw[zX] at h;obtain⟨a,xs,rfl,sq,il⟩:=h;unfold IsL at il;obtain⟨y,r,rfl,h1,_⟩:=il;rw[yC] at h1;subst h1;exact⟨a,r,rfl,sq⟩
def SD(hg:Gl X "sorted")(hm:X.mg "sorted" = aB)(ha:DB X a fl)(hs:bp [a] X.env=(false,eval a X.env)::bp [] X.env:=by rfl):DF X (.Call (.Name "sorted" p') [a] [] pos) (EY fl):=by
 refine PE.aH (jH mJ hg hm qo (yN ha x8 hs) (he:=hs)) λσ H Q hq=>?_
 obtain⟨O0,r,l',hR,e,q⟩:=hq;obtain⟨l,e1,e2⟩:=aF e;obtain⟨kd,e3,e4⟩:=aF e2;split at e4
 .rename_i hz;cases e4;refine⟨O0,r,l,hR,e1,λp xs H1 s1 sq il=>?_⟩;have Xp:=il.length;have NE:kd.length=l.length:=by rw[<-dA e3,ah]
  refine⟨p,xs,kd.map λp=>(⟨p.1.toArray⟩:Str),rfl,sq,by omega,by rw[ah];omega,λi x k hx hk=>?_,?_,λzs D ko n1=>?_⟩
  .rw[av] at hk;obtain⟨kp,ek,rfl⟩:=gt.mp hk;obtain⟨el,eo⟩:=pH e3 ek;obtain⟨y',ey,iy⟩:=il.get el;rw[hx] at ey;cases ey;exact SH eo iy
  .rw[dm]
   have:(kd.map ((λk:Str=>k.cps.toList) ∘ λp:KD=>(⟨p.1.toArray⟩:Str)))=kd.map (·.1):=qf λp _=>rfl
   rw[this];exact hz.2
  .obtain⟨qs,hp,rfl,ho⟩:=ko.ex;have eW:IsL X.K (Ow O0 r σ) H1 (kd.map (·.2)) xs:=by rw[dA e3];exact il
   obtain⟨bs,hq,hi⟩:=iI.perm hp<|iI.of eW;obtain⟨i1,i2⟩:=hi.FL;have up:B7 bs:=by
    have z:(qs.map (·.1)).Pairwise λp q:Str=>¬q.cps.toList<p.cps.toList:=du.mpr ho
    rw[i2] at z;exact(du.mp z).imp λh=>by simpa using h
   rw[ZV hz.2 hq up] at i1;refine q D _ _ (s1.trans<|zW n1) (s1.free n1) zR ?_;exact IsL.mono (aC.kp (zW n1) _) (hR.same s1).ol (λb z hb=>z.elim id λz=>absurd n1 (by subst z;exact hb)) _ _ i1
 .cases e4
end DD
namespace SP
open PySem PySem.SetTable
def Ri(xs:Array Nat):Prop:=∀a b,a<b->b<xs.size->xs.getD a 0<xs.getD b 0
def LY{xs:Array Nat}{i a b:Nat}(h:i<xs.size):xs.getD i a=xs.getD i b:=by simp[pc,h]
theorem nE{xs:Array Nat}{j:Nat}(hr:Ri xs):∀(f lo hi:Nat),hi-lo<=f->lo<=hi->hi<=xs.size->(∀i,i<lo->xs.getD i 0<j)->(∀i,hi<=i->i<xs.size->j<=xs.getD i 0) ->
  lo<=below.go xs j f lo hi/\below.go xs j f lo hi<=hi/\(∀i,i<below.go xs j f lo hi->xs.getD i 0<j)/\∀i,below.go xs j f lo hi<=i->i<xs.size->j<=xs.getD i 0
 |0,lo,hi,h1,h2,h3,h4,h5=>by
  have e:lo=hi:=by omega
  subst e;exact⟨al _,al _,h4,h5⟩
 |f+1,lo,hi,h1,h2,h3,h4,h5=>by
  unfold below.go;by_cases h:lo<hi
  .rw[if_pos h];simp only;have hm:(lo+hi) / 2<hi:=by omega
   have hl:lo<=(lo+hi) / 2:=by omega
   by_cases hx:xs.getD ((lo+hi) / 2) j<j
   .rw[if_pos hx];rw[LY (b:=0)<|by omega] at hx;obtain⟨q1,q2,q3,q4⟩:=nE hr f ((lo+hi) / 2+1) hi (by omega) (by omega) h3 (λi fL=>by
     by_cases z:i=(lo+hi) / 2
     .rw[z];exact hx
     .exact ro (hr i _ (by omega)<|by omega) hx) h5
    exact⟨by omega,q2,q3,q4⟩
   .rw[if_neg hx];rw[LY (b:=0)<|by omega] at hx;obtain⟨q1,q2,q3,q4⟩:=nE hr f lo ((lo+hi) / 2) (by omega) hl (by omega) h4 (λi fL hs=>by
     by_cases z:i=(lo+hi) / 2
     .rw[z];omega
     .have:=hr ((lo+hi) / 2) i (by omega) hs
      omega)
    exact⟨q1,by omega,q3,q4⟩
  .rw[if_neg h];have e:lo=hi:=by omega
   subst e;exact⟨al _,al _,h4,h5⟩
def k8{xs:Array Nat}(hr:Ri xs)(j:Nat):below xs j<=xs.size/\(∀i,i<below xs j->xs.getD i 0<j)/\∀i,below xs j<=i->i<xs.size->j<=xs.getD i 0:=by
 obtain⟨_,q2,q3,q4⟩:=nE (j:=j) hr xs.size 0 xs.size (by omega) (by omega) (al _) (λi h=>by omega) (λi h1 h2=>by omega);exact⟨q2,q3,q4⟩
def dH{xs:Array Nat}{i j:Nat}(h:xs[i]?=aA j):i<xs.size/\xs.getD i 0=j:=by
 obtain⟨hi,e⟩:=et.mp h;exact⟨hi,by simp[pc,hi,e]⟩
def nP{xs:Array Nat}(hr:Ri xs){i j:Nat}(h:xs[i]?=aA j):below xs j=i:=by
 obtain⟨hi,e⟩:=dH h;obtain⟨q2,q3,q4⟩:=k8 hr j;rcases jh (below xs j) i with z|z|z
 .have:=q4 (below xs j) (al _) (by omega)
  have:=hr (below xs j) i z hi
  omega
 .exact z
 .have:=q3 i z;omega
def L6(j:Nat):has #[] j=false:=by simp[has]
def uB{t:SetTable}(hr:Ri t.place)(hd:t.dummies = #[]){i j:Nat}(h:t.place[i]?=aA j):t.slot j=.live i:=by
 unfold slot;simp only[nP hr h,h,beq_self_eq_true,if_true]
def gB{t:SetTable}(hr:Ri t.place)(hd:t.dummies = #[]){j:Nat}(h:∀i:Nat,t.place[i]?≠aA j):t.slot j=.empty:=by
 unfold slot;simp only[hd,L6];rw[if_neg<|by simpa using h _];rfl
def u8{t:SetTable}(hr:Ri t.place)(hd:t.dummies = #[])(j:Nat):(∃i:Nat,t.place[i]?=aA j/\t.slot j=.live i)\/((∀i:Nat,t.place[i]?≠aA j)/\t.slot j=.empty):=by
 by_cases h:∃i:Nat,t.place[i]?=aA j
 .obtain⟨i,hi⟩:=h;exact .inl ⟨i,hi,uB hr hd hi⟩
 .have h':∀i:Nat,t.place[i]?≠aA j:=λi e=>h ⟨i,e⟩
  exact .inr ⟨h',gB hr hd h'⟩
noncomputable def run(t:SetTable):Nat->Probe->Probe
 |0,p=>p
 |n+1,p=>run t n<|t.advance p
theorem wE(t:SetTable):∀(n m:Nat) (p:Probe),run t (n+m) p=run t m (run t n p)
 |0,m,p=>by rw[ub];rfl
 |n+1,m,p=>by rw[Nat.add_right_comm];exact wE t n m<|t.advance p
def B_(m:Nat)(p:Probe):Prop:=p.j=p.i/\p.more=runEnd m p.i-p.i
def n8(t:SetTable)(h:Int):B_ t.mask (t.probeStart h):=⟨rfl,rfl⟩
theorem Hh(t:SetTable):∀(n:Nat) (p:Probe),n<=p.more->run t n p={ p with j:=p.j+n,more:=p.more-n }
 |0,p,_=>rfl
 |n+1,p,h=>by
  have e:t.advance p={ p with j:=p.j+1,more:=p.more-1 }:=by unfold advance;rw[if_pos<|by omega]
  show run t n (t.advance p)=_;rw[e,Hh t n _ (by show n<=p.more-1;omega)];simp only[Probe.mk.injEq,and_true,true_and];omega
def Tk{m:Nat}{p:Probe}(h:B_ m p):p.more<=9:=by
 rw[h.2];unfold runEnd
 split<;>omega
def Z2(t:SetTable)(p:Probe)(h:B_ t.mask p):run t (p.more+1) p={ p with j:=(leap t.mask p.i p.perturb).1,more:=runEnd t.mask (leap t.mask p.i p.perturb).1-(leap t.mask p.i p.perturb).1,i:=(leap t.mask p.i p.perturb).1,perturb:=p.perturb / 32 }:=by
 rw[wE,Hh t p.more p<|al _];show t.advance _=_;unfold advance;rw[if_neg<|by simp];rfl
noncomputable def eM(m:Nat):Nat->Nat×Nat->Nat×Nat
 |0,x=>x
 |k+1,x=>eM m k<|leap m x.1 x.2
theorem Ka(t:SetTable):∀(k:Nat) (p:Probe),B_ t.mask p->∃n,n<=10*k/\B_ t.mask (run t n p)/\(run t n p).i=(eM t.mask k (p.i,p.perturb)).1/\(run t n p).perturb=(eM t.mask k (p.i,p.perturb)).2
 |0,p,h=>⟨0,al _,h,rfl,rfl⟩
 |k+1,p,h=>by
  have e:=Z2 t p h;have ml:=Tk h;obtain⟨n,n1,n2,n3,n4⟩:=Ka t k (run t (p.more+1) p) (by rw[e];exact⟨rfl,rfl⟩);refine⟨p.more+1+n,by omega,?_⟩;rw[wE];refine⟨n2,n3.trans ?_,n4.trans ?_⟩<;>rw[e]<;>rfl
theorem dD(m:Nat):∀(k:Nat) (x:Nat×Nat),(eM m k x).2=x.2 / 32 ^ k
 |0,x=>by simp[eM]
 |k+1,x=>by
  show(eM m k<|leap m x.1 x.2).2=_;rw[dD m k];show x.2 / 32 / 32 ^ k=_;rw[Nat.div_div_eq_div_mul,Nat.pow_succ,Nat.mul_comm]
theorem cA(m:Nat):∀(a b:Nat) (x:Nat×Nat),eM m (a+b) x=eM m b (eM m a x)
 |0,b,x=>by rw[ub];rfl
 |a+1,b,x=>by rw[Nat.add_right_comm];exact cA m a b _
theorem He(m:Nat):∀(k:Nat) (x:Nat×Nat),x.1<=m->(eM m k x).1<=m
 |0,x,h=>h
 |k+1,x,h=>He m k _ (by show(x.1*5+1+x.2 / 32) % (m+1)<=m;have:=qx (x.1*5+1+x.2 / 32) (show 0<m+1 by omega);omega)
def Mk(m:Nat):Prop:=m=7\/m=31\/m=127
def CJ(m:Nat):Bool:=(fg<|m+1).all (λq=>(fg<|m+1).any λk=>(eM m k (0,0)).1 == q) && (eM m (m+1) (0,0)).1 == 0
def XC:CJ 7=true/\CJ 31=true/\CJ 127=true:=by decide +kernel
def SF(m k:Nat)(x:Nat):(eM m k (x,0)).2=0:=by rw[dD];simp
def Md(m k x:Nat):eM m k (x,0)=((eM m k (x,0)).1,0):=by
 have:=SF m k x
 cases h:eM m k (x,0) with
 |mk a b=>rw[h] at this;simp at this;subst this;rfl
def N_{m:Nat}(hm:Mk m){i q:Nat}(hi:i<=m)(hq:q<=m):∃k,k<=m/\(eM m k (i,0)).1=q:=by
 have c:CJ m=true:=hm.elim (λz=>z ▸ XC.1) λz=>z.elim (λz=>z ▸ XC.2.1) λz=>z ▸ XC.2.2
 unfold CJ at c;simp only[fu,so,sn,jo,beq_iff_eq] at c;obtain⟨c1,c2⟩:=c;obtain⟨a,ha,ea⟩:=c1 i (by omega);obtain⟨b,hb,eb⟩:=c1 q (by omega);have ei:eM m a (0,0)=(i,0):=by rw[Md,ea]
 have en:eM m (m+1) (0,0)=(0,0):=by rw[Md,c2]
 by_cases BG:a<=b
 .refine⟨b-a,by omega,?_⟩;rw[<-ei,<-cA,show a+(b-a)=b by omega];exact eb
 .refine⟨b+(m+1)-a,by omega,?_⟩;rw[<-ei,<-cA,show a+(b+(m+1)-a)=(m+1)+b by omega,cA,en];exact eb
def LF(h:Int):bits h<2 ^ 64:=by
 unfold bits;have h1:=jb h (b:=(2 ^ 64:Int)) (by decide);have h2:=ic h (b:=(2 ^ 64:Int)) (by decide);omega
def O3{t:SetTable}(hm:Mk t.mask)(h:Int){q:Nat}(hq:q<=t.mask):∃n,n<10*turns t.mask/\(run t n<|t.probeStart h).j=q:=by
 let p:=t.probeStart h
 have hp:p.i<=t.mask:=by show bits h % (t.mask+1)<=t.mask;have:=qx (bits h) (show 0<t.mask+1 by omega);omega
 have z:(eM t.mask 13 (p.i,p.perturb)).2=0:=by
  rw[dD];exact Nat.div_eq_of_lt (bw (LF h)<|by decide)
 have Ib:=He t.mask 13 (p.i,p.perturb) hp;obtain⟨k,hk,ek⟩:=N_ hm Ib hq;obtain⟨n,n1,n2,n3,_⟩:=Ka t (13+k) p<|n8 t h;refine⟨n,by unfold turns;omega,?_⟩;rw[n2.1,n3,cA];have e:eM t.mask 13 (p.i,p.perturb)=((eM t.mask 13 (p.i,p.perturb)).1,0):=by rw[<-z]
 rw[e];exact ek
noncomputable abbrev Ent:=Int×Value
structure TI(t:SetTable)(es:Array Ent):Prop where
 sz:t.place.size=es.size
 ri:Ri t.place
 bd:∀(i j:Nat),t.place[i]?=aA j->j<=t.mask
 nd:t.dummies = #[]
 mm:Mk t.mask
 room:es.size<=t.mask
 pt:∀(i j:Nat) (e:Ent),t.place[i]?=aA j->es[i]?=aA e->∃n,(run t n<|t.probeStart e.1).j=j/\∀k,k<n->∃i':Nat,t.place[i']?=aA (run t k<|t.probeStart e.1).j
theorem gap{xs:Array Nat}(hr:Ri xs):∀k,k<=xs.size->(∀i,i<k->xs.getD i 0=i)\/∃q,q<k/\∀i:Nat,xs[i]?≠aA q
 |0,_=>.inl λi h=>by omega
 |k+1,h=>by
  rcases gap hr k (by omega) with z|⟨q,hq,z⟩
  .by_cases e:xs.getD k 0=k
   .exact .inl λi hi=>by
     by_cases y:i=k
     .rw[y];exact e
     .exact z i (by omega)
   .refine .inr ⟨k,by omega,λi hi=>?_⟩;obtain⟨h1,h2⟩:=dH hi;have hk:k<xs.getD k 0:=by
     rcases xl k with y|y
     .subst y;omega
     .have:=hr (k-1) k (by omega) (by omega)
      rw[z (k-1)<|by omega] at this;omega
    rcases jh i k with y|y|y
    .have:=z i y;omega
    .subst y;omega
    .have:=hr k i y h1;omega
  .exact .inr ⟨q,by omega,z⟩
def v_{t:SetTable}{es:Array Ent}(h:TI t es):∃q,q<=t.mask/\∀i:Nat,t.place[i]?≠aA q:=by
 rcases gap h.ri t.place.size (al _) with z|⟨q,hq,z⟩
 .refine⟨t.place.size,by rw[h.sz];exact h.room,λi hi=>?_⟩;obtain⟨h1,h2⟩:=dH hi
  have:=z i h1;omega
 .exact⟨q,by have:=h.sz;have:=h.room;omega,z⟩
def tV{t:SetTable}{es:Array Ent}(h:TI t es)(x:Int):∃e,e<10*turns t.mask/\t.slot (run t e<|t.probeStart x).j=.empty/\(∀i:Nat,t.place[i]?≠aA (run t e<|t.probeStart x).j)/\(run t e<|t.probeStart x).j<=t.mask/\∀k,k<e->∃i:Nat,t.place[i]?=aA (run t k<|t.probeStart x).j:=by
 obtain⟨q,q1,q2⟩:=v_ h;obtain⟨n,n1,n2⟩:=O3 h.mm x q1;have key:∀n,n<10*turns t.mask->(run t n<|t.probeStart x).j=q->∃e,e<=n/\(∀i:Nat,t.place[i]?≠aA (run t e<|t.probeStart x).j)/\∀k,k<e->∃i:Nat,t.place[i]?=aA (run t k<|t.probeStart x).j:=by
  intro n _ en;have all:∀m,m<=n->(∃e,e<=m/\(∀i:Nat,t.place[i]?≠aA (run t e<|t.probeStart x).j)/\∀k,k<e->∃i:Nat,t.place[i]?=aA (run t k<|t.probeStart x).j)\/∀k,k<=m->∃i:Nat,t.place[i]?=aA (run t k<|t.probeStart x).j:=by
   intro m
   induction m with
   |zero=>
    intro _;rcases u8 h.ri h.nd (run t 0<|t.probeStart x).j with⟨i,e1,_⟩|⟨e1,_⟩
    .exact .inr λk hk=>by rw[show k=0 by omega];exact⟨i,e1⟩
    .exact .inl ⟨0,al _,e1,λk hk=>by omega⟩
   |succ m ih=>
    intro hm;rcases ih (by omega) with⟨e,h1,h2,h3⟩|h2
    .exact .inl ⟨e,by omega,h2,h3⟩
    .rcases u8 h.ri h.nd (run t (m+1)<|t.probeStart x).j with⟨i,e1,_⟩|⟨e1,_⟩
     .refine .inr λk hk=>?_
      by_cases y:k=m+1
      .rw[y];exact⟨i,e1⟩
      .exact h2 k (by omega)
     .exact .inl ⟨m+1,al _,e1,λk hk=>h2 k<|by omega⟩
  rcases all n (al _) with z|z
  .exact z
  .obtain⟨i,hi⟩:=z n<|al _;rw[en] at hi;exact absurd hi<|q2 i
 obtain⟨e,e1,e2,e3⟩:=key n n1 n2;refine⟨e,by omega,gB h.ri h.nd e2,e2,?_,e3⟩;have Ig:∀(n:Nat) (p:Probe),p.j+p.more<=t.mask->(run t n p).j+(run t n p).more<=t.mask:=by
  intro n
  induction n with
  |zero=>intro p hp;exact hp
  |succ n ih=>
   intro p hp;refine ih _ ?_;unfold advance;split
   .show p.j+1+(p.more-1)<=_;omega
   .show(leap t.mask p.i p.perturb).1+(runEnd t.mask (leap t.mask p.i p.perturb).1-(leap t.mask p.i p.perturb).1)<=_
    have:=qx (p.i*5+1+p.perturb / 32) (show 0<t.mask+1 by omega)
    have e:(leap t.mask p.i p.perturb).1=(p.i*5+1+p.perturb / 32) % (t.mask+1):=rfl;rw[e];unfold runEnd
    split<;>omega
 have s0:(t.probeStart x).j+(t.probeStart x).more<=t.mask:=by
  show bits x % (t.mask+1)+(runEnd t.mask (bits x % (t.mask+1))-bits x % (t.mask+1))<=_
  have:=qx (bits x) (show 0<t.mask+1 by omega)
  unfold runEnd
  split<;>omega
 have:=Ig e _ s0
 omega
theorem dU(t:SetTable):∀(n:Nat) (p:Probe),(run t n p).dummy=p.dummy
 |0,p=>rfl
 |n+1,p=>by
  show(run t n<|t.advance p).dummy=_;rw[dU t n];unfold advance
  split<;>rfl
theorem L5{t:SetTable}{es:Array Ent}(h:TI t es)(ha:Nat->Int)(x:Int):∀(f:Nat) (p:Probe),p.dummy=aB->(∃m,m<f/\t.slot (run t m p).j=.empty)->∃m,m<f/\(∀k,k<m->∃i,t.slot (run t k p).j=.live i/\ha i≠x)/\((t.slot (run t m p).j=.empty/\probe.go t ha x f p=aA (.empty (run t m p).j aB))\/∃i,t.slot (run t m p).j=.live i/\ha i=x/\probe.go t ha x f p=aA (.candidate (run t m p).j i<|run t (m+1) p))
 |0,p,_,⟨m,hm,_⟩=>by omega
 |f+1,p,hd,⟨m,hm,em⟩=>by
  rcases u8 h.ri h.nd p.j with⟨i,e1,e2⟩|⟨e1,e2⟩
  .by_cases hx:ha i=x
   .refine⟨0,by omega,λk hk=>by omega,.inr ⟨i,e2,hx,?_⟩⟩;unfold probe.go;rw[e2];simp only[hx,beq_self_eq_true,if_true];rfl
   .have ÿ:m≠0:=λz=>by subst z;rw[show run t 0 p=p from rfl,e2] at em;cases em
    obtain⟨m',h1,h2,h3⟩:=L5 h ha x f (t.advance p) (by have:=dU t 1 p;rw[show run t 1 p=t.advance p from rfl] at this;rw[this];exact hd) ⟨m-1,by omega,by
     have:run t m p=run t (m-1) (t.advance p):=by rw[show m=(m-1)+1 by omega];rfl
     rw[<-this];exact em⟩
    refine⟨m'+1,by omega,λk hk=>?_,?_⟩
    .by_cases z:k=0
     .subst z;exact⟨i,e2,hx⟩
     .have:run t k p=run t (k-1) (t.advance p):=by rw[show k=(k-1)+1 by omega];rfl
      rw[this];exact h2 (k-1) (by omega)
    .have g:probe.go t ha x (f+1) p=probe.go t ha x f (t.advance p):=by
      conv=>lhs;unfold probe.go
      rw[e2];simp only;rw[if_neg<|by simpa using hx]
     rw[g];exact h3
  .refine⟨0,by omega,λk hk=>by omega,.inl ⟨e2,?_⟩⟩;unfold probe.go;rw[e2,hd];rfl
def gP{α:Type}(xs:Array α)(p:Nat)(x:α)(hp:p<=xs.size)(i:Nat):(insertAt xs p x)[i]?=if i<p then xs[i]? else if i=p then aA x else xs[i-1]?:=by
 rw[<-gf,aao];have l1:(xs.toList.take p).length=p:=by rw[cu];simp;omega
 by_cases h:i<p
 .rw[if_pos h,be<|by omega,qr h,gf]
 .rw[if_neg h,bm<|by omega,l1];by_cases e:i=p
  .subst e;simp
  .rw[if_neg e,show i-p=(i-1-p)+1 by omega,iq,List.getElem?_drop,show p+(i-1-p)=i-1 by omega,gf]
def qT{α:Type}(xs:Array α)(p:Nat)(x:α):(insertAt xs p x).size=xs.size+1:=by
 have:=(SetTable.insertAt_perm xs p x).length_eq
 simpa using this
def TI.put{t:SetTable}{es:Array Ent}(h:TI t es){e:Ent}{n:Nat}(hn:∀i:Nat,t.place[i]?≠aA (run t n<|t.probeStart e.1).j)(hb:(run t n<|t.probeStart e.1).j<=t.mask)(hk:∀k,k<n->∃i:Nat,t.place[i]?=aA (run t k<|t.probeStart e.1).j)(Xe:es.size+1<=t.mask)(pl:Bool):TI { (t.put (run t n<|t.probeStart e.1).j).1 with plain:=pl } (insertAt es (t.put (run t n<|t.probeStart e.1).j).2 e):=by
 let j:=(run t n<|t.probeStart e.1).j
 let p:=below t.place j
 obtain⟨b1,b2,b3⟩:=k8 h.ri j;have hp:p<=t.place.size:=b1;have pe:(t.put j).1.place=insertAt t.place p j:=rfl;have de:(t.put j).1.dummies = #[]:=by
  show(if has t.dummies j then _ else t.dummies)=_;rw[h.nd,L6];rfl
 have gi:=gP t.place p j hp;have ge:=gP es p e (by rw[<-h.sz];exact hp);have mem:∀q:Nat,(∃i:Nat,t.place[i]?=aA q)->∃i:Nat,(insertAt t.place p j)[i]?=aA q:=λq ⟨i,hi⟩=>by
  by_cases z:i<p
  .exact⟨i,by rw[gi,if_pos z];exact hi⟩
  .exact⟨i+1,by rw[gi,if_neg<|by omega,if_neg<|by omega];simpa using hi⟩
 have rr:∀(n:Nat) (q:Probe),run { (t.put j).1 with plain:=pl } n q=run t n q:=by
  intro n
  induction n with
  |zero=>intro q;rfl
  |succ n ih=>intro q;exact ih _
 refine⟨?_,?_,?_,de,h.mm,?_,?_⟩
 .show(insertAt t.place p j).size=(insertAt es p e).size;rw[qT,qT,h.sz]
 .intro a b BG Yk;have Yj:b<t.place.size+1:=by rw[<-qT t.place p j];exact Yk
  have vD:∀i,i<t.place.size+1->((insertAt t.place p j).getD i 0)=if i<p then t.place.getD i 0 else if i=p then j else t.place.getD (i-1) 0:=by
   intro i hi
   have:=gi i
   rw[kh,this];split
   .rw[kh]
   .split
    .rfl
    .rw[kh]
  show(insertAt t.place p j).getD a 0<(insertAt t.place p j).getD b 0;rw[vD a<|by omega,vD b Yj];have nj:∀i,i<t.place.size->t.place.getD i 0≠j:=λi hi z=>hn i (by
   rw[et];refine⟨hi,?_⟩
   have:t.place.getD i 0=t.place[i]:=by simp[pc,hi]
   rw[<-this];exact z)
  by_cases ha:a<p
  .rw[if_pos ha];by_cases fM:b<p
   .rw[if_pos fM];exact h.ri a b BG (by omega)
   .rw[if_neg fM];have a1:=b2 a ha;by_cases F3:b=p
    .rw[if_pos F3];exact a1
    .rw[if_neg F3]
     have:=b3 (b-1) (by omega) (by omega)
     omega
  .rw[if_neg ha,if_neg (by omega:¬b<p),if_neg (by omega:¬b=p)];by_cases NP:a=p
   .rw[if_pos NP]
    have:=b3 (b-1) (by omega) (by omega)
    have:=nj (b-1) (by omega)
    omega
   .rw[if_neg NP];exact h.ri (a-1) (b-1) (by omega) (by omega)
 .intro i q hq;have iC:(insertAt t.place p j)[i]?=aA q:=hq;rw[gi] at iC;split at iC
  .exact h.bd _ _ iC
  .split at iC
   .cases iC;exact hb
   .exact h.bd _ _ iC
 .show(insertAt es p e).size<=t.mask;rw[qT];exact Xe
 .intro i q e' hq he;have iC:(insertAt t.place p j)[i]?=aA q:=hq;have AU:(insertAt es p e)[i]?=aA e':=he;rw[gi] at iC;rw[ge] at AU;show ∃m,(run { (t.put j).1 with plain:=pl } m<|t.probeStart e'.1).j=q/\∀k,k<m->∃i':Nat,(insertAt t.place p j)[i']?=aA (run { (t.put j).1 with plain:=pl } k<|t.probeStart e'.1).j;by_cases z:i<p
  .rw[if_pos z] at iC AU;obtain⟨m,m1,m2⟩:=h.pt i q e' iC AU;exact⟨m,by rw[rr];exact m1,λk iW=>by rw[rr];exact mem _<|m2 k iW⟩
  .rw[if_neg z] at iC AU;by_cases y:i=p
   .rw[if_pos y] at iC AU;cases iC;cases AU;exact⟨n,by rw[rr],λk iW=>by rw[rr];exact mem _<|hk k iW⟩
   .rw[if_neg y] at iC AU;obtain⟨m,m1,m2⟩:=h.pt (i-1) q e' iC AU;exact⟨m,by rw[rr];exact m1,λk iW=>by rw[rr];exact mem _<|m2 k iW⟩
noncomputable def aO(owner:Array (Option Nat))(j:Nat):Bool:=(owner.getD j<|some 0).isNone
def Qs{m:Nat}(hm:Mk m){i Ck q:Nat}(hi:i<=m)(hp:Ck<2 ^ 64)(hq:q<=m):∃k,k<=13+m/\(eM m k (i,Ck)).1=q:=by
 have z:(eM m 13 (i,Ck)).2=0:=by
  rw[dD];exact Nat.div_eq_of_lt (bw hp<|by decide)
 have Ib:=He m 13 (i,Ck) hi;obtain⟨k,hk,ek⟩:=N_ hm Ib hq;refine⟨13+k,by omega,?_⟩;rw[cA];have e:eM m 13 (i,Ck)=((eM m 13 (i,Ck)).1,0):=by rw[<-z]
 rw[e];exact ek
theorem pN(t:SetTable)(owner:Array (Option Nat)):∀(f:Nat) (p:Probe),B_ t.mask p->(∃k,k<f/\aO owner (eM t.mask k (p.i,p.perturb)).1=true)->∃n,layClean.free t.mask owner f p.i p.perturb=aA (run t n p).j/\aO owner (run t n p).j=true/\∀m,m<n->aO owner (run t m p).j=false
 |0,p,_,⟨k,hk,_⟩=>by omega
 |f+1,p,hp,⟨k,hk,ek⟩=>by
  unfold layClean.free;have mo:=hp.2;have re:runEnd t.mask p.i+1-p.i=p.more+1:=by
   rw[mo]
   have:p.i<=runEnd t.mask p.i:=by unfold runEnd;split<;>omega
   omega
  have rj:∀m,m<=p.more->(run t m p).j=p.i+m:=λm hm=>by rw[Hh t m p hm];show p.j+m=_;rw[hp.1]
  cases hf:(fg<|runEnd t.mask p.i+1-p.i).find? λk=>(owner.getD (p.i+k)<|some 0).isNone with
  |some a=>
   rw[List.find?_range_eq_some] at hf;obtain⟨h1,h2,h3⟩:=hf;have ha:a<=p.more:=by have:=jo.mp h2;omega
   refine⟨a,?_,?_,λm hm=>?_⟩
   .simp only;rw[rj a ha]
   .rw[rj a ha];exact h1
   .rw[rj m<|by omega]
    have:=h3 m hm
    unfold aO;simpa using this
  |none=>
   have hn:∀m,m<=p.more->aO owner (run t m p).j=false:=λm hm=>by
    rw[List.find?_eq_none] at hf
    have:=hf m (jo.mpr<|by omega)
    rw[rj m hm];unfold aO;exact Bool.eq_false_iff.mpr this
   have k0:k≠0:=λz=>by
    subst z
    have:=hn 0<|bu _
    rw[rj 0<|bu _,Nat.add_zero] at this;rw[show(eM t.mask 0 (p.i,p.perturb)).1=p.i from rfl,this] at ek;cases ek
   have e:=Z2 t p hp;obtain⟨n,n1,n2,n3⟩:=pN t owner f (run t (p.more+1) p) (by rw[e];exact⟨rfl,rfl⟩) ⟨k-1,by omega,by
    rw[e]
    have:eM t.mask k (p.i,p.perturb)=eM t.mask (k-1) (leap t.mask p.i p.perturb):=by rw[show k=(k-1)+1 by omega];rfl
    rw[this] at ek;exact ek⟩
   refine⟨p.more+1+n,?_,by rw[wE];exact n2,λm hm=>?_⟩
   .simp only;rw[wE,<-n1,e];rfl
   .by_cases z:m<=p.more
    .exact hn m z
    .have:=n3 (m-(p.more+1)) (by omega)
     rw[<-wE,show p.more+1+(m-(p.more+1))=m by omega] at this;exact this
structure OI(t:SetTable)(owner:Array (Option Nat))(hs:List Int)(n:Nat):Prop where
 sz:owner.size=t.mask+1
 cn:owner.toList.countP Option.isSome=n
 lt:∀(j k:Nat),owner[j]?=aA (aA k)->k<n
 MA:∀k,k<n->∃j:Nat,owner[j]?=aA (aA k)
 inj:∀(j j' k:Nat),owner[j]?=aA (aA k)->owner[j']?=aA (aA k)->j=j'
 pt:∀(j k:Nat) (h:Int),owner[j]?=aA (aA k)->hs[k]?=aA h->∃m,(run t m<|t.probeStart h).j=j/\∀m',m'<m->∃k':Nat,owner[(run t m'<|t.probeStart h).j]?=aA (aA k')
def IF{owner:Array (Option Nat)}{j:Nat}:aO owner j=true↔owner[j]?=aA aB:=by
 unfold aO;rw[kh];cases h:owner[j]? with
 |none=>simp
 |some o=>cases o<;>simp
def Sw{t:SetTable}{owner:Array (Option Nat)}{j:Nat}(hs:j<owner.size)(h:aO owner j=false):∃k,owner[j]?=aA (aA k):=by
 have e:owner[j]?=aA owner[j]:=by simp[hs]
 cases o:owner[j] with
 |none=>rw[o] at e;rw[IF.mpr e] at h;cases h
 |some k=>rw[o] at e;exact⟨k,e⟩
def SV(t:SetTable)(x:Int)(n:Nat):(run t n<|t.probeStart x).j<=t.mask:=by
 have Ig:∀(n:Nat) (p:Probe),p.j+p.more<=t.mask->(run t n p).j+(run t n p).more<=t.mask:=by
  intro n
  induction n with
  |zero=>intro p hp;exact hp
  |succ n ih=>
   intro p hp;refine ih _ ?_;unfold advance;split
   .show p.j+1+(p.more-1)<=_;omega
   .show(leap t.mask p.i p.perturb).1+(runEnd t.mask (leap t.mask p.i p.perturb).1-(leap t.mask p.i p.perturb).1)<=_
    have:=qx (p.i*5+1+p.perturb / 32) (show 0<t.mask+1 by omega)
    have e:(leap t.mask p.i p.perturb).1=(p.i*5+1+p.perturb / 32) % (t.mask+1):=rfl;rw[e];unfold runEnd
    split<;>omega
 have s0:(t.probeStart x).j+(t.probeStart x).more<=t.mask:=by
  show bits x % (t.mask+1)+(runEnd t.mask (bits x % (t.mask+1))-bits x % (t.mask+1))<=_
  have:=qx (bits x) (show 0<t.mask+1 by omega)
  unfold runEnd
  split<;>omega
 have:=Ig n _ s0
 omega
def Uv{t:SetTable}(hm:Mk t.mask){owner:Array (Option Nat)}{hs:List Int}{n:Nat}(h:OI t owner hs n)(hn:n<=t.mask){x:Int}(hx:hs[n]?=aA x):∃j,layClean.free t.mask owner (turns t.mask) (bits x % (t.mask+1)) (bits x)=aA j/\OI t (owner.setIfInBounds j<|some n) hs (n+1):=by
 have ex:∃q,q<=t.mask/\aO owner q=true:=by
  by_cases z:∃q,q<=t.mask/\aO owner q=true
  .exact z
  .exfalso;have all:∀o∈owner.toList,Option.isSome o=true:=λo ho=>by
    obtain⟨j,hj⟩:=wy ho;rw[gf] at hj;have eF:j<owner.size:=(et.mp hj).1;cases o with
    |some k=>rfl
    |none=>exact absurd ⟨j,by have:=h.sz;omega,IF.mpr hj⟩ z
   have:=List.countP_eq_length.mpr all
   rw[h.cn] at this
   have:=h.sz
   simp at *;omega
 obtain⟨q,q1,q2⟩:=ex
 let p:=t.probeStart x
 have hp:p.i<=t.mask:=by show bits x % (t.mask+1)<=t.mask;have:=qx (bits x) (show 0<t.mask+1 by omega);omega
 obtain⟨k,hk,ek⟩:=Qs hm hp (LF x) q1;obtain⟨m,m1,m2,m3⟩:=pN t owner (turns t.mask) p (n8 t x) ⟨k,by unfold turns;omega,by rw[show p.perturb=bits x from rfl,ek];exact q2⟩
 let j:=(run t m p).j
 have jn:owner[j]?=aA aB:=IF.mp m2;have jl:j<owner.size:=(et.mp jn).1;refine⟨j,m1,?_⟩;have g:∀i:Nat,(owner.setIfInBounds j<|some n)[i]?=if j=i then aA (aA n) else owner[i]?:=λi=>by
  rw[Array.getElem?_setIfInBounds];split
  .first|rfl|rw[if_pos jl]
  .rfl
 have keep:∀i k:Nat,owner[i]?=aA (aA k)->(owner.setIfInBounds j<|some n)[i]?=aA (aA k):=λi k e=>by
  rw[g,if_neg λz=>by subst z;rw[jn] at e;cases e];exact e
 refine⟨by simpa using h.sz,?_,λi k e=>?_,λk iW=>?_,λi i' k e e'=>?_,λi k y e hy=>?_⟩
 .rw[Array.toList_setIfInBounds,List.countP_set<|by simpa using jl];have e0:owner.toList[j]'(by simpa using jl)=aB:=by
   have:=(et.mp jn).2
   simpa using this
  rw[e0,h.cn];rfl
 .rw[g] at e;split at e
  .cases e;omega
  .have:=h.lt i k e;omega
 .by_cases z:k=n
  .exact⟨j,by rw[g,if_pos rfl,z]⟩
  .obtain⟨i,hi⟩:=h.MA k (by omega);exact⟨i,keep i k hi⟩
 .rw[g] at e e';split at e
  .rename_i y;subst y;cases e;split at e'
   .rename_i y;exact y
   .have:=h.lt i' n e';omega
  .split at e'
   .rename_i y;subst y;cases e';have:=h.lt i n e;omega
   .exact h.inj i i' k e e'
 .rw[g] at e;split at e
  .rename_i z;subst z;cases e;rw[hx] at hy;cases hy;refine⟨m,rfl,λm' sU=>?_⟩;obtain⟨k',iW⟩:=Sw (t:=t) (by rw[h.sz];exact Nat.lt_succ_of_le<|SV t x m')<|m3 m' sU;exact⟨k',keep _ _ iW⟩
  .obtain⟨a,a1,a2⟩:=h.pt i k y e hy;exact⟨a,a1,λm' sU=>let ⟨k',iW⟩:=a2 m' sU;⟨k',keep _ _ iW⟩⟩
theorem Mf{t:SetTable}(hm:Mk t.mask)(hs:List Int)(hl:hs.length<=t.mask):∀(rest:List Int) (owner:Array (Option Nat)) (n:Nat),hs=hs.take n++rest->n+rest.length=hs.length->OI t owner hs n ->
  ∃ow k,(rest.foldl (init:=aA (owner,n)) λacc h=>do
   let (owner,k) <- acc
   let j <- layClean.free t.mask owner (turns t.mask) (bits h % (t.mask+1)) (bits h)
   pure (owner.setIfInBounds j<|some k,k+1))=aA (ow,k)/\OI t ow hs hs.length
 |[],owner,n,e,hn,h=>⟨owner,n,rfl,by simp at hn;rw[<-hn];exact h⟩
 |x::rest,owner,n,e,hn,h=>by
  have hx:hs[n]?=aA x:=by
   conv=>lhs;rw[e]
   rw[bm (by rw[cu];omega),cu];simp at hn;rw[show n-min n hs.length=0 by omega];rfl
  simp only[ak] at hn;obtain⟨j,j1,j2⟩:=Uv hm h (by omega) hx;obtain⟨ow,k,o1,o2⟩:=Mf hm hs hl rest (owner.setIfInBounds j<|some n) (n+1) (by
   conv=>lhs;rw[e]
   rw[List.take_succ,hx];simp) (by omega) j2
  refine⟨ow,k,?_,o2⟩;rw[gp];show List.foldl _ ((layClean.free t.mask owner (turns t.mask) (bits x % (t.mask+1))<|bits x).bind λj=>aA (owner.setIfInBounds j<|some n,n+1)) rest=_;rw[j1];exact o1
theorem Z1{t t':SetTable}(h:t.mask=t'.mask):∀(n:Nat) (p:Probe),run t n p=run t' n p
 |0,p=>rfl
 |n+1,p=>by
  have e:t.advance p=t'.advance p:=by unfold advance;rw[h]
  show run t n (t.advance p)=run t' n (t'.advance p);rw[e];exact Z1 h n _
theorem G7{α β:Type}{f:α->Option β}:∀(l:List α) (i:Nat),(∀x∈l,∃y,f x=aA y)->(l.filterMap f)[i]?=l[i]?.bind f
 |[],i,_=>by simp
 |x::l,i,h=>by
  obtain⟨y,hy⟩:=h x (by simp);rw[List.filterMap_cons_some hy];cases i with
  |zero=>simp[hy]
  |succ i=>simpa using G7 l i λz hz=>h z (by simp[hz])
def WJ(es:Array Ent):(fg es.size).filterMap (es[·]?)=es.toList:=by
 apply yg;intro i;rw[G7 _ i λx hx=>⟨es[x]'(jo.mp hx),by simp[jo.mp hx]⟩,show es.toList[i]?=es[i]? from gf];by_cases h:i<es.size
 .rw[xc h];rfl
 .rw[ji<|by simpa using h,wa<|by omega];rfl
def W0{m fi mo:Nat}{led pl:Bool}(hm:Mk m)(es:Array Ent)(hl:es.size<=m):∃(t:SetTable) (O:Array Nat),laid m fi mo led pl (es.map (·.1))=aA (t,O)/\t.mask=m/\t.led=led/\t.plain=pl/\t.moves=mo/\TI t (O.filterMap (es[·]?))/\(O.filterMap (es[·]?)).toList.Perm es.toList:=by
 let t0:SetTable:={ mask:=m,place:=#[],dummies:=#[],finger:=fi,led:=led,moves:=mo,plain:=pl }
 let hs:List Int:=es.toList.map (·.1)
 have r_:hs.length=es.size:=by simp[hs]
 have o0:OI t0 (zm (m+1) aB) hs 0:=by
  have no:∀(j k:Nat),(zm (m+1) (aB:Option Nat))[j]?≠aA (aA k):=λj k e=>by
   rw[Array.getElem?_replicate] at e;split at e<;>cases e
  refine⟨by simp[t0],?_,λj k e=>absurd e<|no j k,λk hk=>by omega,λj j' k e=>absurd e<|no j k,λj k h e=>absurd e<|no j k⟩;rw[Array.toList_replicate,List.countP_replicate];simp
 obtain⟨ow,k,l1,l2⟩:=Mf (t:=t0) hm hs (by rw[r_];exact hl) hs (zm (m+1) aB) 0 (by simp) (by simp) o0;rw[r_] at l2;have lc:layClean m (es.map (·.1))=aA ow:=by
  unfold layClean;rw[<-Array.foldl_toList,yu];have l1':=l1;show uk _ (List.foldl _ _ hs)=_;exact(congrArg (uk (·.1)) l1').trans rfl
 let live:List (Nat×Nat):=(fg<|m+1).filterMap λj=>(ow.getD j aB).map (j,·)
 have ë:ow.size=m+1:=l2.sz;have gd:∀j k:Nat,ow.getD j aB=aA k↔ow[j]?=aA (aA k):=λj k=>by
  rw[kh];cases h:ow[j]? with
  |none=>simp
  |some o=>simp
 have mem:∀j k:Nat,(j,k)∈live↔ow[j]?=aA (aA k):=λj k=>by
  rw[xp];constructor
  .rintro ⟨a,_,e⟩;obtain⟨b,e1,e2⟩:=gt.mp e;cases e2;exact(gd _ _).mp e1
  .intro e;have hj:j<ow.size:=(et.mp e).1;exact⟨j,jo.mpr<|by omega,by rw[(gd j k).mpr e];rfl⟩
 have pw:live.Pairwise (λa b=>a.1<b.1):=by
  refine List.Pairwise.filterMap _ ?_<|List.pairwise_lt_range;intro a a' Yq b hb b' fM;obtain⟨x,_,e2⟩:=gt.mp hb;obtain⟨y,_,e4⟩:=gt.mp fM;cases e2;cases e4;exact Yq
 have nd:(live.map (·.2)).Nodup:=by
  rw[List.Nodup,du];refine ux ?_ pw;intro a b ha hb BG e;have h1:=(mem a.1 a.2).mp ha;have h2:=(mem b.1 b.2).mp hb;rw[<-e] at h2
  have:=l2.inj _ _ _ h1 h2
  omega
 have pr:(live.map (·.2)).Perm (fg es.size):=by
  rw[zy nd List.nodup_range];intro k;rw[jo,cq];constructor
  .rintro ⟨⟨j,k'⟩,h1,rfl⟩;exact l2.lt j k'<|(mem j k').mp h1
  .intro hk;obtain⟨j,hj⟩:=l2.MA k hk;exact⟨(j,k),(mem j k).mpr hj,rfl⟩
 have ll:live.length=es.size:=by have:=pr.length_eq;simpa using this
 let t:SetTable:={ mask:=m,place:=(live.map (·.1)).toArray,dummies:=#[],finger:=fi,led:=led,moves:=mo,plain:=pl }
 let O:Array Nat:=(live.map (·.2)).toArray
 have fa:∀x∈live.map (·.2),∃y,es[x]?=aA y:=λx hx=>by
  have:x<es.size:=jo.mp<|pr.mem_iff.mp hx
  exact⟨es[x],by simp[this]⟩
 have el:(O.filterMap (es[·]?)).toList=(live.map (·.2)).filterMap (es[·]?):=by
  rw[Array.toList_filterMap]
 have ep:(O.filterMap (es[·]?)).toList.Perm es.toList:=by
  rw[el,<-WJ es];exact pr.filterMap _
 have F7:(O.filterMap (es[·]?)).size=es.size:=by have:=ep.length_eq;rwa [cw,cw] at this
 have pg:∀i j:Nat,t.place[i]?=aA j->∃k,live[i]?=aA (j,k)/\ow[j]?=aA (aA k):=λi j e=>by
  have e':(live.map (·.1)).toArray[i]?=aA j:=e;rw[acp,av] at e';obtain⟨⟨a,k⟩,h1,rfl⟩:=gt.mp e';exact⟨k,h1,(mem a k).mp<|jw h1⟩
 refine⟨t,O,?_,rfl,rfl,rfl,rfl,⟨?_,?_,?_,rfl,hm,by rw[F7];exact hl,?_⟩,ep⟩
 .unfold laid;rw[lc];rfl
 .show(live.map (·.1)).toArray.size=_;rw[F7];simp[ll]
 .intro a b BG hb;have fM:b<live.length:=by simpa [t] using hb
  have v:∀i,(hi:i<live.length)->t.place.getD i 0=(live[i]).1:=λi hi=>by
   show((live.map (·.1)).toArray).getD i 0=_;simp[pc,hi]
  show t.place.getD a 0<t.place.getD b 0;rw[v a<|by omega,v b fM];exact ck.mp pw a b (by omega) fM BG
 .intro i j e;obtain⟨k,_,h2⟩:=pg i j e
  have:=(et.mp h2).1
  show j<=m;omega
 .intro i j e hj he;obtain⟨k,k1,k2⟩:=pg i j hj;have ee:es[k]?=aA e:=by
   rw[<-gf,el,G7 _ i fa,av,k1] at he;exact he
  have hh:hs[k]?=aA e.1:=by
   show(es.toList.map (·.1))[k]?=_;rw[av,gf,ee];rfl
  obtain⟨a,a1,a2⟩:=l2.pt j k e.1 k2 hh;have r0:∀n p,run t n p=run t0 n p:=λn p=>Z1 (t:=t) (t':=t0) rfl n p
  refine⟨a,by rw[r0];exact a1,λb hb=>?_⟩;obtain⟨k',iW⟩:=a2 b hb
  have:=(mem _ k').mpr iW
  obtain⟨i',fL⟩:=wy this;refine⟨i',?_⟩;show((live.map (·.1)).toArray)[i']?=_;rw[acp,av,fL,r0];rfl
section
variable{prog:Program}{w:World}{K:Type}[DecidableEq K]{knd:KeyKind prog w K}
variable{A:Around}{E:Value->Shared->Prop}{s:Shared}
def oW(n:Nat){v:Value}(h:carriedByValue v=true):ofAClassStatement n v=pure false:=by
 cases v<;>first|(simp[carriedByValue] at h;done)|(cases n<;>rfl)
def jR{ks:List K}{a:Addr}{Q:Bool->Shared->Prop}(hk:IsTupleKey knd s.heap ks a)(h:Q false s):wpAny (model prog w) A (ofAClassStatement 8<|.ref a) Q E s:=by
 have hT:=hk.typeIs;obtain⟨o,items,n,ho,_,hd,hi⟩:=hk;unfold ofAClassStatement;refine aa<|rl hT ?_;simp only[beq_self_eq_true,if_true];refine aa<|af ?_;simp only[sv,bx,if_false];refine aa<|iw ho hd ?_;refine aa ?_;show wpAny _ _ (forIn items _ _) _ _ s;rw[<-xr];refine yj _ (λrest r s'=>r.1=aB/\s'=s/\∀v∈rest,carriedByValue v=true) _ ?_ ?_ _ _ ⟨rfl,rfl,hi.byValue⟩
 .rintro v rest r s' ⟨hr,rfl,lM⟩;rw[oW _<|lM v dg];refine aa<|af ?_;simp only[bx,if_false];exact af ⟨rfl,rfl,λu DY=>lM u<|bt _ DY⟩
 .rintro ⟨r1,r2⟩ s' ⟨hr,rfl,_⟩;simp only at hr;subst hr;exact af h
def rR{ks:List K}{a:Addr}{l:List Value}{Q:Bool->Shared->Prop}(hk:IsTupleKey knd s.heap ks a)(hl:∀v∈l,∃eC b,v=.ref b/\IsTupleKey knd s.heap eC b)(h:Q false s):wpAny (model prog w) A (searchCouldBeSeen (.ref a) l) Q E s:=by
 unfold searchCouldBeSeen;refine aa ?_;refine yj _ (λrest r s'=>r.1=aB/\s'=s/\∀v∈rest,∃eC b,v=.ref b/\IsTupleKey knd s.heap eC b) _ ?_ ?_ _ _ ⟨rfl,rfl,hl⟩
 .rintro v rest r s' ⟨hr,rfl,lM⟩;obtain⟨eC,b,rfl,hb⟩:=lM v dg;have nx:∀u∈rest,∃eC b,u=.ref b/\IsTupleKey knd s'.heap eC b:=λu hu=>lM u<|bt _ hu
  dsimp only;split
  .exact af ⟨rfl,rfl,nx⟩
  .refine aa<|aci hk ?_;simp only[sv,bx,if_false];refine aa<|aci hb ?_;simp only[sv,bx,if_false];refine aa<|jR hk ?_;simp only[bx,if_false];refine aa<|jR hb ?_;simp only[bx,if_false];exact af ⟨rfl,rfl,nx⟩
 .rintro ⟨r1,r2⟩ s' ⟨hr,rfl,_⟩;simp only at hr;subst hr;exact af h
def A8(knd:KeyKind prog w K)(q:List K×Addr):Ent:=(tupleKeyHash knd q.1,.ref q.2)
structure Ga(knd:KeyKind prog w K)(h:Heap)(S:Addr)(o:Obj)(es:Array Ent)(ep:Nat)(t:SetTable)(M:List (List K×Addr)):Prop where
 get:h.get? S=aA o
 ex:o.ExactSet
 dat:o.data=.set es ep t
 ti:TI t es
 nf:es.size*5<t.mask*3
 el:es.toList=M.map (A8 knd)
 key:∀q∈M,IsTupleKey knd h q.1 q.2
 nd:(M.map ip).Nodup
 ld:t.led = !w.params.followText "set-order"
def qK{t:SetTable}{es:Array Ent}(h:TI t es):t.fits es.size=true:=by
 unfold SetTable.fits SetTable.fill
 have:=h.room
 rw[h.sz,h.nd];simp;omega
def Qv{t:SetTable}{es:Array Ent}(h:TI t es):t.gaveWay=false:=by
 unfold SetTable.gaveWay;rcases h.mm with z|z|z<;>rw[z]<;>rfl
variable{S a:Addr}{o:Obj}{es:Array Ent}{ep:Nat}{t:SetTable}{M:List (List K×Addr)}{kx:List K}
def G5{h:Heap}(H:Ga knd h S o es ep t M){i:Nat}(hi:i<es.size):∃q,M[i]?=aA q/\es[i]?=aA (A8 knd q):=by
 have e:es.toList[i]?=aA es[i]:=by simp[hi]
 rw[H.el,av] at e;obtain⟨q,h1,h2⟩:=gt.mp e;exact⟨q,h1,by rw[h2];simp[hi]⟩
def oC(hu:A.units<cLine)(H:Ga knd s.heap S o es ep t M)(hx:IsTupleKey knd s.heap kx a){e:Nat}(he:e<10*turns t.mask)(v_:t.slot (run t e<|t.probeStart<|tupleKeyHash knd kx).j=.empty)(FS:∀i:Nat,t.place[i]?≠aA (run t e<|t.probeStart<|tupleKeyHash knd kx).j)(Ã:∀k,k<e->∃i:Nat,t.place[i]?=aA (run t k<|t.probeStart<|tupleKeyHash knd kx).j){Q:SetFound->Shared->Prop}(h1:kx∈M.map ip->Q (.there aB) s)(h2:kx∉M.map ip->Q (.free (run t e<|t.probeStart<|tupleKeyHash knd kx).j false) s):∀(d f m:Nat) (st:Option Probe),d<f->m+d=e->st.getD (t.probeStart<|tupleKeyHash knd kx)=run t m (t.probeStart<|tupleKeyHash knd kx) ->
   (∀(k i:Nat) (q:List K×Addr),k<m->t.place[i]?=aA (run t k<|t.probeStart<|tupleKeyHash knd kx).j->M[i]?=aA q->q.1≠kx) ->
   wpAny (model prog w) A (setSearchFrom S (.ref a) (tupleKeyHash knd kx) true f st) Q E s:=by
 intro d
 induction d using Nat.strongRecOn with
 |ind d ih=>
 intro f m st hf hm lL old;obtain⟨f,rfl⟩:∃g,f=g+1:=⟨f-1,by omega⟩
 let x:=tupleKeyHash knd kx
 let p0:=t.probeStart x
 unfold setSearchFrom;refine aa<|jg H.get H.dat (qK H.ti) ?_;dsimp only;rw[Qv H.ti];simp only[bx,if_false];have dn:(run t m p0).dummy=aB:=by rw[dU];rfl
 obtain⟨m',g1,g2,g3⟩:=L5 H.ti (λi=>(es[i]?.map (·.1)).getD 0) x (10*turns t.mask) (run t m p0) dn ⟨d,by omega,by rw[<-wE,hm];exact v_⟩;generalize Eb:t.probe _ (tupleKeyHash knd kx) (st.getD<|t.probeStart<|tupleKeyHash knd kx)=pr;rw[lL] at Eb;have live:∀k,k<e->∃i,t.slot (run t k p0).j=.live i/\t.place[i]?=aA (run t k p0).j:=λk hk=>by
  obtain⟨i,hi⟩:=Ã k hk;exact⟨i,uB H.ti.ri H.ti.nd hi,hi⟩
 rcases g3 with⟨c1,c2⟩|⟨i,c1,c2,c3⟩
 .have AX:pr=aA (.empty (run t m'<|run t m p0).j aB):=Eb.symm.trans c2;subst AX;dsimp only;have em:m+m'=e:=by
   rcases jh (m+m') e with z|z|z
   .obtain⟨i,hi,_⟩:=live (m+m') z;rw[wE] at hi;rw[hi] at c1;cases c1
   .exact z
   .obtain⟨i,hi,_⟩:=g2 d (by omega);rw[<-wE,hm] at hi;rw[hi] at v_;cases v_
  rw[<-wE,em];refine af<|h2 λFV=>?_;obtain⟨q,hq,Ny⟩:=cq.mp FV;obtain⟨i,hi⟩:=wy hq;have BB:i<es.size:=by
   have:=(ba.mp hi).1
   have l:es.toList.length=M.length:=by rw[H.el,ah]
   rw[cw] at l;omega
  obtain⟨q',m1,m2⟩:=G5 H BB;rw[hi] at m1;cases m1;obtain⟨j,hj⟩:∃j,t.place[i]?=aA j:=⟨t.place[i]'(by rw[H.ti.sz];exact BB),by simp[H.ti.sz,BB]⟩;obtain⟨n,n1,n2⟩:=H.ti.pt i j _ hj m2;have hh:(A8 knd q).1=x:=by show tupleKeyHash knd q.1=_;rw[Ny]
  rw[hh] at n1 n2;have ne:n<e:=by
   rcases jh n e with z|z|z
   .exact z
   .subst z;rw[<-n1] at hj;exact absurd hj<|FS i
   .obtain⟨i',fL⟩:=n2 e z;exact absurd fL<|FS i'
  have NI:t.place[i]?=aA (run t n p0).j:=by rw[n1];exact hj
  by_cases nm:n<m
  .exact old n i q nm NI hi Ny
  .obtain⟨i',y1,y2⟩:=g2 (n-m) (by omega);rw[<-wE,show m+(n-m)=n by omega,uB H.ti.ri H.ti.nd NI] at y1;cases y1;refine y2 ?_;show(es[i]?.map (·.1)).getD 0=x;rw[m2];exact hh
 .have AX:pr=aA (.candidate (run t m'<|run t m p0).j i<|run t (m'+1)<|run t m p0):=Eb.symm.trans c3;subst AX;dsimp only;rw[<-wE] at c1;have lt:m+m'<e:=by
   rcases jh (m+m') e with z|z|z
   .exact z
   .rw[z] at c1;rw[c1] at v_;cases v_
   .obtain⟨i',fL,_⟩:=g2 d (by omega);rw[<-wE,hm] at fL;rw[fL] at v_;cases v_
  obtain⟨i0,l1,l2⟩:=live (m+m') lt;rw[l1] at c1;cases c1;have BB:i<es.size:=by rw[<-H.ti.sz];exact(et.mp l2).1
  obtain⟨q,m1,m2⟩:=G5 H BB;have hq:=H.key q<|jw m1;have cont:wpAny (model prog w) A (do
    let aA (_,y):=es[i]? | unsupported "internal:set-entry"
    let equal <- holding [y] (eqBool y<|.ref a)
    let (fO,_,t') <- setState S
    if true && equal then return SetFound.there aB
    let aA same:=t'.sameMemory t.moves t.mask|unsupported "set.changed-during-lookup:is-the-new-block-at-the-old-address"
    let Vl <- match (if same then t'.slot (run t m'<|run t m p0).j else .empty) with
     |.live i'=>match fO[i']? with
      |some (_,y')=>do pure (if <- isSame y' y then aA i' else aB)
      |none=>pure aB
     |_=>pure aB
    match Vl with
    |none=>rule "set.search.anew";setSearchFrom S (.ref a) (tupleKeyHash knd kx) true f aB
    |some i'=>if equal then return .there (aA i') else setSearchFrom S (.ref a) (tupleKeyHash knd kx) true f<|some<|run t (m'+1)<|run t m p0) Q E s:=by
   rw[m2];dsimp only[A8];refine aa<|gc<|wpAny_eqBool_tuple hu hq hx ?_;refine aa<|jg H.get H.dat (qK H.ti) ?_;dsimp only;by_cases hk:q.1=kx
   .rw[decide_eq_true hk];simp only[Bool.and_self,if_true];exact af<|h1<|cq.mpr ⟨q,jw m1,hk⟩
   .rw[decide_eq_false hk];simp only[wz,bx,if_false];have sm:t.sameMemory t.moves t.mask=aA true:=by unfold SetTable.sameMemory;simp
    rw[sm];simp only[if_true];rw[<-wE,l1];dsimp only;rw[m2];dsimp only[A8];refine aa<|wpAny_isSame_ref_self ?_;simp only[if_true];refine aa<|af ?_;dsimp only;rw[<-wE];refine ih (d-(m'+1)) (by omega) f (m+(m'+1)) _ (by omega) (by omega) rfl ?_;intro k i' q' iW BA sU;by_cases z:k<m
    .exact old k i' q' z BA sU
    .by_cases z2:k=m+m'
     .subst z2
      have:i'=i:=(nP H.ti.ri BA).symm.trans<|nP H.ti.ri l2
      subst this;rw[m1] at sU;cases sU;exact hk
     .obtain⟨i2,y1,y2⟩:=g2 (k-m) (by omega);rw[<-wE,show m+(k-m)=k by omega,uB H.ti.ri H.ti.nd BA] at y1;cases y1;intro Xw;have Xy:i'<es.size:=by rw[<-H.ti.sz];exact(et.mp BA).1
      obtain⟨q2,w1,w2⟩:=G5 H Xy;rw[sU] at w1;cases w1;refine y2 ?_;show(es[i']?.map (·.1)).getD 0=x;rw[w2];show tupleKeyHash knd q'.1=_;rw[Xw]
  by_cases ND:t.led=true
  .rw[ND];simp only[sv,bx,if_false];exact cont
  .have iV:t.led=false:=by simpa using ND
   rw[iV];simp only[sd,if_true];refine aa<|rR hx ?_ ?_
   .intro v hv;obtain⟨en,IA,rfl⟩:=cq.mp hv;have NO:en∈es.toList:=by
     have:=oz.mp IA
     rw[Array.mem_filter] at this;exact oz.mpr this.1
    rw[H.el] at NO;obtain⟨q2,w1,rfl⟩:=cq.mp NO;exact⟨q2.1,q2.2,rfl,H.key q2 w1⟩
   .simp only[bx,if_false];exact cont
end
section
variable{prog:Program}{w:World}{K:Type}[DecidableEq K]{knd:KeyKind prog w K}
variable{A:Around}{E:Value->Shared->Prop}{s:Shared}
variable{S a:Addr}{o:Obj}{es:Array Ent}{ep:Nat}{t:SetTable}{M:List (List K×Addr)}{kx:List K}
def ZM{h h':Heap}{ks:List K}{b:Addr}(x:IsTupleKey knd h ks b)(ho:h.get? S=aA o)(hd:o.data=.set es ep t)(hs:dz S h h'):IsTupleKey knd h' ks b:=by
 obtain⟨o',items,n,iU,hc,Ao,hi⟩:=x;have fC:b≠S:=by
  rintro rfl;obtain rfl:o'=o:=bv<|iU.symm.trans ho;rw[hd] at Ao;exact nomatch Ao
 exact⟨o',items,n,(hs.2 b fC).trans iU,hc,Ao,hi⟩
def pM(n:Nat){v:Value}(h:carriedByValue v=true):∃b,hashByValue n v=pure b:=by
 cases v<;>first|(simp[carriedByValue] at h;done)|(cases n<;>exact⟨_,rfl⟩)
def v3{ks:List K}{a:Addr}{Q:Bool->Shared->Prop}(hk:IsTupleKey knd s.heap ks a)(h:∀b,Q b s):wpAny (model prog w) A (hashByValue 8<|.ref a) Q E s:=by
 have hT:=hk.typeIs;obtain⟨o,items,n,ho,_,hd,hi⟩:=hk;unfold hashByValue;refine aa<|qt hT F.slot_tuple_hash.lookup ?_;dsimp only;refine aa<|iw ho hd ?_;refine aa ?_;show wpAny _ _ (forIn items _ _) _ _ s;rw[<-xr];refine yj _ (λrest r s'=>s'=s/\∀v∈rest,carriedByValue v=true) _ ?_ ?_ _ _ ⟨rfl,hi.byValue⟩
 .rintro v rest r s' ⟨rfl,lM⟩;obtain⟨b,eb⟩:=pM 7<|lM v dg;rw[eb];refine aa<|af ?_;cases b
  .simp only[sd,if_true];refine af ?_;show wpAny _ _ (pure false) _ _ _;exact af<|h _
  .simp only[sv,bx,if_false];exact af ⟨rfl,λu DY=>lM u<|bt _ DY⟩
 .rintro ⟨r1,r2⟩ s' ⟨rfl,_⟩;cases r1 with
  |none=>exact af<|h _
  |some b=>exact af<|h _
def MY{α β:Type}{f:α->β}{l1 l2:List β}(h:l1.Perm l2):∀M:List α,l2=M.map f->∃M':List α,l1=M'.map f/\M'.Perm M:=by
 induction h with
 |nil=>intro M e;cases M with
  |nil=>exact⟨[],rfl,.nil⟩
  |cons _ _=>cases e
 |cons x _ ih=>intro M e;cases M with
  |nil=>cases e
  |cons m M=>
   rw[am] at e
   injection e with e1 e2
   obtain⟨M',q1,q2⟩:=ih M e2;exact⟨m::M',by rw[am,<-e1,q1],q2.cons m⟩
 |swap x y l=>intro M e;match M,e with
  |[],e=>cases e
  |[_],e=>cases e
  |m::n::M,e=>
   rw[am,am] at e
   injection e with e1 e2
   injection e2 with e2 e3
   exact⟨n::m::M,by rw[am,am,<-e1,<-e2,e3],.swap m n M⟩
 |trans _ _ DW DV=>
  intro M e;obtain⟨M2,q1,q2⟩:=DV M e;obtain⟨M1,q3,q4⟩:=DW M2 q1;exact⟨M1,q3,q4.trans q2⟩
def SX{α β:Type}(f:α->β)(l:List α)(p:Nat)(x:α):(l.take p++x::l.drop p).map f=(l.map f).take p++f x::(l.map f).drop p:=by
 simp[xk,List.map_drop]
def i9(knd:KeyKind prog w K)(h:Heap)(S:Addr)(M:List (List K×Addr)):Prop:=∃o es ep t M',Ga knd h S o es ep t M'/\M'.Perm M
def nU{n:Nat}{Q:Unit->Shared->Prop}(ho:s.heap.get? S=aA o)(hex:o.ExactSet)(hd:o.data=.set es ep t)(Wy:TI t es)(Yc:es.toList=M.map (A8 knd))(Eg:∀q∈M,IsTupleKey knd s.heap q.1 q.2)(FT:(M.map ip).Nodup)(Iu:t.led = !w.params.followText "set-order")(hm:Mk (sizeAbove n-1))(hz:sizeAbove n<=128)(hl:es.size*5<(sizeAbove n-1)*3)(h:∀h',dz S s.heap h'->i9 knd h' S M->Q () { s with heap:=h' }):wpAny (model prog w) A (setRelay S n) Q E s:=by
 unfold setRelay;refine aa<|jg ho hd (qK Wy) ?_;dsimp only;rw[if_neg (by rw[gk];omega)];have iV:es.size<=sizeAbove n-1:=by omega
 obtain⟨t',O,r1,r2,r3,r4,r5,r6,r7⟩:=W0 (fi:=t.finger) (mo:=t.movedTo<|sizeAbove n-1) (led:=t.led) (pl:=t.plain) hm es iV;have e1:t.relaid (es.map (·.1)) n=aA (t',O):=r1;rw[e1];refine aa ?_
 wp_delta
 dsimp only;have hsz:(O.filterMap (es[·]?)).size=es.size:=by have:=r7.length_eq;rwa [cw,cw] at this
 rw[if_neg<|by simp[hsz]];refine af ?_;dsimp only;refine wpAny_storeSet_of ho hd ?_ (by rw[hsz,gk];omega);have hg:(s.heap.update S<|um (O.filterMap (es[·]?)) t').get? S=aA { o with data:=.set (O.filterMap (es[·]?)) (ep+1) t' }:=by
  have:=gu (um (O.filterMap (es[·]?)) t') ho (by rw[aba _ t' hd];rfl)
  rw[aba _ t' hd] at this;exact this
 have sb:=gx s.heap S<|um (O.filterMap (es[·]?)) t';obtain⟨M',p1,p2⟩:=MY r7 M Yc;refine h _ sb ⟨_,_,_,_,M',⟨hg,hex,rfl,r6,by rw[hsz,r2];exact hl,p1,λq hq=>ZM (Eg q<|p2.mem_iff.mp hq) ho hd sb,(p2.map ip).nodup_iff.mpr FT,r3.trans Iu⟩,p2⟩
def v4(hu:A.units<cLine)(H:Ga knd s.heap S o es ep t M)(hx:IsTupleKey knd s.heap kx a)(hn:M.length<76){Q:Bool->Shared->Prop}(h:∀b h',dz S s.heap h'->i9 knd h' S (if kx∈M.map ip then M else M++[(kx,a)])->Q b { s with heap:=h' }):wpAny (model prog w) A (setAddHashed S (.ref a)<|tupleKeyHash knd kx) Q E s:=by
 have lm:M.length=es.size:=by have:=congrArg oq H.el;rw[ah,cw] at this;exact this.symm
 unfold setAddHashed setAddHashedIn;refine gc<|aa<|jg H.get H.dat (qK H.ti) ?_;dsimp only;have bs:byScan (.ref a) es=false:=by unfold byScan Value.scannable;rfl
 rw[bs];simp only[bx,if_false];obtain⟨e,e1,e2,e3,e4,e5⟩:=tV H.ti<|tupleKeyHash knd kx;refine aa ?_;unfold setSearch;refine oC hu H hx e1 e2 e3 e5 (λhm=>?_) (λhm=>?_) e 100000 0 aB ?_ (by omega) rfl (λk i q hk=>by omega)
 .dsimp only
  have:=h false s.heap (yh S s.heap) ⟨o,es,ep,t,M,H,by rw[if_pos hm]⟩
  exact af this
 .dsimp only;refine aa<|jg H.get H.dat (qK H.ti) ?_;dsimp only
  let j:=(run t e<|t.probeStart<|tupleKeyHash knd kx).j
  have rm:es.size+1<=t.mask:=by have:=H.nf;rcases H.ti.mm with z|z|z<;>rw[z] at this ⊢<;>omega
  have put:∀pl:Bool,TI { (t.put j).1 with plain:=pl } (insertAt es (t.put j).2 (tupleKeyHash knd kx,.ref a)):=λpl=>H.ti.put (e:=(tupleKeyHash knd kx,.ref a)) e3 e4 e5 rm pl
  have go:∀pl:Bool,wpAny (model prog w) A (do
    storeSet S (insertAt es (t.put j).2 (tupleKeyHash knd kx,.ref a)) { (t.put j).1 with plain:=pl }
    if !false && ({ (t.put j).1 with plain:=pl }:SetTable).tooFull then setRelay S (zv<|es.size+1)
    return true) Q E s:=λpl=>by
   have ti:=put pl
   let fO:=insertAt es (t.put j).2 (tupleKeyHash knd kx,.ref a)
   let t':SetTable:={ (t.put j).1 with plain:=pl }
   have sz:fO.size=es.size+1:=qT _ _ _;refine aa<|wpAny_storeSet_of H.get H.dat ?_ (by show fO.size<=ar;rw[sz,gk];omega);have hg:(s.heap.update S<|um fO t').get? S=aA { o with data:=.set fO (ep+1) t' }:=by
    have:=gu (um fO t') H.get (by rw[aba _ t' H.dat];rfl)
    rw[aba _ t' H.dat] at this;exact this
   have sb:=gx s.heap S<|um fO t'
   let M':List (List K×Addr):=M.take (t.put j).2++(kx,a)::M.drop (t.put j).2
   have el:fO.toList=M'.map (A8 knd):=by
    show(insertAt es (t.put j).2 (tupleKeyHash knd kx,.ref a)).toList=_;rw[aao,H.el,SX];rfl
   have pm:M'.Perm (M++[(kx,a)]):=by
    have h1:M'.Perm ((kx,a)::(M.take (t.put j).2++M.drop (t.put j).2)):=List.perm_middle;rw[aco] at h1;exact h1.trans<|List.perm_append_comm (l₁:=[(kx,a)])
   have nd:(M'.map ip).Nodup:=by
    refine(pm.map ip).nodup_iff.mpr ?_;rw[bn,lw];exact⟨H.nd,by simp,λx Wr y Nv z=>hm (by simp at Nv;rw[<-Nv,<-z];exact Wr)⟩
   have key:∀q∈M',IsTupleKey knd (s.heap.update S<|um fO t') q.1 q.2:=λq hq=>by
    rcases aq.mp (pm.mem_iff.mp hq) with z|z
    .exact ZM (H.key q z) H.get H.dat sb
    .rw[bf.mp z];exact ZM hx H.get H.dat sb
   have fin:∀h',dz S s.heap h'->i9 knd h' S M'->Q true { s with heap:=h' }:=λh' Dg ⟨o1,x1,x2,x3,x4,x5,x6⟩=>h true h' Dg ⟨o1,x1,x2,x3,x4,x5,by rw[if_neg hm];exact x6.trans pm⟩
   have tf:t'.tooFull=decide (t.mask*3<=(es.size+1)*5):=by
    unfold SetTable.tooFull SetTable.fill;have z1:t'.place.size=fO.size:=ti.sz;have z2:t'.dummies = #[]:=ti.nd;rw[z1,z2,sz];rfl
   show wpAny _ _ (if (!false && t'.tooFull)=true then _ else _) _ _ _;rw[tf];by_cases full:t.mask*3<=(es.size+1)*5
   .rw[decide_eq_true full];simp only[sd,Bool.and_self,if_true];have nf:=H.nf;have two:(t.mask=7/\es.size+1=5)\/(t.mask=31/\es.size+1=19):=by
     rcases H.ti.mm with z|z|z<;>rw[z] at full nf ⊢<;>omega
    have gr:zv (es.size+1)=(es.size+1)*4:=by unfold zv;rw[if_neg<|by omega]
    rw[gr];have sa:sizeAbove 20=32/\sizeAbove 76=128:=by decide
    refine aa<|nU (M:=M') hg H.ex rfl ti el key nd H.ld ?_ ?_ ?_ λh' Dg ad=>af<|fin h' (sb.trans Dg) ad
    .rcases two with⟨_,z⟩|⟨_,z⟩<;>rw[z]
     .show Mk<|sizeAbove 20-1;rw[sa.1];exact .inr<|.inl rfl
     .show Mk<|sizeAbove 76-1;rw[sa.2];exact .inr<|.inr rfl
    .rcases two with⟨_,z⟩|⟨_,z⟩<;>rw[z]
     .show sizeAbove 20<=128;rw[sa.1];decide
     .show sizeAbove 76<=128;rw[sa.2];decide
    .show fO.size*5<_;rw[sz];rcases two with⟨_,z⟩|⟨_,z⟩<;>rw[z]
     .show _<(sizeAbove 20-1)*3;rw[sa.1];decide
     .show _<(sizeAbove 76-1)*3;rw[sa.2];decide
   .rw[decide_eq_false full];simp only[sd,wz,bx,if_false];exact af<|fin _ sb ⟨_,_,_,_,M',⟨hg,H.ex,rfl,ti,by rw[sz];show _<t.mask*3;omega,el,key,nd,H.ld⟩,List.Perm.refl _⟩
  split
  .refine aa<|v3 hx λb=>?_;cases b
   .exact go false
   .have e0:({ (t.put j).1 with plain:=(t.put j).1.plain }:SetTable)=(t.put j).1:=rfl;exact go (t.put j).1.plain
  .refine aa<|af ?_;exact go (t.put j).1.plain
 .have:=turns t.mask
  rcases H.ti.mm with z|z|z<;>rw[z] at e1<;>(unfold turns at e1;omega)
end
open PySem PySem.SetTable PyProof.Rows
section
variable{prog:Program}{w:World}{K:Type}[DecidableEq K]{knd:KeyKind prog w K}
variable{A:Around}{E:Value->Shared->Prop}{s:Shared}
noncomputable def stepT(M:List (List K×Addr))(q:List K×Addr):List (List K×Addr):=if q.1∈M.map ip then M else M++[q]
def once(L:List (List K×Addr)):List (List K×Addr):=L.foldl stepT []
def X6{M M':List (List K×Addr)}(h:M'.Perm M)(q:List K×Addr):(stepT M' q).Perm (stepT M q):=by
 unfold stepT;have e:q.1∈M'.map ip↔q.1∈M.map ip:=(h.map ip).mem_iff;by_cases z:q.1∈M.map ip
 .rw[if_pos z,if_pos<|e.mpr z];exact h
 .rw[if_neg z,if_neg λy=>z<|e.mp y];exact h.append_right _
def U7(M:List (List K×Addr))(q:List K×Addr):(stepT M q).length<=M.length+1:=by
 unfold stepT;split
 .omega
 .simp
theorem N0:∀(L M:List (List K×Addr)),(L.foldl stepT M).length<=M.length+L.length
 |[],M=>by simp
 |q::L,M=>by
  have:=N0 L<|stepT M q
  have:=U7 M q
  simp only[gp,ak];omega
def TJ(M:List (List K×Addr))(q:List K×Addr):M.length<=(stepT M q).length:=by
 unfold stepT;split
 .omega
 .simp
theorem LX:∀(L M:List (List K×Addr)),M.length<=(L.foldl stepT M).length
 |[],M=>by simp
 |q::L,M=>cz (TJ M q)<|LX L _
def QK(L:List (List K×Addr))(i:Nat):((L.take i).foldl stepT []).length<=(once L).length:=by
 unfold once
 have:=LX (L.drop i)<|(L.take i).foldl stepT []
 rw[<-yf,aco] at this;exact this
def g0{S a:Addr}{kx:List K}{M:List (List K×Addr)}(hu:A.units<cLine)(H:i9 knd s.heap S M)(hx:IsTupleKey knd s.heap kx a)(hn:M.length<76){Q:Bool->Shared->Prop}(h:∀b h',dz S s.heap h'->i9 knd h' S (stepT M (kx,a))->Q b { s with heap:=h',toks:=s.toks+(kx.length+1) }):wpAny (model prog w) A (setAdd S<|.ref a) Q E s:=by
 obtain⟨o,es,ep,t,M',H,pm⟩:=H;unfold setAdd;refine gc<|aa<|wpAny_pyHash_tuple hu hx ?_;refine v4 (s:={ s with toks:=s.toks+(kx.length+1) }) hu H hx (by rw[pm.length_eq];exact hn) λb h' sb ⟨o1,x1,x2,x3,x4,x5,x6⟩=>h b h' sb ⟨o1,x1,x2,x3,x4,x5,x6.trans<|X6 pm (kx,a)⟩
def i9.keep{h h':Heap}{S:Addr}{M:List (List K×Addr)}(H:i9 knd h S M)(hS:∀o,h.get? S=aA o->h'.get? S=aA o)(hM:∀q∈M,IsTupleKey knd h' q.1 q.2):i9 knd h' S M:=by
 obtain⟨o,es,ep,t,M',H,pm⟩:=H;exact⟨o,es,ep,t,M',⟨hS o H.get,H.ex,H.dat,H.ti,H.nf,H.el,λq hq=>hM q<|pm.mem_iff.mp hq,H.nd,H.ld⟩,pm⟩
def mU{h h':Heap}{ks:List K}{b:Addr}(x:IsTupleKey knd h ks b)(hb:∀o,h.get? b=aA o->h'.get? b=aA o):IsTupleKey knd h' ks b:=by
 obtain⟨o,items,n,e1,e2,e3,e4⟩:=x;exact⟨o,items,n,hb o e1,e2,e3,e4⟩
variable{R:Result->Shared->Prop}{I:Addr}{fp wr:List Addr}{G:Array GenState->Array GenState->Prop}{n:Nat}{P:Nat->Value->Prop}{St:Nat->Shared->Prop}
def pD(hu:A.in1.units<cLine)(W:WalksS prog w A.in1 I fp wr G n P St){S:Addr}(nS:S∉fp){L:List (List K×Addr)}(hL:L.length=n)(hP:∀i v,P i v->∃q,L[i]?=aA q/\v=.ref q.2)(hw:∀q∈L,q.2∉wr/\q.2≠S)(hb:(once L).length<=75):∀(d i:Nat) (s:Shared),i+d=n->St i s->i9 knd s.heap S ((L.take i).foldl stepT [])->(∀q∈L,IsTupleKey knd s.heap q.1 q.2) ->
   (∀s',Moved (S::wr) G s s'->i9 knd s'.heap S (once L)->R (.ok<|.ret .none) s')->codeAny (model prog w) A (.builtin "set.update.loop" ⟨[.ref S,.ref I],[]⟩) R s:=by
 have nw:S∉wr:=λz=>nS<|W.sub _ z
 have more:∀b∈wr,b∈S::wr:=λb z=>bt _ z
 have kp:∀{s s':Shared} {M:List (List K×Addr)},Moved wr G s s'->(∀q∈L,IsTupleKey knd s.heap q.1 q.2)->∀q∈L,IsTupleKey knd s'.heap q.1 q.2:=λhm hk q hq=>mU (hk q hq) λo e=>hm.heap q.2 o (hw q hq).1 e
 have Nu:∀(i:Nat),∀q∈(L.take i).foldl stepT [],q∈L:=by
  have gen:∀(X M:List (List K×Addr)),(∀q∈M,q∈L)->(∀q∈X,q∈L)->∀q∈X.foldl stepT M,q∈L:=by
   intro X
   induction X with
   |nil=>intro M h1 _;exact h1
   |cons y X ih=>
    intro M h1 h2;rw[gp];refine ih _ (λq hq=>?_) λq hq=>h2 q (by simp[hq])
    unfold stepT at hq;split at hq
    .exact h1 q hq
    .rcases aq.mp hq with z|z
     .exact h1 q z
     .rw[bf.mp z];exact h2 y (by simp)
  intro i;exact gen _ [] (λq hq=>by cases hq) λq hq=>on hq
 intro d
 induction d with
 |zero=>
  intro i s hi st H hk hR;have ei:i=n:=by omega
  subst ei;refine lh abi ?_;rw[jx ve _];show wpAny _ A.in1 (_ >>= _) _ _ s;refine aa<|W.done s _ _ st λs' hm=>af<|hR s' (hm.mono more) ?_;have e:(L.take i).foldl stepT []=once L:=by unfold once;rw[vo<|by omega]
  rw[e] at H;exact H.keep (λo e=>hm.heap S o nw e) λq hq=>kp (M:=[]) hm hk q<|Nu i q (by rw[e];exact hq)
 |succ d ih=>
  intro i s hi st H hk hR;refine lh abi ?_;rw[jx ve _];show wpAny _ A.in1 (_ >>= _) _ _ s;refine aa<|W.item i s _ _ (by omega) st λv s1 hv iA hm=>?_;obtain⟨q,eq,rfl⟩:=hP i v hv;have hq:q∈L:=jw eq;have Iw:=kp (M:=[]) hm hk;have H1:i9 knd s1.heap S ((L.take i).foldl stepT []):=H.keep (λo e=>hm.heap S o nw e) λq hq=>Iw q<|Nu i q hq
  dsimp only;refine aa<|gc<|g0 hu H1 (Iw q hq) ?_ λb h' sb H2=>?_
  .have:=QK L i
   omega
  .have e2:stepT ((L.take i).foldl stepT []) (q.1,q.2)=(L.take<|i+1).foldl stepT []:=by
    rw[List.take_succ,eq];simp[yf]
   rw[e2] at H2;have away:∀b,b≠S->∀o,s1.heap.get? b=aA o->h'.get? b=aA o:=λb z o e=>by rw[sb.2 b z];exact e
   refine af ⟨sr ve _,ih (i+1) _ (by omega) (W.frame _ s1 _ _ iA (mh _ _) λb z o e=>away b (λy=>nS<|y ▸ z) o e) H2 (λq hq=>mU (Iw q hq)<|away q.2 (hw q hq).2) λs2 Ir H3=>?_⟩;exact hR s2 (Moved.trans W.gtrans ((hm.mono more).then_heap (mh _ _) λb o z e=>away b (λy=>z (by rw[y];exact dg)) o e) Ir) H3
end
section
variable{prog:Program}{w:World}{K:Type}[DecidableEq K]{knd:KeyKind prog w K}
variable{A:Around}{E:Value->Shared->Prop}{s:Shared}
noncomputable abbrev y_(led:Bool):Obj:={ cls:=.type "set",dict:=aB,data:=.set #[] 0 (.fresh 0 0 led) }
def Vg(led:Bool):TI (.fresh 0 0 led) #[]:=
 ⟨rfl,(λa b _ h=>by cases h),(λi j h=>by simp[SetTable.fresh] at h),rfl,.inl rfl,bu _,(λi j e h=>by simp[SetTable.fresh] at h)⟩
def Qp{h:Heap}{S:Addr}{led:Bool}(l:led = !w.params.followText "set-order")(e:h.get? S=aA (y_ led)):i9 knd h S []:=
 ⟨_,#[],0,_,[],⟨e,⟨rfl,rfl,rfl⟩,rfl,Vg led,(by show 0*5<_;exact(by decide:0<7*3)),rfl,(λq h=>by cases h),(by simp),l⟩,.refl _⟩
def Go(knd:KeyKind prog w K)(s:Shared)(L:List (List K×Addr))(s2:Shared):Prop:=∃h' tk,s2={ s with heap:=h',toks:=tk }/\i9 knd h' s.heap.objs.size (once L)/\∀b o,b<s.heap.objs.size->s.heap.get? b=aA o->h'.get? b=aA o
def pO{l:Addr}{items:Array Value}{L:List (List K×Addr)}{led:Bool}(hd:led = !w.params.followText "set-order")(hh:A.handled=aB)(hu:A.units+1<cLine)(hl:s.heap.IsList l items)(hi:items.toList=L.map λq=>.ref q.2)(hk:∀q∈L,IsTupleKey knd s.heap q.1 q.2)(hb:(once L).length<=75){R:Result->Shared->Prop}(hR:∀s2,Go knd s L s2->R (.ok<|.ret .none) s2):codeAny (model prog w) A (.builtin "set.update.loop" ⟨[.ref s.heap.objs.size,.ref<|s.heap.objs.size+1],[]⟩) R { s with heap:=(s.heap.push<|y_ led).push { cls:=.type "list_iterator",data:=.fields #[.ref l,.int 0 0] } }:=by
 let h1:=s.heap.push<|y_ led
 have z1:h1.objs.size=s.heap.objs.size+1:=ig _ _;have lS:l<s.heap.objs.size:=let ⟨_,e,_⟩:=hl;aw e
 have kS:∀q∈L,q.2<s.heap.objs.size:=λq hq=>let ⟨_,_,_,e,_⟩:=hk q hq;aw e
 have up:∀b o,s.heap.get? b=aA o->(h1.push { cls:=.type "list_iterator",data:=.fields #[.ref l,.int 0 0] }).get? b=aA o:=λb o e=>ac _<|ac _ e
 have FW:h1.IsList l items:=hl.push _;have W:=(Walks.list (prog:=prog) (w:=w) (A:=A.in1) (by simp[hh]) h1.objs.size l (by rw[z1];exact bh<|uv lS) items).toS;have hn:L.length=items.size:=by have:=congrArg oq hi;simpa using this.symm
 rw[<-z1];refine pD (knd:=knd) (by simpa using hu) W (S:=s.heap.objs.size) ?_ hn ?_ ?_ hb items.size 0 _ (by omega) ?_ ?_ ?_ λs2 hm H=>?_
 .rw[z1];simp only[bb,mj,or_false,not_or];exact⟨bh<|yp _,lr lS⟩
 .intro i v hv;have e:items.toList[i]?=aA v:=by rw[gf];exact hv
  rw[hi,av] at e;obtain⟨q,e1,e2⟩:=gt.mp e;exact⟨q,e1,e2.symm⟩
 .intro q hq;have k:=kS q hq;rw[z1];simp only[bb,mj,or_false];exact⟨bh<|uv k,bh k⟩
 .exact⟨⟨_,ax _ rfl,rfl,rfl⟩,FW.push _⟩
 .exact Qp (led:=led) hd<|ac _<|ax _ rfl
 .exact λq hq=>mU (hk q hq) λo e=>up q.2 o e
 .obtain⟨h',g',d',AB,Dy⟩:=s2;have eg:g'=s.gens:=hm.gens;have ed:d'=s.drawn:=hm.drawn;have eo:Dy=s.os:=hm.os;subst eg;subst ed;subst eo;refine hR _ ⟨h',AB,rfl,H,λb o fM e=>hm.heap b o ?_<|up b o e⟩;rw[z1];simp only[bb,mj,or_false,not_or];exact⟨bh fM,bh<|uv fM⟩
end
section
variable{prog:Program}{w:World}{K:Type}[DecidableEq K]{knd:KeyKind prog w K}
variable{A:Around}{E:Value->Shared->Prop}{s:Shared}
def Ue(a:Value){Q:Value->Shared->Prop}(h:Q (.ref s.heap.objs.size) { s with heap:=s.heap.push (y_<|!w.params.followText "set-order") }):codeAny (model prog w) A (.call (.builtin "set.__new__") ⟨[.type "set",a],[]⟩) (wants Q E) s:=by
 refine codeAny_of_tree ?_;show wpAny _ A.in1 (do checkBuiltinCall "set.__new__" ⟨[.type "set",a],[]⟩;again (.builtin "set.__new__" ⟨[.type "set",a],[]⟩)) _ _ s;refine aa<|yw (PySem.F.newCall_set_1 a)<|af ⟨sr ack _,lh PySem.F.entry_set_new ?_⟩;rw[jx ack _];unfold Builtin.«set.__new__» Builtin.Frozenset.newClass;have z:=sub_set_self;obtain⟨hp,g,d,tk,os⟩:=s;dsimp only
 wp_walk
 refine sf<|af ?_;dsimp only;simp only[newObj];exact aa<|wpAny_alloc<|af<|af h
def pL{l:Addr}{items:Array Value}{L:List (List K×Addr)}{led:Bool}(hd:led = !w.params.followText "set-order")(hh:A.handled=aB)(hu:A.units+8<cLine)(hl:s.heap.IsList l items)(hi:items.toList=L.map λq=>.ref q.2)(hk:∀q∈L,IsTupleKey knd s.heap q.1 q.2)(hb:(once L).length<=75):codeAny (model prog w) A (.call (.builtin "set.__init__") ⟨[.ref s.heap.objs.size,.ref l],[]⟩) (wants (λr s2=>r=.none/\Go knd s L s2) E) { s with heap:=s.heap.push (y_ led) }:=by
 have hT:aan { s with heap:=s.heap.push (y_ led) } (.ref s.heap.objs.size) "set" := ⟨_,ax _ rfl,rfl⟩;refine codeAny_call_builtin jr.init.plain PySem.F.entry_set_init<|check_set_init_1 hT ?_;have FW:(s.heap.push<|y_ led).IsList l items:=hl.push _;have Ef:=FW;obtain⟨ol,Cs,sB,nl,Cu⟩:=Ef;obtain⟨ñ,î,ï,ì⟩:=ol;simp only at sB Cu;subst sB;subst Cu;have z1:=PySem.F.sub_list_set;have z2:=PySem.F.sub_list_frozenset;have z3:(Value.type "list" == Value.type "dict")=false:=by decide
 unfold Builtin.«set.__init__» noKeywords Builtin.Frozenset.updateFrom;generalize Yv:pyIter=PI
 wp_walk
 subst Yv;refine ny FW<|aa<|wpAny_runValue ?_;rw[ig];refine pO (knd:=knd) (led:=led) (L:=L) hd (by simp[hh]) (by simp;omega) hl hi hk hb λs2 H=>?_
 exact af<|af ⟨rfl,H⟩
def Z'{l:Addr}{items:Array Value}{L:List (List K×Addr)}{Q:Value->Shared->Prop}(hh:A.handled=aB)(hu:A.units+20<cLine)(hl:s.heap.IsList l items)(hi:items.toList=L.map λq=>.ref q.2)(hk:∀q∈L,IsTupleKey knd s.heap q.1 q.2)(hb:(once L).length<=75)(h:∀s2,Go knd s L s2->Q (.ref s.heap.objs.size) s2):wpAny (model prog w) A (call (.type "set") [.ref l]) Q E s:=by
 obtain⟨c,tl,þ⟩:=jr.mro;have y1:=jr.made;have y2:=jr.sub;refine wpAny_call<|codeAny_of_tree ?_;show wpAny _ _ (callAny (.type "set") _) _ _ _;refine af ⟨Code.quiet_builtin _<|by decide +kernel,lh F.entry_type_call ?_⟩;rw[Around.under_plain (weight_type_call_type "set" [.ref l] []) rfl];have y3:=jr.notType;have y4:=jr.canCreate;have y5:=PySem.F.typeCall_set_1<|.ref l
 repeat (any_goals (first|assumption|wp_step))
 refine vg (Ue (.ref l) (E:=E) (Q:=λv s1=>∃led:Bool,led=(!w.params.followText "set-order")/\v=.ref s.heap.objs.size/\s1={ s with heap:=s.heap.push (y_ led) }) ⟨_,rfl,rfl,rfl⟩) λr s1 hr=>?_
 match r,hr with
 |.error e,hr=>exact hr
 |.ok (.ret v),hr=>
  obtain⟨led,hd,rfl,rfl⟩:=hr;have hT:aan { s with heap:=s.heap.push (y_ led) } (.ref s.heap.objs.size) "set" := ⟨_,ax _ rfl,rfl⟩;have y6:=jr.init.lookup;have y7:=jr.init.bind<|.ref s.heap.objs.size
  repeat (any_goals (first|assumption|wp_step))
  refine vg (pL (knd:=knd) (E:=E) (L:=L) hd (by simp[hh]) (by simp;omega) hl hi hk hb) λr2 s2 D'=>?_
  match r2,D' with
  |.error e,D'=>exact D'
  |.ok (.ret v),D'=>
   obtain⟨rfl,H⟩:=D'
   repeat (any_goals (first|assumption|wp_step))
   exact h _ H
end
def vC:Slot "set" "__iter__" "set.__iter__" :=
 .of (owner:="set") (n:="__iter__") (by rw[sw,ni];kernel_rfl) (by decide +kernel) (by decide +kernel) (by decide +kernel)
  (by first|exact .inl (by decide +kernel)|exact .inr<|by decide +kernel) (by rw[wu];kernel_rfl)
def Cb:Slot "set_iterator" "__next__" "set_iterator.__next__" :=
 .of (owner:="set_iterator") (n:="__next__") (by rw[sw,ni];kernel_rfl) (by decide +kernel) (by decide +kernel) (by decide +kernel)
  (by first|exact .inl (by decide +kernel)|exact .inr<|by decide +kernel) (by rw[wu];kernel_rfl)
def uA:Slot "set_iterator" "__iter__" "set_iterator.__iter__" :=
 .of (owner:="set_iterator") (n:="__iter__") (by rw[sw,ni];kernel_rfl) (by decide +kernel) (by decide +kernel) (by decide +kernel)
  (by first|exact .inl (by decide +kernel)|exact .inr<|by decide +kernel) (by rw[wu];kernel_rfl)
def bU:entryFor table "set.__iter__" = aA Builtin.«frozenset.__iter__»:=
 entryFor_alias (id':="frozenset.__iter__") (by kernel_rfl) rfl (by decide +kernel) (by kernel_rfl)
def vN:entryFor table "set_iterator.__next__" = aA Builtin.«set_iterator.__next__»:=entryFor_of_fast (by kernel_rfl)
def dM:entryFor table "set_iterator.__iter__" = aA Builtin.«dict_keyiterator.__iter__»:=
 entryFor_alias (id':="dict_keyiterator.__iter__") (by kernel_rfl) rfl (by decide +kernel) (by kernel_rfl)
def d6(a:Value):argsOk "set.__iter__" ⟨[a],[]⟩:=by unfold argsOk;kernel_rfl
def u5(a:Value):argsOk "set_iterator.__next__" ⟨[a],[]⟩:=by unfold argsOk;kernel_rfl
def mM(a:Value):argsOk "set_iterator.__iter__" ⟨[a],[]⟩:=by unfold argsOk;kernel_rfl
theorem bI{α:Type}:∀(l:List α) (i:Nat) (h:i<l.length),(l[i]::l.eraseIdx i).Perm l
 |x::l,0,_=>.refl _
 |x::l,i+1,h=>by
  have:=bI l i (by simpa using h)
  simp only[List.getElem_cons_succ,abg];exact(List.Perm.swap x _ _).trans (this.cons x)
theorem LZ{α:Type}(next:Nat->Nat):∀(f k:Nat) (l:List α) (out:Array α),l.length=f->(abp next f k l out).toList.Perm (out.toList++l)
 |0,k,l,out,h=>by
  have:l=[]:=rh.mp h
  subst this;unfold abp;simp
 |f+1,k,l,out,h=>by
  have hl:next k % l.length<l.length:=qx _ (by omega)
  unfold abp;rw[au hl];dsimp only;refine(LZ next f (k+1) _ _ (by rw[acw,if_pos hl];omega)).trans ?_;rw[Array.toList_push,kb];exact List.Perm.append_left _<|bI _ _ hl
def WL{α:Type}(next:Nat->Nat)(xs:Array α):(pickOrder next xs).toList.Perm xs.toList:=by
 unfold pickOrder;exact(LZ next _ 0 _ #[] (by simp)).trans (by simp)
section
variable{prog:Program}{w:World}{A:Around}{E:Value->Shared->Prop}{s:Shared}
def g9{src:Source}{n:Nat}{Q:Nat->Shared->Prop}(hn:n≠0)(h:∀i d,i<n->Q i { s with drawn:=d }):wpAny (model prog w) A (choose src n) Q E s:=λ_ _ _=>by
 rw[choose,Sem.wp_choose];exact⟨hn,h _ _<|qx _<|by omega⟩
theorem jS{α:Type}:∀(n:Nat) (xs:List α) (s:Shared) {Q:List α->Shared->Prop},xs.length=n->(∀ys d,ys.Perm xs->Q ys { s with drawn:=d })->wpAny (model prog w) A (drawOrder n xs) Q E s
 |0,xs,s,Q,hn,h=>by
  have:xs=[]:=rh.mp hn
  subst this;unfold drawOrder;exact af<|h [] s.drawn .nil
 |n+1,[],s,Q,hn,h=>by cases hn
 |n+1,x::xs,s,Q,hn,h=>by
  unfold drawOrder;refine aa<|g9 (by simp) λi d hi=>?_;rw[au hi];dsimp only;refine aa<|jS n _ _ (by rw[acw,if_pos hi];omega) λys d' hp=>af ?_;exact h _ d'<|(hp.cons _).trans<|bI _ _ hi
end
noncomputable abbrev MJ(first:Value)(i:Nat)(S:Addr)(n ep:Nat):Obj:={ cls:=.type "set_iterator",dict:=aB,data:=.fields #[first,.int i 0,.ref S,.int n 0,.int ep 0],slots:=#[] }
inductive Way (w:World) (S:Addr) (es:Array Ent) (ep:Nat) (t:SetTable) (ord:List Value) (T:Addr) (h:Heap) (i:Nat):Value->Prop
 |text (slot:Nat):w.params.followText "set-order" = true->ord=(pickOrder (w.params.setOrder S ep) es).toList.map (·.2)->Way w S es ep t ord T h i (.int slot 0)
 |plain (slot:Nat):w.params.followText "set-order" = false->(!t.plain && decide (es.size > 1))=false->below t.place slot=i->ord=es.toList.map (·.2)->Way w S es ep t ord T h i (.int slot 0)
 |drawn (ps:List Nat):h.get? T=aA { cls:=.type "tuple",dict:=aB,data:=.seq (ps.map λp:Nat=>Value.int p 0).toArray 0,slots:=#[] }->(∀p∈ps,p<es.size)->ord=ps.map (λp=>(es.getD p (0,.none)).2)->Way w S es ep t ord T h i (.ref T)
structure SI(w:World)(I S T:Addr)(o:Obj)(es:Array Ent)(ep:Nat)(t:SetTable)(ord:List Value)(i:Nat)(h:Heap):Prop where
 get:h.get? S=aA o
 dat:o.data=.set es ep t
 ti:TI t es
 ld:t.led = !w.params.followText "set-order"
 ln:ord.length=es.size
 it:∃first,h.get? I=aA (MJ first i S es.size ep)/\Way w S es ep t ord T h i first
section
variable{prog:Program}{w:World}{A:Around}{E:Value->Shared->Prop}{s:Shared}{I S T:Addr}{o:Obj}{es:Array Ent}{ep:Nat}{t:SetTable}{ord:List Value}{i:Nat}
def ZC{xs:Array Nat}(hr:Ri xs){i j:Nat}(h:xs[i]?=aA j):below xs (j+1)=i+1:=by
 obtain⟨h1,h2,h3⟩:=k8 hr<|j+1;obtain⟨hi,hj⟩:=dH h;have a:i<below xs (j+1):=by
  rcases mx i (below xs<|j+1) with z|z
  .exact z
  .have:=h3 i z hi;omega
 rcases mx (i+1) (below xs<|j+1) with z|z
 .have h4:=h2 (i+1) z;have h5:=hr i (i+1) (by omega) (by omega);omega
 .omega
def vA(H:SI w I S T o es ep t ord i s.heap){slot:Nat}(hw:Way w S es ep t ord T s.heap i (.int slot 0)){Q:Option (Value×Nat)->Shared->Prop}(h1:∀v (n:Nat),ord[i]?=aA v->(∀h,Way w S es ep t ord T h (i+1)<|.int n 0)->Q (aA (v,n)) s)(h2:ord[i]?=aB->Q aB s):wpAny (model prog w) A (setNext S slot i ep) Q E s:=by
 unfold setNext;refine aa<|jg H.get H.dat (qK H.ti) ?_;dsimp only;refine aa<|aa<|sf<|af ?_;cases hw with
 |text _ e1 e2=>
  rw[show(model prog w).w.params.followText "set-order" = true from e1];simp only[if_true,bne_self_eq_false,bx,if_false];unfold setWalk;refine aa<|aa<|jg H.get H.dat (qK H.ti) ?_;dsimp only;refine aa<|aa<|sf<|af ?_;rw[show(model prog w).w.params.followText "set-order" = true from e1];simp only[if_true];refine aa<|sf<|af<|af ?_;have e3:ord[i]?=((pickOrder (w.params.setOrder S ep) es)[i]?).map (·.2):=by rw[e2];simp
  show Q (((pickOrder (w.params.setOrder S ep) es)[i]?).map λe=>(e.2,slot)) s;cases z:(pickOrder (w.params.setOrder S ep) es)[i]? with
  |none=>rw[z] at e3;exact h2 e3
  |some x=>rw[z] at e3;exact h1 _ _ e3 λh=>.text _ e1 e2
 |plain _ e1 e2 e3 e4=>
  rw[show(model prog w).w.params.followText "set-order" = false from e1];simp only[bx,if_false];have ld:t.led=true:=by rw[H.ld,e1];rfl
  show wpAny _ _ (if (!t.plain && decide (es.size > 1))=true then _ else _) _ _ _;rw[if_neg (by rw[e2];decide)];show wpAny _ _ ((if (!t.led && !es.isEmpty)=true then _ else pure ()) >>= _) _ _ _;rw[if_neg (by rw[ld];simp)];refine aa<|af<|af ?_;rw[e3];have e5:ord[i]?=es[i]?.map (·.2):=by rw[e4];simp
  cases z:es[i]? with
  |none=>rw[z] at e5;exact h2 e5
  |some x=>
   rw[z] at e5;have hi:i<t.place.size:=by rw[H.ti.sz];exact(et.mp z).1
   have hp:t.place[i]?=aA t.place[i]:=by simp[hi]
   rw[hp];exact h1 _ _ e5 λh=>.plain _ e1 e2 (ZC H.ti.ri hp) e4
end
section
variable{prog:Program}{w:World}{A:Around}{E:Value->Shared->Prop}{s:Shared}{I S T:Addr}{o:Obj}{es:Array Ent}{ep:Nat}{t:SetTable}{ord:List Value}{i:Nat}
def Way.mono{h h':Heap}{f:Value}(x:Way w S es ep t ord T h i f)(k:∀o,h.get? T=aA o->h'.get? T=aA o):Way w S es ep t ord T h' i f:=by
 cases x with
 |text a b c=>exact .text a b c
 |plain a b c d e=>exact .plain a b c d e
 |drawn a b c d=>exact .drawn a (k _ b) c d
def SI.mono{h h':Heap}(x:SI w I S T o es ep t ord i h)(k:∀b∈[I,S,T],∀o,h.get? b=aA o->h'.get? b=aA o):SI w I S T o es ep t ord i h':=by
 obtain⟨f,e1,e2⟩:=x.it;exact⟨k S (by simp) _ x.get,x.dat,x.ti,x.ld,x.ln,f,k I (by simp) _ e1,e2.mono λo e=>k T (by simp) o e⟩
def ZY{h:Heap}(x:SI w I S T o es ep t ord i h):aan { s with heap:=h } (.ref I) "set_iterator" := by
 obtain⟨f,e1,e2⟩:=x.it;exact⟨_,e1,rfl⟩
def n6{Q:Option Value->Shared->Prop}{B:Around}(hh:B.handled=aB){m:Sem Fin}(hm:m=raiseNew =<< newExc (.type "StopIteration") [])(h:∀h',(∀b o,s.heap.get? b=aA o->h'.get? b=aA o)->∀e,(∃o,h'.get? e=aA o/\o.cls=.type "StopIteration")->E (.ref e) { s with heap:=h' }){Q:Fin->Shared->Prop}:wpAny (model prog w) B m Q E s:=by
 subst hm;show wpAny _ _ (newExc (.type "StopIteration") [] >>= _) _ _ _;refine aa ?_;simp only[newExc,newTuple];refine aa (dq ?_<|by size_fits);refine aa (m:=firstArgMember _ _)<|yw (a:=Value.none) (by first|rfl|(simp only[firstArgMember];rfl)) ?_;refine dq ?_ (by size_fits);simp only[raiseNew];refine aa<|aaj ?_;rw[hh];refine aa<|af<|acs ?_;exact h _ (λb o e=>ac _<|ac _ e) _ ⟨_,ax _ rfl,rfl⟩
def WS(H:SI w I S T o es ep t ord i s.heap)(nS:S≠I)(nT:T≠I){v:Value}(hv:ord[i]?=aA v){Q:Option Value->Shared->Prop}(h:∀h',SI w I S T o es ep t ord (i+1) h'->(∀b o,b≠I->s.heap.get? b=aA o->h'.get? b=aA o)->Q (aA v) { s with heap:=h' }):wpAny (model prog w) A (pyNext<|.ref I) Q E s:=by
 have ht:s.TypeIs (.ref I) "set_iterator" := ZY H;obtain⟨f,e1,e2⟩:=H.it;unfold pyNext;refine aa<|ql<|gq (name:=jj "__next__") ht Cb<|fm Cb ht vN ?_<|u5 _;unfold Builtin.«set_iterator.__next__»;refine aa (m:=slotArgs "__next__" 0 _)<|af ?_;dsimp only;refine aa<|wp e1 rfl ?_;dsimp only;refine aa<|xa H.get H.dat (qK H.ti) ?_;rw[if_neg<|by simp];have num:∀slot:Nat,f=.int slot 0->wpAny (model prog w) A.in1 (do
   match <- setNext S slot i ep with
   |some (x,next)=>
    setField (.ref I) 0 (rawInt next)
    setField (.ref I) 1 (rawInt<|i+1)
    ret x
   |none=>setField (.ref I) 2 .none;raiseNew (<- newExc (.type "StopIteration") [])) (λfin s'=>∃v,fin=.done (.ret v)/\wpAny (model prog w) A (pure<|some v) Q E s') (λe s'=>wpAny (model prog w) A (do if <- isInstance e (.type "StopIteration") then pure aB else throw e) Q E s') s:=λslot ef=>by
  subst ef;refine aa<|vA H e2 (λv' n q k=>?_) λq=>?_
  .rw[hv] at q;cases q;dsimp only;refine aa<|ju e1 rfl (by simp) ?_;have e3:=gu (nh (·.setIfInBounds 0 (rawInt n))) e1 rfl;refine aa<|ju e3 rfl (by simp[nh])<|af ⟨_,rfl,af ?_⟩;have e4:=gu (nh (·.setIfInBounds 1 (rawInt<|i+1))) e3 rfl;refine h _ ⟨?_,H.dat,H.ti,H.ld,H.ln,_,e4,k _⟩ λb u nb eb=>?_
   .rw[gj _ _ _ _ nS,gj _ _ _ _ nS];exact H.get
   .rw[gj _ _ _ _ nb,gj _ _ _ _ nb];exact eb
  .rw[hv] at q;cases q
 cases e2 with
 |text slot a b=>exact num slot rfl
 |plain slot a b c d=>exact num slot rfl
 |drawn ps a b c=>
  refine aa<|iw a rfl ?_;dsimp only;rw[c,av] at hv;obtain⟨p,q1,q2⟩:=gt.mp hv;have q3:((ps.map λp:Nat=>Value.int p 0).toArray)[Int.toNat i]?=aA (.int p 0):=by rw[gy];simp[q1]
  rw[q3];dsimp only;have hp:p<es.size:=b p<|jw q1;have q4:es[p]?=aA (es.getD p (0,.none)):=by simp[pc,hp]
  refine aa ?_;unfold setNextDrawn;refine aa<|jg H.get H.dat (qK H.ti) ?_;simp only[gy,bne_self_eq_false,bx,if_false,q4];refine af<|aa<|ju e1 rfl (by simp)<|af ⟨_,rfl,af ?_⟩;have e4:=gu (nh (·.setIfInBounds 1 (rawInt<|i+1))) e1 rfl;rw[q2];refine h _ ⟨?_,H.dat,H.ti,H.ld,H.ln,_,e4,.drawn ps ?_ b c⟩ λb u nb eb=>?_
  .rw[gj _ _ _ _ nS];exact H.get
  .rw[gj _ _ _ _ nT];exact a
  .rw[gj _ _ _ _ nb];exact eb
def Ux(hh:A.handled=aB)(H:SI w I S T o es ep t ord i s.heap)(hv:ord[i]?=aB){Q:Option Value->Shared->Prop}(h:∀h',(∀b o,b≠I->s.heap.get? b=aA o->h'.get? b=aA o)->Q aB { s with heap:=h' }):wpAny (model prog w) A (pyNext<|.ref I) Q E s:=by
 have ht:s.TypeIs (.ref I) "set_iterator" := ZY H;obtain⟨f,e1,e2⟩:=H.it;unfold pyNext;refine aa<|ql<|gq (name:=jj "__next__") ht Cb<|fm Cb ht vN ?_<|u5 _;unfold Builtin.«set_iterator.__next__»;refine aa (m:=slotArgs "__next__" 0 _)<|af ?_;dsimp only;refine aa<|wp e1 rfl ?_;dsimp only;refine aa<|xa H.get H.dat (qK H.ti) ?_;rw[if_neg<|by simp];have fin:∀h',(∀b o,b≠I->s.heap.get? b=aA o->h'.get? b=aA o)->∀e,(∃o,h'.get? e=aA o/\o.cls=.type "StopIteration")->wpAny (model prog w) A (do if <- isInstance (.ref e) (.type "StopIteration") then pure aB else throw<|.ref e) Q E { s with heap:=h' }:=λh' kp e he=>by
  obtain⟨x,y,z⟩:=he;refine aa<|uz (T:="StopIteration") (b:=true) ⟨x,y,z⟩ zt ?_;exact af<|h _ kp
 have num:∀slot:Nat,f=.int slot 0->wpAny (model prog w) A.in1 (do
   match <- setNext S slot i ep with
   |some (x,next)=>
    setField (.ref I) 0 (rawInt next)
    setField (.ref I) 1 (rawInt<|i+1)
    ret x
   |none=>setField (.ref I) 2 .none;raiseNew (<- newExc (.type "StopIteration") [])) (λfin s'=>∃v,fin=.done (.ret v)/\wpAny (model prog w) A (pure<|some v) Q E s') (λe s'=>wpAny (model prog w) A (do if <- isInstance e (.type "StopIteration") then pure aB else throw e) Q E s') s:=λslot ef=>by
  subst ef;refine aa<|vA H e2 (λv' n q k=>?_) λq=>?_
  .rw[hv] at q;cases q
  .dsimp only;refine aa<|ju e1 rfl (by simp) ?_;refine n6 (Q:=λ_ _=>True) (by simp[hh]) rfl λh' kp e he=>fin h' (λb u nb eb=>kp b u ?_) e he
   rw[gj _ _ _ _ nb];exact eb
 cases e2 with
 |text slot a b=>exact num slot rfl
 |plain slot a b c d=>exact num slot rfl
 |drawn ps a b c=>
  refine aa<|iw a rfl ?_;dsimp only;rw[c,av] at hv;have q1:ps[i]?=aB:=by cases z:ps[i]? with
   |none=>rfl
   |some x=>rw[z] at hv;cases hv
  have q3:((ps.map λp:Nat=>Value.int p 0).toArray)[Int.toNat i]?=aB:=by rw[gy];simpa using q1
  rw[q3];dsimp only;have e3:=gu (nh (·.setIfInBounds 0 (rawInt 0))) e1 rfl;refine aa<|ju e1 rfl (by simp)<|aa<|ju e3 rfl (by simp[nh]) ?_;refine n6 (Q:=λ_ _=>True) (by simp[hh]) rfl λh' kp e he=>fin h' (λb u nb eb=>kp b u ?_) e he
  rw[gj _ _ _ _ nb,gj _ _ _ _ nb];exact eb
def XZ(hh:A.handled=aB)(nS:S≠I)(nT:T≠I):Walks prog w A I [I,S,T] [I] ord.length (λi v=>ord[i]?=aA v) (SI w I S T o es ep t ord) where
 sub:=λb hb=>by simp at hb;simp[hb]
 frame:=λ_ _ _ st hk=>st.mono hk
 item:=λi s Q E hi st hQ=>by
  refine WS st nS nT (v:=ord[i]) (by simp[hi]) λh' eJ kp=>?_
  exact hQ _ h' s.toks (by simp[hi]) eJ λb o hb e=>kp b o (λz=>hb<|by simp[z]) e
 done:=λs Q E st hQ=>Ux hh st (by simp) λh' kp=>hQ h' s.toks λb o hb e=>kp b o (λz=>hb<|by simp[z]) e
 self:=λi s Q E st hQ=>by
  have ht:s.TypeIs (.ref I) "set_iterator" := ZY st;refine xu ht uA<|fm uA ht dM ?_<|mM _;show wpAny _ _ (ret<|.ref I) _ _ s;exact af ⟨_,rfl, "set_iterator",_,ht,Cb.lookup,hQ⟩
end
section
variable{prog:Program}{w:World}{K:Type}[DecidableEq K]{knd:KeyKind prog w K}{A:Around}{E:Value->Shared->Prop}{s:Shared}{S:Addr}{o:Obj}{es:Array Ent}{ep:Nat}{t:SetTable}
def WI{α:Type}(es:Array α)(d:α):(fg es.size).map (λp=>es.getD p d)=es.toList:=by
 refine sk (by simp) λi h1 h2=>?_
 have h3:i<es.size:=by simpa using h2
 simp[pc,h3]
def ZB{xs:Array Nat}(hr:Ri xs):below xs 0=0:=by
 obtain⟨h1,h2,h3⟩:=k8 hr 0;rcases xl (below xs 0) with z|z
 .exact z
 .exact absurd (h2 0 z)<|Nat.not_lt_zero _
def nV(ho:s.heap.get? S=aA o)(hd:o.data=.set es ep t)(ht:TI t es){Q:Bool->Shared->Prop}(h:Q (!w.params.followText "set-order" && (!t.plain && decide (es.size > 1))) s):wpAny (model prog w) A (setDrawn S) Q E s:=by
 unfold setDrawn;refine aa<|jg ho hd (qK ht) ?_;dsimp only;exact aa<|aa<|sf<|af<|af h
def UN{hc:o.cls=.type "set"}(ho:s.heap.get? S=aA o)(hd:o.data=.set es ep t)(ht:TI t es)(hl:t.led = !w.params.followText "set-order")(hz:es.size<=75){Q:Value->Shared->Prop}(h:∀I T ord h' d,ord.Perm (es.toList.map (·.2))->SI w I S T o es ep t ord 0 h'->T≠I->s.heap.objs.size<=I->(T=S\/s.heap.objs.size<=T)->(∀b o,s.heap.get? b=aA o->h'.get? b=aA o)->Q (.ref I) { s with heap:=h',drawn:=d }):wpAny (model prog w) A (pyIter<|.ref S) Q E s:=by
 have Cr:s.TypeIs (.ref S) "set" := ⟨o,ho,hc⟩;have lS:=aw ho;refine xu Cr vC<|fm vC Cr bU ?_<|d6 _;unfold Builtin.«frozenset.__iter__» Builtin.Frozenset.slot0 Builtin.Frozenset.sizeOf;refine aa<|aa (m:=slotArgs "__iter__" 0 _)<|af<|af<|aa<|aa<|xa ho hd (qK ht)<|af ?_;refine aa<|nV ho hd ht ?_;have fin:∀(h1:Heap) (d:_) (f:Value) (T:Addr) (ord:List Value),(∀b o,s.heap.get? b=aA o->h1.get? b=aA o)->s.heap.objs.size<=h1.objs.size->(T=S\/(s.heap.objs.size<=T/\T<h1.objs.size))->Way w S es ep t ord T h1 0 f->ord.Perm (es.toList.map (·.2)) ->
   wpAny (model prog w) A.in1 (do ret (<- newFields "set_iterator" [f,rawInt 0,.ref S,rawInt es.size,rawInt<|<- setEpoch S])) (λfin s'=>∃v,fin=.done (.ret v)/\∃T r,s'.TypeIs v T/\typeLookup (.type T) "__next__" = pure (aA r)/\Q v s') E { s with heap:=h1,drawn:=d }:=λh1 d f T ord kp sz hT hw hp=>by
  unfold setEpoch;refine aa<|aa<|jg (kp _ _ ho) hd (qK ht)<|af ?_;refine aa<|dq<|af ⟨_,rfl, "set_iterator",_,⟨_,ax _ rfl,rfl⟩,Cb.lookup,?_⟩;have ks:∀b o,h1.get? b=aA o->(h1.push<|MJ f 0 S es.size ep).get? b=aA o:=λb o e=>ac _ e
  have tn:T≠h1.objs.size:=by
   rcases hT with z|z
   .rw[z];exact bh<|bw lS sz
   .exact bh z.2
  refine h _ T ord _ _ hp ⟨ks _ _<|kp _ _ ho,hd,ht,hl,?_,f,ax _ rfl,hw.mono λo e=>ks T o e⟩ tn sz (hT.imp id λz=>z.1) λb o e=>ks b o<|kp b o e
  have:=hp.length_eq;simpa using this
 cases hb:w.params.followText "set-order" with
 |true=>
  simp only[sv,Bool.false_and,bx,if_false];exact aa<|af<|fin s.heap s.drawn _ S _ (λb o e=>e) (al _) (.inl rfl) (.text 0 hb rfl)<|(WL _ es).map _
 |false=>
  cases hp:(!t.plain && decide (es.size > 1)) with
  |false=>
   simp only[sd,Bool.true_and,bx,if_false];exact aa<|af<|fin s.heap s.drawn _ S _ (λb o e=>e) (al _) (.inl rfl) (.plain 0 hb hp (ZB ht.ri) rfl)<|.refl _
  |true=>
   simp only[sd,Bool.true_and,if_true];refine aa<|jS es.size (fg es.size) _ List.length_range λps d pp=>?_;have pl:ps.length=es.size:=by have:=pp.length_eq;simpa using this
   refine aa<|wo ?_ (by rw[ah,pl,gk];omega);refine fin _ d _ s.heap.objs.size (ps.map λp=>(es.getD p (0,.none)).2) (λb o e=>ac _ e) (by rw[ig];exact rc _) (.inr ⟨al _,by rw[ig];exact yp _⟩) (.drawn ps (ax _ rfl) (λp hp=>by simpa using pp.mem_iff.mp hp) rfl) ?_
   have:=pp.map λp=>(es.getD p (0,.none)).2
   refine this.trans ?_;rw[show(fg es.size).map (λp=>(es.getD p (0,.none)).2)=((fg es.size).map λp=>es.getD p (0,.none)).map (·.2) from by rw[dm];rfl,WI]
end
def Tu:typeLookup (.type "set") "__len__" = pure (aA<|.builtin "set.__len__"):=by rw[sw,ni];kernel_rfl
def Tv:isSubtype (.type "set") (.type "set")=pure true:=by rw[wu];kernel_rfl
section
variable{prog:Program}{w:World}{A:Around}{E:Value->Shared->Prop}{s:Shared}{S:Addr}{o:Obj}{es:Array Ent}{ep:Nat}{t:SetTable}
def Zy(hh:A.handled=aB)(hc:o.cls=.type "set")(ho:s.heap.get? S=aA o)(hd:o.data=.set es ep t)(ht:TI t es)(hl:t.led = !w.params.followText "set-order")(hz:es.size<=75){Q:List Value->Shared->Prop}(h:∀vs h' d tk,vs.Perm (es.toList.map (·.2))->(∀b o,s.heap.get? b=aA o->h'.get? b=aA o)->s.heap.objs.size<h'.objs.size->Q vs { s with heap:=h',drawn:=d,toks:=tk }):wpAny (model prog w) A (collect<|.ref S) Q E s:=by
 have lS:=aw ho;unfold collect;refine aa<|wpAny_runValue<|lh F.entry_proto_collect ?_;rw[jx F.plain_proto_collect _];show wpAny _ A.in1 (newList [] >>= λl=>again<|.builtin "list.__iadd__" ⟨[l,.ref S],[]⟩) _ _ s;refine aa<|dq ?_;refine af ⟨sr F.plain_list_iadd _,lh F.entry_list_iadd ?_⟩;rw[jx F.plain_list_iadd _];show wpAny _ A.in1 (zo (.ref s.heap.objs.size) (.ref S)<|.ref s.heap.objs.size) _ _ _
 let L:=s.heap.objs.size
 let lo:Obj:={ cls:=.type "list",data:=.seq ([]:List Value).toArray }
 let h1:Heap:=s.heap.push lo
 show wpAny _ A.in1 _ _ _ { s with heap:=h1 };have z1:h1.objs.size=s.heap.objs.size+1:=ig _ _;have Ee:h1.get? S=aA o:=ac _ ho;have Yx:h1.get? L=aA lo:=ax _ rfl;have ty:∀s':Shared,s'.heap.get? S=aA o->s'.TypeIs (.ref S) "set" := λs' e=>⟨o,e,hc⟩
 unfold zo;refine aa<|rl (ty { s with heap:=h1 } Ee) ?_;have h2:aaw (.ref s.heap.objs.size) (.ref S)=false:=by simp[aaw];exact lr lS
 have h3:(Value.type "set" == Value.type "list")=false:=by decide
 have h4:(Value.type "set" == Value.type "tuple")=false:=by decide
 simp only[h2,h3,h4,aax,bx,if_false];refine aa<|UN (hc:=hc) (s:={ s with heap:=h1 }) Ee hd ht hl hz λI T ord h' d pm st nT lI lT kp=>?_;have lI:s.heap.objs.size<I:=by have:=z1 ▸ lI;exact this
 have oS:h'.get? S=aA o:=st.get;refine aa<|gc ?_;unfold Builtin.List.listLengthHint;refine aa<|qt (ty { s with heap:=h',drawn:=d } oS) Tu ?_
 wp_delta
 refine aa<|uz (T:="set") (b:=true) (ty { s with heap:=h',drawn:=d } oS) Tv ?_;show wpAny _ A.in1 (typeOf (Value.ref S) >>= _) _ _ _;refine aa<|rl (ty { s with heap:=h',drawn:=d } oS)<|af ?_;rw[if_pos<|by decide];refine aa<|ue ?_;have NU:h'.get? L=aA lo:=kp _ _ Yx;refine aa ?_;show wpAny _ A.in1 (updateSeq L (·.push .none) >>= λ_=>updateSeq L (·.pop)) _ _ _;refine aa<|wb NU rfl ?_;have NR:=gu (cj (·.push Value.none)) NU rfl;refine wb NR rfl ?_;have Yw:=gu (cj (·.pop)) NR rfl;have Cn:∀b o,b≠L->h'.get? b=aA o->((h'.update L<|cj (·.push Value.none)).update L<|cj (·.pop)).get? b=aA o:=
  λb o hb e=>(vt _ _<|ua hb).trans<|(vt _ _<|ua hb).trans e
 have nS:S≠I:=bh<|ro lS lI;have nL:L∉[I,S,T]:=by
  simp only[bb,mj,or_false,not_or];refine⟨bh lI,lr lS,?_⟩;rcases lT with z|z
  .rw[z];exact lr lS
  .have z:=z1 ▸ z;exact bh z
 have W:=(XZ (prog:=prog) (A:=A.in1.in1) (w:=w) (o:=o) (es:=es) (ep:=ep) (t:=t) (ord:=ord) (by simp[hh]) nS nT).toS;have ol:ord.length<=ar:=by rw[st.ln,gk];omega
 refine af ⟨sr F.plain_extend_loop _,codeAny_extend_loopS W.of_in1 ol L nL _ ord.length 0 _ _ _ rfl (bu _) (st.mono λb hb o e=>Cn b o (λz=>nL<|z ▸ hb) e) Yw (ItemsOf.nil _) λs' BM c' hm NQ BF=>?_⟩;show wpAny _ A (load L >>= _) _ _ s';refine aa<|wpAny_load NQ<|af ?_;have ea:BM.toList=ord:=by
  obtain⟨a1,a2⟩:=BF;refine sk (by simpa using a1) λi g1 g2=>?_
  have g3:i<BM.size:=by simpa using g1
  have:ord[i]?=aA BM[i]:=a2 i BM[i] (by simp[g3])
  rw[au g2] at this;simpa using (bv this).symm
 rw[ea];obtain⟨hp,g',d',AB,Dy⟩:=s';have eg:g'=s.gens:=hm.gens;have ed:d'=d:=hm.drawn;have eo:Dy=s.os:=hm.os;subst eg;subst ed;subst eo;refine h ord hp _ AB pm (λb u e=>?_)<|aw NQ;have lb:=aw e;have e2:=hm.heap b u ?_<|Cn b u (bh lb)<|kp b u<|ac _ e
 .exact e2
 .simp only[bb,mj,or_false,not_or];exact⟨bh lb,bh<|ro lb lI⟩
end
end SP
namespace DD
open PySem PySem.Spec PyProof.Rows L2 PySem.W TS
def WA(w:World)(S:Addr)(as:List Addr)(h:Heap):Prop:=∃o es ep t,h.get? S=aA o/\o.cls=.type "set" /\ o.data=.set es ep t/\SP.TI t es/\t.led=(!w.params.followText "set-order")/\es.toList.map (·.2)=as.map .ref
def Tt{P:Program}{w:World}{H:Hp}{h:Heap}{S:Addr}{as:List Addr}(x:WA w S as h):d_ P w H h S (.ext<|WA w S as):=by
 obtain⟨o,es,ep,t,e,r⟩:=id x;refine⟨x,⟨o,e⟩,λh1 h2 y k=>?_⟩;obtain⟨o,es,ep,t,e,r⟩:=y;exact⟨o,es,ep,t,k o e,r⟩
theorem oH:∀{l:List Addr} {us:List Value},Vals (l.map V.ref) us->us=l.map Value.ref
 |[],_,r=>by cases r;rfl
 |a::l,_,r=>by
  cases r with
  |cons h t=>cases h;rw[am,oH t]
section
variable{X:Cx}
def Qf(I:Inv X pZ σ H s){ks:List Key}{a:Addr}(h:aM X.K H a (ks.map kV)):IsTupleKey (yM X.prog X.w) s.heap ks a:=by
 obtain⟨its,r,⟨o,e,c,n,d⟩,_⟩:=I.tuple h;exact⟨o,its.toArray,n,e,c,d,by simpa using dC r⟩
def QX(hc:X.calm=true)(hu:X.A.units+200<cLine):fJ X (.type "set") (λxs H Q=>∃(p:Addr) (L:List (List Key×Addr)),xs=[.ref p]/\aN X.K H p ((L.map (·.2)).map V.ref)/\(∀q∈L,aM X.K H q.2<|q.1.map kV)/\(SP.once L).length<=63/\∀S as,as.Perm ((SP.once L).map (·.2))->H S=aB->Q (.ref S) (upd H S<|.ext<|WA X.w S as)):=by
 intro pZ s σ H xs us Q I r h;obtain⟨p,L,rfl,sq,hk,hz,q⟩:=h;obtain⟨u,rfl,rx⟩:=nY r;cases rx;obtain⟨its,rv,pl,_⟩:=I.list sq;have ei:=oH rv;refine SP.Z' (knd:=yM X.prog X.w) (L:=L) (I.ok.hd hc) (by omega) pl.isList (by rw[ei,dm];rfl) (λq hq=>Qf I<|hk q hq) (by omega) λs2 H2=>?_
 obtain⟨h',tk,rfl,⟨o,es,ep,t,M',sa,pm⟩,kp⟩:=H2;refine⟨.ref s.heap.objs.size,_,I.laid (t':=tk) (λb u e=>kp b u (aw e) e) (al _)<|Tt (as:=M'.map (·.2)) ⟨o,es,ep,t,sa.get,sa.ex.1,sa.dat,sa.ti,sa.ld,?_⟩,rfl,q _ _ (pm.map _)<|I.aI.fresh<|al _⟩;rw[sa.el,dm,dm];rfl
end
noncomputable abbrev NT:=(Nat×List Nat)×Addr
noncomputable def vX(p:Nat×List Nat):List Nat:=p.1::p.2
def A4(h:Heap)(v:Value)(p:Nat×List Nat):Prop:=∃(a:Addr) (o:Obj) (n:Nat) (t u:Tok),v=.ref a/\h.get? a=aA o/\o.cls=.type "tuple" /\ o.data=.seq #[.int p.1 t,.str ⟨p.2.toArray⟩ u] n
def A4.stays(st:XO h h')(p:A4 h v k):A4 h' v k:=by
 obtain⟨a,o,n,t,u,e,g,c,d⟩:=p;exact⟨a,o,n,t,u,e,st _ _ g,c,d⟩
section
variable{prog:Program}{w:World}{A:Around}{E:Value->Shared->Prop}{s:Shared}
def SS(a b:Nat)(x y:List Nat):(a::x<b::y)↔a<b\/(a=b/\x<y):=List.cons_lt_cons_iff
def Pc(hx:A4 s.heap x k)(hy:A4 s.heap y j)(q:Q (decide (vX k<vX j)) s):wpAny (model prog w) A (keyLt' (tuples' true) x y) Q E s:=by
 obtain⟨a,o,n,t,u,rfl,g,c,d⟩:=hx;obtain⟨a',o',n',t',u',rfl,g',c',d'⟩:=hy;refine kat_lt g d g' d' ?_;show KatLex prog w A true (decide (2<2)) Q [(Value.int k.1 t,Value.int j.1 t'),(Value.str ⟨k.2.toArray⟩ u,Value.str ⟨j.2.toArray⟩ u')] 0 s;refine kat_cons<|wpAny_eqBool_int ?_;have key:(vX k<vX j)↔k.1<j.1\/(k.1=j.1/\k.2<j.2):=SS _ _ _ _;by_cases e:k.1=j.1
 .have e':((k.1:Int)=(j.1:Int)):=by rw[e]
  rw[show((k.1:Int) == (j.1:Int))=true from by rw[e'];exact beq_self_eq_true _];refine kat_yes<|kat_cons<|yn ?_;by_cases f:k.2=j.2
  .rw[show decide ((⟨k.2.toArray⟩:Str)=⟨j.2.toArray⟩)=true from decide_eq_true<|by rw[f]];refine kat_yes<|kat_nil ?_;have nl:¬vX k<vX j:=λz=>by
    rcases key.mp z with z|z
    .omega
    .rw[f] at z;exact uq _ z.2
   rw[decide_eq_false nl] at q;exact q
  .have f':¬((⟨k.2.toArray⟩:Str)=⟨j.2.toArray⟩):=λz=>f (by injection z with z;simpa using congrArg yi z)
   rw[decide_eq_false f'];refine kat_no<|kat_one _ _<|PySem.P.lt_str ?_
   have:decide (vX k<vX j)=decide (k.2<j.2):=by
    by_cases g:k.2<j.2
    .rw[decide_eq_true g,decide_eq_true<|key.mpr<|.inr ⟨e,g⟩]
    .rw[decide_eq_false g,decide_eq_false λz=>(key.mp z).elim (λz=>by omega) λz=>g z.2]
   rw[this] at q;show Q (decide (k.2.toArray.toList<j.2.toArray.toList)) s;simpa using q
 .have e':¬((k.1:Int)=(j.1:Int)):=by omega
  rw[show((k.1:Int) == (j.1:Int))=false from beq_eq_false_iff_ne.mpr e'];refine kat_no<|oneLt_int ?_
  have:decide (vX k<vX j)=decide ((k.1:Int)<(j.1:Int)):=by
   by_cases g:k.1<j.1
   .rw[decide_eq_true (show(k.1:Int)<j.1 by omega),decide_eq_true<|key.mpr<|.inl g]
   .rw[decide_eq_false (show ¬(k.1:Int)<j.1 by omega),decide_eq_false λz=>(key.mp z).elim g λz=>e z.1]
  rw[this] at q;exact q
theorem J0:∀(vs:List Value),(∀v∈vs,∃p,A4 s.heap v p)->∃fs,fs.length=vs.length/\KatTups s.heap vs fs/\∀f∈fs,∃i t,f=Value.int i t
 |[],_=>⟨[],rfl,trivial,by simp⟩
 |v::vs,h=>by
  obtain⟨fs,l,k,g⟩:=J0 vs λx hx=>h x (by simp[hx])
  obtain⟨p,a,o,n,t,u,rfl,e,c,d⟩:=h v (by simp);exact⟨.int p.1 t::fs,by simp[l],KatTups.cons e c d rfl k,λf hf=>by
   rcases bb.mp hf with rfl|hf
   .exact⟨_,t,rfl⟩
   .exact g f hf⟩
end
section
variable{X:Cx}
def Pb(I:Inv X pZ σ H s){q:NT}(h:aM X.K H q.2 [.int q.1.1,.str ⟨q.1.2.toArray⟩]):A4 s.heap (.ref q.2) q.1:=by
 obtain⟨its,r,⟨o,e,c,n,d⟩,_⟩:=I.tuple h;obtain⟨x,y,rfl,rx,ry⟩:=Vals.two r;obtain⟨t,rfl⟩:=rx;obtain⟨u,rfl⟩:=ry;exact⟨q.2,o,n,t,u,rfl,e,c,d⟩
def vL{α:Type}{l:List α}{i:Nat}(h:i<l.length)(d:α):l.getD i d=l[i]:=by simp[h]
def tE{α:Type}(l:List α)(d:α):(fg l.length).map (λi=>l.getD i d)=l:=by
 refine sk (by simp) λi h1 h2=>?_
 simp[h2]
instance:Inhabited NT:=⟨((0,[]),0)⟩
theorem ZF:∀l:List Addr,Vals (l.map V.ref) (l.map Value.ref)
 |[]=>.nil
 |a::l=>.cons rfl<|ZF l
def Pn(X:Cx)(pZ:List (Addr×Obj))(σ:St)(H:Hp)(s:Shared)(u:Value)(L:List NT):Prop:=∀(A:Around) (E:Value->Shared->Prop) (R:List Value->Shared->Prop),A.handled=aB->(∀vs h' d tk,vs.Perm (L.map λq=>Value.ref q.2)->(∀b o,s.heap.get? b=aA o->h'.get? b=aA o)->Inv X pZ σ H { s with heap:=h',drawn:=d,toks:=tk }->R vs { s with heap:=h',drawn:=d,toks:=tk })->wpAny (model X.prog X.w) A (collect u) R E s
def gX(hc:X.calm=true){L:List NT}{u:Value}{Q:VK}(I:Inv X pZ σ H s)(col:Pn X pZ σ H s u L)(hk:∀q∈L,aM X.K H q.2 [.int q.1.1,.str ⟨q.1.2.toArray⟩])(nd:(L.map (·.1)).Nodup)(iD:L.length<64)(q:∀(qs:List NT) l,qs.Perm L->qs.Pairwise (λa b=>vX a.1<vX b.1)->H l=aB->Q (.ref l) (upd H l<|.lst<|(qs.map (·.2)).map V.ref)):wpAny (model X.prog X.w) X.A (call (.builtin "sorted") [u]) (λv s'=>∃x H',Inv X pZ σ H' s'/\RelV x v/\Q x H') X.xe s:=by
 refine aag acu abo abr (args_sorted1 _) ?_;unfold Builtin.«sorted»;refine aa (m:=checkCount "sorted" 1 1 _)<|af<|aa<|col _ _ _ (by simpa using I.ok.hd hc) λvs h' d tk VD kp I'=>?_;obtain⟨fS,e0,p0⟩:=SP.MY VD L rfl;have lv:vs.length=fS.length:=by rw[e0,ah]
 have lq:fS.length=L.length:=p0.length_eq;refine aa<|uw ?_ (by rw[lv,gk];omega)
 let a:=h'.objs.size
 let h1:Heap:=h'.push<|seqObj "list" vs.toArray 0
 have f_:h1.get? a=aA (seqObj "list" vs.toArray 0):=ax _ rfl;have iA:XO s.heap h1:=λb o e=>ac _<|kp b o e
 have ne1:∀b o,s.heap.get? b=aA o->b≠a:=λb o e=>bh<|aw<|kp b o e
 have eT:∀h2:Heap,CH h1 a h2->XO s.heap h2:=λh2 hL b o e=>hL b o (ne1 b o e)<|iA b o e
 have nt:∀{i:Nat},i<vs.length->A4 s.heap (vs.getD i Value.none) (fS.getD i default).1:=λ{i} hi=>by
  have AT:i<fS.length:=by omega
  have e1:vs.getD i Value.none=.ref (fS.getD i default).2:=by rw[vL hi,vL AT];simp[e0]
  rw[e1];refine Pb I<|hk _<|p0.mem_iff.mp ?_;rw[vL AT];exact List.getElem_mem AT
 let t':Nat->List Nat:=λi=>vX (fS.getD i default).1
 have Wb:∀x y:Nat×List Nat,vX x=vX y->x=y:=λx y e=>by
  unfold vX at e
  injection e with e1 e2
  exact va e1 e2
 have Ng:(fS.map (·.1)).Nodup:=(p0.map _).nodup_iff.mpr nd;have df:Df t' vs.length:=λi j hi hj e=>by
  have AT:i<fS.length:=by omega
  have FY:j<fS.length:=by omega
  have e:=Wb _ _ e;rw[vL AT,vL FY] at e;have li:i<(fS.map (·.1)).length:=by simpa using AT
  have lj:j<(fS.map (·.1)).length:=by simpa using FY
  have e3:(fS.map (·.1))[i]=(fS.map (·.1))[j]:=by simpa using e
  rcases jh i j with z|z|z
  .exact absurd e3<|ck.mp Ng i j li lj z
  .exact z
  .exact absurd e3.symm<|ck.mp Ng j i lj li z
 show wpAny _ _ (holding [Value.ref a] _ >>= _) _ _ { s with heap:=h1,drawn:=d,toks:=tk };refine aa<|gc<|fm zq ⟨_,f_,rfl⟩ zf (n9 (t:=t') (κ:=tuples' true) f_ (by omega) df (λs' L2 h2 Q' hQ=>?_) (λs' L2 i j hi hj eP C hC=>?_) λp hp hu=>⟨_,rfl,af ⟨_,rfl,?_⟩⟩)<|args_list_sort _
 .obtain⟨fs,fl,ft,g⟩:=J0 (s:=s') vs λv hv=>by
   obtain⟨i,hi,rfl⟩:=qg hv;exact⟨_,by have:=(nt hi).stays<|eT _ L2;rwa [vL hi] at this⟩
  refine kat_kind (T:=.type "int") ft (by omega) (λv hv=>?_) (by decide) (by exact hQ);obtain⟨i,t,rfl⟩:=g v hv;exact .now
 .exact Pc ((nt hi).stays<|eT _ L2) ((nt hj).stays<|eT _ L2) hC
 .have inr:∀i∈p.toList,i<vs.length:=λi hi=>by
   have:=hp.perm.mem_iff.mp<|oz.mp hi
   simpa using this
  let qs:List NT:=p.toList.map λi=>fS.getD i default
  have eq1:(vZ vs p).toList=(qs.map (·.2)).map Value.ref:=by
   unfold vZ;rw[xb,dm,dm];refine qf λi hi=>?_
   have Xz:=inr i hi;have AT:i<fS.length:=by omega
   show vs.getD i Value.none=.ref (fS.getD i default).2;rw[vL Xz,vL AT];simp[e0]
  have pl:p.toList.length=vs.length:=by rw[cw];exact hp.size
  have pq:qs.Perm L:=by
   have pp:p.toList.Perm (fg vs.length):=by simpa using oy.mp hp.perm
   have:=pp.map λi=>fS.getD i default
   rw[lv,tE] at this;exact this.trans p0
  have pw:qs.Pairwise λa b=>vX a.1<vX b.1:=by
   rw[du,ck];intro i j hi hj eP;have up:=hu i j eP (by omega);unfold ky at up;have ei:∀{i:Nat} (hi:i<p.toList.length),p.getD i 0=p.toList[i]:=λ{i} hi=>by
    have:i<p.size:=by simpa using hi
    simp[pc,this]
   rw[ei hi,ei hj] at up;exact up
  obtain⟨e,he⟩:=sortedHeap_at (out:=vZ vs p) f_;have fr:H a=aB:=I'.aI.fresh<|al _;have keep:∀b u,h'.get? b=aA u->(sortedHeap h1 a vs<|vZ vs p).get? b=aA u:=λb u eb=>by
   have N5:h1.get? b=aA u:=ac _ eb;rw[sortedHeap_old (bh<|aw eb)<|aw N5];exact N5
  have new:d_ X.prog X.w (upd H a<|.lst<|(qs.map (·.2)).map V.ref) (sortedHeap h1 a vs<|vZ vs p) a (.lst<|(qs.map (·.2)).map V.ref):=by
   refine⟨by rw[ah,ah,pq.length_eq,gk];omega,(vZ vs p).toList,e,?_,by simpa using he⟩;rw[eq1];exact ZF _
  exact⟨.ref a,_,I'.laid (t':=tk) keep (al _) new,rfl,q qs a pq pw fr⟩
def t9(hc:X.calm=true):fJ X (.builtin "sorted") (λxs H Q=>∃(S:Addr) (as:List Addr) (L:List NT),xs=[.ref S]/\H S=aA (.ext<|WA X.w S as)/\as.Perm (L.map (·.2))/\(∀q∈L,aM X.K H q.2 [.int q.1.1,.str ⟨q.1.2.toArray⟩])/\(L.map (·.1)).Nodup/\L.length<64 /\
  ∀(qs:List NT) l,qs.Perm L->qs.Pairwise (λa b=>vX a.1<vX b.1)->H l=aB->Q (.ref l) (upd H l<|.lst<|(qs.map (·.2)).map V.ref)):=by
 intro pZ s σ H xs us Q I r hq;obtain⟨S,as,L,rfl,hS,pa,hk,nd,iD,q⟩:=hq;obtain⟨u,rfl,ru⟩:=nY r;cases ru;obtain⟨⟨o,es,ep,t,eS,cS,dS,ti,ld,el⟩,_⟩:=(show d_ X.prog X.w H s.heap S (.ext<|WA X.w S as) from I.aI S _ hS);have Ĉ:es.size=L.length:=by
  have h1:=congrArg oq el;have h2:=pa.length_eq;simp only[ah,cw] at h1 h2;omega
 refine gX hc I (λA E R hh h=>SP.Zy hh cS eS dS ti ld (by omega) λvs h' d tk pv kp sz=>h vs h' d tk ?_ kp<|I.call (s:=s) (ch:=[]) (Un.kept kp) (I.aI.kept kp) I.bare λ_ z=>nomatch z) hk nd iD q;rw[el] at pv
 have:=pa.map Value.ref
 rw[dm] at this;exact pv.trans this
end
noncomputable def CL:D->Option (Nat×List Nat)
 |.tup [.int n,.str s]=>if 0<=n then aA (n.toNat,s) else aB
 |_=>aB
def EU:List D->Option (List<|Nat×List Nat)
 |[]=>aA []
 |d::l=>(CL d).bind λs=>(EU l).map λr=>s::r
def x_(k:Nat×List Nat):List (Nat×List Nat)->List (Nat×List Nat)
 |[]=>[k]
 |x::l=>if vX k<vX x then k::x::l else if k=x then x::l else x::x_ k l
def rN(q:List (Nat×List Nat)):List (Nat×List Nat):=q.foldr x_ []
noncomputable def eV(k:Nat×List Nat):D:=.tup [.int k.1,.str k.2]
def EZ(fl:ML):ML:=λr=>(fl r).bind λl=>(EU l).bind λq=>if (rN q).length<=63 then aA ((rN q).map eV) else aB
abbrev CC(l:List (Nat×List Nat)):Prop:=l.Pairwise λa b=>vX a<vX b
def UP{x y:Nat×List Nat}(e:vX x=vX y):x=y:=by
 unfold vX at e
 injection e with e1 e2
 exact va e1 e2
def UQ{x y:Nat×List Nat}(h:¬vX x<vX y)(n:x≠y):vX y<vX x:=uQ h λe=>n<|UP e
theorem mW(k:Nat×List Nat):∀l y,y∈x_ k l↔y=k\/y∈l
 |[],y=>by simp[x_]
 |x::l,y=>by
  unfold x_;by_cases h1:vX k<vX x
  .rw[if_pos h1];simp
  .rw[if_neg h1];by_cases h2:k=x
   .rw[if_pos h2,h2];simp
   .rw[if_neg h2,bb,mW k l y,bb];constructor
    .rintro (h|h|h)
     .exact .inr<|.inl h
     .exact .inl h
     .exact .inr<|.inr h
    .rintro (h|h|h)
     .exact .inr<|.inl h
     .exact .inl h
     .exact .inr<|.inr h
theorem JL(k:Nat×List Nat):∀l,CC l->CC (x_ k l)
 |[],_=>by simp[x_,CC]
 |x::l,h=>by
  obtain⟨h0,h1⟩:=qy.mp h;unfold x_;by_cases e:vX k<vX x
  .rw[if_pos e];refine qy.mpr ⟨λy hy=>?_,h⟩;rcases bb.mp hy with z|z
   .rw[z];exact e
   .exact su e<|h0 y z
  .rw[if_neg e];by_cases e2:k=x
   .rw[if_pos e2];exact h
   .rw[if_neg e2];refine qy.mpr ⟨λy hy=>?_,JL k l h1⟩;rcases(mW k l y).mp hy with z|z
    .rw[z];exact UQ e e2
    .exact h0 y z
theorem v8:∀q,CC (rN q)
 |[]=>List.Pairwise.nil
 |k::q=>JL k _<|v8 q
theorem qY:∀q y,y∈rN q↔y∈q
 |[],y=>my
 |k::q,y=>by
  show y∈x_ k (rN q)↔_;rw[mW,qY q,bb]
theorem Fa:∀(a b:List (Nat×List Nat)),CC a->CC b->(∀y,y∈a↔y∈b)->a=b
 |[],[],_,_,_=>rfl
 |[],y::b,_,_,h=>absurd ((h y).mpr<|by simp) (by simp)
 |x::a,[],_,_,h=>absurd ((h x).mp<|by simp) (by simp)
 |x::a,y::b,ha,hb,h=>by
  obtain⟨a0,a1⟩:=qy.mp ha;obtain⟨b0,b1⟩:=qy.mp hb;have Ie:∀z:Nat×List Nat,¬vX z<vX z:=λz=>uq _
  have e:x=y:=by
   rcases bb.mp ((h x).mp<|by simp) with z|z
   .exact z
   .rcases bb.mp ((h y).mpr<|by simp) with u|u
    .exact u.symm
    .exact absurd (su (b0 x z)<|a0 y u)<|Ie y
  subst e;rw[Fa a b a1 b1 λy=>?_];constructor
  .intro z;rcases bb.mp ((h y).mp<|by simp[z]) with u|u
   .exact absurd (a0 y z) (by rw[u];exact Ie x)
   .exact u
  .intro z;rcases bb.mp ((h y).mpr<|by simp[z]) with u|u
   .exact absurd (b0 y z) (by rw[u];exact Ie x)
   .exact u
def SJ{K:Fg}(e:CL d=aA k)(h:Is K O H d v):∃a,v=.ref a/\aM K H a [.int k.1,.str ⟨k.2.toArray⟩]:=by
 unfold CL at e;split at e
 .rename_i n s;split at e
  .rename_i hn;cases e;rw[zX] at h;obtain⟨a,xs,rfl,sq,il⟩:=h;unfold IsL at il;obtain⟨y,r,rfl,h1,il⟩:=il;unfold IsL at il;obtain⟨y2,r2,rfl,h2,il⟩:=il;unfold IsL at il;subst il;rw[zM] at h1;rw[yC] at h2;subst h1;subst h2;refine⟨a,rfl,?_⟩;rw[show((n.toNat:Nat):Int)=n from gw hn];exact sq
  .cases e
 .cases e
theorem Lj{K:Fg}:∀{l:List D} {xs:List V} {q:List (Nat×List Nat)},IsL K O H l xs->EU l=aA q->∃L:List NT,L.map (·.1)=q/\xs=(L.map (·.2)).map V.ref/\∀p∈L,aM K H p.2 [.int p.1.1,.str ⟨p.1.2.toArray⟩]
 |[],xs,q,il,e=>by
  cases e;unfold IsL at il;subst il;exact⟨[],rfl,rfl,λp hp=>by cases hp⟩
 |d::l,xs,q,il,e=>by
  obtain⟨k,e1,e2⟩:=aF e;obtain⟨r,e3,rfl⟩:=aT e2;unfold IsL at il;obtain⟨v,vs,rfl,h1,h2⟩:=il;obtain⟨L,l1,l2,l3⟩:=Lj h2 e3;obtain⟨a,rfl,sq⟩:=SJ e1 h1;refine⟨(k,a)::L,by rw[am,l1],by rw[l2];rfl,λp hp=>?_⟩;rcases bb.mp hp with z|z
  .rw[z];exact sq
  .exact l3 p z
section
variable{K':Type}[DecidableEq K']
theorem JV(L:List (List K'×Addr)):∀(N M:List (List K'×Addr)),(∀q∈M,q∈L)->(∀q∈N,q∈L)->∀q∈N.foldl SP.stepT M,q∈L
 |[],M,h1,_=>h1
 |y::N,M,h1,h2=>by
  rw[gp];refine JV L N _ (λq hq=>?_) λq hq=>h2 q (by simp[hq])
  unfold SP.stepT at hq;split at hq
  .exact h1 q hq
  .rcases aq.mp hq with z|z
   .exact h1 q z
   .rw[bf.mp z];exact h2 y (by simp)
theorem JU:∀(N M:List (List K'×Addr)),(M.map ip).Nodup->((N.foldl SP.stepT M).map ip).Nodup
 |[],M,h=>h
 |y::N,M,h=>by
  rw[gp];refine JU N _ ?_;unfold SP.stepT;split
  .exact h
  .rename_i n;rw[bn,lw];refine⟨h,by simp,λa ha b hb e=>n ?_⟩;rw[List.map_singleton,bf] at hb;rw[<-hb,<-e];exact ha
theorem YF:∀(N M:List (List K'×Addr)) (k:List K'),k∈(N.foldl SP.stepT M).map ip↔k∈M.map ip\/k∈N.map ip
 |[],M,k=>by simp
 |y::N,M,k=>by
  rw[gp,YF N _ k];have e:k∈(SP.stepT M y).map ip↔k∈M.map ip\/k=y.1:=by
   unfold SP.stepT;split
   .rename_i z;exact⟨.inl,λh=>h.elim id λh=>by rw[h];exact z⟩
   .rw[bn,aq,List.map_singleton,bf]
  rw[e,am,bb];constructor
  .rintro ((h|h)|h)
   .exact .inl h
   .exact .inr<|.inl h
   .exact .inr<|.inr h
  .rintro (h|h|h)
   .exact .inl<|.inl h
   .exact .inl<|.inr h
   .exact .inr h
end
def toK(p:NT):List Key×Addr:=([.inl (p.1.1:Int),.inr ⟨p.1.2.toArray⟩],p.2)
def T'{p q:NT}(e:(toK p).1=(toK q).1):p.1=q.1:=by
 unfold toK at e;simp only[List.cons.injEq,Sum.inl.injEq,Sum.inr.injEq,and_true] at e;refine va (by omega) ?_
 have:=e.2
 injection this with z
 simpa using congrArg yi z
theorem K9(L:List NT):∀N:List (List Key×Addr),(∀q∈N,q∈L.map toK)->∃M:List NT,N=M.map toK/\∀p∈M,p∈L
 |[],_=>⟨[],rfl,λp hp=>by cases hp⟩
 |q::N,h=>by
  obtain⟨M,e,k⟩:=K9 L N λq hq=>h q (by simp[hq])
  obtain⟨p,hp,rfl⟩:=cq.mp (h q<|by simp);refine⟨p::M,by rw[e];rfl,λr hr=>?_⟩;rcases bb.mp hr with z|z
  .rw[z];exact hp
  .exact k r z
def Tq(L:List NT):∃M:List NT,SP.once (L.map toK)=M.map toK/\(∀p∈M,p∈L)/\(M.map (·.1)).Nodup/\(∀k,k∈M.map (·.1)↔k∈L.map (·.1))/\M.length<=L.length:=by
 obtain⟨M,e,k⟩:=K9 L (SP.once<|L.map toK)<|JV _ _ [] (λq h=>by cases h) λq h=>h;have nd:=JU (L.map toK) [] (by simp);have has:=YF (L.map toK) [];have e':(L.map toK).foldl SP.stepT []=M.map toK:=e;rw[e'] at nd;have hm:∀(N:List NT) (p:Nat×List Nat),[Sum.inl (p.1:Int),Sum.inr ⟨p.2.toArray⟩]∈(N.map toK).map ip↔p∈N.map (·.1):=λN p=>by
  constructor
  .intro h;obtain⟨x,hx,e⟩:=cq.mp h;obtain⟨y,hy,rfl⟩:=cq.mp hx;exact cq.mpr ⟨y,hy,(T' (p:=(p,0)) (q:=y) e.symm).symm⟩
  .intro h;obtain⟨y,hy,rfl⟩:=cq.mp h;exact cq.mpr ⟨toK y,cq.mpr ⟨y,hy,rfl⟩,rfl⟩
 refine⟨M,e,k,?_,λp=>?_,?_⟩
 .rw[dm] at nd;rw[List.Nodup,du] at nd ⊢;refine nd.imp λh z=>h ?_
  show(toK _).1=(toK _).1;unfold toK;rw[z]
 .have h1:=has [Sum.inl (p.1:Int),Sum.inr ⟨p.2.toArray⟩];rw[e',hm,hm] at h1;simpa using h1
 .have:=SP.N0 (L.map toK) ([]:List (List Key×Addr))
  rw[e'] at this;simpa using this
section
variable{X:Cx}
theorem YX{K:Fg}:∀(M:List NT),(∀p∈M,aM K H p.2 [.int p.1.1,.str ⟨p.1.2.toArray⟩])->IsL K O H ((M.map (·.1)).map eV) ((M.map (·.2)).map V.ref)
 |[],_=>.nil
 |p::M,h=>by
  refine .cons ?_ (YX M λq hq=>h q<|by simp[hq]);show Is K O H (.tup [.int p.1.1,.str p.1.2])<|.ref p.2;rw[zX];exact⟨p.2,_,rfl,h p<|by simp,.cons (by rw[zM])<|.cons (by rw[yC]) .nil⟩
def SE(hc:X.calm=true)(hu:X.A.units+200<cLine)(hg:Gl X "sorted")(hm:X.mg "sorted" = aB)(X':Gl X "set")(Ir:X.mg "set" = aB)(ha:DB X a fl)(hs:bp [a] X.env=(false,eval a X.env)::bp [] X.env:=by rfl)(fH:bp [.Call (.Name "set" p2) [a] [] p3] X.env=(false,eval (.Call (.Name "set" p2) [a] [] p3) X.env)::bp [] X.env:=by rfl):DF X (.Call (.Name "sorted" p') [.Call (.Name "set" p2) [a] [] p3] [] pos) (EZ fl):=by
 refine PE.aH (jH (t9 hc) hg hm qo (yN (kT (QX hc hu) X' Ir PyProof.Rows.boot_set (yN ha x8 hs) (he:=hs)) x8 fH) (he:=fH)) λσ H Q hq=>?_
 obtain⟨O0,r,l',hR,e,q⟩:=hq;obtain⟨l,e1,e2⟩:=aF e;obtain⟨kd,e3,e4⟩:=aF e2;split at e4
 .rename_i hz;cases e4;refine⟨O0,r,l,hR,e1,λp xs H1 s1 sq il=>?_⟩;obtain⟨L,l1,l2,l3⟩:=Lj il e3;have ll:L.length=kd.length:=by rw[<-l1,ah]
  obtain⟨M,m1,m2,m3,m4,m5⟩:=Tq L;have ml:M.length=(rN kd).length:=by
   have nd:(rN kd).Nodup:=(v8 kd).imp λh e=>by rw[e] at h;exact uq _ h
   have:=(zy m3 nd).mpr λy=>by rw[m4,l1,qY]
   have:=this.length_eq
   rwa [ah] at this
  refine⟨p,L.map toK,rfl,by rw[l2] at sq;rw[show(L.map toK).map (·.2)=L.map (·.2) from by rw[dm];rfl];exact sq,λq hq=>?_,by rw[m1,ah,ml];omega,λS as pa n1=>?_⟩
  .obtain⟨x,hx,rfl⟩:=cq.mp hq;exact l3 x hx
  .have o2:aC H1 (upd H1 S<|.ext<|WA X.w S as):=zW n1;have MH:∀{H2:Hp},aC H1 H2->∀p∈M,aM X.K H2 p.2 [.int p.1.1,.str ⟨p.1.2.toArray⟩]:=λo p hp=>aM.keep (aC.kp o<|Ow O0 r σ) (hR.same s1).ol<|l3 p<|m2 p hp
   refine⟨S,as,M,rfl,zR,?_,MH o2,m3,by omega,λqs D pq pw n2=>?_⟩
   .rw[m1,dm] at pa;exact pa
   .have o3:aC H1 (upd (upd H1 S<|.ext<|WA X.w S as) D<|.lst<|(qs.map (·.2)).map V.ref):=o2.trans<|zW n2;have es:qs.map (·.1)=rN kd:=by
     refine Fa _ _ (du.mpr pw) (v8 kd) λy=>?_
     rw[(pq.map (·.1)).mem_iff,m4,l1,qY]
    refine q D _ _ (s1.trans o3) (s1.free<|o2.free n2) zR ?_;rw[<-es];exact YX qs λp hp=>MH o3 p<|pq.mem_iff.mp hp
 .cases e4
end
def Jy(i j:Int):Prop:=i.natAbs<2 ^ 1000/\j.natAbs<2 ^ 1000
noncomputable def BW:D->D->Option D
 |.int i,.int j=>if i.natAbs<2 ^ 1000/\j.natAbs<2 ^ 1000 then aA (.int<|i*j) else aB
 |_,_=>aB
def LD(h:k.natAbs<2 ^ 1000):adp k<=1001:=by
 unfold adp;split
 .exact bu _
 .rename_i h0;have hz:k.natAbs≠0:=λz=>h0 (by rw[Int.natAbs_eq_zero.mp z];rfl)
  have:=(Nat.log2_lt hz).mpr h
  omega
def JT:a9 X (binaryOp .Mult) (rI Jy λi j=>.int<|i*j):=Dz λi j _ _ _ _ _ hc q=>mul_int q (IntMulOk.of_le (LD hc.1) (LD hc.2)<|by decide)
def JY{K:Fg}:e_ K (rI Jy λi j=>.int<|i*j) BW:=CP λdx dy d e=>by
 cases dx<;>cases dy<;>first|(simp only[BW,reduceCtorEq] at e;done)|skip
 simp only[BW] at e;split at e
 .rename_i hc;cases e;exact⟨_,_,rfl,rfl,hc,λO H=>by rw[zM]⟩
 .cases e
def Ad(r:eD k A):A.units+1<cLine:=by have:=Hk r;omega
def uY(hg:Gl X "list")(hm:X.mg "list" = aB)(ha:DE X a f)(hs:bp [a] X.env=(false,eval a X.env)::bp [] X.env:=by rfl):DF X (.Call (.Name "list" p') [a] [] pos) (aR f):=by
 refine PE.aH (kT mK hg hm abw (yN ha x8 hs) (he:=hs)) λσ H Q hq=>?_
 obtain⟨O0,r,l,hR,e,q⟩:=hq;obtain⟨d,e1,e⟩:=aF e;refine⟨O0,r,d,hR,e1,λv H1 s1 i1=>?_⟩;have fin:∀xs,IsL X.K (Ow O0 r σ) H1 l xs->∀t,H1 t=aB->Q (.ref t) (upd H1 t<|.lst xs):=λxs il t ht=>q t xs _ (s1.trans<|zW ht) (s1.free ht) zR<|nF (hR.same s1).ol ht il
 cases d<;>first|(cases e;done)|skip
 .cases e;rw[zX] at i1;obtain⟨c,xs,rfl,sq,il⟩:=i1;exact⟨c,xs,rfl,.inr sq,fin xs il⟩
 .cases e;rw[zY] at i1;obtain⟨c,xs,rfl,sq,il⟩:=i1;exact⟨c,xs,rfl,.inl sq.sq,fin xs il⟩
def iJ(n:Nat)(d:D):Bool:=m_ d && (aW d).canLay0 && decide ((aW d).depth<=n)
def N1(n:Nat)(x y:D):Option D:=if iJ n x=true/\iJ n y=true then aA (.bl<|ke (aW x)<|aW y) else aB
def neN(n:Nat)(x y:D):Option D:=if iJ n x=true/\iJ n y=true then aA (.bl<|!PyData.eqv (aW x) (aW y)) else aB
def Jc(K:Fg)(n:Nat)(neg:Bool):R2:=λx y H Q=>∃O dx dy,Is K O H dx x/\Is K O H dy y/\iJ n dx=true/\iJ n dy=true/\Q (.bl (if neg then !PyData.eqv (aW dx) (aW dy) else ke (aW dx)<|aW dy)) H
def Le(hu:X.A.units+n<cLine):a9 X (jc .NotEq) (Jc X.K n true):=by
 intro pZ s σ H x y v u Q I rx ry hq;obtain⟨O,dx,dy,ix,iy,lx,ly,q⟩:=hq;unfold iJ at lx ly;simp only[fu,decide_eq_true_eq] at lx ly;obtain⟨as,qa⟩:=bA I dx x v lx.1.1 ix rx;obtain⟨bs,qb⟩:=bA I dy y u ly.1.1 iy ry;exact PySem.SeqAt.compareNe_reads qa qb lx.1.2 ly.1.2 (by have:=Nat.min_le_left (aW dx).depth (aW dy).depth;omega) ⟨.bl _,H,I,rfl,q⟩
def Ll{K:Fg}:e_ K (Jc K n true) (neN n):=by
 intro O H dx dy d vx vy Q ol ix iy e q;unfold neN at e;split at e
 .rename_i h;cases e;exact⟨O,dx,dy,ix,iy,h.1,h.2,q _ H (aC.refl H) (by rw[yG];rfl)⟩
 .cases e
def Y7(h:iJ n d=true):N1 n d d=aA (.bl true)/\neN n d d=aA (.bl false):=by
 unfold N1 neN;rw[if_pos ⟨h,h⟩,if_pos ⟨h,h⟩];unfold iJ at h;simp only[fu,decide_eq_true_eq] at h;rw[PySem.SeqAt.eqv_refl _ h.1.2];exact⟨rfl,rfl⟩
def KA(r:eD k A)(h:16<=k):A.units+400<cLine:=by have:=r.un;omega
def c7(n:Nat)(m:MF)(fs:ML):MD:=λr=>(fs r).bind λds=>if ds.length=n then (m<|ds.map .v).bind λp=>match p.1 with
 |.g ks l=>aA (ks,l)
 |_=>aB
 else aB
def LW(F:fP X.prog X.w X.K X.mg X.base h_ k f fd ps (fQ X.K n m))(hr:eD k X.A)(hg:Gl X x)(hm:X.mg x=aA (.ref f))(hk:jv X.K (.ref f)=true)(hb:Binds X.K fd ps [])(ha:DA X (e::es) fs)(fX:iH x:=by decide)(he:iF X e es:=by rfl)(hpl:sJ X es pos:=by rfl):CG X (.Call (.Name x p) (e::es) [] pos) (c7 n m fs):=by
 refine PE.aH (gG (E:=λ_ _ _=>False) (dvs:=[]) F hr hg hm hk hb .nil JR ha fX he hpl) λσ H Q h=>?_
 obtain⟨O0,r,ks,l,hR,e,q⟩:=h;obtain⟨ds,e1,e2⟩:=aF e;split at e2
 .rename_i hl;obtain⟨⟨rs,eR⟩,e3,e4⟩:=aF e2;refine⟨O0,r,ds,hR,e1,λvs H1 s1 il=>oA hR s1 il hl e3 ?_⟩;cases rs with
  |v d=>cases e4
  |f l'=>cases e4
  |g eC l'=>cases e4;exact λa kvs H2 pf na ea ek eW=>q a kvs H2 (s1.trans pf.same) (s1.free na) ea ek eW
 .cases e2
def Hx(i:Nat)(g:MS):MS:=λr=>match r[i]? with
 |some (.d false ks l)=>g<|r.set i<|.v<|.aJ ks l
 |_=>aB
def R.Za{K:Fg}(h:R K O0 H r σ)(er:r[i]?=aA (.d false ks l))(c1:σ[i]?=aA (aA<|.ref c))(c2:H c=aA (.dK kvs))(c3:kvs.map (·.1)=ks)(c4:IsL K (Ow O0 r σ) H l (kvs.map (·.2)))(fC:∀b,b≠c->H2 b=H b)(h2:∃o,H2 c=aA o/\Mb o)(rd:Fz H2 c kvs):R K O0 H2 (r.set i<|.v<|.aJ ks l) σ/\Kp H r σ H2 (r.set i<|.v<|.aJ ks l) σ/\IsL K (Ow O0 (r.set i<|.v<|.aJ ks l) σ) H2 l (kvs.map (·.2))/\¬Ow O0 (r.set i<|.v<|.aJ ks l) σ c:=by
 have hi:i<r.length:=(ba.mp er).1;have own:∀j m,((r.set i<|.v<|.aJ ks l)[j]?).bind Sl.own=aA m->i≠j/\(r[j]?).bind Sl.own=aA m:=λj m e=>by
  by_cases hj:i=j
  .subst hj;rw[zQ hi] at e;cases e
  .rw[zG hj] at e;exact⟨hj,e⟩
 have VY:∀j m,((r.set i<|.v<|.aJ ks l)[j]?).bind Sl.mt=aA m->(r[j]?).bind Sl.mt=aA m:=λj m e=>by
  by_cases hj:i=j
  .subst hj;rw[zQ hi] at e;cases e
  .rw[zG hj] at e;exact e
 have at_:∀b,kL (r.set i<|.v<|.aJ ks l) σ b->kL r σ b:=λb ⟨j,m,e,q⟩=>⟨j,m,(own j m e).2,q⟩
 have nc:¬Ow O0 (r.set i<|.v<|.aJ ks l) σ c:=λz=>z.elim (λz=>h.loc i l c (.inr<|.inr ⟨ks,er⟩) c1 z) λ⟨j,m,e,q⟩=>by
  obtain⟨hj,e'⟩:=own j m e;exact hj<|h.apart i j c l m (by rw[er];rfl) e' c1 q
 have ow:∀b,Ow O0 (r.set i<|.v<|.aJ ks l) σ b->H b≠aB->Ow O0 r σ b:=λb z _=>z.imp id<|at_ b
 have mc:g_ r σ c:=⟨i,l,by rw[er];rfl,c1⟩;have kp:d7 (Ow O0 r σ) H H2:=λb o e n=>(fC b λz=>n (by rw[z];exact .inr mc.own)).trans e
 have i4:=IsL.mono kp h.ol ow _ _ c4;refine⟨⟨by simp[h.len],λj d ej=>?_,λj m ej=>?_,λj k b m n e4 e5=>h.apart j k b m n (own j m e4).2 (own k n e5).2,λb z=>?_,λj m b ej q=>?_,λj m b ej q=>?_,λj f eC m ej=>?_,λj eC ej=>?_⟩,⟨λb o e n=>(fC b λz=>n (by rw[z];exact mc)).trans e,λb e=>?_,λb o e mb=>?_,λb z=>.inl<|at_ b z,λb ⟨j,m,e,q⟩=>.inl ⟨j,m,VY j m e,q⟩,λj m ej=>?_,λj m ej=>?_⟩,i4,nc⟩
 .by_cases hj:i=j
  .subst hj;rw[zQ hi] at ej;cases ej;refine⟨.ref c,c1,?_⟩;rw[jP];exact⟨c,kvs,rfl,nc,rd,c3,i4⟩
  .rw[zG hj] at ej;obtain⟨v,q1,q2⟩:=h.val j d ej;exact⟨v,q1,Is.mono kp h.ol ow _ _ q2⟩
 .have hj:i≠j:=λz=>by subst z;rw[zQ hi] at ej;cases ej
  rw[zG hj] at ej;obtain⟨b,ys,q1,q2,q3⟩:=h.own j m ej;exact⟨b,ys,q1,(fC b λz=>by rw[z,c2] at q2;cases q2).trans q2,IsL.mono kp h.ol ow _ _ q3⟩
 .obtain⟨o,e,mb⟩:=h.o0 b z;exact⟨o,(fC b λy=>h.loc i l c (.inr<|.inr ⟨ks,er⟩) c1 (by rw[<-y];exact z)).trans e,mb⟩
 .have hj:i≠j:=λz=>by subst z;rw[zQ hi] at ej;rcases ej with ej|ej|⟨_,ej⟩<;>cases ej
  rw[zG hj] at ej;exact h.loc j m b ej q
 .have hj:i≠j:=λz=>by subst z;rw[zQ hi] at ej;cases ej
  rw[zG hj] at ej;exact h.par j m b ej q
 .have hj:i≠j:=λz=>by subst z;rw[zQ hi] at ej;cases ej
  rw[zG hj] at ej;obtain⟨b,sQ,q1,q2,q4,q3⟩:=h.aJ j f eC m ej;have hb:b≠c:=λz=>hj (h.apart i j c l m (by rw[er];rfl) (by rw[ej];rfl) c1<|by rw[q1,z])
  exact⟨b,sQ,q1,(fC b hb).trans q2,q4,IsL.mono kp h.ol ow _ _ q3⟩
 .have hj:i≠j:=λz=>by subst z;rw[zQ hi] at ej;cases ej
  rw[zG hj] at ej;obtain⟨b,q1,q2⟩:=h.iK j eC ej;exact⟨b,q1,(fC b λz=>by rw[z,c2] at q2;cases q2).trans q2⟩
 .by_cases hb:b=c
  .subst hb;obtain⟨o,e',_⟩:=h2;rw[e] at e';cases e'
  .rw[<-fC b hb];exact e
 .by_cases hb:b=c
  .subst hb;exact h2
  .exact⟨o,(fC b hb).trans e,mb⟩
 .have hj:i≠j:=λz=>by subst z;rw[er] at ej;cases ej
  exact⟨by rw[zG hj];exact ej,rfl⟩
 .have hj:i≠j:=λz=>by subst z;rw[er] at ej;cases ej
  exact⟨by rw[zG hj];exact ej,rfl⟩
def O4(i:Nat){st:Stmt}(h:DS X st g):DS X st (Hx i g):=by
 refine PS.aH (PJ h) λDn σ H hq=>?_
 obtain⟨O0,r,fl,hR,e,q⟩:=hq;unfold Hx at e;split at e
 .rename_i ks l er;obtain⟨c,kvs,c1,c2,c3,c4⟩:=hR.aJ i false ks l er;refine⟨c,kvs,c2,λob=>?_⟩;obtain⟨R1,k1,_⟩:=hR.Za (H2:=upd H c<|.eG ob<|.dK kvs) er c1 c2 c3 c4 (λb hb=>zT hb) ⟨_,zR,trivial⟩ ⟨ob,zR⟩;exact⟨O0,_,fl,R1,e,q.before R1 k1⟩
 .cases e
theorem KV.at(r:KV kvs vs):∀{i:Nat} {p:Key×V},kvs[i]?=aA p->∃v,vs[i]?=aA (p.1,v)/\RelV p.2 v:=by
 induction r with
 |nil=>intro i p e;simp at e
 |@cons p q ps qs h t ih=>
  intro i p' e;cases i with
  |zero=>cases e;exact⟨q.2,by obtain⟨h1,_⟩:=h;show aA q=_;rw[h1],h.2⟩
  |succ i=>exact ih (i:=i) (by simpa using e)
def KZ(I:Inv X pZ σ H s)(e:H a=aA (.eG ob<|.dK kvs))(he:ob.data=.dict es ep):∃vs,KV kvs vs/\s.heap.DictAt (yM X.prog X.w) a vs ep:=by
 obtain⟨g,z,hd,vs,rel,dd⟩:=(show d_ X.prog X.w H s.heap a (.eG ob<|.dK kvs) from I.aI a _ e);obtain⟨AX,da⟩:=dd.dictAt;obtain⟨o,fO,ho,hc,AV,r⟩:=id da;rw[g] at ho;cases ho;rw[he] at AV;cases AV;exact⟨vs,rel,da⟩
def YL(f:En->Option (D×En))(fl:ML):BO:=λr=>(f r).bind λq=>(fl q.2).map λl=>(q.1::l,q.2)
def LS(h:DX X a f)(hs:DA X es fl)(hq:iF X a es:=by rfl):Es X (a::es) (YL f fl):=by
 refine PA.aH (yN h hs hq) λσ H Q hq=>?_
 obtain⟨O0,r,l,r',hR,e,q⟩:=hq;obtain⟨⟨d,r1⟩,e1,e⟩:=aF e;obtain⟨l',e2,e3⟩:=aT e;cases e3;refine⟨O0,r,d,r1,hR,e1,λv H1 R1 k1 i1=>⟨O0,r1,l',R1,e2,λvs H2 s2 i2=>?_⟩⟩;exact q (v::vs) H2 (R1.same s2) (k1.trans<|Kp.of_same r1 σ s2)<|.cons (i1.same s2 R1.ol) i2
noncomputable def c8(i j k:Int):Int:=if j<i then (if k<j then k else j) else (if k<i then k else i)
def EW(fs:ML):ME:=λr=>(fs r).bind λl=>match l with
 |[.int i,.int j,.int k]=>aA<|.int<|c8 i j k
 |_=>aB
def QY(hc:X.calm=true):fJ X (.builtin "min") (λxs H Q=>∃i j k,xs=[.int i,.int j,.int k]/\Q (.int<|c8 i j k) H):=by
 intro pZ s σ H xs us Q I r h;obtain⟨i,j,k,rfl,q⟩:=h;cases r with
 |cons r1 r=>
  cases r with
  |cons r2 r=>
   obtain⟨u3,rfl,r3⟩:=nY r;obtain⟨t1,rfl⟩:=r1;obtain⟨t2,rfl⟩:=r2;obtain⟨t3,rfl⟩:=r3;refine min_three_ints (I.ok.hd hc) λh' tk kp=>⟨_,H,I.kept kp,?_,q⟩
   unfold c8;by_cases h1:j<i
   .rw[if_pos h1,if_pos h1];by_cases h2:k<j
    .rw[if_pos h2,if_pos h2];exact⟨_,rfl⟩
    .rw[if_neg h2,if_neg h2];exact⟨_,rfl⟩
   .rw[if_neg h1,if_neg h1];by_cases h2:k<i
    .rw[if_pos h2,if_pos h2];exact⟨_,rfl⟩
    .rw[if_neg h2,if_neg h2];exact⟨_,rfl⟩
def Sy(hc:X.calm=true)(hg:Gl X "min")(hm:X.mg "min" = aB)(ha:DA X (a::es) fs)(hs:iF X a es:=by rfl)(hpl:sJ X es pos:=by rfl):DE X (.Call (.Name "min" p') (a::es) [] pos) (EW fs):=by
 refine PE.aH (jH (QY hc) hg hm PyProof.Rows.boot_min ha (he:=hs) (hpl:=hpl)) λσ H Q hq=>?_
 obtain⟨O0,r,d,hR,e,q⟩:=hq;obtain⟨l,e1,e2⟩:=aF e;refine⟨O0,r,l,hR,e1,λvs H1 s1 il=>?_⟩;split at e2
 .cases e2;unfold IsL at il;obtain⟨v,vr,rfl,i1,il⟩:=il;obtain⟨u,w,rfl,i2,i3⟩:=il.inv2;rw[zM] at i1 i2 i3;exact⟨_,_,_,by rw[i1,i2,i3],q _ H1 s1<|by rw[zM]⟩
 .cases e2
section
variable{X:Cx}{C:Addr}{z:Nat}{e:Expr}{es:List Expr}{m:ĉ}{ms:Ċ}{x:Str}{pos apos ó p:Pos}
variable{k n:Nat}{f:Addr}{fd:FuncData}{ps:List Str}{mm:È->List D->Option (D×È)}{mn:Str}
end
namespace RV
end RV
namespace DU
def N6:entryFor table "dict.update.loop" = aA Builtin.«dict.update.loop»:=entryFor_of_tree (by kernel_rfl)
def FC:plainId "dict.update.loop" = true:=by decide +kernel
def V3:typeLookup (.type "list") "keys" = pure aB:=by rw[sw,ni];kernel_rfl
end DU
def W9(hx:s.heap.get? a=aA o)(hc:o.cls=.type "list")(F0:o.data=.seq xs k)(hd:o.dict=aB)(hA:A.handled=aB)(h:∀h' tk,(∀b ob,s.heap.get? b=aA ob->h'.get? b=aA ob)->Q aB { s with heap:=h',toks:=tk }):wpAny (model prog w) A (getAttr? (.ref a) "keys") Q E s:=by
 obtain⟨c,aJ,dat,sl⟩:=o;simp only at hc F0 hd;subst hc F0 hd;obtain⟨hp,g,d,tk,os⟩:=s;have hT:∀AB,(⟨hp,g,d,AB,os⟩:Shared).TypeIs (.ref a) "list" := λ_=>⟨_,hx,rfl⟩
 have f1:=sub_AttributeError;have f3:=uy.lookup;have f4:=uy.bind<|.ref a;have f5:=am_list_getattr_none;unfold getAttr? getAttrBy? getAttrBy
 repeat (any_goals (first|assumption|exact hT _|((with_reducible show wpAny _ _ (call (Value.builtin "list.__getattribute__") _ _) _ _ _);refine vh uy (hT _) am_entry_list_getattribute (F.args_list_getattribute_2 _ _) (meets_getattribute_miss_list a xs k sl _ _ DU.V3 (by decide +kernel)<|by size_fits) ⟨hx,hA,λh' AB e lK=>?_⟩)|wp_step))
 obtain⟨t',u',he⟩:=lK.there;show wpAny _ _ (getattributeRaised _ _ _ _ _ _ _) _ _ _;unfold getattributeRaised
 repeat (any_goals (first|assumption|wp_step))
 exact h _ _ lK.keeps
def Eu(h:Heap)(v:Value)(k:Key)(u:Value):Prop:=∃t key,v=.ref t/\IsTup h t #[key,u]/\mS k key=true
def Ss(hh:A.handled=aB)(Iu:l≠d)(Xr:l≠it)(Ix:it≠d):∀(n i:Nat) (s:Shared) (ps:List (Key×Value)) (kvs:List (Key×Value)) (R:Result->Shared->Prop),i+n=its.size->ps.length=n->kvs.length+n<=ar->s.heap.IsListIter it l i->PlainL s.heap l its ->
  (∀j (p:Key×Value),ps[j]?=aA p->∃v,its[i+j]?=aA v/\(∃t,v=.ref t/\t≠d/\t≠it)/\Eu s.heap v p.1 p.2)->s.heap.DictOf (yM prog w) d kvs ->
  (∀h' tk,h'.DictOf (yM prog w) d (ps.foldl (λz p=>stored z p.1 p.2) kvs)->(∀b o,b≠it->b≠d->s.heap.get? b=aA o->h'.get? b=aA o)->R (.ok<|.ret .none) { s with heap:=h',toks:=tk }) ->
  codeAny (model prog w) A (.builtin "dict.update.loop" ⟨[.ref d,.ref it,rawInt (i:Int),.none],[]⟩) R s:=by
 intro n
 induction n with
 |zero=>
  intro i s ps kvs R hi hl hz hit pl hp hd hR;obtain rfl:ps=[]:=rh.mp hl;refine lh DU.N6 ?_;rw[jx DU.FC _];show wpAny _ A.in1 (pyNext (.ref it) >>= _) _ _ s;refine aa<|wk (show A.in1.handled=aB from hh) hit pl.isList (wa<|by omega) λh' eb=>?_;show wpAny _ A.in1 (Builtin.Dict.addKeywords d [] >>= λ_=>ret Value.none) _ _ _;refine aa<|af<|af<|hR h' s.toks (hd.extBut eb Ix.symm) λb o hb _ e=>eb b o hb e
 |succ n ih=>
  intro i s ps kvs R hi hl hz hit pl hp hd hR;obtain⟨p,ps,rfl⟩:∃p q,ps=p::q:=by cases ps with
   |nil=>cases hl
   |cons p q=>exact⟨p,q,rfl⟩
  obtain⟨v,ev,⟨t0,rfl,ò,VN⟩,t,key,e0,tu,kk⟩:=hp 0 p rfl;cases e0;refine lh DU.N6 ?_;rw[jx DU.FC _];show wpAny _ A.in1 (pyNext (.ref it) >>= _) _ _ s;refine aa<|vf hit pl.isList ev λh1 Xx MK=>?_;have k1:∀b o,b≠it->s.heap.get? b=aA o->h1.get? b=aA o:=λb o hb e=>(MK.2 b hb).trans e
  have Mx:IsTup h1 t0 #[key,p.2]:=by obtain⟨o,e,r⟩:=tu;exact⟨o,k1 _ _ VN e,r⟩
  have BE:h1.DictOf (yM prog w) d kvs:=hd.sameBut MK Ix.symm;obtain⟨ot,Xh,Ą,nt,AV⟩:=id Mx;refine aa<|gc ?_;refine aa<|wpAny_tryCatch ?_;unfold Builtin.Dict.pairItems;refine aa<|rl (s:={ s with heap:=h1 }) Mx.typeIs ?_;rw[if_pos<|by decide];refine aa<|iw (s:={ s with heap:=h1 }) Xh AV<|af ?_;dsimp only[Option.getD_some];refine gc ?_;refine wpAny_dictSet_pairs (knd:=yM prog w) (s:={ s with heap:=h1 }) (k:=p.1) kk BE (λh2 hd2 Fj=>?_) (by omega);have k2:∀b o,b≠it->b≠d->s.heap.get? b=aA o->h2.get? b=aA o:=λb o hb fM e=>(Fj.2 b fM).trans<|k1 b o hb e
  have e1:((i:Int)+1)=((i+1:Nat):Int):=by omega
  rw[e1];refine af ⟨sr DU.FC _,ih (i+1) _ ps (stored kvs p.1 p.2) R (by omega) (vm hl) ?_ (Xx.at λo e=>(Fj.2 it Ix).trans e) (by obtain⟨o,n,e,r⟩:=pl;exact⟨o,n,k2 l o Xr Iu e,r⟩) (λj q hq=>?_) hd2 λh' tk Ao kp=>?_⟩
  .have:(stored kvs p.1 p.2).length<=kvs.length+1:=by unfold stored;split<;>simp
   omega
  .obtain⟨v,Zg,⟨t1,rfl,n1,n2⟩,t2,Wc,e2,Ve,Wa⟩:=hp (j+1) q hq;cases e2;refine⟨_,by rw[<-Zg];congr 1;omega,⟨t1,rfl,n1,n2⟩,t1,Wc,rfl,?_,Wa⟩;obtain⟨o,e,r⟩:=Ve;exact⟨o,k2 t1 o n2 n1 e,r⟩
  .exact hR h' tk Ao λb o hb fM e=>kp b o hb fM<|k2 b o hb fM e
def Sr{l:Addr}{its:Array Value}{ps:List (Key×Value)}{Q:Value->Shared->Prop}(hh:A.handled=aB)(pl:PlainL s.heap l its)(hl:ps.length=its.size)(hz:its.size<=ar)(hp:∀(j:Nat) (p:Key×Value),ps[j]?=aA p->∃v,its[j]?=aA v/\Eu s.heap v p.1 p.2)(h:∀h' tk,h'.DictOf (yM prog w) s.heap.objs.size (ps.foldl (λz p=>stored z p.1 p.2) [])->(∀b o,s.heap.get? b=aA o->h'.get? b=aA o)->Q (.ref s.heap.objs.size) { s with heap:=h',toks:=tk }):wpAny (model prog w) A (call (.type "dict") [.ref l]) Q E s:=by
 refine callType_codes (Q₁:=λobj s₁=>obj=.ref s.heap.objs.size/\s₁={ s with heap:=s.heap.push { cls:=.type "dict",data:=.dict #[] } }) F.kt_called_dict (F.kt_typeCall_dict_1 _) F.entry_dict_init (kt_code_dict_new _ ⟨rfl,rfl⟩) ?_;rintro obj s₁ ⟨rfl,rfl⟩;have Ip:(s.heap.push { cls:=.type "dict",data:=.dict #[] }).DictOf (yM prog w) s.heap.objs.size []:=Heap.DictOf.new s.heap;obtain⟨ol,nl,Cs,sB,Cu,r_⟩:=id pl;have eF:l<s.heap.objs.size:=aw Cs;have k1:∀b o,s.heap.get? b=aA o->(s.heap.push { cls:=.type "dict",data:=.dict #[] }).get? b=aA o:=λb o e=>ac _ e
 refine⟨Ip.typeIs,F.args_dict_init_2 _ _,?_⟩;unfold Builtin.«dict.__init__»;refine aa ?_;unfold Builtin.Dict.selfAndRest;refine aa<|acf Ip.typeIs ?_;show wpAny _ _ (pure (s.heap.objs.size,[Value.ref l])) _ _ _;refine af ?_;show wpAny _ _ (abj "dict.__init__" s.heap.objs.size (.ref l) [] .none) _ _ _;unfold abj;refine aa<|rl (T:="list") ⟨_,k1 _ _ Cs,sB⟩ ?_;rw[if_pos<|by decide];refine aa<|W9 (k1 _ _ Cs) sB r_ Cu (show A.in1.handled=aB from hh) λh2 Hm k2=>?_;rw[if_pos<|by rfl];refine aa<|ue ?_;have iT:PlainL h2 l its:=⟨ol,nl,k2 _ _<|k1 _ _ Cs,sB,Cu,r_⟩;refine aa<|ny (s:={ s with heap:=h2,toks:=Hm }) iT.isList ?_;have hd2:h2.DictOf (yM prog w) s.heap.objs.size []:=by
  obtain⟨o,es,ep,ho,r⟩:=Ip;exact⟨o,es,ep,k2 _ _ ho,r⟩
 have An:s.heap.objs.size<h2.objs.size:=by
  obtain⟨o,es,ep,ho,r⟩:=hd2;exact aw ho
 have k3:∀b o,h2.get? b=aA o->(h2.push { cls:=.type "list_iterator",data:=.fields #[.ref l,.int 0 0] }).get? b=aA o:=λb o e=>ac _ e
 have ka:∀b o,s.heap.get? b=aA o->(h2.push { cls:=.type "list_iterator",data:=.fields #[.ref l,.int 0 0] }).get? b=aA o:=λb o e=>k3 _ _<|k2 _ _<|k1 _ _ e
 refine af ⟨sr DU.FC _,Ss (A:=A.in1) (l:=l) (it:=h2.objs.size) (d:=s.heap.objs.size) (its:=its) hh (bh eF) (bh<|ro eF An) (lr An) its.size 0 _ ps [] _ (by omega) hl (by simpa using hz) ⟨_,ax _ rfl,rfl,rfl⟩ ⟨ol,nl,k3 _ _<|k2 _ _<|k1 _ _ Cs,sB,Cu,r_⟩ (λj p e=>?_) ?_ λh' tk Ao kp=>?_⟩
 .obtain⟨v,ev,t,key,rfl,⟨o,e1,r⟩,kk⟩:=hp j p e
  have:=aw e1
  exact⟨_,by rw[ub];exact ev,⟨t,rfl,bh this,bh<|ro this An⟩,t,key,rfl,⟨o,ka _ _ e1,r⟩,kk⟩
 .obtain⟨o,es,ep,ho,r⟩:=hd2;exact⟨o,es,ep,k3 _ _ ho,r⟩
 .refine⟨rfl,h h' tk Ao λb o e=>kp b o ?_ ?_<|ka _ _ e⟩
  .exact bh<|ro (aw e) An
  .exact bh<|aw e
def Kh:D->Option (Key×D)
 |.tup [k,d]=>(CK k).map λk=>(k,d)
 |_=>aB
def Hb:List D->Option (List<|Key×D)
 |[]=>aA []
 |d::l=>(Kh d).bind λp=>(Hb l).map (p::·)
def GK(ps:List (Key×D)):List Key×List D:=ps.foldl (λz p=>mX z.1 z.2 p.1 p.2) ([],[])
def WX(fl:ML):MD:=λr=>(fl r).bind λl=>(Hb l).map GK
def u4(hc:X.calm=true):fJ X (.type "dict") (λxs H Q=>∃(l:Addr) (ys:List V) (ps:List (Key×V)),xs=[.ref l]/\aN X.K H l ys/\ps.length=ys.length/\(∀(j:Nat) (p:Key×V),ps[j]?=aA p->∃t,ys[j]?=aA (.ref t)/\aM X.K H t [kV p.1,p.2])/\∀p,H p=aB->Q (.ref p) (upd H p<|.dK<|ps.foldl (λz p=>uF z p.1 p.2) [])):=by
 intro pZ s σ H xs us Q I r h;obtain⟨l,ys,ps,rfl,hl,hn,hp,q⟩:=h;obtain⟨u,rfl,rx⟩:=nY r;cases rx;obtain⟨its,rv,pl,hz⟩:=I.list hl;have hlen:=rv.length;have ex:∀(j:Nat) (p:Key×V),ps[j]?=aA p->∃(v:Value) (u:Value),its[j]?=aA v/\RelV p.2 u/\Eu s.heap v p.1 u:=λj p e=>by
  obtain⟨t,e1,st⟩:=hp j p e;obtain⟨v,ev,Vx⟩:=rv.get e1;cases Vx;obtain⟨a8,Ai,tu,_⟩:=I.tuple st;obtain⟨key,u,rfl,rk,ru⟩:=Vals.two Ai;exact⟨_,u,ev,ru,t,key,rfl,tu,C0 (P:=X.prog) (w:=X.w) rk⟩
 let us:List (Key×Value):=(fg ps.length).pmap (λj hj=>((ps[j]'hj).1,Classical.choose<|kz<|ex j ps[j]<|au hj)) λj hj=>jo.mp hj
 have ul:us.length=ps.length:=by simp[us]
 have uj:∀(j:Nat) (hj:j<ps.length),us[j]?=aA ((ps[j]).1,Classical.choose<|kz<|ex j ps[j]<|au hj):=λj hj=>by
  rw[au (by rw[ul];exact hj)];simp[us]
 have Eb:∀(j:Nat) (p:Key×Value),us[j]?=aA p->∃v,its.toArray[j]?=aA v/\Eu s.heap v p.1 p.2:=λj p e=>by
  have hj:j<ps.length:=by
   obtain⟨z,_⟩:=ba.mp e;rw[ul] at z;exact z
  rw[uj j hj] at e;cases e;obtain⟨e1,e2,e3⟩:=kz<|kz<|ex j ps[j]<|au hj;exact⟨_,by simpa using e1,e3⟩
 have kv:∀(z:List (Key×V)) (z':List (Key×Value)),KV z z'->KV (ps.foldl (λz p=>uF z p.1 p.2) z) (us.foldl (λz p=>stored z p.1 p.2) z'):=by
  have gen:∀(as:List (Key×V)) (bs:List (Key×Value)),as.length=bs.length->(∀(j:Nat) (x:Key×V) (y:Key×Value),as[j]?=aA x->bs[j]?=aA y->x.1=y.1/\RelV x.2 y.2)->∀(z:List (Key×V)) (z':List (Key×Value)),KV z z'->KV (as.foldl (λz p=>uF z p.1 p.2) z) (bs.foldl (λz p=>stored z p.1 p.2) z'):=by
   intro as
   induction as with
   |nil=>intro bs hl _ z z' hz;cases bs with
    |nil=>exact hz
    |cons _ _=>cases hl
   |cons x as ih=>intro bs hl hr z z' hz;cases bs with
    |nil=>cases hl
    |cons y bs=>
     obtain⟨e1,e2⟩:=hr 0 x y rfl rfl;rw[gp,gp];refine ih bs (vm hl) (λj x y e e'=>hr (j+1) x y e e') _ _ ?_;rw[e1];exact hz.put y.1 e2
  refine gen ps us ul.symm λj x y e e'=>?_
  have hj:j<ps.length:=by
   obtain⟨z,_⟩:=ba.mp e;exact z
  rw[uj j hj] at e';rw[au hj] at e;cases e;cases e';obtain⟨_,e2,_⟩:=kz<|kz<|ex j ps[j]<|au hj;exact⟨rfl,e2⟩
 have lz:(ps.foldl (λz p=>uF z p.1 p.2) []).length<=ar:=by
  have gen:∀(as:List (Key×V)) (z:List (Key×V)),(as.foldl (λz p=>uF z p.1 p.2) z).length<=z.length+as.length:=by
   intro as
   induction as with
   |nil=>intro z;simp
   |cons x as ih=>
    intro z;rw[gp];have h1:=ih<|uF z x.1 x.2;have h2:(uF z x.1 x.2).length<=z.length+1:=by unfold uF;split<;>simp
    simp only[ak];omega
  have:=gen ps []
  simp only[bq] at this;omega
 refine Sr (I.ok.hd hc) pl (by rw[ul,ao];omega) (by rw[ao];omega) Eb λh' tk dd kp=>?_
 exact⟨.ref s.heap.objs.size,_,I.laid (a:=s.heap.objs.size) (o:=.dK<|ps.foldl (λz p=>uF z p.1 p.2) []) (t':=tk) kp (al _)<|G0 lz (beq_eq_false_iff_ne.mpr<|ua<|bh I.big) (kv [] [] .nil) dd,rfl,q _<|I.aI.fresh<|al _⟩
theorem oO{K:Fg}:∀{l:List D} {qs:List (Key×D)} {ys:List V},Hb l=aA qs->IsL K O H l ys->∃ps:List (Key×V),ps.length=ys.length/\(∀(j:Nat) (p:Key×V),ps[j]?=aA p->∃t,ys[j]?=aA (.ref t)/\aM K H t [kV p.1,p.2]) /\
  ∀(kvs:List (Key×V)) (ks:List Key) (ds:List D),kvs.map (·.1)=ks->IsL K O H ds (kvs.map (·.2))->(ps.foldl (λz p=>uF z p.1 p.2) kvs).map (·.1)=(qs.foldl (λz p=>mX z.1 z.2 p.1 p.2) (ks,ds)).1/\IsL K O H (qs.foldl (λz p=>mX z.1 z.2 p.1 p.2) (ks,ds)).2 ((ps.foldl (λz p=>uF z p.1 p.2) kvs).map (·.2))
 |[],qs,ys,e,h=>by
  cases e;unfold IsL at h;subst h;exact⟨[],rfl,λj p e=>by simp at e,λkvs ks ds e1 e2=>⟨e1,e2⟩⟩
 |d::l,qs,ys,e,h=>by
  obtain⟨⟨k,d'⟩,e1,e2⟩:=aF e;obtain⟨é,e3,rfl⟩:=aT e2;unfold IsL at h;obtain⟨y,Fc,rfl,iy,il⟩:=h;obtain⟨ps,hl,hp,hf⟩:=oO e3 il;unfold Kh at e1;split at e1
  .rename_i kd dd;obtain⟨k',e4,e5⟩:=aT e1;cases e5;rw[zX] at iy;obtain⟨t,xs,rfl,st,i2⟩:=iy;unfold IsL at i2;obtain⟨v1,C8,rfl,j1,i3⟩:=i2;unfold IsL at i3;obtain⟨v2,Bk,rfl,j2,i4⟩:=i3;unfold IsL at i4;subst i4;have ek:v1=kV k:=by
    cases kd<;>first|(cases e4;done)|skip
    .cases e4;rw[zM] at j1;exact j1
    .cases e4;rw[yC] at j1;exact j1
   subst ek;refine⟨(k,v2)::ps,by simp[hl],λj p e=>?_,λkvs ks ds g1 g2=>?_⟩
   .cases j with
    |zero=>cases e;exact⟨t,rfl,st⟩
    |succ j=>exact hp j p e
   .rw[gp,gp];obtain⟨q1,q2⟩:=Z7 (k:=k) g1 g2 j2;exact hf _ _ _ q1 q2
  .cases e1
def Ur(hc:X.calm=true)(hg:Gl X "dict")(hm:X.mg "dict" = aB)(ha:DB X a fl)(hs:bp [a] X.env=(false,eval a X.env)::bp [] X.env:=by rfl):CG X (.Call (.Name "dict" p') [a] [] pos) (WX fl):=by
 refine PE.aH (kT (u4 hc) hg hm PyProof.Rows.boot_dict (yN ha x8 hs) (he:=hs)) λσ H Q hq=>?_
 obtain⟨O0,r,ks,l,hR,e,q⟩:=hq;obtain⟨ds,e1,e2⟩:=aF e;obtain⟨qs,e3,e4⟩:=aT e2;refine⟨O0,r,ds,hR,e1,λc xs H1 s1 sq il=>?_⟩;obtain⟨ps,hl,hp,hf⟩:=oO e3 il;refine⟨c,xs,ps,rfl,sq,hl,hp,λt ht=>?_⟩;obtain⟨q1,q2⟩:=hf [] [] [] rfl .nil;unfold GK at e4;rw[e4] at q1 q2;refine q t _ _ (s1.trans<|zW ht) (s1.free ht) zR q1 ?_;exact IsL.mono (aC.kp (zW ht) _) (hR.same s1).ol (λb z nn=>z.elim id λz=>by subst z;exact absurd ht nn) _ _ q2
def BU(ks:List Key)(l:List D):List Key->List D->List Key×List D
 |k::Bx,d::l2=>BU (mX ks l k d).1 (mX ks l k d).2 Bx l2
 |_,_=>(ks,l)
def CN(i:Nat)(fd:MD):En->Option (D×En):=λr=>(fd r).bind λq=>match r[i]? with
 |some (.d f ks l)=>if ks.length+q.1.length<=ar then aA (.aE,r.set i<|.d f (BU ks l q.1 q.2).1 (BU ks l q.1 q.2).2) else aB
 |_=>aB
section
variable{X:Cx}
theorem J7{K:Fg}{O:Addr->Prop}:∀(more kvs:List (Key×V)) (ks Bx:List Key) (l l2:List D),kvs.map (·.1)=ks->IsL K O H l (kvs.map (·.2))->more.map (·.1)=Bx->IsL K O H l2 (more.map (·.2)) ->
  (mD kvs more).map (·.1)=(BU ks l Bx l2).1/\IsL K O H (BU ks l Bx l2).2 ((mD kvs more).map (·.2))
 |[],kvs,ks,Bx,l,l2,h1,h2,h3,h4=>by
  cases h3;unfold BU;exact⟨h1,h2⟩
 |p::more,kvs,ks,Bx,l,l2,h1,h2,h3,h4=>by
  subst h3;cases l2 with
  |nil=>unfold IsL at h4;cases h4
  |cons d l2=>
   unfold IsL at h4;obtain⟨v,r,e,i1,i2⟩:=h4;rw[am] at e
   injection e with e1 e2
   subst e1;subst e2;obtain⟨q1,q2⟩:=Z7 (k:=p.1) h1 h2 i1
   have:=J7 more (uF kvs p.1 p.2) (mX ks l p.1 d).1 (more.map (·.1)) (mX ks l p.1 d).2 l2 q1 q2 rfl i2
   exact this
def RF:Eo X "dict.update" (λx vs H Q=>∃a b kvs more,x=.ref a/\vs=[.ref b]/\a≠b/\H a=aA (.dK kvs)/\H b=aA (.dK more)/\kvs.length+more.length<=ar/\Q .aE (upd H a<|.dK<|mD kvs more)):=by
 intro pZ s σ H x vs v us Q I rx rv h;obtain⟨a,b,kvs,more,rfl,rfl,ne,ha,hb,hz,q⟩:=h;cases rx;obtain⟨u,rfl,ru⟩:=rv.one;cases ru;obtain⟨za,Yd,Vb,MQ,N9⟩:=EM I.aI ha;obtain⟨zb,fX,Va,MP,Zx⟩:=EM I.aI hb;refine call_meetsIn aat N9.typeIs PySem.F.entry_dict_update (PySem.F.args_dict_update_2 _ _) (meets_dict_update (yM X.prog X.w) a b ne fX) ⟨Vb,Va,N9,Zx,by rw[<-MQ.length,<-MP.length];exact hz,λh' BJ _ hs=>?_⟩;have he:∃q,h'.get? a=aA q:=let ⟨q,_,_,hq,_⟩:=BJ;⟨q,hq⟩
 have hl:(mD kvs more).length<=ar:=cz (vJ more kvs) hz;exact⟨.aE,_,pY (t':=s.toks) I (by rw[ha];exact True.intro) hs he<|G0 hl Yd (KV.merge MP MQ) BJ,rfl,q⟩
def QO(i:Nat)(h:PE X (.Name x pn) (ZN i))(he:CG X e f)(fW:As apos eA:=by rfl)(fY:kj (.Name x pn) "update" X.env (eval (.Name x pn) X.env)=eval (.Name x pn) X.env:=by rfl)(iX:A5 X [e] eA:=by rfl)(hs:bp [e] X.env=(false,eval e X.env)::bp [] X.env:=by rfl):DX X (.Call (.Attribute (.Name x pn) "update" apos) [e] [] eA) (CN i f):=by
 refine PE.aH (C4 abb aat PySem.F.type_dict_update RF h (yN he x8 hs) fY iX fW hs) λσ H Q hq=>?_
 obtain⟨O0,r,d',r',hR,e,q⟩:=hq;obtain⟨q0,e1,e⟩:=aF e;cases er:r[i]? with
 |none=>rw[er] at e;cases e
 |some y=>
  rw[er] at e;cases y<;>first|(cases e;done)|skip
  rename_i fb ks l;simp only at e;split at e
  .rename_i hlen;cases e;obtain⟨a,kvs,q1,q2,q4,q3⟩:=hR.aJ i fb ks l er;refine⟨.ref a,q1,?_,O0,r,q0.1,q0.2,hR,e1,λb more H1 s1 n1 eb k1 il=>?_⟩
   .exact .inr<|.inr<|.inl ⟨rfl,.inl ⟨kvs,q2⟩⟩
   .have R1:=hR.same s1;have Bu:=s1 _ _ q2;have ne:a≠b:=λz=>by rw[z,n1] at q2;cases q2
    have ol:cG (λc=>Ow O0 r σ c\/c=b) H1:=λc hc=>by
     rcases hc with z|z
     .exact R1.ol c z
     .rw[z];exact⟨_,eb,trivial⟩
    have AQ:IsL X.K (Ow O0 r σ) H1 q0.2 (more.map (·.2)):=IsL.mono (λ_ _ e _=>e) ol (λ_ z _=>.inl z) _ _ il;obtain⟨m1,m2⟩:=J7 more kvs ks q0.1 l q0.2 q4 (q3.same s1 hR.ol) k1 AQ;obtain⟨R2,k2⟩:=R1.Mv er q1 Bu m1 m2;refine⟨a,b,kvs,more,rfl,rfl,ne,Bu,eb,?_,q _ _ R2 ((Kp.of_same r σ s1).trans k2)<|by rw[y9]⟩;rw[<-q4,<-k1,ah,ah] at hlen;exact hlen
  .cases e
end
def o9(fl:ML)(g:ME):ME:=λr=>(fl r).bind λl=>(g r).bind λy=>match y with
 |.int t=>(Y0 l).bind λns=>if t∈ns/\ns.length<=1000 then aA (.int (ns.idxOf t:Nat)) else aB
 |_=>aB
theorem gA:∀{ss:List Int} {us:List Value},Vals (ss.map V.int) us->us.length=ss.length/\∀(j:Nat) (s:Int),ss[j]?=aA s->∃k,us[j]?=aA (.int s k)
 |[],_,.nil=>⟨rfl,λj s e=>by simp at e⟩
 |s::ss,_,.cons r t=>by
  obtain⟨h1,h2⟩:=gA t;refine⟨by simp[h1],λj s' e=>?_⟩;cases j with
  |zero=>simp at e;subst e;obtain⟨k,rfl⟩:=r;exact⟨k,rfl⟩
  |succ j=>exact h2 j s' (by simpa using e)
noncomputable def Gs(t:Int):Value->Bool
 |.int x _=>x == t
 |_=>false
theorem L8:∀(l:List Int) (t:Int) (m:Nat),m<l.idxOf t->l[m]?≠aA t
 |[],t,m,h=>by simp
 |x::l,t,m,h=>by
  rw[tm] at h;by_cases hx:x=t
  .subst hx;simp at h
  .have:(x == t)=false:=by simpa using hx
   rw[this] at h;cases m with
   |zero=>simpa using hx
   |succ m=>
    rw[iq];exact L8 l t m (by simpa using h)
section
variable{X:Cx}
def WT:Eo X "list.index" (λx vs H Q=>∃(p:Addr) (ss:List Int) (t:Int),x=.ref p/\vs=[.int t]/\aN X.K H p (ss.map V.int)/\t∈ss/\ss.length<=1000/\Q (.int (ss.idxOf t:Nat)) H):=by
 intro pZ s σ H x vs v us Q I rx rv h;obtain⟨p,ss,t,rfl,rfl,hp,ht,hz,q⟩:=h;cases rx;obtain⟨u,rfl,k,rfl⟩:=Vals.one rv;obtain⟨its,r,pl,_⟩:=I.list hp;obtain⟨l1,l2⟩:=gA r;obtain⟨⟨oc,od,ð,AK⟩,n,e,c1,c2,c3⟩:=id pl;dsimp only at c1 c2 c3;subst c1 c2 c3;have hj:ss.idxOf t<ss.length:=List.idxOf_lt_length_of_mem ht;have get:∀(m:Nat) (hm:m<its.toArray.size),∃s' k',ss[m]?=aA s'/\its.toArray[m]=.int s' k':=λm hm=>by
  have sU:m<its.length:=by simpa using hm
  have e1:ss[m]?=aA ss[m]:=au (by omega);obtain⟨k',q'⟩:=l2 m _ e1;rw[au sU] at q';exact⟨_,k',e1,by simpa using q'⟩
 refine vh F.slot_list_index ⟨_,e,rfl⟩ F.entry_list_index (F.args_list_index_2 _ _) (SeqAt.list_indexAt p its.toArray n aB AK (.int t k) (Gs t) (ss.idxOf t) (by rw[ao];omega) (by omega) ?_ ?_) ⟨e,λy hy=>?_,⟨.int (ss.idxOf t:Nat),H,I.tok _,⟨_,rfl⟩,q⟩⟩
 .obtain⟨s',k',e1,e2⟩:=get (ss.idxOf t) (by rw[ao];omega);rw[e2];rw[au hj,List.getElem_idxOf hj] at e1;cases e1;simp[Gs]
 .intro m hm Xn;obtain⟨s',k',e1,e2⟩:=get m hm;rw[e2];have ne:s'≠t:=λz=>by
   subst z;exact L8 ss s' m Xn e1
  simpa only[Gs,beq_eq_false_iff_ne] using ne
 .obtain⟨m,hm,rfl⟩:=Array.mem_iff_getElem.mp hy;obtain⟨s',k',e1,e2⟩:=get m hm;rw[e2];exact gg.int_int _ _ _ _
def uZ(ho:DB X a fl)(hb:DE X b g)(fY:kj a "index" X.env (eval a X.env)=eval a X.env:=by rfl)(fW:As apos eA:=by rfl)(iX:A5 X [b] eA:=by rfl)(hs:bp [b] X.env=(false,eval b X.env)::bp [] X.env:=by rfl):DE X (.Call (.Attribute a "index" apos) [b] [] eA) (o9 fl g):=by
 refine PE.aH (C4 mf PySem.F.slot_list_index PySem.F.type_list_index WT ho (yN hb x8 hs) fY iX fW hs) λσ H Q hq=>?_
 obtain⟨O0,r,d,hR,e,q⟩:=hq;obtain⟨l,e1,e⟩:=aF e;obtain⟨y,e2,e⟩:=aF e;cases y<;>first|(cases e;done)|skip
 rename_i t;simp only at e;obtain⟨ss,e3,e⟩:=aF e;split at e
 .rename_i hz;cases e;refine⟨O0,r,l,hR,e1,λp xs H1 s1 hp il=>?_⟩;refine⟨.inl ⟨rfl,xs,hp⟩,O0,r,.int t,hR.same s1,e2,λu H2 s2 i2=>?_⟩;rw[zM] at i2;subst i2;have Zf:=YZ e3 il;subst Zf;exact⟨p,ss,t,rfl,rfl,s2.seq hp,hz.1,hz.2,q _ H2 (s1.trans s2)<|by rw[zM]⟩
 .cases e
end
def tU(x:D)(l:List D):Bool:=l.any λd=>ke (aW d)<|aW x
def BS(neg:Bool)(f:ME)(fl:ML):MB:=λr=>(f r).bind λx=>(fl r).bind λl=>if i_ x=true/\l.all i_=true then aA (if neg then !tU x l else tU x l) else aB
open Classical in
noncomputable def AW(h:Heap)(y:PyData)(u:Value):Bool:=if e:∃d as,Reads h u d as/\d.canLay0=true then ke e.choose y else false
def KQ{h:Heap}{y d:PyData}{u:Value}{as:List Addr}(r:Reads h u d as)(c:d.canLay0=true):AW h y u=ke d y:=by
 have e:∃d as,Reads h u d as/\d.canLay0=true:=⟨d,as,r,c⟩;unfold AW;rw[dif_pos e];obtain⟨eR,r',c'⟩:=e.choose_spec;rw[PySem.SeqAt.Reads.unique _ _ u _ _ c' r' r]
section
variable{X:Cx}
def c9{d:D}(h:i_ d=true):m_ d=true/\(aW d).canLay0=true/\(aW d).depth<=150:=by
 unfold i_ at h;simp only[fu,decide_eq_true_eq] at h;exact⟨h.1.1,h.1.2,h.2⟩
theorem gF(I:Inv X pZ σ H s):∀(l:List D) (vs:List V) (us:List Value),l.all i_=true->IsL X.K O H l vs->Vals vs us->(∀u∈us,∃d∈l,∃as,Reads s.heap u (aW d) as)/\∀y:PyData,us.any (AW s.heap y)=l.any λd=>ke (aW d) y
 |[],vs,us,_,h,r=>by unfold IsL at h;subst h;cases r;exact⟨(λu hu=>by cases hu),λy=>rfl⟩
 |d::l,vs,us,o,h,r=>by
  unfold IsL at h;obtain⟨v,vr,rfl,h1,h2⟩:=h;rw[km,fu] at o;cases r with
  |cons r1 r2=>
   obtain⟨o1,o2,o3⟩:=c9 o.1;obtain⟨as,q1⟩:=bA I d v _ o1 h1 r1;obtain⟨q2,q3⟩:=gF I l vr _ o.2 h2 r2;refine⟨λu hu=>?_,λy=>?_⟩
   .rcases bb.mp hu with z|z
    .rw[z];exact⟨d,by simp,as,q1⟩
    .obtain⟨d',hd,eR,q⟩:=q2 u z;exact⟨d',by simp[hd],eR,q⟩
   .rw[jt,jt,KQ q1 o2,q3]
def OC(K:Fg)(neg:Bool):R2:=λx y H Q=>∃O dx l p xs,y=.ref p/\aN K H p xs/\IsL K O H l xs/\Is K O H dx x/\i_ dx=true/\l.all i_=true/\Q (.bl (if neg then !tU dx l else tU dx l)) H
def P_(hu:X.A.units+200<cLine)(I:Inv X pZ σ H s)(hl:l.all i_=true)(il:IsL X.K O H l xs)(rv:Vals xs its)(hx:i_ dx=true)(ix:Is X.K O H dx x)(rx:RelV x v):(∀u,u∈its.toArray->gg X.A.in1 s u v (AW s.heap (aW dx) u))/\its.toArray.any (AW s.heap<|aW dx)=tU dx l:=by
 obtain⟨q1,q2⟩:=gF I l xs its hl il rv;obtain⟨o1,o2,o3⟩:=c9 hx;obtain⟨bs,rb⟩:=bA I dx x v o1 ix rx;refine⟨λu DY=>?_,by rw[show its.toArray.any (AW s.heap<|aW dx)=its.any (AW s.heap<|aW dx) by simp,q2];rfl⟩;obtain⟨d,hd,as,ra⟩:=q1 u (by simpa using DY);obtain⟨p1,p2,p3⟩:=c9<|so.mp hl d hd;rw[KQ ra p2];refine SeqAt.eqAt_reads _ _ _ _ _ _ _ _ ra rb p2 o2 ?_
 have:=Nat.min_le_left (aW d).depth (aW dx).depth
 simp;omega
def Qy(hu:X.A.units+200<cLine):a9 X (jc .In) (OC X.K false):=by
 intro pZ s σ H x y v u Q I rx ry hq;obtain⟨O,dx,l,p,xs,rfl,sq,il,ix,hx,hl,q⟩:=hq;cases ry;obtain⟨its,rv,pl,_⟩:=I.list sq;obtain⟨q1,q2⟩:=P_ hu I hl il rv hx ix rx;refine SeqAt.in_listAt (AW s.heap<|aW dx) pl.isList q1 ⟨.bl _,H,I,rfl,?_⟩;rw[q2];exact q
def P7(hu:X.A.units+200<cLine)(ha:DE X a f)(hb:DB X b fl)(hm:ki .In b=false:=by rfl):DT X (.Compare a [.In] [b] pos) (BS false f fl):=by
 refine PT.aH (YA (Qy hu) ha hb hm) λσ H Q h=>?_
 obtain⟨O0,r,k,hR,e,q⟩:=h;obtain⟨x,e1,e⟩:=aF e;obtain⟨l,e2,e⟩:=aF e;split at e
 .rename_i hl;cases e;exact⟨O0,r,x,hR,e1,λv1 H1 s1 i1=>⟨O0,r,l,hR.same s1,e2,λp xs H2 s2 sq il=>⟨Ow O0 r σ,x,l,p,xs,rfl,sq,il,i1.same s2 (hR.same s1).ol,hl.1,hl.2,_,rfl,q H2<|s1.trans s2⟩⟩⟩
 .cases e
end
end DD
namespace SP
open PySem PySem.Calls PyProof.Rows PySem.Spec PySem.W
def iG(h:Heap)(d:Addr)(es:Array DictEntry)(ep:Nat):Prop:=∃o,h.get? d=aA o/\o.ExactDict/\o.data=.dict es ep
def iG.ty{s:Shared}(x:iG s.heap d es ep):s.TypeIs (.ref d) "dict" := by
 obtain⟨o,e,c,_⟩:=x;exact⟨o,e,c.1⟩
def iG.mv{h h':Heap}(x:iG h d es ep)(k:∀o,h.get? d=aA o->h'.get? d=aA o):iG h' d es ep:=by
 obtain⟨o,e,r⟩:=x;exact⟨o,k o e,r⟩
def iG.lt{h:Heap}(x:iG h d es ep):d<h.objs.size:=by
 obtain⟨o,e,_⟩:=x;exact aw e
section
variable{prog:Program}{w:World}{A:Around}{E:Value->Shared->Prop}{s:Shared}{d it:Addr}{es:Array DictEntry}{ep i:Nat}
def U1{Q:Value->Shared->Prop}(hd:(d == kc)=false)(hm:iG s.heap d es ep)(hQ:Q (.ref s.heap.objs.size) { s with heap:=s.heap.push { cls:=.type "dict_keyiterator",data:=.fields #[.ref d,.int 0 0,.int es.size 0,.int ep 0] } }):wpAny (model prog w) A (pyIter<|.ref d) Q E s:=by
 obtain⟨o,e1,e2,e3⟩:=id hm;refine xu hm.ty F.slot_dict_iter<|fm F.slot_dict_iter hm.ty F.entry_dict_iter ?_<|F.args_dict_iter_1 _;unfold Builtin.«dict.__iter__»;refine aa (m:=aai _ _) ?_;unfold aai;refine aa<|acf hm.ty ?_;show wpAny (model prog w) _ (pure<|Value.ref d) _ _ s;refine af (show wpAny (model prog w) _ (acr d >>= _) _ _ s from ?_);unfold acr;rw[if_neg (λz=>by rw[hd] at z;cases z)];refine aa<|af<|aa<|xw e1 e3<|aa<|ze e1 e3<|aa<|dq<|af ⟨_,rfl, "dict_keyiterator",_,⟨_,ax _ rfl,rfl⟩,kf.lookup,?_⟩;simpa [rawInt] using hQ
def U0{e:DictEntry}{Q:Option Value->Shared->Prop}(hi:s.heap.IsKeyIter it d i es.size ep)(hm:iG s.heap d es ep)(hx:es[i]?=aA e)(hQ:∀h',h'.IsKeyIter it d (i+1) es.size ep->dz it s.heap h'->Q (aA e.key) { s with heap:=h' }):wpAny (model prog w) A (pyNext<|.ref it) Q E s:=by
 obtain⟨o,o1,o2,o3⟩:=id hi;obtain⟨p,e1,e2,e3⟩:=id hm;unfold pyNext;refine aa<|ql<|gq (name:=jj "__next__") hi.typeIs kf<|fm kf hi.typeIs zd ?_<|yr _;refine aa<|af<|aa<|aa ?_
 first|refine aa (mq hi.typeIs<|af ?_)|refine aa<|qh hi.typeIs<|af ?_
 refine aa<|wp o1 o3 ?_;have own:zk "dict_keyiterator" = false:=by decide
 simp only[own,bx,if_false];show wpAny _ _ (if (Value.ref d == Value.none)=true then _ else _) _ _ s;rw[if_neg (show ¬((Value.ref d == Value.none)=true) from λz=>by cases z)];refine aa<|af<|aa<|xw e1 e3 ?_;rw[if_neg<|by simp];refine aa<|af<|aa<|ze e1 e3 ?_;rw[if_neg<|by simp];refine af ?_;obtain⟨lt,eq⟩:=et.mp hx;simp only[show ¬((i:Int)<0) from by omega,if_false,gy,hx];refine aa ?_
 first|refine aa (mq hi.typeIs<|af ?_)|refine aa<|qh hi.typeIs<|af ?_
 refine aa<|ach hi.typeIs (show wpAny _ _ (setField (.ref it) 1 (rawInt<|(i:Int)+1) >>= _) _ _ s from aa<|ju o1 o3 (by simp) ?_);have fL:(s.heap.update it<|nh (·.setIfInBounds 1 (rawInt<|(i:Int)+1))).IsKeyIter it d (i+1) es.size ep:=by
  refine⟨_,gu _ o1<|acl<|uo o3 _,(Obj.cls_mapFields ..).trans o2,?_⟩;rw[uo o3];simp[rawInt]
 refine aa<|gc<|aa<|ach (s:={ s with heap:=s.heap.update it (nh (·.setIfInBounds 1 (rawInt<|(i:Int)+1))) }) fL.typeIs ?_;show wpAny _ _ (pure e.key) _ _ _;exact af<|af ⟨_,rfl,af<|hQ _ fL<|gx ..⟩
def TV{Q:Option Value->Shared->Prop}(hh:A.handled=aB)(hi:s.heap.IsKeyIter it d es.size es.size ep)(hm:iG s.heap d es ep)(hQ:∀h',acz it s.heap h'->Q aB { s with heap:=h' }):wpAny (model prog w) A (pyNext<|.ref it) Q E s:=by
 obtain⟨o,o1,o2,o3⟩:=id hi;obtain⟨p,e1,e2,e3⟩:=id hm;unfold pyNext;refine aa<|ql<|gq (name:=jj "__next__") hi.typeIs kf<|fm kf hi.typeIs zd ?_<|yr _;refine aa<|af<|aa<|aa ?_
 first|refine aa (mq hi.typeIs<|af ?_)|refine aa<|qh hi.typeIs<|af ?_
 refine aa<|wp o1 o3 ?_;have own:zk "dict_keyiterator" = false:=by decide
 simp only[own,bx,if_false];show wpAny _ _ (if (Value.ref d == Value.none)=true then _ else _) _ _ s;rw[if_neg (show ¬((Value.ref d == Value.none)=true) from λz=>by cases z)];refine aa<|af<|aa<|xw e1 e3 ?_;rw[if_neg<|by simp];refine aa<|af<|aa<|ze e1 e3 ?_;rw[if_neg<|by simp];refine af ?_;simp only[show ¬((es.size:Int)<0) from by omega,if_false,gy,wa<|al es.size];refine aa ?_
 first|refine aa (mq hi.typeIs<|af ?_)|refine aa<|qh hi.typeIs<|af ?_
 refine(show wpAny _ _ (setField (.ref it) 0 .none >>= _) _ _ s from aa<|ju o1 o3 (by simp) (show wpAny _ _ (newExc (.type "StopIteration") [] >>= _) _ _ _ from aa ?_));simp only[newExc,newTuple];refine aa (dq (aa (m:=firstArgMember _ _)<|yw (a:=Value.none) (by first|rfl|(simp only[firstArgMember];rfl))<|dq ?_<|by size_fits)<|by size_fits);simp only[raiseNew];refine aa<|aaj ?_;rw[show A.in1.handled=aB from hh];refine aa<|af<|acs ?_;refine(aa<|uz (T:="StopIteration") (b:=true) ⟨_,ax _ rfl,rfl⟩ zt ?_);exact af<|hQ _<|((gx ..).extBut.push _).push _
end
def X0{prog:Program}{w:World}{A:Around}(hh:A.handled=aB)(I d:Addr)(fC:d≠I)(es:Array DictEntry)(ep:Nat):Walks prog w A I [I,d] [I] es.size (λi v=>∃e,es[i]?=aA e/\v=e.key) (λi h=>h.IsKeyIter I d i es.size ep/\iG h d es ep) where
 sub:=λb hb=>by simp at hb;simp[hb]
 frame:=λ_ _ _ st hk=>⟨st.1.at λo e=>hk I (by simp) o e,st.2.mv λo e=>hk d (by simp) o e⟩
 item:=λi s Q E hi st hQ=>by
  obtain⟨x,hx⟩:∃p,es[i]?=aA p:=⟨es[i],by simp[hi]⟩;exact U0 st.1 st.2 hx λh' q1 q2=>hQ _ h' s.toks ⟨x,hx,rfl⟩ ⟨q1,st.2.mv λo e=>q2.extBut d o fC e⟩ λb o hb e=>q2.extBut b o (λh=>hb<|by simp[h]) e
 done:=λs Q E st hQ=>TV hh st.1 st.2 λh' q=>hQ h' s.toks λb o hb e=>q b o (λh=>hb<|by simp[h]) e
 self:=λ_ _ _ _ st hQ=>act st.1 hQ
def Vn{prog:Program}{w:World}{d:Addr}{es:Array DictEntry}{ep:Nat}(lo:(d == kc)=false):KdlSrc prog w "dict" d d es.size (λi v=>∃e,es[i]?=aA e/\v=e.key) (λh=>iG h d es ep) where
 type:=λs x=>iG.ty (s:=s) x
 there:=λ_ x=>⟨x.lt,x.lt⟩
 keep:=λ_ _ x k=>x.mv λo e=>k d (.inl rfl) o e
 notList:=by decide
 notTuple:=by decide
 hint:=λ_ _ s _ x q=>kdl_hint_dict (iG.ty (s:=s) x) q
 iter:=λ_ _ hh x=>⟨_,_,(λ_ _ q=>U1 lo x q),X0 hh _ d (bh x.lt) es ep,⟨⟨_,ax _ rfl,rfl,rfl⟩,x.mv λo e=>ac _ e⟩⟩
end SP
namespace DD
open PySem PySem.Spec PyProof.Rows L2 PySem.W
namespace RP
end RP
end DD
namespace ZZ
open PySem
end ZZ
namespace DD
open PySem PySem.Spec PyProof.Rows L2 PySem.W
namespace MX
end MX
def V7(K:Fg)(i j:Nat)(f:ML):TA:=λσ H Q=>∃O0 r l1 l2 ds,R K O0 H r σ/\gK r i=aA l1/\gK r j=aA l2/\f r=aA ds/\∀vs c1 c2 H',aC H H'->σ[i]?=aA (aA<|.ref c1)->σ[j]?=aA (aA<|.ref c2)->IsL K (Ow O0 r σ) H' ds vs->Q (vs++[.ref c1,.ref c2]) H'
def Gh(X:Cx)(i j:Nat)(es:List Expr)(f:ML):Prop:=PA X es<|V7 X.K i j f
noncomputable def fZ(ds l1 l2:List D):List Sl:=ds.map .v++[.p l1,.p l2]
def kC{ds l1 l2:List D}{j:Nat}{x:Sl}(e:(fZ ds l1 l2)[j]?=aA x):(∃d,x=.v d/\ds[j]?=aA d/\j<ds.length)\/(x=.p l1/\j=ds.length)\/(x=.p l2/\j=ds.length+1):=by
 unfold fZ at e;by_cases h:j<ds.length
 .rw[be<|by simpa using h,av] at e;cases e1:ds[j]? with
  |none=>rw[e1] at e;cases e
  |some d=>rw[e1] at e;cases e;exact .inl ⟨d,rfl,rfl,h⟩
 .rw[bm<|by simpa using h] at e;simp only[ah] at e;cases e2:j-ds.length with
  |zero=>rw[e2] at e;cases e;exact .inr<|.inl ⟨rfl,by omega⟩
  |succ k=>
   rw[e2] at e;cases k with
   |zero=>cases e;exact .inr<|.inr ⟨rfl,by omega⟩
   |succ k=>simp at e
def bY{α:Type}{ds l1 l2:List D}{m:α}{j:Nat}{q:Sl->Option α}(hq:∀d,q (.v d)=aB)(e:((fZ ds l1 l2)[j]?).bind q=aA m):(j=ds.length/\q (.p l1)=aA m)\/(j=ds.length+1/\q (.p l2)=aA m):=by
 obtain⟨x,e1,e2⟩:=aF e;rcases kC e1 with⟨d,rfl,_⟩|⟨rfl,h⟩|⟨rfl,h⟩
 .rw[hq] at e2;cases e2
 .exact .inl ⟨h,e2⟩
 .exact .inr ⟨h,e2⟩
def IW(vs:List V)(c1 c2:Addr):(vs++[V.ref c1,V.ref c2])[vs.length]?=aA (.ref c1)/\(vs++[V.ref c1,V.ref c2])[vs.length+1]?=aA (.ref c2):=by
 constructor
 .rw[bm<|by simp];simp
 .rw[bm<|by omega];simp
section
variable{K:Fg}{O:Addr->Prop}{H:Hp}
def R.Ov{ds l1 l2:List D}{vs C8 Bk:List V}{c1 c2:Addr}(ol:cG O H)(h1:O c1)(h2:O c2)(ne:c1≠c2)(e1:H c1=aA (.lst C8))(e2:H c2=aA (.lst Bk))(i1:IsL K O H l1 C8)(i2:IsL K O H l2 Bk)(il:IsL K O H ds vs):R K O H (fZ ds l1 l2) ((vs++[V.ref c1,V.ref c2]).map aA):=by
 have hl:=il.length;obtain⟨z1,z2⟩:=IW vs c1 c2;have f_:((vs++[V.ref c1,V.ref c2]).map aA)[ds.length]?=aA (aA<|.ref c1):=by rw[av,hl,z1];rfl
 have at2:((vs++[V.ref c1,V.ref c2]).map aA)[ds.length+1]?=aA (aA<|.ref c2):=by rw[av,hl,z2];rfl
 have ow:∀b,Ow O (fZ ds l1 l2) ((vs++[V.ref c1,V.ref c2]).map aA) b->H b≠aB->O b:=λb z _=>z.elim id λ⟨j,m,ej,qj⟩=>by
  rcases bY (λ_=>rfl) ej with⟨rfl,_⟩|⟨rfl,_⟩
  .rw[f_] at qj;cases qj;exact h1
  .rw[at2] at qj;cases qj;exact h2
 refine⟨by simp[fZ,hl],λj d e=>?_,λj m e=>?_,λj k b m m' q1 q2 q3 q4=>?_,ol,λj m b e q=>?_,λj m b e q=>?_,λj _ ks m e=>?_,λj ks e=>?_⟩
 .rcases kC e with⟨d',e',q,lt⟩|⟨e',_⟩|⟨e',_⟩
  .cases e';obtain⟨v,e4,i4⟩:=il.get q;exact⟨v,by rw[av,be<|by omega,e4];rfl,Is.mono (aC.kp (aC.refl H) _) ol ow _ _ i4⟩
  .cases e'
  .cases e'
 .rcases bY (λ_=>rfl) e with⟨rfl,q⟩|⟨rfl,q⟩
  .cases q;exact⟨c1,C8,f_,e1,IsL.mono (aC.kp (aC.refl H) _) ol ow _ _ i1⟩
  .cases q;exact⟨c2,Bk,at2,e2,IsL.mono (aC.kp (aC.refl H) _) ol ow _ _ i2⟩
 .rcases bY (λ_=>rfl) q1 with⟨rfl,_⟩|⟨rfl,_⟩<;>rcases bY (λ_=>rfl) q2 with⟨rfl,_⟩|⟨rfl,_⟩
  .rfl
  .rw[f_] at q3;rw[at2] at q4;cases q3;cases q4;exact absurd rfl ne
  .rw[at2] at q3;rw[f_] at q4;cases q3;cases q4;exact absurd rfl ne
  .rfl
 .exfalso;rcases e with e|e|⟨_,e⟩<;>rcases kC e with⟨d',e',_⟩|⟨e',_⟩|⟨e',_⟩<;>cases e'
 .rcases bY (q:=Sl.own) (λ_=>rfl) (cU e).choose_spec with⟨rfl,_⟩|⟨rfl,_⟩
  .rw[f_] at q;cases q;exact h1
  .rw[at2] at q;cases q;exact h2
 .rcases kC e with⟨d',e',_⟩|⟨e',_⟩|⟨e',_⟩<;>cases e'
 .rcases kC e with⟨d',e',_⟩|⟨e',_⟩|⟨e',_⟩<;>cases e'
end
def uO(n:Nat)(m:MF)(i j:Nat)(f:ML):En->Option (D×En):=λr=>(gK r i).bind λl1=>(gK r j).bind λl2=>(f r).bind λds=>if ds.length+2=n/\i≠j then (m<|fZ ds l1 l2).bind λp=>match p.1 with
 |.v d=>match p.2[ds.length]?,p.2[ds.length+1]? with
  |some (.p l1'),aA (.p l2')=>(b6 i l1' r).bind λr1=>(b6 j l2' r1).map λr2=>(d,r2)
  |_,_=>aB
 |_=>aB
 else aB
section
variable{X:Cx}
def pP{x y:Str}{px py:Pos}(hx:PE X (.Name x px) (ZN i))(hy:PE X (.Name y py) (ZN j))(hs:bp [.Name x px,.Name y py] X.env=(false,eval (.Name x px) X.env)::bp [.Name y py] X.env:=by rfl)(fH:bp [.Name y py] X.env=(false,eval (.Name y py) X.env)::bp [] X.env:=by rfl):Gh X i j [.Name x px,.Name y py] zV:=by
 refine PA.aH (yN hx (yN hy x8 fH) hs) λσ H Q hq=>?_
 obtain⟨O0,r,l1,l2,ds,hR,m1,m2,e,q⟩:=hq;cases e;obtain⟨a,xs,p1,p2,p3⟩:=gJ hR m1;obtain⟨b,ys,p4,p5,p6⟩:=gJ hR m2;exact⟨_,p1,_,p4,q [] a b H (aC.refl H) p1 p4 .nil⟩
def dO{f:ME}{fs:ML}(ha:DE X a f)(hr:Gh X i j es fs)(hs:iF X a es:=by rfl):Gh X i j (a::es) (zB f fs):=by
 refine PA.aH (yN ha hr hs) λσ H Q hq=>?_
 obtain⟨O0,r,l1,l2,ds,hR,m1,m2,e,q⟩:=hq;obtain⟨d,e1,e⟩:=aF e;obtain⟨l,e2,e⟩:=aF e;cases e;exact⟨O0,r,d,hR,e1,λv H1 s1 i1=>⟨O0,r,l1,l2,l,hR.same s1,m1,m2,e2,λvs c1 c2 H2 s2 Cv sD i2=>q (v::vs) c1 c2 H2 (s1.trans s2) Cv sD<|.cons (i1.same s2 (hR.same s1).ol) i2⟩⟩
def dR{f:ML}(F:fP X.prog X.w X.K X.mg X.base h_ k fa fd ps (fQ X.K n m))(hr:eD k X.A)(hg:Gl X x)(hm:X.mg x=aA (.ref fa))(hk:jv X.K (.ref fa)=true)(hb:Binds X.K fd ps [])(ha:Gh X i j (a::es) f)(fX:iH x:=by decide)(he:iF X a es:=by rfl)(hpl:sJ X es pos:=by rfl):DX X (.Call (.Name x p) (a::es) [] pos) (uO n m i j f):=by
 refine PE.aH (gG (E:=λ_ _ _=>False) (dvs:=[]) F hr hg hm hk hb .nil JR ha fX he hpl) λσ H Q hq=>?_
 obtain⟨O0,r,d,r',hR,e,q⟩:=hq;obtain⟨l1,e1,e⟩:=aF e;obtain⟨l2,e2,e⟩:=aF e;obtain⟨ds,e3,e⟩:=aF e;split at e
 .rename_i hn;obtain⟨hn,eP⟩:=hn;obtain⟨⟨rs,eR⟩,e4,e⟩:=aF e;refine⟨O0,r,l1,l2,ds,hR,e1,e2,e3,λvs c1 c2 H1 s1 Cv sD il=>?_⟩;show fQ X.K n m ((vs++[.ref c1,.ref c2])++[]) H1 Q _;rw[ff];have R1:=hR.same s1;obtain⟨c',C8,p1,p2,p3⟩:=gJ R1 e1;rw[Cv] at p1;cases p1;obtain⟨c',Bk,p4,p5,p6⟩:=gJ R1 e2;rw[sD] at p4;cases p4;have M0:(r[i]?).bind Sl.own=aA l1:=by
   obtain⟨y,z1,z2⟩:=aF e1;rw[z1];exact cX (J6 z2).1
  have Cm:(r[j]?).bind Sl.own=aA l2:=by
   obtain⟨y,z1,z2⟩:=aF e2;rw[z1];exact cX (J6 z2).1
  have o1:Ow O0 r σ c1:=.inr ⟨i,l1,M0,Cv⟩;have o2:Ow O0 r σ c2:=.inr ⟨j,l2,Cm,sD⟩;have nc:c1≠c2:=λz=>eP<|hR.apart i j c1 l1 l2 M0 Cm Cv (by rw[z];exact sD)
  have hl:=il.length;obtain⟨v1,v2⟩:=IW vs c1 c2;refine⟨Ow O0 r σ,fZ ds l1 l2,rs,eR,by simp[fZ];omega,R.Ov R1.ol o1 o2 nc p2 p5 p3 p6 il,λj m'=>⟨λe=>?_,λe=>?_,λ_ e=>?_,λ_ e=>?_⟩,e4,?_⟩
  .rcases kC e with⟨d',e',_⟩|⟨e',_⟩|⟨e',_⟩<;>cases e'
  .rcases kC e with⟨d',e',_⟩|⟨e',_⟩|⟨e',_⟩<;>cases e'
  .rcases kC e with⟨d',e',_⟩|⟨e',_⟩|⟨e',_⟩<;>cases e'
  .rcases kC e with⟨d',e',_⟩|⟨e',_⟩|⟨e',_⟩<;>cases e'
  .cases rs with
   |f l=>cases e
   |g ks l=>cases e
   |v d'=>
    simp only at e;split at e
    .rename_i l1' l2' k1 k2;obtain⟨r1,e5,e⟩:=aF e;obtain⟨r2,e6,e7⟩:=aT e;have BE:d'=d:=congrArg ip e7;have Ea:r2=r':=congrArg yb e7;subst BE Ea;refine λv H2 pf iv=>?_
     have Wl:(fZ ds l1 l2)[ds.length]?=aA (.p l1):=by unfold fZ;rw[bm<|by simp];simp
     have Ij:(fZ ds l1 l2)[ds.length+1]?=aA (.p l2):=by unfold fZ;rw[bm<|by simp];simp
     obtain⟨y1,c,ã,f1,f2,f3,f4⟩:=pf.par ds.length l1 Wl;rw[k1] at f1;cases f1;rw[hl,v1] at f2;cases f2;obtain⟨y2,c,â,g1,g2,g3,g4⟩:=pf.par (ds.length+1) l2 Ij;rw[k2] at g1;cases g1;rw[hl,v2] at g2;cases g2;have HV:∀b,g_ (fZ ds l1 l2) ((vs++[V.ref c1,V.ref c2]).map aA) b->b=c1\/b=c2:=λb ⟨j,m',ej,qj⟩=>by
      rcases bY (λ_=>rfl) ej with⟨rfl,_⟩|⟨rfl,_⟩
      .rw[av,hl,v1] at qj;cases qj;exact .inl rfl
      .rw[av,hl,v2] at qj;cases qj;exact .inr rfl
     have lJ:∀b o,b≠c1->b≠c2->H1 b=aA o->H2 b=aA o:=λb o n1 n2 eb=>pf.keep b o eb λz=>(HV b z).elim n1 n2
     obtain⟨R2,q2⟩:=R1.put (H':=L2.upd H2 c2<|.lst Bk) e5 Cv (λb o hb eb=>by
      by_cases h:b=c2
      .subst h;rw[zR,<-p5];exact eb
      .rw[zT h];exact lJ b o hb h eb) (λb hb eb=>by
      by_cases h:b=c2
      .subst h;rw[zR] at eb;cases eb
      .rw[zT h] at eb;exact pf.live b eb) (by rw[zT nc];exact f3) (IsL.mono (λb o eb nb=>by rw[zT λz=>nb (by rw[z];exact o2)];exact eb) (λb zb=>by
       obtain⟨ys,ey,mb⟩:=R1.ol b zb;exact pf.lst b ys ey mb) (λ_ z _=>z) _ _ f4)
     obtain⟨R3,q3⟩:=R2.put (H':=H2) e6 sD (λb o hb eb=>by rw[zT hb] at eb;exact eb) (λb hb eb=>by rw[zT hb];exact eb) g3 (IsL.mono (aC.kp (aC.refl H2) _) (λb zb=>by
       obtain⟨ys,ey,mb⟩:=R1.ol b zb;exact pf.lst b ys ey mb) (λb zb _=>zb.imp id<|b8 e5) _ _ g4)
     exact q v H2 R3 (((Kp.of_same r σ s1).trans q2).trans q3) (Is.mono (aC.kp (aC.refl H2) _) (λb zb=>by
      obtain⟨ys,ey,mb⟩:=R1.ol b zb;exact pf.lst b ys ey mb) (λb zb _=>zb.imp id λz=>b8 e5<|b8 e6 z) _ _ iv)
    .cases e
 .cases e
end
open PySem PySem.Spec PyProof.Rows L2 PySem.W TS
def lW(ks:List (List Key))(k:List Key):List (List Key):=if (ks.any λj=>decide (j=k))=true then ks else ks++[k]
def GN:List D->Option (List Key)
 |[]=>aA []
 |d::l=>(CK d).bind λk=>(GN l).map λr=>k::r
theorem YT{K:Fg}{O:Addr->Prop}{H:Hp}:∀{l:List D} {vs:List V} {ks:List Key},GN l=aA ks->IsL K O H l vs->vs=ks.map kV
 |[],vs,ks,e,h=>by cases e;unfold IsL at h;exact h
 |d::l,vs,ks,e,h=>by
  obtain⟨k,e1,e2⟩:=aF e;obtain⟨r,e3,rfl⟩:=aT e2;unfold IsL at h;obtain⟨v,us,rfl,h1,h2⟩:=h;rw[YU e1 h1,YT e3 h2];rfl
def bO(ks:List (List Key)):List (List Key×V):=ks.map λk=>(k,.bl true)
def tF(ks:List (List Key))(k:List Key):uF (bO ks) k (.bl true)=bO (lW ks k):=by
 unfold uF lW bO;have e:((ks.map λk=>(k,V.bl true)).any λkv=>decide (kv.1=k))=ks.any λj=>decide (j=k):=by rw[aca];rfl
 rw[e];by_cases h:(ks.any λj=>decide (j=k))=true
 .rw[if_pos h,if_pos h,dm];refine qf λx _=>?_
  show(if x=k then _ else _)=_
  split<;>rfl
 .rw[if_neg h,if_neg h,bn];rfl
def Jl(i:Nat)(ks:List (List Key))(r:En):Option En:=match r[i]? with
 |some .un=>aA<|r.set i<|.t ks
 |_=>aB
def GS(i:Nat):MS:=λr=>(Jl i [] r).map .nx
def WE(i:Nat)(fs:ML):MS:=λr=>(fs r).bind λds=>(GN ds).bind λk=>match r[i]? with
 |some (.t ks)=>if ks.length<ar/\ds.length<=ar then aA (.nx<|r.set i<|.t<|lW ks k) else aB
 |_=>aB
section
variable{X:Cx}
def Sq(i:Nat){x:Str}{pos' pd pos:Pos}(hN:X.N.Nodup)(hi:X.N[i]?=aA x:=by rfl)(hx:Loc X.env.scope x:=by first|exact Or.inl rfl|exact Or.inr rfl)(hs:kq (.Dict [] [] pd) (aA<|.Name x pos') pos.line X.env=pure false:=by rfl)(hf:iQ X x:=by first|exact .inl rfl|exact .inr rfl):DS X (.Assign [.Name x pos'] (.Dict [] [] pd) pos) (GS i):=by
 refine PS.aH (tG hN hi hx UE hs hf) λDn σ H hq=>?_
 obtain⟨O0,r,sF,hR,e,q⟩:=hq;obtain⟨r',e4,rfl⟩:=aT e;unfold Jl at e4;split at e4
 .rename_i er;cases e4;intro p hp;obtain⟨R1,k1⟩:=hR.setG (y:=.t []) (o':=.dT []) (p:=p) (zW hp) hp zR trivial (λ_ z=>by cases z) (λm z=>by cases z) rfl (λ_ _ _ z=>by cases z) (λks z=>by cases z;rfl) (ba.mp er).1 (λl=>by rw[er];exact⟨rfl,λz=>by cases z⟩);exact q _ _ R1 k1
 .cases e4
def Mo(i:Nat){x:Str}{pn ps pos tp cp:Pos}{es:List Expr}{k:Nat}{j}{fs:ML}(hu:X.A.units+1<cLine)(h:PE X (.Name x pn) (ZN i))(hk:DA X es fs)(hs:kq (.Constant (.bool true) j cp) (aA<|.Subscript (.Name x pn) (.Tuple es k tp) ps) pos.line X.env=pure false:=by rfl):DS X (.Assign [.Subscript (.Name x pn) (.Tuple es k tp) ps] (.Constant (.bool true) j cp) pos) (WE i fs):=by
 refine PS.aH (JN hu h (Hc hk) Ki hs) λDn σ H hq=>?_
 obtain⟨O0,r,fl,hR,e,q⟩:=hq;obtain⟨ds,e1,e⟩:=aF e;obtain⟨key,e2,e⟩:=aF e;split at e
 .rename_i ks er;split at e
  .rename_i hlen;cases e;obtain⟨a,q1,q2⟩:=hR.iK i ks er;refine⟨.ref a,q1,O0,r,ds,hR,e1,λvs H1 s1 il=>⟨by rw[<-il.length];exact hlen.2,λp hp=>?_⟩⟩;have ek:=YT e2 il;subst ek;have s2:aC H (upd H1 p<|.tup<|key.map kV):=s1.trans<|zW hp;have R2:=hR.same s2;have Bu:=s2 _ _ q2;refine⟨a,_,rfl,A6.t Bu zR (by rw[ah];exact hlen.1),?_⟩;rw[show uF (ks.map λk=>(k,V.bl true)) key (.bl true)=bO (lW ks key) from tF ks key];obtain⟨R3,k3⟩:=R2.HP (y:=.t<|lW ks key) (o':=.dT<|bO<|lW ks key) (H':=upd (upd H1 p<|.tup<|key.map kV) a<|.dT<|bO<|lW ks key) er rfl q1 (λb o hb eb=>by rw[zT hb];exact eb) (λb hb eb=>by rw[zT hb] at eb;exact eb) zR trivial (λ_ z=>by cases z) (λm z=>by cases z) (λm z=>by rcases z with z|z|⟨_,z⟩<;>cases z) rfl (λ_ _ _ z=>by cases z) (λks z=>by cases z;rfl);exact q _ _ R3<|(Kp.of_same r σ s2).trans k3
  .cases e
 .cases e
def Ak:List Key->Option (Nat×List Nat)
 |[.inl n,.inr s]=>if 0<=n then aA (n.toNat,s.cps.toList) else aB
 |_=>aB
def Bd:List (List Key)->Option (List<|Nat×List Nat)
 |[]=>aA []
 |k::l=>(Ak k).bind λs=>(Bd l).map λr=>s::r
def C2(i:Nat):ML:=λr=>match r[i]? with
 |some (.t ks)=>(Bd ks).bind λq=>if q.length<=63 then aA ((rN q).map eV) else aB
 |_=>aB
def RG(e:Ak k=aA q):k.map kV=[.int q.1,.str ⟨q.2.toArray⟩]:=by
 unfold Ak at e;split at e
 .split at e
  .rename_i hn;cases e;show[V.int _,V.str _]=_;rw[show((Int.toNat _:Nat):Int)=_ from gw hn]
  .cases e
 .cases e
def Tn(e:Ak k=aA q)(e':Ak k'=aA q):k=k':=by
 unfold Ak at e e';split at e
 .split at e
  .rename_i n s hn;cases e;split at e'
   .split at e'
    .rename_i n' s' FU;simp only[gn,Prod.mk.injEq] at e';obtain⟨e1,e2⟩:=e'
     have:n'=n:=by omega
     have:s'=s:=by cases s;cases s';simpa using e2
     simp[*]
    .cases e'
   .cases e'
  .cases e
 .cases e
theorem Ke{H:Hp}:∀{ks:List (List Key)} {xs:List (List Key×Addr×Value)} {q:List (Nat×List Nat)},KT H (bO ks) xs->Bd ks=aA q->∃L:List NT,L.map (·.1)=q/\xs.map (λx=>x.2.1)=L.map (·.2)/\∀p∈L,H p.2=aA (.tup [.int p.1.1,.str ⟨p.1.2.toArray⟩])
 |[],xs,q,h,e=>by cases e;cases h;exact⟨[],rfl,rfl,λp hp=>by cases hp⟩
 |k::ks,xs,q,h,e=>by
  obtain⟨n,e1,e2⟩:=aF e;obtain⟨r,e3,rfl⟩:=aT e2;cases h with
  |cons h1 h2=>
   obtain⟨L,l1,l2,l3⟩:=Ke h2 e3;rename_i x xs';refine⟨(n,x.2.1)::L,by rw[am,l1],by rw[am,am,l2],λp hp=>?_⟩;rcases bb.mp hp with z|z
   .rw[z]
    have:=h1.2.1
    rw[show(k,V.bl true).1=k from rfl,RG e1] at this;exact this
   .exact l3 p z
theorem Kc:∀{ks:List (List Key)} {q:List (Nat×List Nat)},ks.Nodup->Bd ks=aA q->q.Nodup/\∀n∈q,∃k∈ks,Ak k=aA n
 |[],q,_,e=>by cases e;exact⟨rq,λn h=>by cases h⟩
 |k::ks,q,nd,e=>by
  obtain⟨n,e1,e2⟩:=aF e;obtain⟨r,e3,rfl⟩:=aT e2;obtain⟨n1,n2⟩:=ng.mp nd;obtain⟨h1,h2⟩:=Kc n2 e3;refine⟨ng.mpr ⟨λz=>?_,h1⟩,λm hm=>?_⟩
  .obtain⟨k',hk,ek⟩:=h2 n z;rw[Tn e1 ek] at n1;exact n1 hk
  .rcases bb.mp hm with z|z
   .rw[z];exact⟨k,by simp,e1⟩
   .obtain⟨k',hk,ek⟩:=h2 m z;exact⟨k',by simp[hk],ek⟩
def QW(hc:X.calm=true):fJ X (.builtin "sorted") (λxs H Q=>∃(a:Addr) (ks:List (List Key)) (qk:List (Nat×List Nat)),xs=[.ref a]/\H a=aA (.dT<|bO ks)/\Bd ks=aA qk/\qk.length<64 /\
  ∀(qs:List NT) l,qs.map (·.1)=rN qk->(∀p∈qs,H p.2=aA (.tup [.int p.1.1,.str ⟨p.1.2.toArray⟩]))->H l=aB->Q (.ref l) (upd H l<|.lst<|(qs.map (·.2)).map V.ref)):=by
 intro pZ s σ H xs us Q I r hq;obtain⟨a,ks,qk,rfl,ha,ek,iD,q⟩:=hq;obtain⟨u,rfl,ru⟩:=nY r;cases ru;obtain⟨hz,hd,xs,kt,o,es,ep,ho,hex,AV,NM,sV,FT⟩:=Kz I.aI ha;obtain⟨L,l1,l2,l3⟩:=Ke kt ek;have Xs:xs.map (·.1)=ks:=by
  have:∀{l:List (List Key×V)} {m:List (List Key×Addr×Value)},KT H l m->m.map (·.1)=l.map (·.1):=by
   intro l m k
   induction k with
   |nil=>rfl
   |@cons p q ps qs h t ih=>rw[am,am,ih,h.1]
  rw[this kt];unfold bO;rw[dm];exact List.map_id _
 rw[Xs] at FT;obtain⟨VX,_⟩:=Kc FT ek;have raw:SP.iG s.heap a es ep:=⟨o,ho,hex,AV⟩;have ll:L.length=qk.length:=by rw[<-l1,ah]
 have F7:es.size=L.length:=by
  have h1:=congrArg oq NM;have h2:=congrArg oq l2;simp only[ah,cw] at h1 h2;omega
 refine gX hc I (λA E R hh h=>kdu_collect (SP.Vn hd) hh raw (by rw[F7,gk];omega) λh' tk acc hk BF=>h acc.toList h' s.drawn tk (List.Perm.of_eq ?_) hk<|I.kept hk) (λp hp=>aM.of<|l3 p hp) (by rw[l1];exact VX) (by omega) λqs l pq pw fr=>q qs l ?_ (λp hp=>l3 p<|pq.mem_iff.mp hp) fr
 .refine yg λj=>?_
  have e1:es.toList.map (·.key)=L.map λq=>Value.ref q.2:=by
   rw[NM,dm]
   have:=congrArg (List.map Value.ref) l2
   rw[dm,dm] at this;exact this
  rw[<-e1,av];by_cases hj:j<acc.size
  .obtain⟨e,he,hv⟩:=BF.2 j acc[j] (by simp[hj]);rw[gf,gf,he];rw[Array.getElem?_eq_getElem hj,hv];rfl
  .rw[ji<|by simpa using hj,ji (by have:=BF.1;simp;omega)];rfl
 .refine Fa _ _ (du.mpr pw) (v8 qk) λy=>?_
  rw[(pq.map (·.1)).mem_iff,l1,qY]
def SA(i:Nat){x:Str}{pn p' pos:Pos}(hc:X.calm=true)(hg:Gl X "sorted")(hm:X.mg "sorted" = aB)(h:PE X (.Name x pn) (ZN i))(hs:bp [.Name x pn] X.env=(false,eval (.Name x pn) X.env)::bp [] X.env:=by rfl):DF X (.Call (.Name "sorted" p') [.Name x pn] [] pos) (C2 i):=by
 refine PE.aH (jH (QW hc) hg hm qo (yN h x8 hs) (he:=hs)) λσ H Q hq=>?_
 obtain⟨O0,r,l,hR,e,q⟩:=hq;unfold C2 at e;split at e
 .rename_i ks er;obtain⟨qk,e1,e⟩:=aF e;split at e
  .rename_i hz;cases e;obtain⟨a,q1,q2⟩:=hR.iK i ks er;refine⟨.ref a,q1,a,ks,qk,rfl,q2,e1,by omega,λqs t eq l3 ht=>?_⟩;have sm:=zW (H:=H) (p:=t) (o:=.lst<|(qs.map (·.2)).map V.ref) ht;refine q t _ _ sm ht zR ?_;rw[<-eq];exact YX qs λp hp=>aM.of<|sm _ _<|l3 p hp
  .cases e
 .cases e
end
def Oj(a:Addr)(ob:Obj)(kvs:List (Key×V)):It:=
 ⟨λi H=>H a=aA (.eG ob<|.dK kvs)/\i<kvs.length,λi H x H'=>H'=H/\∃p,kvs[i]?=aA p/\x=kV p.1,λi H=>H a=aA (.eG ob<|.dK kvs)/\kvs.length=i⟩
def X4{K:Fg}(a it:Addr)(ob:Obj)(kvs:List (Key×V))(es:Array DictEntry)(ep:Nat)(he:ob.data=.dict es ep):Turn P w K tg (Oj a ob kvs) [it] it (λi h=>h.IsKeyIter it a i kvs.length ep) where
 mem:=by simp
 obj:=λi h st b hb=>by
  obtain⟨o,h1,h2,h3⟩:=st;rw[bf.mp hb];exact⟨_,h1,λv z=>by rw[h3] at z;cases z⟩
 keep:=λi h g st kp=>st.at λo e=>kp it (by simp) o e
 item:=by
  intro X hP hw hK hc i pZ s σ H E I hf st hg;subst hP hw hK;obtain⟨ea,eF⟩:=hg;obtain⟨vs,rel,da⟩:=KZ I ea he;have hlen:=KV.length rel;obtain⟨p,hp⟩:∃p,kvs[i]?=aA p:=⟨kvs[i],by simp[eF]⟩;obtain⟨v,hv,rv⟩:=KV.at rel hp;obtain⟨f0,f1,f2,f3,f4,f5⟩:=hf it (by simp);have eJ:s.heap.IsKeyIter it a i vs.length ep:=by rw[<-hlen];exact st
  refine wpAny_pyNext_dict_item eJ da hv λkey h' Eg hit hs=>⟨_,rfl,?_⟩
  obtain⟨o,o1,o2,o3⟩:=id hit;refine E1 o1 o2 o3 (by decide) ⟨kV p.1,H,I.turned (t':=s.toks) (λb o hb e=>hs.extBut b o hb e) f0 f1 f3 f4 f5,K8 Eg,⟨rfl,p,hp,rfl⟩,by rw[hlen];exact hit,λb hb=>?_⟩;rw[bf.mp hb];exact f0
 done:=by
  intro X hP hw hK hc i pZ s σ H E I hf st hg;subst hP hw hK;obtain⟨ea,eF⟩:=hg;obtain⟨vs,rel,da⟩:=KZ I ea he;have hlen:=KV.length rel;obtain⟨f0,f1,f2,f3,f4,f5⟩:=hf it (by simp);have eJ:s.heap.IsKeyIter it a i vs.length ep:=by rw[<-hlen];exact st
  exact wpAny_pyNext_dict_end (I.ok.hd hc) eJ da (by rw[ji];omega) λh' eb=>⟨rfl,I.turned (t':=s.toks) (λb o hb e=>eb b o hb e) f0 f1 f3 f4 f5⟩
 self:=λ_ _ _ _ _ st h=>act st h
section
variable{X:Cx}
def Ta(ho:PE X o to):PI X tg o (λσ H R=>to σ H λx H1=>∃c ob kvs,x=.ref c/\H1 c=aA (.eG ob<|.dK kvs)/\R (Oj c ob kvs) H1):=by
 intro pZ s σ H R I h;refine aK (ho pZ s σ H _ I h) λu s1 ⟨x,H1,I1,rx,c,ob,kvs,ex,ec,q⟩=>?_
 subst ex;obtain rfl:u=Value.ref c:=rx;obtain⟨g,z,hd,vs,rel,dd⟩:=(show d_ X.prog X.w H1 s1.heap c (.eG ob<|.dK kvs) from I1.aI c _ ec);obtain⟨ep,da⟩:=dd.dictAt;obtain⟨o',es,iU,sW,AV,r⟩:=id da;rw[g] at iU;cases iU;have hlen:=KV.length rel;refine wpAny_pyIter_dict hd da ?_;refine⟨_,[_],_,_,H1,rfl,I1.kept (t':=s1.toks) λb o e=>ac _ e,X4 c _ ob kvs es ep AV,⟨_,ax _ rfl,rfl,by rw[hlen];rfl⟩,λb hb=>?_,q⟩;rw[bf.mp hb];exact I1.Ar (al _)<|I1.aI.fresh<|al _
def WV(f:ME):ML:=λr=>(f r).bind λd=>match d with
 |.aJ ks _=>aA<|ks.map B0
 |_=>aB
def Uk{f:ME}(h:DE X a f):DI X tg a (WV f):=by
 refine PI.aH (Ta h) λσ H Rr hq=>?_
 obtain⟨O0,r,ds,hR,e,q⟩:=hq;obtain⟨d,e1,e⟩:=aF e;refine⟨O0,r,d,hR,e1,λv H1 s1 i1=>?_⟩;cases d<;>first|(cases e;done)|skip
 cases e;rw[jP] at i1;obtain⟨c,kvs,rfl,no,⟨ob,ec⟩,rfl,il⟩:=i1;refine⟨c,ob,kvs,rfl,ec,q _ H1 s1 λi H2 O' kp oo=>?_⟩;have N4:=kp _ _ ec λz=>no<|.inr z.own
 refine⟨λhi=>⟨⟨N4,by simpa using hi⟩,λx H' y=>?_⟩,λhi=>⟨N4,by simpa using hi.symm⟩⟩;obtain⟨rfl,p,hp,rfl⟩:=y;refine⟨aC.refl _,λd ed=>?_⟩;rw[av,av,hp] at ed;cases ed;exact LM p.1
end
end DD
namespace K14
open PySem PySem.Spec PyProof.Rows L2 DD
noncomputable def top(i:Nat):Stmt:=PySem.Challenge.pw_fieldrows_k14_named.main.body.getD i<|.Pass ⟨0,0,0,0⟩
noncomputable def WF:Nat:=100000
noncomputable def vS:Nat:=70
noncomputable def vT:Nat:=70
def kZ:MS:=(kM<|zJ (inD false) (zJ aD (zE 0)<|mC<|.int 0)<|qQ<|zB (mC<|.str [114,101,99])<|zB (mC<|.str [111,110,101]) zV)
def xF:MF:=aY 1 1 kZ
def wQ:MS:=(yO (aU (aP<|zJ c_ (zJ aD (zE 0)<|mC<|.int 0)<|mC<|.str [102,117,110])
 (kM<|qD<|xX<|zB (zJ aD (zE 0)<|mC<|.int 1)<|zB (zJ aD (zE 0)<|mC<|.int 2) zV)
 xV)
 (yO (aU (mQ<|yE 1 xF<|zB (zE 0) zV)
 (kM<|qD<|jX [] 1 (aR<|zJ aD (zJ aD (zE 0)<|mC<|.int 1)<|mC<|.int 1) (yV 0)<|zJ aD (zE 0)<|mC<|.int 1)
 xV)
 (kM<|qD<|xX zV)))
def yL:MF:=aY 1 1 wQ
def dI:MS:=(yO (lC 1<|xX zV)
 (yO (lC 2<|xX<|zB (zE 0) zV)
 (yO (jB WF (o8<|c5 2)
 (yO (kH 3<|vW 2)
 (yO (sX<|nA 1<|zE 3)
 (sX<|w_ 2<|aX lY<|yE 1 yL<|zB (zE 3) zV))))
 (gE 1))))
def wV:MF:=aY 1 4 dI
def wT:MS:=(yO (aU (aP<|zJ c_ (zJ aD (zE 0)<|mC<|.int 0)<|mC<|.str [118,97,114])
 (kM<|qD<|xX<|zB (zJ aD (zE 0)<|mC<|.int 1) zV)
 xV)
 (yO (aU (bN (mQ<|yE 1 xF<|zB (zE 0) zV)<|aP<|zJ mP (zJ aD (zJ aD (zE 0)<|mC<|.int 1)<|mC<|.int 2)<|mC .aE)
 (kM<|qD<|xX<|zB (zJ aD (zJ aD (zE 0)<|mC<|.int 1)<|mC<|.int 2) zV)
 xV)
 (kM<|qD<|xX zV)))
def yU:MF:=aY 1 1 wT
def uW:MS:=(yO (C5 1 DN)
 (yO (lC 2<|xX<|zB (zE 0) zV)
 (yO (jB WF (o8<|c5 2)
 (yO (kH 3<|vW 2)
 (aU (mQ<|aX (dG "int")<|zE 3)
 (cQ 1 (zE 3)<|mC<|.bl true)
 (sX<|w_ 2<|aX lY<|zJ qO (yE 1 yL<|zB (zE 3) zV)<|yE 1 yU<|zB (zE 3) zV))))
 (kM<|qD<|EV 1))))
def jD:MF:=aY 1 4 uW
def jO:MS:=(kM<|zJ aD (zE 0)<|mC<|.int 0)
def qX:MF:=aY 1 1 jO
def bF:MS:=(yO (qP 2<|qD<|EX qX<|Aw (aR<|zE 0)<|aR<|zJ aD (zE 1)<|mC<|.int 1)
 (kM<|qQ<|zB (mC<|.str [114,111,119])<|zB (mE<|XV<|zE 2)<|zB (zJ aD (zE 1)<|mC<|.int 2) zV))
def nQ:MF:=aY 2 3 bF
def wR:MS:=(yO (qP 3<|qD<|jX [] 2 (C3 (zJ aD (zE 0)<|mC<|.int 1)<|zE 1) (qA 2<|yH (yV 0)<|yH (yV 1) qL)<|qQ<|zB (zJ aD (zE 0)<|mC<|.int 0)<|zB (zE 1) zV)
 (kM<|yE 2 nQ<|zB (zE 3)<|zB (J8 (m9<|zE 2) (zJ aD (zE 0)<|mC<|.int 2)<|qQ<|zB (mC<|.str [114,111,119])<|zB (qQ zV)<|zB (zJ aD (zE 0)<|mC<|.int 2) zV) zV))
def jL:MF:=aY 3 4 wR
def kY:MS:=(yO (aU (aP<|zJ c_ (zJ aD (zE 0)<|mC<|.int 0)<|mC<|.str [118,97,114])
 (kM<|J8 (m9<|zE 2) (zJ aD (zE 0)<|mC<|.int 1)<|zE 0)
 xV)
 (yO (aU (aP<|zJ c_ (zJ aD (zE 0)<|mC<|.int 0)<|mC<|.str [102,117,110])
 (kM<|qQ<|zB (mC<|.str [102,117,110])<|zB (zJ aD (zE 1)<|mC<|.int 0)<|zB (zJ aD (zE 1)<|mC<|.int 1) zV)
 xV)
 (yO (aU (mQ<|yE 1 xF<|zB (zE 0) zV)
 (kM<|qQ<|zB (zJ aD (zE 0)<|mC<|.int 0)<|zB (yE 3 jL<|zB (zJ aD (zE 0)<|mC<|.int 1)<|zB (zE 1)<|zB (zE 2) zV) zV)
 xV)
 (kM<|zE 0))))
def u7:MF:=aY 3 3 kY
def gR:MS:=(yO (lC 2<|xX zV)
 (yO (k9 (yV 3) (aR<|aX lY<|zE 0)
 (yO (kH 4<|pB 2 2 (aR<|yE 1 yL<|zB (zE 3) zV) (yV 1)<|vW 0)
 (sX<|nA 2<|yE 3 u7<|zB (zE 3)<|zB (zE 4)<|zB (zE 1) zV)))
 (kM<|Jr (c5 2)<|mC<|.int 0)))
def XT:MF:=aY 2 5 gR
def bG:MS:=(kM<|yE 2 XT<|zB (qD<|jC 1 wV<|zB (zE 0) zV)<|zB (zE 1) zV)
def d8:MF:=aY 2 2 bG
def wY:MS:=(yO (lC 1<|xX zV)
 (yO (k9 (yV 2) (aR<|qD<|jC 1 wV<|zB (zE 0) zV)
 (aU (bN (mQ<|yE 1 xF<|zB (zE 2) zV)<|aP<|zJ mP (zJ aD (zJ aD (zE 2)<|mC<|.int 1)<|mC<|.int 2)<|mC .aE)
 (sX<|w_ 1<|qD<|jX [2] 2 (aR<|zJ aD (zJ aD (zE 2)<|mC<|.int 1)<|mC<|.int 1) (yV 1)<|qQ<|zB (zJ aD (zJ aD (zE 0)<|mC<|.int 1)<|mC<|.int 2)<|zB (zJ aD (zE 1)<|mC<|.int 0) zV)
 xV))
 (gE 1)))
def xR:MF:=aY 1 3 wY
def wX:MS:=(yO (C5 1 DN)
 (yO (k9 (yV 2) (aR<|qD<|jC 1 wV<|zB (zE 0) zV)
 (aU (mQ<|yE 1 xF<|zB (zE 2) zV)
 (sX<|CN 1<|WX<|jX [] 1 (aR<|yE 1 yU<|zB (zE 2) zV) (yV 0)<|qQ<|zB (zE 0)<|zB (mC<|.bl true) zV)
 xV))
 (E8 1)))
def wA:MF:=aY 1 3 wX
def kX:MS:=(yO (C5 2 DN)
 (yO (k9 (yV 3) (WV<|zE 0)
 (aU (pA false (zE 3)<|m9<|zE 1)
 (cQ 2 (zE 3)<|qQ<|zB (mC<|.str [114,111,119])<|zB (qQ zV)<|zB (k_ (m9<|zE 0)<|zE 3) zV)
 (cQ 2 (zE 3)<|qQ<|zB (mC<|.str [118,97,114])<|zB (k_ (m9<|zE 0)<|zE 3) zV)))
 (E8 2)))
def qW:MF:=aY 2 4 kX
def gQ:MS:=(yO (C5 2 DN)
 (yO (k9 (qA 2<|yH (yV 3)<|yH (yV 4) qL) (WW<|yE 1 jD<|zB (zE 0) zV)
 (cQ 2 (zE 4)<|zE 3))
 (yO (qP 5<|Ax<|c7 1 wA<|zB (zE 0) zV)
 (yO (Hx 2<|qP 6<|qD<|qR [2,5] 4 (aR<|zJ qO (qD<|aR<|zE 1)<|qD<|jC 1 xR<|zB (zE 0) zV) (qA 2<|yH (yV 2)<|yH (yV 3) qL) (pA false (zE 2)<|m9<|zE 1)<|qQ<|zB (k_ (m9<|zE 0)<|zE 2)<|zB (zE 3) zV)
 (kM<|qQ<|zB (yE 2 d8<|zB (zE 0)<|zB (Ax<|c7 2 qW<|zB (zE 2)<|zB (zE 5) zV) zV)<|zB (qD<|EZ<|XV<|zE 6) zV)))))
def cH:MF:=aY 2 7 gQ
def qE:MS:=(kM<|Bf (aX (dG "int")<|zE 0)<|aX Ju<|aX (dG "bool")<|zE 0)
def xY:MF:=aY 1 1 qE
def x9:MS:=(yO (aU (aP<|zJ Cp (zE 1)<|aX mF<|zE 0)
 (kM<|zJ aD (zE 0)<|zE 1)
 xV)
 (kM<|mC<|.int 0))
def wB:MF:=aY 2 2 x9
def qF:MS:=(yO (qP 2<|zJ qO (zJ sM (mC<|.int 10)<|mC<|.int 30)<|mC<|.int 57)
 (yO (qP 3<|zJ BW (zJ w6 (zE 0)<|zE 2)<|mC<|.int 271828182845904523536028747135)
 (yO (qP 3<|zJ qO (zE 3)<|zJ BW (zJ XU (zE 1)<|zE 1)<|mC<|.int 314159265358979323846264338327)
 (kM<|zJ w6 (zJ qO (zE 3)<|mC<|.int 577215664901532860606512090082)<|zE 2))))
def xO:MF:=aY 2 4 qF
def xZ:MS:=(yO (qP 1<|mC<|.str [97,98,99,100,101,102,103,104,105,106,107,108,109,110,111,112,113,114,115,116,117,118,119,120,121,122])
 (yO (qP 2<|qD<|xX<|GA [[100,101,102],[102,110],[100,111],[101,109,112,116,121],[103,101,116],[119,105,116,104],[112,117,116],[108,101,115,115],[116,97,103],[119,105,100,101],[99,97,115,101],[110,101,118,101,114],[105,102]])
 (yO (qP 3<|zJ qO (mC<|.int 1)<|zJ w6 (zE 0)<|mC<|.int 8)
 (yO (qP 4<|zJ w6 (zJ xJ (zE 0)<|mC<|.int 8)<|zE 3)
 (yO (qP 5<|zJ xJ (zE 0)<|mC<|.int 64)
 (yO (qP 6<|mC<|.str [])
 (yO (k9 (yV 7) (mR<|mC<|.int 8)
 (yO (qP 6<|zJ qO (zE 6)<|zJ aD (zE 1)<|zJ w6 (zE 5)<|mC<|.int 26)
 (qP 5<|zJ xJ (zE 5)<|mC<|.int 26)))
 (yO (lC 8<|xX zV)
 (yO (k9 (yV 7) (mR<|mC<|.int 6)
 (yO (qP 9<|zJ aD (zE 1)<|zJ w6 (zJ qO (zE 5)<|zJ XU (mC<|.int 5)<|zE 7)<|mC<|.int 26)
 (yO (qP 10<|zJ qO (zJ qO (fB (zE 6) mO<|w4<|zE 4)<|zE 9)<|fB (zE 6) (w4<|zJ qO (zE 4)<|mC<|.int 1)<|w4<|zE 3)
 (yO (aU (aP<|zJ c_ (zJ w6 (zJ xJ (zE 5)<|mC<|.int 26)<|mC<|.int 4)<|mC<|.int 1)
 (qP 10<|fB (zE 6) mO<|w4<|zJ BY (mC<|.int 8)<|zE 7)
 xV)
 (yO (aU (aP<|zJ (inD false) (zE 10)<|zE 2)
 (qP 10<|zJ CO (mC<|.str [113])<|aX mF<|zE 10)
 xV)
 (sX<|nA 8<|zE 10))))))
 (gE 8))))))))))
def qM:MF:=aY 1 11 xZ
def wI:MS:=(yO (aU (aP<|zJ c_ (zJ w6 (zE 0)<|mC<|.int 3)<|mC<|.int 0)
 (kM<|qQ<|zB (mC<|.str [110,117,109]) zV)
 xV)
 (kM<|qQ<|zB (mC<|.str [118,97,114])<|zB (zJ qO (zE 1)<|zJ XU (mC<|.int 2)<|zJ w6 (zJ xJ (zE 0)<|mC<|.int 3)<|mC<|.int 5) zV))
def x0:MF:=aY 2 2 wI
def wU:MS:=(yO (qP 3<|EW<|zB (rO<|c5 0)<|zB (zJ w6 (zE 1)<|mC<|.int 4)<|zB (aX mF<|zE 2) zV)
 (yO (lC 4<|xX zV)
 (yO (k9 (yV 5) (mR<|zE 3)
 (sX<|pC 4<|gL<|kN (zJ aD (zE 2)<|zJ w6 (zJ qO (zJ xJ (zE 1)<|mC<|.int 4)<|zE 5)<|aX mF<|zE 2)<|rQ<|vW 0))
 (kM<|mE<|EY<|c5 4))))
def qN:MF:=aY 3 6 wU
def xB:MS:=(yO (qP 4<|zJ w6 (zE 1)<|mC<|.int 8)
 (yO (qP 5<|zJ xJ (zE 1)<|mC<|.int 8)
 (aU (bN (aP<|zJ c_ (zE 4)<|mC<|.int 3)<|aP<|zJ sY (rO<|c5 0)<|mC<|.int 1)
 (yO (kH 6<|vW 0)
 (sX<|pC 0<|gL<|kN (mC<|.str [102,117,110])<|YL (vW 0)<|zB (zE 6) zV))
 (aU (aP<|zJ sY (zE 4)<|mC<|.int 3)
 (yO (qP 7<|zJ aD (qD<|xX<|zB (mC .aE)<|zB (mC .aE)<|zB (zJ qO (zJ qO (zE 3)<|mC<|.int 1)<|zJ XU (mC<|.int 2)<|zJ w6 (zJ xJ (zE 5)<|mC<|.int 3)<|mC<|.int 4) zV)<|zJ w6 (zE 5)<|mC<|.int 3)
 (yO (kH 8<|c6 3 qN 0<|zP<|zB (zJ xJ (zE 5)<|mC<|.int 12)<|zB (zE 2) zV)
 (sX<|nA 0<|qQ<|zB (zJ aD (qD<|xX<|zB (mC<|.str [114,101,99])<|zB (mC<|.str [111,110,101]) zV)<|zJ w6 (zE 4)<|mC<|.int 2)<|zB (qQ<|zB (mC<|.str [114,111,119])<|zB (zE 8)<|zB (zE 7) zV) zV)))
 (sX<|nA 0<|yE 2 x0<|zB (zE 5)<|zB (zE 3) zV)))))
def xS:MF:=aY 4 9 xB
def qV:MS:=(yO (lC 3<|xX zV)
 (yO (k9 (qA 2<|yH (yV 4)<|yH (yV 5) qL) (WW<|zE 0)
 (sX<|c6 4 xS 3<|zP<|zB (yE 2 xO<|zB (zE 5)<|zB (zJ qO (zE 4)<|mC<|.int 3) zV)<|zB (zE 1)<|zB (zE 2) zV))
 (yO (jB WF (aP<|zJ sY (rO<|c5 3)<|mC<|.int 1)
 (yO (kH 6<|vW 3)
 (sX<|pC 3<|gL<|kN (mC<|.str [102,117,110])<|YL (vW 3)<|zB (zE 6) zV)))
 (kM<|zJ aD (qD<|Aw (c5 3)<|xX<|zB (yE 2 x0<|zB (aX mF<|zE 1)<|zB (zE 2) zV) zV)<|mC<|.int 0))))
def wP:MF:=aY 3 7 qV
def xC(m:MF):MS:=(yO (aU (bN (aP<|zJ c_ (zJ aD (zE 0)<|mC<|.int 0)<|mC<|.str [118,97,114])<|Bg true (zJ aD (zE 0)<|mC<|.int 1)<|c5 1)
 (sX<|nA 1<|zJ aD (zE 0)<|mC<|.int 1)
 xV)
 (yO (aU (aP<|zJ c_ (zJ aD (zE 0)<|mC<|.int 0)<|mC<|.str [102,117,110])
 (yO (sX<|uO 3 m 1 2<|zB (zJ aD (zE 0)<|mC<|.int 1) zV)
 (sX<|uO 3 m 1 2<|zB (zJ aD (zE 0)<|mC<|.int 2) zV))
 xV)
 (aU (sL (aP<|zJ c_ (zJ aD (zE 0)<|mC<|.int 0)<|mC<|.str [114,101,99])<|aP<|zJ c_ (zJ aD (zE 0)<|mC<|.int 0)<|mC<|.str [111,110,101])
 (yO (k9 (qA 2<|yH (yV 3)<|yH (yV 4) qL) (aR<|zJ aD (zJ aD (zE 0)<|mC<|.int 1)<|mC<|.int 1)
 (yO (sX<|uO 3 m 1 2<|zB (zE 4) zV)
 (sX<|nA 2<|qQ<|zB (zJ aD (zJ aD (zE 0)<|mC<|.int 1)<|mC<|.int 2)<|zB (zE 3) zV)))
 (yO (sX<|nA 2<|qQ<|zB (zJ aD (zJ aD (zE 0)<|mC<|.int 1)<|mC<|.int 2)<|zB (mC<|.str []) zV)
 (aU (bN (aP<|zJ mP (zJ aD (zJ aD (zE 0)<|mC<|.int 1)<|mC<|.int 2)<|mC .aE)<|Bg true (zJ aD (zJ aD (zE 0)<|mC<|.int 1)<|mC<|.int 2)<|c5 1)
 (sX<|nA 1<|zJ aD (zJ aD (zE 0)<|mC<|.int 1)<|mC<|.int 2)
 xV)))
 xV)))
def xN:Nat->MF
 |0=>λ_=>aB
 |k+1=>aY 3 5<|xC<|xN k
def yW(m:MF):MS:=(yO (aU (aP<|zJ c_ (zJ aD (zE 0)<|mC<|.int 0)<|mC<|.str [110,117,109])
 (kM<|zE 0)
 xV)
 (yO (aU (aP<|zJ c_ (zJ aD (zE 0)<|mC<|.int 0)<|mC<|.str [118,97,114])
 (kM<|qQ<|zB (mC<|.str [118,97,114])<|zB (o9 (XV<|zE 1)<|zJ aD (zE 0)<|mC<|.int 1) zV)
 xV)
 (yO (aU (aP<|zJ c_ (zJ aD (zE 0)<|mC<|.int 0)<|mC<|.str [102,117,110])
 (kM<|qQ<|zB (mC<|.str [102,117,110])<|zB (yE 2 m<|zB (zJ aD (zE 0)<|mC<|.int 1)<|zB (zE 1) zV)<|zB (yE 2 m<|zB (zJ aD (zE 0)<|mC<|.int 2)<|zB (zE 1) zV) zV)
 xV)
 (yO (qP 2<|zJ aD (zJ aD (zE 0)<|mC<|.int 1)<|mC<|.int 2)
 (yO (aU (aP<|zJ mP (zE 2)<|mC .aE)
 (qP 2<|o9 (XV<|zE 1)<|zE 2)
 xV)
 (yO (qP 3<|mE<|jX [1] 3 (aR<|zJ aD (zJ aD (zE 0)<|mC<|.int 1)<|mC<|.int 1) (qA 2<|yH (yV 1)<|yH (yV 2) qL)<|qQ<|zB (zE 1)<|zB (yE 2 m<|zB (zE 2)<|zB (zE 0) zV) zV)
 (kM<|qQ<|zB (zJ aD (zE 0)<|mC<|.int 0)<|zB (qQ<|zB (mC<|.str [114,111,119])<|zB (zE 3)<|zB (zE 2) zV) zV)))))))
def xP:Nat->MF
 |0=>λ_=>aB
 |k+1=>aY 2 4<|yW<|xP k
def qG:MS:=(yO (lC 3<|xX zV)
 (yO (k9 (yV 4) (mR<|zJ w6 (zE 0)<|mC<|.int 9)
 (yO (qP 5<|zJ w6 (zJ xJ (zJ xJ (zE 0)<|mC<|.int 9)<|zJ qO (mC<|.int 1)<|zJ XU (zE 4)<|zE 4)<|mC<|.int 12)
 (sX<|nA 3<|qQ<|zB (zJ qO (zE 2)<|zE 5)<|zB (zJ aD (zE 1)<|zJ w6 (zJ qO (zJ xJ (zE 0)<|mC<|.int 108)<|zJ XU (zE 4)<|zJ w6 (zJ xJ (zE 0)<|mC<|.int 648)<|mC<|.int 5)<|mC<|.int 6) zV)))
 (Bi 3<|kM<|zJ qO (zE 3)<|fB (zE 3) mO<|w4<|zJ w6 (zJ xJ (zE 0)<|mC<|.int 50)<|mC<|.int 2)))
def wO:MF:=aY 3 6 qG
def qU:MS:=(yO (aU (sL (WU<|mQ<|aX (dG "tuple")<|zE 0)<|sL (aP<|zJ Co (aX mF<|zE 0)<|mC<|.int 2)<|aP<|zJ (neN 400) (zE 0)<|zE 1)
 (kM<|mC<|.bl false)
 xV)
 (yO (aU (WU<|mQ<|aX (dG "list")<|zJ aD (zE 0)<|mC<|.int 1)
 (kM<|mC<|.bl false)
 xV)
 (kM<|Gz<|jX [] 1 (aR<|zJ aD (zE 0)<|mC<|.int 1) (yV 0)<|Bf (aX (dG "tuple")<|zE 0)<|yE 1 xY<|zB (zJ aD (zE 0)<|mC<|.int 0) zV)))
def wM:MF:=aY 2 2 qU
def CZ:MS:=(yO (qP 1<|qD<|jC 1 qM<|zB (yE 2 xO<|zB (yE 2 wB<|zB (zE 0)<|zB (mC<|.int 0) zV)<|zB (mC<|.int 0) zV) zV)
 (yO (qP 2<|yE 2 xO<|zB (yE 2 wB<|zB (zE 0)<|zB (mC<|.int 1) zV)<|zB (mC<|.int 1) zV)
 (yO (qP 3<|zJ aD (qD<|xX<|zB (mC<|.int 0)<|zB (zJ w6 (zJ xJ (zE 2)<|mC<|.int 2)<|zJ sM (mC<|.int 10)<|mC<|.int 15) zV)<|zJ w6 (zE 2)<|mC<|.int 2)
 (yO (qP 4<|zJ qO (zJ aD (qD<|xX<|zB (mC<|.int 1)<|zB (mC<|.int 9)<|zB (zJ sM (mC<|.int 10)<|mC<|.int 20) zV)<|zJ w6 (zJ xJ (zE 2)<|mC<|.int 7)<|mC<|.int 3)<|zE 3)
 (yO (qP 5<|yE 3 wP<|zB (fB (zE 0) (w4<|mC<|.int 3)<|w4<|mC<|.int 63)<|zB (zE 1)<|zB (zE 3) zV)
 (yO (qP 6<|yE 2 xO<|zB (yE 2 wB<|zB (zE 0)<|zB (mC<|.int 2) zV)<|zB (mC<|.int 2) zV)
 (yO (qP 7<|yE 3 wO<|zB (zE 6)<|zB (zE 1)<|zB (zE 3) zV)
 (yO (lC 8<|xX zV)
 (yO (lC 9<|xX zV)
 (yO (sX<|uO 3 (xN vS) 8 9<|zB (zE 5) zV)
 (Bi 9 (Bi 8 (yO (GS 10)
 (yO (k9 (qA 2<|yH (yV 11)<|yH (yV 12) qL) (aR<|zE 9)
 (aU (bN (aP<|zJ mP (zE 11)<|mC .aE)<|aP<|zJ Co (zE 12)<|mC<|.str [])
 (WE 10<|zB (o9 (XV<|zE 8)<|zE 11)<|zB (zE 12) zV)
 xV))
 (yO (k9 (qA 2<|yH (yV 13)<|yH (yV 12) qL) (aR<|zE 7)
 (aU (BS false (qQ<|zB (zE 13)<|zB (mC<|.str []) zV)<|XV<|zE 9)
 (WE 10<|zB (o9 (XV<|zE 8)<|zE 13)<|zB (zE 12) zV)
 xV))
 (yO (qP 14<|qD<|aR<|zE 7)
 (yO (qP 15<|qQ<|zB (yE 2 (xP vT)<|zB (zE 5)<|zB (zE 8) zV)<|zB (qD<|C2 10) zV)
 (yO (aU (sL (WU<|mQ<|yE 2 wM<|zB (yE 2 cH<|zB (zE 5)<|zB (zE 14) zV)<|zB (zE 15) zV)<|aP<|zJ (neN 400) (zE 14)<|zE 7)
 (kM<|mC<|.bl false)
 xV)
 (kM<|yE 2 wM<|zB (yE 2 cH<|zB (yE 3 wP<|zB (fB (zE 0) (w4<|mC<|.int 3)<|w4<|mC<|.int 63)<|zB (zE 1)<|zB (zE 4) zV)<|zB (yE 3 wO<|zB (zE 6)<|zB (zE 1)<|zB (zE 4) zV) zV)<|zB (zE 15) zV)))))))))))))))))))
def XS:MF:=aY 1 16 CZ
structure De(K:Fg)(mg:Str->Option Value)(n:Str)(i:Nat)(ps:List Str) where
 a:Addr
 d:FuncData
 F:BQ K n n (top i) a d
 m:mg n=aA (.ref a)
 b:Binds K d ps []
abbrev Ok(P:Program)(w:World){K:Fg}{mg:Str->Option Value}(base:Heap){n:Str}{i:Nat}{ps:List Str}(D:De K mg n i ps)(k m:Nat)(F:MF):Prop:=fP P w K mg base h_ k D.a D.d ps<|fQ K m F
set_option genInjectivity false in
set_option genSizeOf false in
structure Txt(K:Fg)(mg:Str->Option Value) where
 fV:De K mg "has_row" 1 ["kind"]
 l9:De K mg "straight_in" 2 ["kind"]
 l8:De K mg "within" 3 ["K"]
 AJ:De K mg "own_numbers" 5 ["kind"]
 Dl:De K mg "numbers" 4 ["K"]
 Fu:De K mg "label_of" 11 ["field"]
 Dj:De K mg "joined" 10 ["fields", "row"]
 Ds:De K mg "rebuilt_row" 9 ["row", "inner", "filling"]
 Dk:De K mg "rebuilt" 8 ["kind", "inner", "filling"]
 Dh:De K mg "built" 7 ["found", "filling"]
 Di:De K mg "filled" 6 ["K", "filling"]
 Dv:De K mg "lacks_within" 12 ["K"]
 Du:De K mg "tails_within" 15 ["K"]
 Dm:De K mg "renaming" 16 ["names", "tails"]
 AD:De K mg "named" 14 ["K", "lacks"]
 Dp:De K mg "_law_whole" 18 ["_law_found"]
 l_:De K mg "_law_cell_at" 19 ["_law_script", "_law_k"]
 iN:De K mg "_law_mixed" 20 ["_law_cell", "_law_k"]
 Dr:De K mg "_law_labels" 21 ["_law_number"]
 AG:De K mg "_law_leaf" 22 ["_law_number", "_law_base"]
 Dq:De K mg "_law_fields" 23 ["_law_pile", "_law_number", "_law_labels_here"]
 Dt:De K mg "_law_stepped" 24 ["_law_pile", "_law_number", "_law_labels_here", "_law_base"]
 AF:De K mg "_law_kind" 25 ["_law_cells", "_law_labels_here", "_law_base"]
 iM:De K mg "_law_noted" 26 ["_law_told", "_law_order", "_law_tails"]
 iL:De K mg "_law_again" 27 ["_law_told", "_law_order"]
 AI:De K mg "_law_lacks" 28 ["_law_number", "_law_labels_here", "_law_base"]
 AE:De K mg "_law_same" 29 ["_law_found", "_law_due"]
 MU:De K mg "law" 30 ["_law_script"]
 HH:mg "all" = aB
 HJ:mg "bool" = aB
 HI:mg "dict" = aB
 Fv:mg "enumerate" = aB
 Fo:mg "int" = aB
 AH:mg "isinstance" = aB
 l7:mg "len" = aB
 AC:mg "list" = aB
 HG:mg "min" = aB
 Ce:mg "range" = aB
 HF:mg "set" = aB
 Cg:mg "sorted" = aB
 Bt:mg "tuple" = aB
 HE:mg "zip" = aB
section
variable{P:Program}{w:World}{K:Fg}{mg:Str->Option Value}{base:Heap}
def eQ{N P:List Str}{sc:Scope}(a:sc.kind=.function:=by rfl)(b:sc.isCoroutine=false:=by rfl)(c:sc.isGenerator=false:=by rfl)(d:N.Nodup:=by decide +kernel)(e:N.take P.length=P:=by rfl)(f:∀x∈P,sc.names.lookup x=aA .local\/sc.names.lookup x=aA .cell:=by decide +kernel)(g:∀y∈sc.names,y.2≠.free:=by decide +kernel):eE N P sc:=⟨a,b,c,d,e,f,g⟩
def rZ:eE ["kind"] ["kind"] (zZ<|top 1):=eQ
def jM(T:Txt K mg):Ok P w base T.fV 1 1 xF:=by
 refine dJ T.fV.F rZ 1 1 rfl rfl (g:=kZ) λaS A outer s H E hr=>?_;unfold kZ;exact(by refine zS ?_;exact(by refine yX ?_;exact(PZ oT (Kg false) (yI (zA 0<|pv 0) zI) (by refine xM ?_;exact(by refine zC (y0 (s:=[114,101,99])<|by rfl) ?_ (hs:=yP);refine zC (y0 (s:=[111,110,101])<|by rfl) ?_ (hs:=yP);exact zN)) rfl)))
def bP:eE ["kind"] ["kind"] (zZ<|top 2):=eQ
def qZ(T:Txt K mg):Ok P w base T.l9 2 1 yL:=by
 refine dJ T.l9.F bP 1 1 rfl rfl (g:=wQ) λaS A outer s H E hr=>?_;unfold wQ;exact(by refine zK ?_ ?_;exact(w8 (xK (jV hr.f6) jW (yI (zA 0<|pv 0) zI) (y0 (s:=[102,117,110])<|by rfl)<|xU _) (by refine zS ?_;exact(by refine yX ?_;exact(by refine mT ?_;exact(by refine wL ?_;exact(by refine zC (yI (zA 0<|pv 0) zI) ?_ (hs:=kD);refine zC (yI (zA 0<|pv 0) zI) ?_ (hs:=kD);exact zN))))) xW);exact(by refine zK ?_ ?_;exact(w8 (bV<|yJ (jM T) (hr.mono<|by decide) (by rfl) T.fV.m T.fV.F.kp T.fV.b<|zC (zA 0<|pv 0) zN (hs:=yA)) (by refine zS ?_;exact(by refine yX ?_;exact(by refine mT ?_;exact(gV (N':=["field"]) (cap:=[]) rfl d0 (kB<|yI (yI (zA 0<|pv 0) zI) zI) (λ_ _ _ _=>(yQ 0 (show(["field"]:List Str).Nodup by decide +kernel))) (λ_ _ _ _=>by exact(by refine yI ?_ ?_;exact(zA 0<|pv 0);exact zI)) 1)))) xW);exact(by refine zS ?_;exact(by refine yX ?_;exact(by refine mT ?_;exact(by refine wL ?_;exact zN))))))
def Fq:eE ["K", "found", "waiting", "kind"] ["K"] (zZ<|top 3):=eQ
def cV(T:Txt K mg):Ok P w base T.l8 3 1 wV:=by
 refine dJ T.l8.F Fq 1 4 rfl rfl (g:=dI) λaS A outer s H E hr=>?_;unfold dI;exact(by refine zK ?_ ?_;exact(vY 1 (by refine wL ?_;exact zN) Fq.nd);exact(by refine zK ?_ ?_;exact(vY 2 (by refine wL ?_;exact(zC (zA 0<|pv 0) zN (hs:=yA))) Fq.nd);exact(by refine zK ?_ ?_;exact(nJ WF gm (Mq<|u2 2<|pv 2) (by refine zK ?_ ?_;exact(gU 3 (dP 2<|pv 2) Fq.nd);exact(by refine zK ?_ ?_;exact(pS<|wK 1 (pv 1)<|zA 3<|pv 3);exact(by refine zS ?_;exact(pS<|dQ 2 (pv 2)<|GZ<|yJ (qZ T) (hr.mono<|by decide) (by rfl) T.l9.m T.l9.F.kp T.l9.b<|zC (zA 3<|pv 3) zN (hs:=yA))))));exact(by refine zS ?_;exact(dW 1<|pv 1)))))
def bQ:eE ["kind"] ["kind"] (zZ<|top 5):=eQ
def kI(T:Txt K mg):Ok P w base T.AJ 2 1 yU:=by
 refine dJ T.AJ.F bQ 1 1 rfl rfl (g:=wT) λaS A outer s H E hr=>?_;unfold wT;exact(by refine zK ?_ ?_;exact(w8 (xK (jV hr.f6) jW (yI (zA 0<|pv 0) zI) (y0 (s:=[118,97,114])<|by rfl)<|xU _) (by refine zS ?_;exact(by refine yX ?_;exact(by refine mT ?_;exact(by refine wL ?_;exact(zC (yI (zA 0<|pv 0) zI) zN (hs:=kD)))))) xW);exact(by refine zK ?_ ?_;exact(w8 (Ac<|pQ (bV<|yJ (jM T) (hr.mono<|by decide) (by rfl) T.fV.m T.fV.F.kp T.fV.b<|zC (zA 0<|pv 0) zN (hs:=yA))<|cC<|xK gH gI (yI (yI (zA 0<|pv 0) zI) zI) mH<|xU _) (by refine zS ?_;exact(by refine yX ?_;exact(by refine mT ?_;exact(by refine wL ?_;exact(zC (yI (yI (zA 0<|pv 0) zI) zI) zN (hs:=kD)))))) xW);exact(by refine zS ?_;exact(by refine yX ?_;exact(by refine mT ?_;exact(by refine wL ?_;exact zN))))))
def Ft:eE ["K", "found", "waiting", "part"] ["K"] (zZ<|top 4):=eQ
def tO(T:Txt K mg):Ok P w base T.Dl 3 1 jD:=by
 refine dJ T.Dl.F Ft 1 4 rfl rfl (g:=uW) λaS A outer s H E hr=>?_;unfold uW;exact(by refine zK ?_ ?_;exact(pT 1 QN Ft.nd);exact(by refine zK ?_ ?_;exact(vY 2 (by refine wL ?_;exact(zC (zA 0<|pv 0) zN (hs:=yA))) Ft.nd);exact(by refine zK ?_ ?_;exact(nJ WF gm (Mq<|u2 2<|pv 2) (by refine zK ?_ ?_;exact(gU 3 (dP 2<|pv 2) Ft.nd);exact(by refine zS ?_;exact(w8 (bV<|jY (by rfl) T.AH (zA 3<|pv 3)<|b7 (by rfl) T.Fo boot_int rfl) (by refine zS ?_;exact(by refine pU 1 (Ad hr) (pv 1) ?_ ?_;exact(zA 3<|pv 3);exact CY)) (by refine zS ?_;exact(pS<|dQ 2 (pv 2)<|GZ<|zU xG xH (yJ (qZ T) (hr.mono<|by decide) (by rfl) T.l9.m T.l9.F.kp T.l9.b<|zC (zA 3<|pv 3) zN (hs:=yA))<|yJ (kI T) (hr.mono<|by decide) (by rfl) T.AJ.m T.AJ.F.kp T.AJ.b<|zC (zA 3<|pv 3) zN (hs:=yA)))))));exact(by refine zS ?_;exact(by refine yX ?_;exact(by refine mT ?_;exact(Sz 1 rfl (by rfl) T.AC<|pv 1)))))))
def oD:eE ["field"] ["field"] (zZ<|top 11):=eQ
def oV(T:Txt K mg):Ok P w base T.Fu 1 1 qX:=by
 refine dJ T.Fu.F oD 1 1 rfl rfl (g:=jO) λaS A outer s H E hr=>?_;unfold jO;exact(by refine zS ?_;exact(by refine yX ?_;exact(yI (zA 0<|pv 0) zI)))
def MV:eE ["fields", "row", "together"] ["fields", "row"] (zZ<|top 10):=eQ
def WP(T:Txt K mg):Ok P w base T.Dj 4 2 nQ:=by
 refine dJ T.Dj.F MV 2 3 rfl rfl (g:=bF) λaS A outer s H E hr=>?_;unfold bF;exact(by refine zK ?_ ?_;exact(y8 2 (by refine mT ?_;exact(Uj rfl (oV T) (eD.in1<|eD.in1<|hr.mono<|by decide) (by rfl) T.Fu.m T.Fu.b (by rfl) T.Cg (by refine Av ?_;exact(K7 (by refine Av ?_;exact(uY (by rfl) T.AC<|zA 0<|pv 0)) (by refine Av ?_;exact(uY (by rfl) T.AC<|yI (zA 1<|pv 1) zI)))))) MV.nd);exact(by refine zS ?_;exact(by refine yX ?_;exact(by refine xM ?_;exact(by refine zC (y0 (s:=[114,111,119])<|by rfl) ?_ (hs:=yP);refine zC (bK (by rfl) T.Bt<|Bb<|zA 2<|pv 2) ?_ (hs:=xT);refine zC (yI (zA 1<|pv 1) zI) ?_ (hs:=kD);exact zN)))))
def MW:eE ["row", "inner", "filling", "fields"] ["row", "inner", "filling"] (zZ<|top 9):=eQ
def bR(T:Txt K mg):Ok P w base T.Ds 5 3 jL:=by
 refine dJ T.Ds.F MW 3 4 rfl rfl (g:=wR) λaS A outer s H E hr=>?_;unfold wR;exact(by refine zK ?_ ?_;exact(So 3 (N':=["field", "kind"]) (cap:=[]) rfl d0 (Sn (by rfl) T.HE (yI (zA 0<|pv 0) zI)<|zA 1<|pv 1) (λ_ _ _ _=>(dY rfl<|xL (yQ 0 (show(["field", "kind"]:List Str).Nodup by decide +kernel))<|xL (yQ 1 (show(["field", "kind"]:List Str).Nodup by decide +kernel)) vP)) (λ_ _ _ _=>by exact(by refine xM ?_;exact(by refine zC ?_ ?_;exact(by refine yI ?_ ?_;exact(zA 0<|pv 0);exact zI);refine zC ?_ ?_;exact(zA 1<|pv 1);exact zN))) 2 MW.nd);exact(by refine zS ?_;exact(by refine yX ?_;exact(yJ (WP T) (hr.mono<|by decide) (by rfl) T.Dj.m T.Dj.F.kp T.Dj.b (by refine zC (zA 3<|pv 3) ?_ (hs:=yA);refine zC (by refine LO ?_ ?_ ?_;exact(Bc<|zA 2<|pv 2);exact(yI (zA 0<|pv 0) zI);exact(by refine xM ?_;exact(by refine zC (y0 (s:=[114,111,119])<|by rfl) ?_ (hs:=yP);refine zC (by refine xM ?_;exact zN) ?_ (hs:=ZR);refine zC (yI (zA 0<|pv 0) zI) ?_ (hs:=kD);exact zN))) ?_ (hs:=xT);exact zN)))))
def rY:eE ["kind", "inner", "filling"] ["kind", "inner", "filling"] (zZ<|top 8):=eQ
def tN(T:Txt K mg):Ok P w base T.Dk 6 3 u7:=by
 refine dJ T.Dk.F rY 3 3 rfl rfl (g:=kY) λaS A outer s H E hr=>?_;unfold kY;exact(by refine zK ?_ ?_;exact(w8 (xK (jV hr.f6) jW (yI (zA 0<|pv 0) zI) (y0 (s:=[118,97,114])<|by rfl)<|xU _) (by refine zS ?_;exact(by refine yX ?_;exact(by refine LO ?_ ?_ ?_;exact(Bc<|zA 2<|pv 2);exact(yI (zA 0<|pv 0) zI);exact(zA 0<|pv 0)))) xW);exact(by refine zK ?_ ?_;exact(w8 (xK (jV hr.f6) jW (yI (zA 0<|pv 0) zI) (y0 (s:=[102,117,110])<|by rfl)<|xU _) (by refine zS ?_;exact(by refine yX ?_;exact(by refine xM ?_;exact(by refine zC (y0 (s:=[102,117,110])<|by rfl) ?_ (hs:=yP);refine zC (yI (zA 1<|pv 1) zI) ?_ (hs:=kD);refine zC (yI (zA 1<|pv 1) zI) ?_ (hs:=kD);exact zN)))) xW);exact(by refine zK ?_ ?_;exact(w8 (bV<|yJ (jM T) (hr.mono<|by decide) (by rfl) T.fV.m T.fV.F.kp T.fV.b<|zC (zA 0<|pv 0) zN (hs:=yA)) (by refine zS ?_;exact(by refine yX ?_;exact(by refine xM ?_;exact(by refine zC (yI (zA 0<|pv 0) zI) ?_ (hs:=kD);refine zC (yJ (bR T) (hr.mono<|by decide) (by rfl) T.Ds.m T.Ds.F.kp T.Ds.b (by refine zC (yI (zA 0<|pv 0) zI) ?_ (hs:=kD);refine zC (zA 1<|pv 1) ?_ (hs:=yA);refine zC (zA 2<|pv 2) ?_ (hs:=yA);exact zN)) ?_ (hs:=xT);exact zN)))) xW);exact(by refine zS ?_;exact(by refine yX ?_;exact(zA 0<|pv 0))))))
def Fp:eE ["found", "filling", "made", "kind", "inner"] ["found", "filling"] (zZ<|top 7):=eQ
def UA(T:Txt K mg):Ok P w base T.Dh 7 2 XT:=by
 refine dJ T.Dh.F Fp 2 5 rfl rfl (g:=gR) λaS A outer s H E hr=>?_;unfold gR;exact(by refine zK ?_ ?_;exact(vY 2 (by refine wL ?_;exact zN) Fp.nd);exact(by refine zK ?_ ?_;exact(j9 gm rfl (kB<|GZ<|zA 0<|pv 0) (yQ 3 Fp.nd) (by refine zK ?_ ?_;exact(by refine Um 4 (N':=["made", "part"]) (i:=2) rfl d0 ?_ ?_ ?_ Tg 2<|id Fp.nd;exact(kB<|yJ (qZ T) (hr.mono<|by decide) (by rfl) T.l9.m T.l9.F.kp T.l9.b<|zC (zA 3<|pv 3) zN (hs:=yA));exact(λ_ _ _ _=>(yQ 1 (show(["made", "part"]:List Str).Nodup by decide +kernel)));exact(λ_ _ _ _=>by exact(dP 0<|pv 0)));exact(by refine zS ?_;exact(pS<|wK 2 (pv 2)<|yJ (tN T) (hr.mono<|by decide) (by rfl) T.Dk.m T.Dk.F.kp T.Dk.b (by refine zC (zA 3<|pv 3) ?_ (hs:=yA);refine zC (zA 4<|pv 4) ?_ (hs:=yA);refine zC (zA 1<|pv 1) ?_ (hs:=yA);exact zN)))));exact(by refine zS ?_;exact(by refine yX ?_;exact(P4 (u2 2<|pv 2) zI)))))
def WD:eE ["K", "filling"] ["K", "filling"] (zZ<|top 6):=eQ
def WQ(T:Txt K mg):Ok P w base T.Di 8 2 d8:=by
 refine dJ T.Di.F WD 2 2 rfl rfl (g:=bG) λaS A outer s H E hr=>?_;unfold bG;exact(by refine zS ?_;exact(by refine yX ?_;exact(yJ (UA T) (hr.mono<|by decide) (by rfl) T.Dh.m T.Dh.F.kp T.Dh.b (by refine zC (by refine mT ?_;exact(gW (cV T) (hr.mono<|by decide) (by rfl) T.l8.m T.l8.F.kp T.l8.b<|zC (zA 0<|pv 0) zN (hs:=yA))) ?_ (hs:=xT);refine zC (zA 1<|pv 1) ?_ (hs:=yA);exact zN))))
def HN:eE ["K", "found", "kind"] ["K"] (zZ<|top 12):=eQ
def uH(T:Txt K mg):Ok P w base T.Dv 4 1 xR:=by
 refine dJ T.Dv.F HN 1 3 rfl rfl (g:=wY) λaS A outer s H E hr=>?_;unfold wY;exact(by refine zK ?_ ?_;exact(vY 1 (by refine wL ?_;exact zN) HN.nd);exact(by refine zK ?_ ?_;exact(j9 gm rfl (kB (by refine mT ?_;exact(gW (cV T) (hr.mono<|by decide) (by rfl) T.l8.m T.l8.F.kp T.l8.b<|zC (zA 0<|pv 0) zN (hs:=yA)))) (yQ 2 HN.nd) (by refine zS ?_;exact(w8 (Ac<|pQ (bV<|yJ (jM T) (hr.mono<|by decide) (by rfl) T.fV.m T.fV.F.kp T.fV.b<|zC (zA 2<|pv 2) zN (hs:=yA))<|cC<|xK gH gI (yI (yI (zA 2<|pv 2) zI) zI) mH<|xU _) (by refine zS ?_;exact(pS<|dQ 1 (pv 1) (by refine mT ?_;exact(gV (N':=["kind", "field"]) (cap:=[2]) rfl d0 (kB<|yI (yI (zA 2<|pv 2) zI) zI) (λ_ _ _ _=>(yQ 1 (show(["kind", "field"]:List Str).Nodup by decide +kernel))) (λ_ _ _ _=>by exact(by refine xM ?_;exact(by refine zC ?_ ?_;exact(by refine yI ?_ ?_;exact(by refine yI ?_ ?_;exact(zA 0<|pv 0);exact zI);exact zI);refine zC ?_ ?_;exact(by refine yI ?_ ?_;exact(zA 1<|pv 1);exact zI);exact zN))) 2)))) xW)));exact(by refine zS ?_;exact(dW 1<|pv 1))))
def HM:eE ["K", "tails", "kind"] ["K"] (zZ<|top 15):=eQ
def uG(T:Txt K mg):Ok P w base T.Du 4 1 wA:=by
 refine dJ T.Du.F HM 1 3 rfl rfl (g:=wX) λaS A outer s H E hr=>?_;unfold wX;exact(by refine zK ?_ ?_;exact(pT 1 QN HM.nd);exact(by refine zK ?_ ?_;exact(j9 gm rfl (kB (by refine mT ?_;exact(gW (cV T) (hr.mono<|by decide) (by rfl) T.l8.m T.l8.F.kp T.l8.b<|zC (zA 0<|pv 0) zN (hs:=yA)))) (yQ 2 HM.nd) (by refine zS ?_;exact(w8 (bV<|yJ (jM T) (hr.mono<|by decide) (by rfl) T.fV.m T.fV.F.kp T.fV.b<|zC (zA 2<|pv 2) zN (hs:=yA)) (by refine zS ?_;exact(pS<|QO 1 (pv 1)<|Ur rfl (by rfl) T.HI (by refine Av ?_;exact(gV (N':=["number"]) (cap:=[]) rfl d0 (kB<|yJ (kI T) (hr.mono<|by decide) (by rfl) T.AJ.m T.AJ.F.kp T.AJ.b<|zC (zA 2<|pv 2) zN (hs:=yA)) (λ_ _ _ _=>(yQ 0 (show(["number"]:List Str).Nodup by decide +kernel))) (λ_ _ _ _=>by exact(by refine xM ?_;exact(by refine zC ?_ ?_;exact(zA 0<|pv 0);refine zC ?_ ?_;exact CY;exact zN))) 1)))) xW)));exact(by refine zS ?_;exact(Mn 1<|pv 1))))
def HK:eE ["names", "tails", "filling", "number"] ["names", "tails"] (zZ<|top 16):=eQ
def oU(T:Txt K mg):Ok P w base T.Dm 1 2 qW:=by
 refine dJ T.Dm.F HK 2 4 rfl rfl (g:=kX) λaS A outer s H E hr=>?_;unfold kX;exact(by refine zK ?_ ?_;exact(pT 2 QN HK.nd);exact(by refine zK ?_ ?_;exact(j9 gm rfl (Uk<|zA 0<|pv 0) (yQ 3 HK.nd) (by refine zS ?_;exact(w8 (Mp (zA 3<|pv 3)<|Bc<|zA 1<|pv 1) (by refine zS ?_;exact(by refine pU 2 (Ad hr) (pv 2) ?_ ?_;exact(zA 3<|pv 3);exact(by refine xM ?_;exact(by refine zC (y0 (s:=[114,111,119])<|by rfl) ?_ (hs:=yP);refine zC (by refine xM ?_;exact zN) ?_ (hs:=ZR);refine zC (GY (Ad hr) (Bc<|zA 0<|pv 0)<|zA 3<|pv 3) ?_ (hs:=kD);exact zN)))) (by refine zS ?_;exact(by refine pU 2 (Ad hr) (pv 2) ?_ ?_;exact(zA 3<|pv 3);exact(by refine xM ?_;exact(by refine zC (y0 (s:=[118,97,114])<|by rfl) ?_ (hs:=yP);refine zC (GY (Ad hr) (Bc<|zA 0<|pv 0)<|zA 3<|pv 3) ?_ (hs:=kD);exact zN)))))));exact(by refine zS ?_;exact(Mn 2<|pv 2))))
def Cf:eE ["K", "lacks", "names", "name", "number", "tails", "kept"] ["K", "lacks"] (zZ<|top 14):=eQ
def YG(T:Txt K mg):Ok P w base T.AD 9 2 cH:=by
 refine dJ T.AD.F Cf 2 7 rfl rfl (g:=gQ) λaS A outer s H E hr=>?_;unfold gQ;exact(by refine zK ?_ ?_;exact(pT 2 QN Cf.nd);exact(by refine zK ?_ ?_;exact(j9 gm rfl (Ml (by rfl) T.Fv<|yJ (tO T) (hr.mono<|by decide) (by rfl) T.Dl.m T.Dl.F.kp T.Dl.b<|zC (zA 0<|pv 0) zN (hs:=yA)) (dY rfl<|xL (yQ 3 Cf.nd)<|xL (yQ 4 Cf.nd) vP) (by refine zS ?_;exact(by refine pU 2 (Ad hr) (pv 2) ?_ ?_;exact(zA 4<|pv 4);exact(zA 3<|pv 3))));exact(by refine zK ?_ ?_;exact(y8 5 (Kw<|LW (uG T) (hr.mono<|by decide) (by rfl) T.Du.m T.Du.F.kp T.Du.b<|zC (zA 0<|pv 0) zN (hs:=yA)) Cf.nd);exact(by refine zK ?_ ?_;exact(O4 2<|QP 6 (N':=["names", "tails", "number", "label"]) (cap:=[2,5]) rfl d0 (kB<|zU xG xH (by refine mT ?_;exact(uY (by rfl) T.AC<|zA 1<|pv 1)) (by refine mT ?_;exact(gW (uH T) (hr.mono<|by decide) (by rfl) T.Dv.m T.Dv.F.kp T.Dv.b<|zC (zA 0<|pv 0) zN (hs:=yA)))) (λ_ _ _ _=>(dY rfl<|xL (yQ 2 (show(["names", "tails", "number", "label"]:List Str).Nodup by decide +kernel))<|xL (yQ 3 (show(["names", "tails", "number", "label"]:List Str).Nodup by decide +kernel)) vP)) (λ_ _ _ _=>by exact(Mp (zA 2<|pv 2)<|Bc<|zA 1<|pv 1)) (λ_ _ _ _=>by exact(by refine xM ?_;exact(by refine zC ?_ ?_;exact(GY (Ad hr) (Bc<|zA 0<|pv 0)<|zA 2<|pv 2);refine zC ?_ ?_;exact(zA 3<|pv 3);exact zN))) 4 Cf.nd);exact(by refine zS ?_;exact(by refine yX ?_;exact(by refine xM ?_;exact(by refine zC (yJ (WQ T) (hr.mono<|by decide) (by rfl) T.Di.m T.Di.F.kp T.Di.b (by refine zC (zA 0<|pv 0) ?_ (hs:=yA);refine zC (Kw<|LW (oU T) (hr.mono<|by decide) (by rfl) T.Dm.m T.Dm.F.kp T.Dm.b (by refine zC (zA 2<|pv 2) ?_ (hs:=yA);refine zC (zA 5<|pv 5) ?_ (hs:=yA);exact zN)) ?_ (hs:=xT);exact zN)) ?_ (hs:=xT);refine zC (by refine mT ?_;exact(SE rfl (Hk hr) (by rfl) T.Cg (by rfl) T.HF<|Bb<|zA 6<|pv 6)) ?_ (hs:=xT);exact zN))))))))
def cP:eE ["_law_found"] ["_law_found"] (zZ<|top 18):=eQ
def cW(T:Txt K mg):Ok P w base T.Dp 1 1 xY:=by
 refine dJ T.Dp.F cP 1 1 rfl rfl (g:=qE) λaS A outer s H E hr=>?_;unfold qE;exact(by refine zS ?_;exact(by refine yX ?_;exact(K4 (jY (by rfl) T.AH (zA 0<|pv 0)<|b7 (by rfl) T.Fo boot_int rfl)<|K5<|P5<|jY (by rfl) T.AH (zA 0<|pv 0)<|b7 (by rfl) T.HJ boot_bool rfl)))
def uD:eE ["_law_script", "_law_k"] ["_law_script", "_law_k"] (zZ<|top 19):=eQ
def qJ(T:Txt K mg):Ok P w base T.l_ 1 2 wB:=by
 refine dJ T.l_.F uD 2 2 rfl rfl (g:=x9) λaS A outer s H E hr=>?_;unfold x9;exact(by refine zK ?_ ?_;exact(w8 (xK Qz Qt (zA 1<|pv 1) (pX (by rfl) T.l7<|zA 0<|pv 0)<|xU _) (by refine zS ?_;exact(by refine yX ?_;exact(yI (zA 0<|pv 0)<|zA 1<|pv 1))) xW);exact(by refine zS ?_;exact(by refine yX ?_;exact zI)))
def Fy:eE ["_law_cell", "_law_k", "_law_big", "_law_number"] ["_law_cell", "_law_k"] (zZ<|top 20):=eQ
def qI(T:Txt K mg):Ok P w base T.iN 1 2 xO:=by
 refine dJ T.iN.F Fy 2 4 rfl rfl (g:=qF) λaS A outer s H E hr=>?_;unfold qF;exact(by refine zK ?_ ?_;exact(y8 2 (zU xG xH (zU Ha G' zI zI) zI) Fy.nd);exact(by refine zK ?_ ?_;exact(y8 3 (zU JT JY (zU wC wD (zA 0<|pv 0)<|zA 2<|pv 2) zI) Fy.nd);exact(by refine zK ?_ ?_;exact(y8 3 (zU xG xH (zA 3<|pv 3)<|zU JT JY (zU oR oX (zA 1<|pv 1)<|zA 1<|pv 1) zI) Fy.nd);exact(by refine zS ?_;exact(by refine yX ?_;exact(zU wC wD (zU xG xH (zA 3<|pv 3) zI)<|zA 2<|pv 2))))))
def f7:eE ["_law_number", "_law_letters", "_law_kept", "_law_long", "_law_place", "_law_rest", "_law_base", "_law_k", "_law_found", "_law_sign", "_law_word"] ["_law_number"] (zZ<|top 21):=eQ
def bS(T:Txt K mg):Ok P w base T.Dr 1 1 qM:=by
 refine dJ T.Dr.F f7 1 11 rfl rfl (g:=xZ) λaS A outer s H E hr=>?_;unfold xZ;exact(by refine zK ?_ ?_;exact(y8 1 (y0 (s:=[97,98,99,100,101,102,103,104,105,106,107,108,109,110,111,112,113,114,115,116,117,118,119,120,121,122])<|by rfl) f7.nd);exact(by refine zK ?_ ?_;exact(by refine y8 2 ?_ ?_ ?_ ?_ ?_ ?_;exact(by refine mT ?_;exact(by refine wL ?_;exact(by refine LN (ss:=[[100,101,102],[102,110],[100,111],[101,109,112,116,121],[103,101,116],[119,105,116,104],[112,117,116],[108,101,115,115],[116,97,103],[119,105,100,101],[99,97,115,101],[110,101,118,101,114],[105,102]]) ?_;rfl)));exact(id f7.nd);rfl;(first|exact Or.inl rfl|exact Or.inr rfl);rfl;(first|exact Or.inl rfl|exact Or.inr rfl));exact(by refine zK ?_ ?_;exact(y8 3 (zU xG xH zI<|zU wC wD (zA 0<|pv 0) zI) f7.nd);exact(by refine zK ?_ ?_;exact(y8 4 (zU wC wD (zU wF wG (zA 0<|pv 0) zI)<|zA 3<|pv 3) f7.nd);exact(by refine zK ?_ ?_;exact(y8 5 (zU wF wG (zA 0<|pv 0) zI) f7.nd);exact(by refine zK ?_ ?_;exact(y8 6 (y0 (s:=[])<|by rfl) f7.nd);exact(by refine zK ?_ ?_;exact(j9 gm rfl (pW (by rfl) T.Ce zI) (yQ 7 f7.nd) (by refine zK ?_ ?_;exact(y8 6 (zU xG xH (zA 6<|pv 6)<|yI (zA 1<|pv 1)<|zU wC wD (zA 5<|pv 5) zI) f7.nd);exact(by refine zS ?_;exact(y8 5 (zU wF wG (zA 5<|pv 5) zI) f7.nd))));exact(by refine zK ?_ ?_;exact(vY 8 (by refine wL ?_;exact zN) f7.nd);exact(by refine zK ?_ ?_;exact(j9 gm rfl (pW (by rfl) T.Ce zI) (yQ 7 f7.nd) (by refine zK ?_ ?_;exact(y8 9 (yI (zA 1<|pv 1)<|zU wC wD (zU xG xH (zA 5<|pv 5)<|zU oR oX zI<|zA 7<|pv 7) zI) f7.nd);exact(by refine zK ?_ ?_;exact(y8 10 (zU xG xH (zU xG xH (B2 (zA 6<|pv 6) XA<|kJ<|zA 4<|pv 4)<|zA 9<|pv 9)<|B2 (zA 6<|pv 6) (kJ<|zU xG xH (zA 4<|pv 4) zI)<|kJ<|zA 3<|pv 3) f7.nd);exact(by refine zK ?_ ?_;exact(w8 (xK (jV hr.f6) jW (zU wC wD (zU wF wG (zA 5<|pv 5) zI) zI) zI<|xU _) (by refine zS ?_;exact(y8 10 (B2 (zA 6<|pv 6) XA<|kJ<|zU Rc Qu zI<|zA 7<|pv 7) f7.nd)) xW);exact(by refine zK ?_ ?_;exact(w8 (xK oT (Kg false) (zA 10<|pv 10) (zA 2<|pv 2) rfl) (by refine zS ?_;exact(y8 10 (zU S3 To (y0 (s:=[113])<|by rfl)<|pX (by rfl) T.l7<|zA 10<|pv 10) f7.nd)) xW);exact(by refine zS ?_;exact(pS<|wK 8 (pv 8)<|zA 10<|pv 10)))))));exact(by refine zS ?_;exact(dW 8<|pv 8)))))))))))
def hV:eE ["_law_number", "_law_base"] ["_law_number", "_law_base"] (zZ<|top 22):=eQ
def uK(T:Txt K mg):Ok P w base T.AG 1 2 x0:=by
 refine dJ T.AG.F hV 2 2 rfl rfl (g:=wI) λaS A outer s H E hr=>?_;unfold wI;exact(by refine zK ?_ ?_;exact(w8 (xK (jV hr.f6) jW (zU wC wD (zA 0<|pv 0) zI) zI<|xU _) (by refine zS ?_;exact(by refine yX ?_;exact(by refine xM ?_;exact(zC (y0 (s:=[110,117,109])<|by rfl) zN (hs:=yP))))) xW);exact(by refine zS ?_;exact(by refine yX ?_;exact(by refine xM ?_;exact(by refine zC (y0 (s:=[118,97,114])<|by rfl) ?_ (hs:=yP);refine zC (zU xG xH (zA 1<|pv 1)<|zU oR oX zI<|zU wC wD (zU wF wG (zA 0<|pv 0) zI) zI) ?_ (hs:=ZS);exact zN)))))
def FA:eE ["_law_pile", "_law_number", "_law_labels_here", "_law_many", "_law_fields_here", "_law_k"] ["_law_pile", "_law_number", "_law_labels_here"] (zZ<|top 23):=eQ
def bT(T:Txt K mg):Ok P w base T.Dq 1 3 qN:=by
 refine dJ T.Dq.F FA 3 6 rfl rfl (g:=wU) λaS A outer s H E hr=>?_;unfold wU;exact(by refine zK ?_ ?_;exact(y8 3 (Sy (by rfl) (by rfl) T.HG (by refine zC (XB (by rfl) T.l7<|u2 0<|pv 0) ?_ (hs:=xT);refine zC (zU wC wD (zA 1<|pv 1) zI) ?_ (hs:=ZS);refine zC (pX (by rfl) T.l7<|zA 2<|pv 2) ?_ (hs:=xT);exact zN)) FA.nd);exact(by refine zK ?_ ?_;exact(vY 4 (by refine wL ?_;exact zN) FA.nd);exact(by refine zK ?_ ?_;exact(j9 gm rfl (pW (by rfl) T.Ce<|zA 3<|pv 3) (yQ 5 FA.nd) (by refine zS ?_;exact(pS<|bJ 4 (pv 4)<|G4<|nI (yI (zA 2<|pv 2)<|zU wC wD (zU xG xH (zU wF wG (zA 1<|pv 1) zI)<|zA 5<|pv 5)<|pX (by rfl) T.l7<|zA 2<|pv 2)<|Uq<|dP 0<|pv 0)));exact(by refine zS ?_;exact(by refine yX ?_;exact(bK (by rfl) T.Bt (by refine Av ?_;exact(SD (by rfl) T.Cg<|u2 4<|pv 4))))))))
def Ci:eE ["_law_pile", "_law_number", "_law_labels_here", "_law_base", "_law_way", "_law_rest", "_law_last", "_law_tail", "_law_fields_here"] ["_law_pile", "_law_number", "_law_labels_here", "_law_base"] (zZ<|top 24):=eQ
def uI(T:Txt K mg):Ok P w base T.Dt 2 4 xS:=by
 refine dJ T.Dt.F Ci 4 9 rfl rfl (g:=xB) λaS A outer s H E hr=>?_;unfold xB;exact(by refine zK ?_ ?_;exact(y8 4 (zU wC wD (zA 1<|pv 1) zI) Ci.nd);exact(by refine zK ?_ ?_;exact(y8 5 (zU wF wG (zA 1<|pv 1) zI) Ci.nd);exact(by refine zS ?_;exact(w8 (Ac<|pQ (xK (jV hr.f6) jW (zA 4<|pv 4) zI<|xU _)<|cC<|xK GQ GP (XB (by rfl) T.l7<|u2 0<|pv 0) zI<|xU _) (by refine zK ?_ ?_;exact(gU 6 (dP 0<|pv 0) Ci.nd);exact(by refine zS ?_;exact(pS<|bJ 0 (pv 0)<|G4<|nI (y0 (s:=[102,117,110])<|by rfl)<|LS (dP 0<|pv 0)<|zC (zA 6<|pv 6) zN (hs:=yA)))) (by refine zS ?_;exact(w8 (xK GQ GP (zA 4<|pv 4) zI<|xU _) (by refine zK ?_ ?_;exact(by refine y8 7 ?_ ?_ ?_ ?_ ?_ ?_;exact(by refine yI ?_ ?_;exact(by refine mT ?_;exact(by refine wL ?_;exact(by refine zC mH ?_ (hs:=yP);refine zC mH ?_ (hs:=yP);refine zC (zU xG xH (zU xG xH (zA 3<|pv 3) zI)<|zU oR oX zI<|zU wC wD (zU wF wG (zA 5<|pv 5) zI) zI) ?_ (hs:=ZS);exact zN)));exact(zU wC wD (zA 5<|pv 5) zI));exact(id Ci.nd);rfl;(first|exact Or.inl rfl|exact Or.inr rfl);rfl;(first|exact Or.inl rfl|exact Or.inr rfl));exact(by refine zK ?_ ?_;exact(gU 8 (Ms (bT T) (hr.mono<|by decide) (by rfl) T.Dq.m T.Dq.F.kp T.Dq.b<|I_ (pv 0) (by refine zC (zU wF wG (zA 5<|pv 5) zI) ?_ (hs:=ZS);refine zC (zA 2<|pv 2) ?_ (hs:=yA);exact zN)) Ci.nd);exact(by refine zS ?_;exact(pS<|wK 0 (pv 0) (by refine xM ?_;exact(by refine zC ?_ ?_;exact(by refine yI ?_ ?_;exact(by refine mT ?_;exact(by refine wL ?_;exact(by refine zC (y0 (s:=[114,101,99])<|by rfl) ?_ (hs:=yP);refine zC (y0 (s:=[111,110,101])<|by rfl) ?_ (hs:=yP);exact zN)));exact(zU wC wD (zA 4<|pv 4) zI));refine zC ?_ ?_;exact(by refine xM ?_;exact(by refine zC (y0 (s:=[114,111,119])<|by rfl) ?_ (hs:=yP);refine zC (zA 8<|pv 8) ?_ (hs:=yA);refine zC (zA 7<|pv 7) ?_ (hs:=yA);exact zN));exact zN)))))) (by refine zS ?_;exact(pS<|wK 0 (pv 0)<|yJ (uK T) (hr.mono<|by decide) (by rfl) T.AG.m T.AG.F.kp T.AG.b (by refine zC (zA 5<|pv 5) ?_ (hs:=yA);refine zC (zA 3<|pv 3) ?_ (hs:=yA);exact zN)))))))))
def Do:eE ["_law_cells", "_law_labels_here", "_law_base", "_law_pile", "_law_k", "_law_cell", "_law_last"] ["_law_cells", "_law_labels_here", "_law_base"] (zZ<|top 25):=eQ
def uL(T:Txt K mg):Ok P w base T.AF 3 3 wP:=by
 refine dJ T.AF.F Do 3 7 rfl rfl (g:=qV) λaS A outer s H E hr=>?_;unfold qV;exact(by refine zK ?_ ?_;exact(vY 3 (by refine wL ?_;exact zN) Do.nd);exact(by refine zK ?_ ?_;exact(j9 gm rfl (Ml (by rfl) T.Fv<|zA 0<|pv 0) (dY rfl<|xL (yQ 4 Do.nd)<|xL (yQ 5 Do.nd) vP) (by refine zS ?_;exact(pS<|Ms (uI T) (hr.mono<|by decide) (by rfl) T.Dt.m T.Dt.F.kp T.Dt.b<|I_ (pv 3) (by refine zC (yJ (qI T) (hr.mono<|by decide) (by rfl) T.iN.m T.iN.F.kp T.iN.b (by refine zC (zA 5<|pv 5) ?_ (hs:=yA);refine zC (zU xG xH (zA 4<|pv 4) zI) ?_ (hs:=ZS);exact zN)) ?_ (hs:=xT);refine zC (zA 1<|pv 1) ?_ (hs:=yA);refine zC (zA 2<|pv 2) ?_ (hs:=yA);exact zN))));exact(by refine zK ?_ ?_;exact(nJ WF gm (xK GQ GP (XB (by rfl) T.l7<|u2 3<|pv 3) zI<|xU _) (by refine zK ?_ ?_;exact(gU 6 (dP 3<|pv 3) Do.nd);exact(by refine zS ?_;exact(pS<|bJ 3 (pv 3)<|G4<|nI (y0 (s:=[102,117,110])<|by rfl)<|LS (dP 3<|pv 3)<|zC (zA 6<|pv 6) zN (hs:=yA)))));exact(by refine zS ?_;exact(by refine yX ?_;exact(yI (by refine mT ?_;exact(K7 (u2 3<|pv 3) (by refine Av ?_;exact(by refine wL ?_;exact(zC (yJ (uK T) (hr.mono<|by decide) (by rfl) T.AG.m T.AG.F.kp T.AG.b (by refine zC (pX (by rfl) T.l7<|zA 1<|pv 1) ?_ (hs:=xT);refine zC (zA 2<|pv 2) ?_ (hs:=yA);exact zN)) zN (hs:=xT)))))) zI))))))
def HL:eE ["_law_told", "_law_order", "_law_tails", "_law_label", "_law_held"] ["_law_told", "_law_order", "_law_tails"] (zZ<|top 26):=eQ
theorem vF:∀(k:Nat) (T:Txt K mg),Ok P w base T.iM (k+0) 3 (xN k)
 |0,T=>Jo 3
 |k+1,T=>by
  have G:=vF k T;rw[show k+1+0=(k+0)+1 by omega];refine dJ T.iM.F HL 3 5 rfl rfl (g:=xC<|xN k) λaS A outer s H E hr=>?_;unfold xC;exact(by refine zK ?_ ?_;exact(w8 (Ac<|pQ (xK (jV hr.f6) jW (yI (zA 0<|pv 0) zI) (y0 (s:=[118,97,114])<|by rfl)<|xU _)<|cC<|pR (yI (zA 0<|pv 0) zI)<|u2 1<|pv 1) (by refine zS ?_;exact(pS<|wK 1 (pv 1)<|yI (zA 0<|pv 0) zI)) xW);exact(by refine zK ?_ ?_;exact(w8 (xK (jV hr.f6) jW (yI (zA 0<|pv 0) zI) (y0 (s:=[102,117,110])<|by rfl)<|xU _) (by refine zK ?_ ?_;exact(pS<|dR G (hr.mono<|by omega) (by rfl) T.iM.m T.iM.F.kp T.iM.b<|dO (yI (zA 0<|pv 0) zI)<|pP (pv 1)<|pv 2);exact(by refine zS ?_;exact(pS<|dR G (hr.mono<|by omega) (by rfl) T.iM.m T.iM.F.kp T.iM.b<|dO (yI (zA 0<|pv 0) zI)<|pP (pv 1)<|pv 2))) xW);exact(by refine zS ?_;exact(w8 (Ac<|EO (xK (jV hr.f6) jW (yI (zA 0<|pv 0) zI) (y0 (s:=[114,101,99])<|by rfl)<|xU _)<|G3<|xK (jV hr.f6) jW (yI (zA 0<|pv 0) zI) (y0 (s:=[111,110,101])<|by rfl)<|xU _) (by refine zK ?_ ?_;exact(j9 gm rfl (kB<|yI (yI (zA 0<|pv 0) zI) zI) (dY rfl<|xL (yQ 3 HL.nd)<|xL (yQ 4 HL.nd) vP) (by refine zK ?_ ?_;exact(pS<|dR G (hr.mono<|by omega) (by rfl) T.iM.m T.iM.F.kp T.iM.b<|dO (zA 4<|pv 4)<|pP (pv 1)<|pv 2);exact(by refine zS ?_;exact(pS<|wK 2 (pv 2) (by refine xM ?_;exact(by refine zC (yI (yI (zA 0<|pv 0) zI) zI) ?_ (hs:=kD);refine zC (zA 3<|pv 3) ?_ (hs:=yA);exact zN))))));exact(by refine zK ?_ ?_;exact(pS<|wK 2 (pv 2) (by refine xM ?_;exact(by refine zC (yI (yI (zA 0<|pv 0) zI) zI) ?_ (hs:=kD);refine zC (y0 (s:=[])<|by rfl) ?_ (hs:=yP);exact zN)));exact(by refine zS ?_;exact(w8 (Ac<|pQ (xK gH gI (yI (yI (zA 0<|pv 0) zI) zI) mH<|xU _)<|cC<|pR (yI (yI (zA 0<|pv 0) zI) zI)<|u2 1<|pv 1) (by refine zS ?_;exact(pS<|wK 1 (pv 1)<|yI (yI (zA 0<|pv 0) zI) zI)) xW)))) xW))))
def Fx:eE ["_law_told", "_law_order", "_law_tail", "_law_fields_here"] ["_law_told", "_law_order"] (zZ<|top 27):=eQ
theorem vH:∀(k:Nat) (T:Txt K mg),Ok P w base T.iL (k+0) 2 (xP k)
 |0,T=>Jo 2
 |k+1,T=>by
  have G:=vH k T;rw[show k+1+0=(k+0)+1 by omega];refine dJ T.iL.F Fx 2 4 rfl rfl (g:=yW<|xP k) λaS A outer s H E hr=>?_;unfold yW;exact(by refine zK ?_ ?_;exact(w8 (xK (jV hr.f6) jW (yI (zA 0<|pv 0) zI) (y0 (s:=[110,117,109])<|by rfl)<|xU _) (by refine zS ?_;exact(by refine yX ?_;exact(zA 0<|pv 0))) xW);exact(by refine zK ?_ ?_;exact(w8 (xK (jV hr.f6) jW (yI (zA 0<|pv 0) zI) (y0 (s:=[118,97,114])<|by rfl)<|xU _) (by refine zS ?_;exact(by refine yX ?_;exact(by refine xM ?_;exact(by refine zC (y0 (s:=[118,97,114])<|by rfl) ?_ (hs:=yP);refine zC (uZ (Bb<|zA 1<|pv 1)<|yI (zA 0<|pv 0) zI) ?_ (hs:=xT);exact zN)))) xW);exact(by refine zK ?_ ?_;exact(w8 (xK (jV hr.f6) jW (yI (zA 0<|pv 0) zI) (y0 (s:=[102,117,110])<|by rfl)<|xU _) (by refine zS ?_;exact(by refine yX ?_;exact(by refine xM ?_;exact(by refine zC (y0 (s:=[102,117,110])<|by rfl) ?_ (hs:=yP);refine zC (yJ G (hr.mono<|by omega) (by rfl) T.iL.m T.iL.F.kp T.iL.b (by refine zC (yI (zA 0<|pv 0) zI) ?_ (hs:=kD);refine zC (zA 1<|pv 1) ?_ (hs:=yA);exact zN)) ?_ (hs:=xT);refine zC (yJ G (hr.mono<|by omega) (by rfl) T.iL.m T.iL.F.kp T.iL.b (by refine zC (yI (zA 0<|pv 0) zI) ?_ (hs:=kD);refine zC (zA 1<|pv 1) ?_ (hs:=yA);exact zN)) ?_ (hs:=xT);exact zN)))) xW);exact(by refine zK ?_ ?_;exact(y8 2 (yI (yI (zA 0<|pv 0) zI) zI) Fx.nd);exact(by refine zK ?_ ?_;exact(w8 (xK gH gI (zA 2<|pv 2) mH<|xU _) (by refine zS ?_;exact(y8 2 (uZ (Bb<|zA 1<|pv 1)<|zA 2<|pv 2) Fx.nd)) xW);exact(by refine zK ?_ ?_;exact(y8 3 (bK (by rfl) T.Bt (by refine Av ?_;exact(gV (N':=["_law_order", "_law_label", "_law_held"]) (cap:=[1]) rfl d0 (kB<|yI (yI (zA 0<|pv 0) zI) zI) (λ_ _ _ _=>(dY rfl<|xL (yQ 1 (show(["_law_order", "_law_label", "_law_held"]:List Str).Nodup by decide +kernel))<|xL (yQ 2 (show(["_law_order", "_law_label", "_law_held"]:List Str).Nodup by decide +kernel)) vP)) (λ_ _ _ _=>by exact(by refine xM ?_;exact(by refine zC ?_ ?_;exact(zA 1<|pv 1);refine zC ?_ ?_;exact(yJ G (hr.mono<|by omega) (by rfl) T.iL.m T.iL.F.kp T.iL.b (by refine zC ?_ ?_;exact(zA 2<|pv 2);refine zC ?_ ?_;exact(zA 0<|pv 0);exact zN));exact zN))) 3))) Fx.nd);exact(by refine zS ?_;exact(by refine yX ?_;exact(by refine xM ?_;exact(by refine zC (yI (zA 0<|pv 0) zI) ?_ (hs:=kD);refine zC (by refine xM ?_;exact(by refine zC (y0 (s:=[114,111,119])<|by rfl) ?_ (hs:=yP);refine zC (zA 3<|pv 3) ?_ (hs:=yA);refine zC (zA 2<|pv 2) ?_ (hs:=yA);exact zN)) ?_ (hs:=ZR);exact zN))))))))))
def Fw:eE ["_law_number", "_law_labels_here", "_law_base", "_law_lacks_here", "_law_k", "_law_place"] ["_law_number", "_law_labels_here", "_law_base"] (zZ<|top 28):=eQ
def vG(T:Txt K mg):Ok P w base T.AI 1 3 wO:=by
 refine dJ T.AI.F Fw 3 6 rfl rfl (g:=qG) λaS A outer s H E hr=>?_;unfold qG;exact(by refine zK ?_ ?_;exact(vY 3 (by refine wL ?_;exact zN) Fw.nd);exact(by refine zK ?_ ?_;exact(j9 gm rfl (pW (by rfl) T.Ce<|zU wC wD (zA 0<|pv 0) zI) (yQ 4 Fw.nd) (by refine zK ?_ ?_;exact(y8 5 (zU wC wD (zU wF wG (zU wF wG (zA 0<|pv 0) zI)<|zU xG xH zI<|zU oR oX (zA 4<|pv 4)<|zA 4<|pv 4) zI) Fw.nd);exact(by refine zS ?_;exact(pS<|wK 3 (pv 3) (by refine xM ?_;exact(by refine zC (zU xG xH (zA 2<|pv 2)<|zA 5<|pv 5) ?_ (hs:=ZS);refine zC (yI (zA 1<|pv 1)<|zU wC wD (zU xG xH (zU wF wG (zA 0<|pv 0) zI)<|zU oR oX (zA 4<|pv 4)<|zU wC wD (zU wF wG (zA 0<|pv 0) zI) zI) zI) ?_ (hs:=kD);exact zN))))));exact(G1 3 (by refine zS ?_;exact(by refine yX ?_;exact(zU xG xH (zA 3<|pv 3)<|B2 (zA 3<|pv 3) XA<|kJ<|zU wC wD (zU wF wG (zA 0<|pv 0) zI) zI))))))
def hI:eE ["_law_found", "_law_due"] ["_law_found", "_law_due"] (zZ<|top 29):=eQ
def uJ(T:Txt K mg):Ok P w base T.AE 17 2 wM:=by
 refine dJ T.AE.F hI 2 2 rfl rfl (g:=qU) λaS A outer s H E hr=>?_;unfold qU;exact(by refine zK ?_ ?_;exact(w8 (Ac<|EO (G2<|bV<|jY (by rfl) T.AH (zA 0<|pv 0)<|b7 (by rfl) T.Bt boot_tuple rfl)<|EO (xK (Ld hr.f6) Lk (pX (by rfl) T.l7<|zA 0<|pv 0) zI<|xU _)<|G3<|xK (Le (n:=400)<|KA hr<|by decide) Ll (zA 0<|pv 0) (zA 1<|pv 1)<|xU _) (by refine zS ?_;exact(by refine yX ?_;exact CY)) xW);exact(by refine zK ?_ ?_;exact(w8 (G2<|bV<|jY (by rfl) T.AH (yI (zA 0<|pv 0) zI)<|b7 (by rfl) T.AC boot_list rfl) (by refine zS ?_;exact(by refine yX ?_;exact CY)) xW);exact(by refine zS ?_;exact(by refine yX ?_;exact(PY (by rfl) T.HH (by refine Av ?_;exact(gV (N':=["_law_pair"]) (cap:=[]) rfl d0 (kB<|yI (zA 0<|pv 0) zI) (λ_ _ _ _=>(yQ 0 (show(["_law_pair"]:List Str).Nodup by decide +kernel))) (λ_ _ _ _=>by exact(K4 (jY (by rfl) (by exact T.AH) (zA 0<|pv 0)<|b7 (by rfl) (by exact T.Bt) boot_tuple rfl)<|K5<|yJ (cW T) (hr.mono<|by decide) (by rfl) T.Dp.m T.Dp.F.kp T.Dp.b (by refine zC ?_ ?_;exact(by refine yI ?_ ?_;exact(zA 0<|pv 0);exact zI);exact zN))) 1)))))))
def fU:eE ["_law_script", "_law_labels_here", "_law_number", "_law_base", "_law_other", "_law_told", "_law_many", "_law_lacks_here", "_law_order", "_law_tails", "_law_wanted", "_law_tail", "_law_label", "_law_place", "_law_handed", "_law_due"] ["_law_script"] (zZ<|top 30):=eQ
def Qw(T:Txt K mg):Ok P w base T.MU 91 1 XS:=by
 refine dJ T.MU.F fU 1 16 rfl rfl (g:=CZ) λaS A outer s H E hr=>?_;unfold CZ;exact(by refine zK ?_ ?_;exact(y8 1 (by refine mT ?_;exact(gW (bS T) (hr.mono<|by decide) (by rfl) T.Dr.m T.Dr.F.kp T.Dr.b<|zC (yJ (qI T) (hr.mono<|by decide) (by rfl) T.iN.m T.iN.F.kp T.iN.b (by refine zC (yJ (qJ T) (hr.mono<|by decide) (by rfl) T.l_.m T.l_.F.kp T.l_.b (by refine zC (zA 0<|pv 0) ?_ (hs:=yA);refine zC zI ?_ (hs:=yP);exact zN)) ?_ (hs:=xT);refine zC zI ?_ (hs:=yP);exact zN)) zN (hs:=xT))) fU.nd);exact(by refine zK ?_ ?_;exact(y8 2 (yJ (qI T) (hr.mono<|by decide) (by rfl) T.iN.m T.iN.F.kp T.iN.b (by refine zC (yJ (qJ T) (hr.mono<|by decide) (by rfl) T.l_.m T.l_.F.kp T.l_.b (by refine zC (zA 0<|pv 0) ?_ (hs:=yA);refine zC zI ?_ (hs:=yP);exact zN)) ?_ (hs:=xT);refine zC zI ?_ (hs:=yP);exact zN)) fU.nd);exact(by refine zK ?_ ?_;exact(by refine y8 3 ?_ ?_ ?_ ?_ ?_ ?_;exact(by refine yI ?_ ?_;exact(by refine mT ?_;exact(by refine wL ?_;exact(by refine zC zI ?_ (hs:=yP);refine zC (zU wC wD (zU wF wG (zA 2<|pv 2) zI)<|zU Ha G' zI zI) ?_ (hs:=ZS);exact zN)));exact(zU wC wD (zA 2<|pv 2) zI));exact(id fU.nd);rfl;(first|exact Or.inl rfl|exact Or.inr rfl);rfl;(first|exact Or.inl rfl|exact Or.inr rfl));exact(by refine zK ?_ ?_;exact(by refine y8 4 ?_ ?_ ?_ ?_ ?_ ?_;exact(zU xG xH (by refine yI ?_ ?_;exact(by refine mT ?_;exact(by refine wL ?_;exact(by refine zC zI ?_ (hs:=yP);refine zC zI ?_ (hs:=yP);refine zC (zU Ha G' zI zI) ?_ (hs:=ZS);exact zN)));exact(zU wC wD (zU wF wG (zA 2<|pv 2) zI) zI))<|zA 3<|pv 3);exact(id fU.nd);rfl;(first|exact Or.inl rfl|exact Or.inr rfl);rfl;(first|exact Or.inl rfl|exact Or.inr rfl));exact(by refine zK ?_ ?_;exact(y8 5 (yJ (uL T) (hr.mono<|by decide) (by rfl) T.AF.m T.AF.F.kp T.AF.b (by refine zC (B2 (zA 0<|pv 0) (kJ zI)<|kJ zI) ?_ (hs:=kD);refine zC (zA 1<|pv 1) ?_ (hs:=yA);refine zC (zA 3<|pv 3) ?_ (hs:=yA);exact zN)) fU.nd);exact(by refine zK ?_ ?_;exact(y8 6 (yJ (qI T) (hr.mono<|by decide) (by rfl) T.iN.m T.iN.F.kp T.iN.b (by refine zC (yJ (qJ T) (hr.mono<|by decide) (by rfl) T.l_.m T.l_.F.kp T.l_.b (by refine zC (zA 0<|pv 0) ?_ (hs:=yA);refine zC zI ?_ (hs:=yP);exact zN)) ?_ (hs:=xT);refine zC zI ?_ (hs:=yP);exact zN)) fU.nd);exact(by refine zK ?_ ?_;exact(y8 7 (yJ (vG T) (hr.mono<|by decide) (by rfl) T.AI.m T.AI.F.kp T.AI.b (by refine zC (zA 6<|pv 6) ?_ (hs:=yA);refine zC (zA 1<|pv 1) ?_ (hs:=yA);refine zC (zA 3<|pv 3) ?_ (hs:=yA);exact zN)) fU.nd);exact(by refine zK ?_ ?_;exact(vY 8 (by refine wL ?_;exact zN) fU.nd);exact(by refine zK ?_ ?_;exact(vY 9 (by refine wL ?_;exact zN) fU.nd);exact(by refine zK ?_ ?_;exact(pS<|dR (vF vS T) (hr.mono<|by decide) (by rfl) T.iM.m T.iM.F.kp T.iM.b<|dO (zA 5<|pv 5)<|pP (pv 8)<|pv 9);exact(G1 9<|G1 8 (by refine zK ?_ ?_;exact(Sq 10 fU.nd);exact(by refine zK ?_ ?_;exact(j9 gm rfl (kB<|zA 9<|pv 9) (dY rfl<|xL (yQ 11 fU.nd)<|xL (yQ 12 fU.nd) vP) (by refine zS ?_;exact(w8 (Ac<|pQ (xK gH gI (zA 11<|pv 11) mH<|xU _)<|cC<|xK (Ld hr.f6) Lk (zA 12<|pv 12) (y0 (s:=[])<|by rfl)<|xU _) (by refine zS ?_;exact(by refine Mo 10 (Ad hr) (pv 10) ?_;exact(by refine zC (uZ (Bb<|zA 8<|pv 8)<|zA 11<|pv 11) ?_ (hs:=xT);refine zC (zA 12<|pv 12) ?_ (hs:=yA);exact zN))) xW)));exact(by refine zK ?_ ?_;exact(j9 gm rfl (kB<|zA 7<|pv 7) (dY rfl<|xL (yQ 13 fU.nd)<|xL (yQ 12 fU.nd) vP) (by refine zS ?_;exact(w8 (P7 (Hk hr) (by refine xM ?_;exact(by refine zC (zA 13<|pv 13) ?_ (hs:=yA);refine zC (y0 (s:=[])<|by rfl) ?_ (hs:=yP);exact zN))<|Bb<|zA 9<|pv 9) (by refine zS ?_;exact(by refine Mo 10 (Ad hr) (pv 10) ?_;exact(by refine zC (uZ (Bb<|zA 8<|pv 8)<|zA 13<|pv 13) ?_ (hs:=xT);refine zC (zA 12<|pv 12) ?_ (hs:=yA);exact zN))) xW)));exact(by refine zK ?_ ?_;exact(y8 14 (by refine mT ?_;exact(uY (by rfl) T.AC<|zA 7<|pv 7)) fU.nd);exact(by refine zK ?_ ?_;exact(y8 15 (by refine xM ?_;exact(by refine zC (yJ (vH vT T) (hr.mono<|by decide) (by rfl) T.iL.m T.iL.F.kp T.iL.b (by refine zC (zA 5<|pv 5) ?_ (hs:=yA);refine zC (zA 8<|pv 8) ?_ (hs:=yA);exact zN)) ?_ (hs:=xT);refine zC (by refine mT ?_;exact(SA 10 rfl (by rfl) T.Cg<|pv 10)) ?_ (hs:=xT);exact zN)) fU.nd);exact(by refine zK ?_ ?_;exact(w8 (Ac<|EO (G2<|bV<|yJ (uJ T) (hr.mono<|by decide) (by rfl) T.AE.m T.AE.F.kp T.AE.b (by refine zC (yJ (YG T) (hr.mono<|by decide) (by rfl) T.AD.m T.AD.F.kp T.AD.b (by refine zC (zA 5<|pv 5) ?_ (hs:=yA);refine zC (zA 14<|pv 14) ?_ (hs:=yA);exact zN)) ?_ (hs:=xT);refine zC (zA 15<|pv 15) ?_ (hs:=yA);exact zN))<|G3<|xK (Le (n:=400)<|KA hr<|by decide) Ll (zA 14<|pv 14) (zA 7<|pv 7)<|xU _) (by refine zS ?_;exact(by refine yX ?_;exact CY)) xW);exact(by refine zS ?_;exact(by refine yX ?_;exact(yJ (uJ T) (hr.mono<|by decide) (by rfl) T.AE.m T.AE.F.kp T.AE.b (by refine zC (yJ (YG T) (hr.mono<|by decide) (by rfl) T.AD.m T.AD.F.kp T.AD.b (by refine zC (yJ (uL T) (hr.mono<|by decide) (by rfl) T.AF.m T.AF.F.kp T.AF.b (by refine zC (B2 (zA 0<|pv 0) (kJ zI)<|kJ zI) ?_ (hs:=kD);refine zC (zA 1<|pv 1) ?_ (hs:=yA);refine zC (zA 4<|pv 4) ?_ (hs:=yA);exact zN)) ?_ (hs:=xT);refine zC (yJ (vG T) (hr.mono<|by decide) (by rfl) T.AI.m T.AI.F.kp T.AI.b (by refine zC (zA 6<|pv 6) ?_ (hs:=yA);refine zC (zA 1<|pv 1) ?_ (hs:=yA);refine zC (zA 4<|pv 4) ?_ (hs:=yA);exact zN)) ?_ (hs:=xT);exact zN)) ?_ (hs:=xT);refine zC (zA 15<|pv 15) ?_ (hs:=yA);exact zN)))))))))))))))))))))
end
def GB{f:ME}{r:En}{b:Bool}(e:f r=aA (.bl b)):WU (mQ f) r=aA (!b):=by unfold WU mQ;rw[e];rfl
def Rf{f g:MB}{r:En}(e1:f r=aA true):sL f g r=aA true:=by
 unfold sL;rw[e1,ae,if_pos rfl]
def hZ{f g:MB}{r:En}{b:Bool}(e1:f r=aA false)(e2:g r=aA b):sL f g r=aA b:=by
 unfold sL;rw[e1,ae,if_neg<|by simp,e2]
def jF{f g:MB}{r:En}(e1:f r=aA false):bN f g r=aA false:=by
 unfold bN;rw[e1,ae,if_neg<|by simp]
def jZ{f g:MB}{r:En}{b:Bool}(e1:f r=aA true)(e2:g r=aA b):bN f g r=aA b:=by
 unfold bN;rw[e1,ae,if_pos rfl,e2]
def hE{f:ME}{r:En}{b:Bool}(e:f r=aA (.bl b)):mQ f r=aA b:=by unfold mQ;rw[e];rfl
def cF{bd:D->En->Option En}{x:ME}{d y:D}{t out:List D}{r r1:En}(h:bd d r=aA r1)(e:x r1=aA y)(q:jK bd uN x t r1=aA out):jK bd uN x (d::t) r=aA (y::out):=by
 unfold jK;rw[h,ae];show(uN r1).bind _=_;unfold uN;rw[ae,if_pos rfl,e,ae];show(jK bd uN x t r1).map _=_;rw[q];rfl
def Uf{bd:D->En->Option En}{c:MB}{x:ME}{d y:D}{t out:List D}{r r1:En}(h:bd d r=aA r1)(hc:c r1=aA true)(e:x r1=aA y)(q:jK bd c x t r1=aA out):jK bd c x (d::t) r=aA (y::out):=by
 unfold jK;rw[h,ae,hc,ae,if_pos rfl,e,ae,q];rfl
def Ug{bd:D->En->Option En}{c:MB}{x:ME}{d:D}{t:List D}{r r1:En}{z:Option (List D)}(h:bd d r=aA r1)(hc:c r1=aA false)(q:jK bd c x t r1=z):jK bd c x (d::t) r=z:=by
 unfold jK;rw[h,ae,hc,ae,if_neg<|by simp,q]
def G6{i:Nat}{f:ME}{r:En}{S m:List D}{d:D}(e:r[i]?=aA (.o S))(e2:f r=aA d)(e3:Hf d=aA m)(h:S.length+m.length<=ar):w_ i f r=aA (.aE,r.set i<|.o<|S++m):=by
 simp[w_,gK,e,Sl.ml,b6,e2,e3,h]
def j5{i:Nat}{f:En->Option (D×En)}{r r' r2:En}{d:D}(e:f r=aA (d,r'))(e2:yV i d r'=aA r2):kH i f r=aA (.nx r2):=by
 unfold kH;rw[e];show(yV i d r').map Fl.nx=_;rw[e2];rfl
def m7{i:Nat}{r:En}{S:List D}{d:D}(e:r[i]?=aA (.o<|S++[d])):o8 (c5 i) r=aA true:=by
 unfold o8 c5;rw[e];show aA (!(S++[d]).isEmpty)=_;simp
def oQ{i:Nat}{r:En}(e:r[i]?=aA (.o [])):o8 (c5 i) r=aA false:=by
 unfold o8 c5;rw[e];rfl
def KJ{n i:Nat}{m:MF}{fs:ML}{r r':En}{l es l':List D}{d:D}{as:List Sl}(e1:gK r i=aA l)(e2:fs r=aA es)(hl:es.length+1=n)(e3:m (.p l::es.map .v)=aA (.v d,as))(e4:as[0]?=aA (.p l'))(e5:b6 i l' r=aA r'):c6 n m i (zP fs) r=aA (d,r'):=by
 unfold c6 zP;rw[e1,ae,e2,Option.map_some,ae,if_pos (by show([]:List D).length+1+es.length=n;rw[bq];omega)];show(m<|bX [] l es).bind _=_;rw[show bX [] l es=.p l::es.map Sl.v from rfl,e3,ae];show(match as[([]:List D).length]? with
  |some (.p l')=>(b6 i l' r).map λr'=>(d,r')
  |_=>aB)=_
 rw[show([]:List D).length=0 from rfl,e4];show(b6 i l' r).map _=_;rw[e5];rfl
def RB{n N:Nat}{s:MS}{as:List Sl}{r':En}{d:D}(e:s (as++bg (N-n) .un)=aA (.rt d r')):aY n N s as=aA (.v d,r'.take n):=by
 unfold aY;rw[e];rfl
def Kb{n N:Nat}{s:MS}{as:List Sl}{r':En}(e:s (as++bg (N-n) .un)=aA (.nx r')):aY n N s as=aA (.v .aE,r'.take n):=by
 unfold aY;rw[e];rfl
def RL{f g:ME}{r:En}{i j:Int}(e1:f r=aA (.int i))(e2:g r=aA (.int j)):zJ BY f g r=aA (.int<|i-j):=zL e1 e2 rfl
noncomputable abbrev Ws:=List<|List Nat
abbrev dw(l:Ws):List D:=l.map D.str
mutual
inductive Kd where
 |num
 |var (n:Int)
 |fn (a b:Kd)
 |rw(o:Bool) (fs:Fs) (tl:Option Int)
inductive Fs where
 |nil
 |cons (l:List Nat) (k:Kd) (r:Fs)
end
noncomputable def sN:List Nat:=[110,117,109]
noncomputable def oE:List Nat:=[118,97,114]
noncomputable def mN:List Nat:=[102,117,110]
noncomputable def Ay:List Nat:=[114,101,99]
noncomputable def Bh:List Nat:=[111,110,101]
noncomputable def oF:List Nat:=[114,111,119]
def lH(o:Bool):List Nat:=if o then Bh else Ay
noncomputable def a_:Option Int->D
 |none=>.aE
 |some i=>.int i
mutual
noncomputable def Kd.ds:Kd->D
 |.num=>.tup [.str sN]
 |.var n=>.tup [.str oE,.int n]
 |.fn a b=>.tup [.str mN,a.ds,b.ds]
 |.rw o fs tl=>.tup [.str<|lH o,.tup [.str oF,.tup fs.ds,a_ tl]]
noncomputable def Fs.ds:Fs->List D
 |.nil=>[]
 |.cons l k r=>.tup [.str l,k.ds]::r.ds
end
noncomputable def Fs.b_:Fs->List Kd
 |.nil=>[]
 |.cons _ k r=>k::r.b_
def Fs.a7:Fs->Ws
 |.nil=>[]
 |.cons l _ r=>l::r.a7
def Kd.kids:Kd->List Kd
 |.num=>[]
 |.var _=>[]
 |.fn a b=>[a,b]
 |.rw _ fs _=>fs.b_
noncomputable def Kd.n_:Kd->Bool
 |.rw _ _ _=>true
 |_=>false
theorem tX:∀fs:Fs,fs.ds.length=fs.b_.length
 |.nil=>rfl
 |.cons _ _ r=>by simp only[Fs.ds,Fs.b_,ak,tX r]
def r8(k:Kd):∃as,xF [.v k.ds]=aA (.v<|.bl k.n_,as):=by
 refine jI (r':=[.v k.ds]) ?_;show kZ [.v k.ds]=_;unfold kZ;have tp:qQ (zB (mC<|.str [114,101,99])<|zB (mC<|.str [111,110,101]) zV) [.v k.ds]=aA (.tup [.str Ay,.str Bh]):=xI (zD zF<|zD zF zO) (by show 2<=100;decide);cases k with
 |num=>exact yS<|zL (zL (x:=Kd.num.ds) rfl zF<|xE _ _) tp rfl
 |var n=>exact yS<|zL (zL (x:=(Kd.var n).ds) rfl zF<|xE _ _) tp rfl
 |fn a b=>exact yS<|zL (zL (x:=(Kd.fn a b).ds) rfl zF<|xE _ _) tp rfl
 |rw o fs tl=>cases o<;>exact yS<|zL (zL (x:=(Kd.rw _ fs tl).ds) rfl zF<|xE _ _) tp rfl
theorem XF:∀(fs:Fs) (x:Sl),aO x->jK (yV 0) uN (zJ aD (zE 0)<|mC<|.int 1) fs.ds [x]=aA (fs.b_.map Kd.ds)
 |.nil,_,_=>rfl
 |.cons l k r,x,hx=>cF (r1:=[.v<|.tup [.str l,k.ds]]) (yD (x:=x) rfl hx) (zL (x:=.tup [.str l,k.ds]) rfl zF<|yB (j:=1) rfl)<|XF r (.v<|.tup [.str l,k.ds]) trivial
def vB{k:Kd}(h:k.kids.length<=1000):∃as,yL [.v k.ds]=aA (.v<|.lst<|k.kids.map Kd.ds,as):=by
 let R:En:=[.v k.ds]
 refine jI (r':=R) ?_;show wQ R=_;unfold wQ;have hd:∀(w:List Nat) (l:List D),k.ds=.tup (.str w::l)->∀u:List Nat,aP (zJ c_ (zJ aD (zE 0)<|mC<|.int 0)<|mC<|.str u) R=aA (decide (w=u)):=λw l e u=>wZ<|zL (zL (x:=.tup (.str w::l)) (by show aA k.ds=_;rw[e]) zF<|xE _ _) zF rfl
 have hr:mQ (yE 1 xF<|zB (zE 0) zV) R=aA k.n_:=hE<|yK (p:=.v<|.bl k.n_) (zD rfl zO) rfl<|r8 k;cases k with
 |num=>exact yY (hd sN [] rfl mN)<|yY hr<|yS<|qS zO (by show 0<=100;decide)
 |var n=>exact yY (hd oE [.int n] rfl mN)<|yY hr<|yS<|qS zO (by show 0<=100;decide)
 |fn a b=>exact kR (hd mN [a.ds,b.ds] rfl mN)<|yS<|qS (zD (zL (x:=(Kd.fn a b).ds) rfl zF<|yB (j:=1) rfl)<|zD (zL (x:=(Kd.fn a b).ds) rfl zF<|yB (j:=2) rfl) zO) (by show 2<=100;decide)
 |rw o fs tl=>
  have e1:aP (zJ c_ (zJ aD (zE 0)<|mC<|.int 0)<|mC<|.str [102,117,110]) R=aA false:=(hd (lH o) [.tup [.str oF,.tup fs.ds,a_ tl]] rfl mN).trans (by cases o<;>rfl);refine yY e1<|kR hr<|yS ?_;have it:aR (zJ aD (zJ aD (zE 0)<|mC<|.int 1)<|mC<|.int 1) R=aA fs.ds:=by
   unfold aR;rw[zL (x:=.tup [.str oF,.tup fs.ds,a_ tl]) (zL (x:=(Kd.rw o fs tl).ds) rfl zF<|yB (j:=1) rfl) zF<|yB (j:=1) rfl];rfl
  have cp:jX [] 1 (aR<|zJ aD (zJ aD (zE 0)<|mC<|.int 1)<|mC<|.int 1) (yV 0) (zJ aD (zE 0)<|mC<|.int 1) R=aA (fs.b_.map Kd.ds):=by
   unfold jX qR;rw[it,ae,if_pos (by rw[tX];exact cm h<|by decide)];exact XF fs .un trivial
  exact congrArg (uk D.lst) cp
noncomputable abbrev Fd:=List Nat×D
def aZ(p:Fd):D:=.tup [.str p.1,p.2]
def By(p:Fd):KD:=(p.1,aZ p)
def DQ(a b:Fd):Bool:=!decide (b.1<a.1)
def b9(a b:Fd):DQ a b=true↔a.1<=b.1:=by
 unfold DQ;rw[Bool.not_eq_true',decide_eq_false_iff_not];exact my
def ZX(P:List Fd):List Fd:=P.mergeSort DQ
def kP(P:List Fd):(ZX P).Perm P:=adk P DQ
def ZW(P:List Fd):(ZX P).Pairwise λa b=>a.1<=b.1:=
 (abe (le:=DQ) (λa b c h1 h2=>(b9 a c).mpr<|List.le_trans ((b9 a b).mp h1)<|(b9 b c).mp h2) (λa b=>by
  rw[Bool.or_eq_true];exact(List.le_total a.1 b.1).imp (b9 a b).mpr (b9 b a).mpr) P).imp λ{a b} z=>(b9 a b).mp z
def SK{P:List Fd}(nd:(P.map (·.1)).Nodup){a b:Fd}(ha:a∈P)(hb:b∈P)(e:a.1=b.1):a=b:=by
 obtain⟨i,hi,rfl⟩:=qg ha;obtain⟨j,hj,rfl⟩:=qg hb;rcases jh i j with z|z|z
 .exact absurd (by rw[jm,jm];exact e)<|ck.mp nd i j (by simpa using hi) (by simpa using hj) z
 .subst z;rfl
 .exact absurd (by rw[jm,jm];exact e.symm)<|ck.mp nd j i (by simpa using hj) (by simpa using hi) z
def Q6{P Q:List Fd}(nd:(P.map (·.1)).Nodup)(pq:P.Perm Q)(hp:P.Pairwise λa b=>a.1<=b.1)(hq:Q.Pairwise λa b=>a.1<=b.1):P=Q:=
 aav (le:=λa b:Fd=>a.1<=b.1) (λa b ha hb x y=>SK nd ha (pq.mem_iff.mpr hb)<|List.le_antisymm x y) hp hq pq
def Tx{P:List Fd}(nd:(P.map (·.1)).Nodup)(h:P.Pairwise λa b=>a.1<=b.1):ZX P=P:=
 Q6 (((kP P).map _).nodup_iff.mpr nd) (kP P) (ZW P) h
def o7(P:List Fd):(P.map By).map (·.1)=P.map (·.1)/\(P.map By).map (·.2)=P.map aZ:=by
 constructor<;>rw[dm]<;>rfl
def ZU{P:List Fd}(nd:(P.map (·.1)).Nodup):CQ (P.map By)=(ZX P).map aZ:=by
 rw[<-ZV (m:=(ZX P).map By) (by rw[(o7 P).1];exact nd) ((kP P).map By) (by
  unfold B7;rw[du];exact(ZW P).imp λ{a b} z=>z),(o7 _).2]
def Us(p:Fd):ET qX (aZ p)=aA p.1:=by
 obtain⟨as,e⟩:∃as,qX [.v<|aZ p]=aA (.v<|.str p.1,as):=by
  refine jI (r':=[.v<|aZ p]) ?_;show jO [.v<|aZ p]=_;unfold jO;exact yS<|zL (x:=.tup [.str p.1,p.2]) rfl zF<|xE _ _
 unfold ET;rw[e];rfl
theorem YS:∀P:List Fd,B5 qX (P.map aZ)=aA (P.map By)
 |[]=>rfl
 |p::r=>by
  rw[am];unfold B5;rw[Us p,ae,YS r];rfl
theorem YR:∀P:List Fd,B6 (P.map aZ)=aA (P.map By)
 |[]=>rfl
 |p::r=>by
  rw[am];unfold B6;rw[show Ex (aZ p)=aA p.1 from rfl,ae,YR r];rfl
def Tz{fl:ML}{r:En}{P:List Fd}(e:fl r=aA (P.map aZ))(h:P.length<64)(nd:(P.map (·.1)).Nodup):EX qX fl r=aA ((ZX P).map aZ):=by
 unfold EX;rw[e,ae,YS,ae,if_pos ⟨by rw[ah];exact h,by rw[(o7 P).1];exact nd⟩,ZU nd]
def TB{fl:ML}{r:En}{P:List Fd}(e:fl r=aA (P.map aZ))(h:P.length<64)(nd:(P.map (·.1)).Nodup):EY fl r=aA ((ZX P).map aZ):=by
 unfold EY;rw[e,ae,YR,ae,if_pos ⟨by rw[ah];exact h,by rw[(o7 P).1];exact nd⟩,ZU nd]
def JJ(P:List Fd)(t:D):D:=.tup [.str oF,.tup<|P.map aZ,t]
def QF{P G:List Fd}{t:D}(h:P.length+G.length<64)(nd:((P++G).map (·.1)).Nodup):∃as,nQ [.v<|.lst<|P.map aZ,.v<|JJ G t]=aA (.v<|JJ (ZX<|P++G) t,as):=by
 let R0:En:=[.v<|.lst<|P.map aZ,.v<|JJ G t,.un]
 let R:En:=[.v<|.lst<|P.map aZ,.v<|JJ G t,.v<|.lst<|(ZX<|P++G).map aZ]
 refine jI (r':=R) ?_;show bF R0=_;unfold bF;have ec:Aw (aR<|zE 0) (aR<|zJ aD (zE 1)<|mC<|.int 1) R0=aA ((P++G).map aZ):=by
  have a:aR (zE 0) R0=aA (P.map aZ):=rfl;have b:aR (zJ aD (zE 1)<|mC<|.int 1) R0=aA (G.map aZ):=by
   unfold aR;rw[zL (x:=JJ G t) rfl zF<|yB (j:=1) rfl];rfl
  unfold Aw;rw[a,ae,b,ae,if_pos (by rw[ah,ah];exact cz (vn h)<|by decide),bn]
 have es:=Tz ec (by rw[ag];exact h) nd;refine yR (r2:=R) (.lst<|(ZX<|P++G).map aZ) (congrArg (uk D.lst) es) rfl<|yS ?_;exact xI (zD zF<|zD (x:=.tup<|(ZX<|P++G).map aZ) rfl<|zD (zL (x:=JJ G t) rfl zF<|yB (j:=2) rfl) zO) (by show 3<=100;decide)
structure Sp where
 Vr:Int->Prop
 Tr:Int->Prop
 A:List Nat->Prop
 B:List Nat->Prop
 ap:∀l,A l->¬B l
structure sI(S:Sp)(ks:List Key)(l:List D)(fv:Int->Option D)(fr:Int->Option (List Fd×D)):Prop where
 v:∀n,S.Vr n->uS ks l (.inl n)=fv n
 t:∀n,S.Tr n->uS ks l (.inl n)=(fr n).map λq=>JJ q.1 q.2
 f8:∀n q,fr n=aA q->q.1.length<=8
 nd:∀n q,fr n=aA q->(q.1.map (·.1)).Nodup/\∀p∈q.1,S.B p.1
mutual
def Kd.ok(S:Sp):Kd->Prop
 |.num=>True
 |.var n=>S.Vr n
 |.fn a b=>a.ok S/\b.ok S
 |.rw _ fs tl=>fs.ok S/\fs.a7.Nodup/\fs.a7.Pairwise (·<=·)/\fs.a7.length<=8/\∀t,tl=aA t->S.Tr t
def Fs.ok(S:Sp):Fs->Prop
 |.nil=>True
 |.cons l k r=>S.A l/\k.ok S/\r.ok S
end
section
variable(fv:Int->Option D)(fr:Int->Option (List Fd×D))
def kK(tl:Option Int):List Fd×D:=(tl.bind fr).getD ([],a_ tl)
mutual
noncomputable def Kd.fl:Kd->D
 |.num=>Kd.num.ds
 |.var n=>(fv n).getD (Kd.var n).ds
 |.fn a b=>.tup [.str mN,a.fl,b.fl]
 |.rw o fs tl=>.tup [.str<|lH o,JJ (ZX<|fs.fl++(kK fr tl).1) (kK fr tl).2]
noncomputable def Fs.fl:Fs->List Fd
 |.nil=>[]
 |.cons l k r=>(l,k.fl)::r.fl
end
end
theorem bD:∀fs:Fs,fs.a7.length=fs.b_.length
 |.nil=>rfl
 |.cons _ _ r=>by simp only[Fs.a7,Fs.b_,ak,bD r]
section
variable{fv:Int->Option D}{fr:Int->Option (List Fd×D)}{S:Sp}{ks:List Key}{l:List D}
theorem gT:∀fs:Fs,(fs.fl fv fr).map (·.1)=fs.a7
 |.nil=>rfl
 |.cons _ _ r=>by simp only[Fs.fl,Fs.a7,am,gT r]
def P8(fs:Fs):(fs.fl fv fr).length=fs.a7.length:=by rw[<-gT (fv:=fv) (fr:=fr),ah]
theorem G9:∀fs:Fs,fs.ok S->∀l∈fs.a7,S.A l
 |.nil,_,l,h=>by cases h
 |.cons l' k r,ok,l,h=>by
  rcases bb.mp h with rfl|h
  .exact ok.1
  .exact G9 r ok.2.2 l h
def XL(F:sI S ks l fv fr)(tl:Option Int):(kK fr tl).1.length<=8/\((kK fr tl).1.map (·.1)).Nodup/\∀p∈(kK fr tl).1,S.B p.1:=by
 unfold kK;cases e:tl.bind fr with
 |none=>exact⟨bu _,rq,by simp⟩
 |some q=>
  cases tl with
  |none=>cases e
  |some t=>exact⟨F.f8 t q e,F.nd t q e⟩
def Sm(F:sI S ks l fv fr){fs:Fs}{P:List Fd}(hP:P.map (·.1)=fs.a7)(ok:fs.ok S)(nd:fs.a7.Nodup)(tl:Option Int):((P++(kK fr tl).1).map (·.1)).Nodup:=by
 have b:=XL F tl;rw[bn,hP];refine lw.mpr ⟨nd,b.2.1,λx hx y hy e=>?_⟩;subst e;obtain⟨p,hp,rfl⟩:=cq.mp hy;exact S.ap _ (G9 fs ok _ hx)<|b.2.2 p hp
theorem XE:∀(fs:Fs) (w:List D) (x y:Sl),aO x->aO y->w.length=fs.a7.length->jK (qA 2<|yH (yV 0)<|yH (yV 1) qL) uN (qQ<|zB (zJ aD (zE 0)<|mC<|.int 0)<|zB (zE 1) zV) (XY fs.ds w) [x,y]=aA ((fs.a7.zip w).map aZ)
 |.nil,w,_,_,_,_,_=>rfl
 |.cons l k r,[],_,_,_,_,h=>by cases h
 |.cons l k r,d::w,x,y,hx,hy,h=>by
  show jK _ uN _ (.tup [.tup [.str l,k.ds],d]::XY r.ds w) _=_;exact cF (r1:=[.v<|.tup [.str l,k.ds],.v d]) (AZ (r1:=[.v<|.tup [.str l,k.ds],y]) (yD (x:=x) rfl hx)<|yD (x:=y) rfl hy) (xI (zD (zL (x:=.tup [.str l,k.ds]) rfl zF<|xE _ _)<|zD rfl zO) (by show 2<=100;decide)) (XE r w (.v<|.tup [.str l,k.ds]) (.v d) trivial trivial<|by simpa [Fs.a7] using h)
theorem Lw:∀fs:Fs,fs.a7.zip (fs.b_.map<|Kd.fl fv fr)=fs.fl fv fr
 |.nil=>rfl
 |.cons l k r=>by simp only[Fs.a7,Fs.b_,Fs.fl,am,xn,Lw r]
def Sx(F:sI S ks l fv fr){tl:Option Int}(ht:∀t,tl=aA t->S.Tr t){fd:MD}{fk fx:ME}{r:En}(e1:fd r=aA (ks,l))(e2:fk r=aA (a_ tl))(e3:fx r=aA (JJ []<|a_ tl)):J8 fd fk fx r=aA (JJ (kK fr tl).1 (kK fr tl).2):=by
 unfold J8;rw[e1,ae,e2,ae,e3,ae];cases tl with
 |none=>rfl
 |some t=>
  show aA ((uS ks l<|.inl t).getD _)=_;rw[F.t t<|ht t rfl];unfold kK;show aA (((fr t).map _).getD _)=_;rw[ae];cases fr t with
  |none=>rfl
  |some q=>rfl
def U2(F:sI S ks l fv fr){fs:Fs}{tl:Option Int}(ok:fs.ok S)(nd:fs.a7.Nodup)(f8:fs.a7.length<=8)(ht:∀t,tl=aA t->S.Tr t):∃as,jL [.v<|.tup [.str oF,.tup fs.ds,a_ tl],.v<|.lst<|fs.b_.map<|Kd.fl fv fr,.v<|.aJ ks l]=aA (.v<|JJ (ZX<|fs.fl fv fr++(kK fr tl).1) (kK fr tl).2,as):=by
 let row:D:=.tup [.str oF,.tup fs.ds,a_ tl]
 let w:List D:=fs.b_.map<|Kd.fl fv fr
 let R0:En:=[.v row,.v<|.lst w,.v<|.aJ ks l,.un]
 let R:En:=[.v row,.v<|.lst w,.v<|.aJ ks l,.v<|.lst<|(fs.fl fv fr).map aZ]
 refine jI (r':=R) ?_;show wR R0=_;unfold wR;have hw:w.length=fs.a7.length:=by show(fs.b_.map _).length=_;rw[ah,bD]
 have zp:C3 (zJ aD (zE 0)<|mC<|.int 1) (zE 1) R0=aA (XY fs.ds w):=by
  unfold C3;rw[zL (x:=row) (d:=.tup fs.ds) rfl zF<|yB (j:=1) rfl];rfl
 have cp:jX [] 2 (C3 (zJ aD (zE 0)<|mC<|.int 1)<|zE 1) (qA 2<|yH (yV 0)<|yH (yV 1) qL) (qQ<|zB (zJ aD (zE 0)<|mC<|.int 0)<|zB (zE 1) zV) R0=aA ((fs.fl fv fr).map aZ):=by
  unfold jX qR;rw[zp,ae,if_pos ?_]
  .refine(XE fs w .un .un trivial trivial hw).trans ?_;rw[show w=fs.b_.map (Kd.fl fv fr) from rfl,Lw]
  .have:(XY fs.ds w).length<=8:=by
    unfold XY;rw[List.length_zipWith]
    have:=tX fs
    have:=bD fs
    omega
   exact cm this (by decide)
 refine yR (r2:=R) (.lst<|(fs.fl fv fr).map aZ) (congrArg (uk D.lst) cp) rfl<|yS ?_;have b:=XL F tl;have gr:=Sx F ht (fd:=m9<|zE 2) (fk:=zJ aD (zE 0)<|mC<|.int 2) (fx:=qQ<|zB (mC<|.str [114,111,119])<|zB (qQ zV)<|zB (zJ aD (zE 0)<|mC<|.int 2) zV) (r:=R) rfl (zL (x:=row) rfl zF<|yB (j:=2) rfl)<|xI (zD zF<|zD (xI zO (by show 0<=100;decide))<|zD (zL (x:=row) rfl zF<|yB (j:=2) rfl) zO) (by show 3<=100;decide);exact yK (p:=.v<|JJ (ZX<|fs.fl fv fr++(kK fr tl).1) (kK fr tl).2) (zD rfl<|zD gr zO) rfl<|QF (by rw[P8];omega)<|Sm F (gT fs) ok nd tl
def tD(F:sI S ks l fv fr){k:Kd}(ok:k.ok S):∃as,u7 [.v k.ds,.v<|.lst<|k.kids.map<|Kd.fl fv fr,.v<|.aJ ks l]=aA (.v<|k.fl fv fr,as):=by
 let R:En:=[.v k.ds,.v<|.lst<|k.kids.map<|Kd.fl fv fr,.v<|.aJ ks l]
 refine jI (r':=R) ?_;show kY R=_;unfold kY;have hd:∀(w:List Nat) (l:List D),k.ds=.tup (.str w::l)->∀u:List Nat,aP (zJ c_ (zJ aD (zE 0)<|mC<|.int 0)<|mC<|.str u) R=aA (decide (w=u)):=λw l e u=>wZ<|zL (zL (x:=.tup (.str w::l)) (by show aA k.ds=_;rw[e]) zF<|xE _ _) zF rfl
 have hr:mQ (yE 1 xF<|zB (zE 0) zV) R=aA k.n_:=hE<|yK (p:=.v<|.bl k.n_) (zD rfl zO) rfl<|r8 k;cases k with
 |num=>exact yY (hd sN [] rfl oE)<|yY (hd sN [] rfl mN)<|yY hr<|yS rfl
 |var n=>
  refine kR (hd oE [.int n] rfl oE)<|yS ?_;unfold J8;rw[show m9 (zE 2) R=aA (ks,l) from rfl,ae,zL (x:=(Kd.var n).ds) (d:=.int n) rfl zF<|yB (j:=1) rfl,ae,show zE 0 R=aA (Kd.var n).ds from rfl,ae];show aA ((uS ks l<|.inl n).getD _)=_;rw[F.v n ok];rfl
 |fn a b=>
  refine yY (hd mN [a.ds,b.ds] rfl oE)<|kR (hd mN [a.ds,b.ds] rfl mN)<|yS ?_;exact xI (zD zF<|zD (zL (x:=.lst [a.fl fv fr,b.fl fv fr]) rfl zF<|xE _ _)<|zD (zL (x:=.lst [a.fl fv fr,b.fl fv fr]) rfl zF<|yB (j:=1) rfl) zO) (by show 3<=100;decide)
 |rw o fs tl=>
  have hw:∀u:List Nat,u=oE\/u=mN->aP (zJ c_ (zJ aD (zE 0)<|mC<|.int 0)<|mC<|.str u) R=aA false:=λu hu=>(hd (lH o) [.tup [.str oF,.tup fs.ds,a_ tl]] rfl u).trans (by rcases hu with rfl|rfl<;>cases o<;>rfl)
  refine yY (hw _<|.inl rfl)<|yY (hw _<|.inr rfl)<|kR hr<|yS ?_;have i0:zJ aD (zE 0) (mC<|.int 0) R=aA (.str<|lH o):=zL (x:=(Kd.rw o fs tl).ds) rfl zF<|xE _ _;have i1:zJ aD (zE 0) (mC<|.int 1) R=aA (.tup [.str oF,.tup fs.ds,a_ tl]):=zL (x:=(Kd.rw o fs tl).ds) rfl zF<|yB (j:=1) rfl;exact xI (zD i0<|zD (yK (p:=.v<|JJ (ZX<|fs.fl fv fr++(kK fr tl).1) (kK fr tl).2) (zD i1<|zD rfl<|zD rfl zO) rfl<|U2 F ok.1 ok.2.1 ok.2.2.2.1 ok.2.2.2.2) zO) (by show 2<=100;decide)
end
mutual
noncomputable def Kd.pre:Kd->List Kd
 |.num=>[.num]
 |.var n=>[.var n]
 |.fn a b=>.fn a b::(a.pre++b.pre)
 |.rw o fs tl=>.rw o fs tl::fs.pre
noncomputable def Fs.pre:Fs->List Kd
 |.nil=>[]
 |.cons _ k r=>k.pre++r.pre
end
mutual
def Kd.wd:Kd->Prop
 |.num=>True
 |.var _=>True
 |.fn a b=>a.wd/\b.wd
 |.rw _ fs _=>fs.b_.length<=8/\fs.wd
def Fs.wd:Fs->Prop
 |.nil=>True
 |.cons _ k r=>k.wd/\r.wd
end
def vK{k:Kd}(h:k.wd):k.kids.length<=8:=by
 cases k with
 |num=>exact bu _
 |var n=>exact bu _
 |fn a b=>show 2<=8;decide
 |rw o fs tl=>exact h.1
def vE(k:Kd):1<=k.pre.length:=by cases k<;>simp[Kd.pre]
def GJ:MS:=(yO (kH 3<|vW 2)
 (yO (sX<|nA 1<|zE 3)
 (sX<|w_ 2<|aX lY<|yE 1 yL<|zB (zE 3) zV)))
abbrev wS(m:Nat)(E:D)(F S:List D)(x:Sl):Option Fl:=jB m (o8<|c5 2) GJ [.v E,.o F,.o S,x]
def E9{E:D}{F S:List D}{x:Sl}{k:Kd}(hx:aO x)(h:k.wd)(hF:F.length<=10000)(hS:S.length<=10000)(m:Nat):wS (m+1) E F (S++[k.ds]) x=wS m E (F++[k.ds]) (S++(k.kids.map Kd.ds).reverse) (.v k.ds):=by
 refine cK (m7 (S:=S) (d:=k.ds) rfl) ?_;unfold GJ;have hl:=vK h
 let R1:En:=[.v E,.o F,.o S,.v k.ds]
 let R2:En:=[.v E,.o<|F++[k.ds],.o S,.v k.ds]
 have pop:kH 3 (vW 2) [.v E,.o F,.o<|S++[k.ds],x]=aA (.nx R1):=j5 (tK rfl)<|yD (x:=x) rfl hx;have ap:sX (nA 1<|zE 3) R1=aA (.nx R2):=kF (d:=.aE) (Q1 rfl rfl<|cm hF<|by decide);have cc:yE 1 yL (zB (zE 3) zV) R2=aA (.lst<|k.kids.map Kd.ds):=yK (p:=.v<|.lst<|k.kids.map Kd.ds) (zD rfl zO) rfl (vB<|by omega);refine(yF pop).trans ((yF ap).trans ?_);exact kF (d:=.aE)<|G6 (S:=S) (cN cc rfl) rfl (by rw[kg,ah];exact cz (by omega:_<=10008)<|by decide) (e:=rfl)
mutual
theorem EB(E:D):∀(k:Kd),k.wd->∀(S F:List D) (x:Sl),aO x->F.length+k.pre.length<=5000->S.length+k.pre.length<=5000->∃x',aO x'/\∀m,wS (k.pre.length+m) E F (S++[k.ds]) x=wS m E (F++k.pre.map Kd.ds) S x'
 |.num,h,S,F,x,hx,hF,hS=>by
  simp only[Kd.pre,ak,bq] at hF hS;refine⟨.v Kd.num.ds,trivial,λm=>?_⟩;rw[show Kd.num.pre.length+m=m+1 by simp[Kd.pre];omega,E9 hx h (by omega)<|by omega];simp[Kd.pre,Kd.kids]
 |.var n,h,S,F,x,hx,hF,hS=>by
  simp only[Kd.pre,ak,bq] at hF hS;refine⟨.v (Kd.var n).ds,trivial,λm=>?_⟩;rw[show(Kd.var n).pre.length+m=m+1 by simp[Kd.pre];omega,E9 hx h (by omega)<|by omega];simp[Kd.pre,Kd.kids]
 |.fn a b,h,S,F,x,hx,hF,hS=>by
  simp only[Kd.pre,ak,ag] at hF hS;have pb:=vE b;obtain⟨x1,f1,e1⟩:=EB E a h.1 (S++[b.ds]) (F++[(Kd.fn a b).ds]) (.v (Kd.fn a b).ds) trivial (by simp only[ag,ak,bq];omega) (by simp only[ag,ak,bq];omega);obtain⟨x2,f2,e2⟩:=EB E b h.2 S (F++[(Kd.fn a b).ds]++a.pre.map Kd.ds) x1 f1 (by simp only[ag,ak,bq,ah];omega) (by omega);refine⟨x2,f2,λm=>?_⟩;rw[show(Kd.fn a b).pre.length+m=(a.pre.length+(b.pre.length+m))+1 by simp[Kd.pre];omega,E9 hx h (by omega)<|by omega];rw[show S++((Kd.fn a b).kids.map Kd.ds).reverse=S++[b.ds]++[a.ds] by simp[Kd.kids],e1<|b.pre.length+m,e2 m];simp[Kd.pre]
 |.rw o fs tl,h,S,F,x,hx,hF,hS=>by
  simp only[Kd.pre,ak] at hF hS;obtain⟨x1,f1,e1⟩:=Jn E fs h.2 S (F++[(Kd.rw o fs tl).ds]) (.v (Kd.rw o fs tl).ds) trivial (by simp only[ag,ak,bq];omega) (by omega);refine⟨x1,f1,λm=>?_⟩;rw[show(Kd.rw o fs tl).pre.length+m=(fs.pre.length+m)+1 by simp[Kd.pre];omega,E9 hx h (by omega)<|by omega];rw[show S++((Kd.rw o fs tl).kids.map Kd.ds).reverse=S++(fs.b_.map Kd.ds).reverse from rfl,e1 m];simp[Kd.pre]
theorem Jn(E:D):∀(fs:Fs),fs.wd->∀(S F:List D) (x:Sl),aO x->F.length+fs.pre.length<=5000->S.length+fs.pre.length<=5000->∃x',aO x'/\∀m,wS (fs.pre.length+m) E F (S++(fs.b_.map Kd.ds).reverse) x=wS m E (F++fs.pre.map Kd.ds) S x'
 |.nil,h,S,F,x,hx,hF,hS=>⟨x,hx,λm=>by simp[Fs.pre,Fs.b_]⟩
 |.cons l k r,h,S,F,x,hx,hF,hS=>by
  simp only[Fs.pre,ag] at hF hS;have hr:r.b_.length<=r.pre.length:=QE r;have pk:=vE k;obtain⟨x1,f1,e1⟩:=EB E k h.1 (S++(r.b_.map Kd.ds).reverse) F x hx (by omega) (by rw[ag,kg,ah];omega);obtain⟨x2,f2,e2⟩:=Jn E r h.2 S (F++k.pre.map Kd.ds) x1 f1 (by rw[ag,ah];omega) (by omega);refine⟨x2,f2,λm=>?_⟩;rw[show(Fs.cons l k r).pre.length+m=k.pre.length+(r.pre.length+m) by simp[Fs.pre];omega];rw[show S++((Fs.cons l k r).b_.map Kd.ds).reverse=S++(r.b_.map Kd.ds).reverse++[k.ds] by simp[Fs.b_],e1<|r.pre.length+m,e2 m];simp[Fs.pre]
theorem QE:∀r:Fs,r.b_.length<=r.pre.length
 |.nil=>al _
 |.cons _ k r=>by have:=QE r;have:=vE k;simp only[Fs.b_,Fs.pre,ak,ag];omega
end
def cJ{k:Kd}(h:k.wd)(hs:k.pre.length<=4000):∃as,wV [.v k.ds]=aA (.f<|k.pre.map Kd.ds,as):=by
 obtain⟨x',fx,w⟩:=EB k.ds k h [] [] .un trivial (by simp only[bq];omega) (by simp only[bq];omega);have w1:=w<|WF-k.pre.length-1+1;rw[show k.pre.length+(WF-k.pre.length-1+1)=WF by unfold WF;omega] at w1;unfold wS at w1;rw[v5<|oQ (i:=2)<|by rfl,ja,ja] at w1;unfold GJ at w1;unfold wV aY dI;show ∃as,(yO _ _ [.v k.ds,.un,.un,.un]).bind _=_;rw[yF (r':=[.v k.ds,.o [],.un,.un])<|by rfl,yF (r':=[.v k.ds,.o [],.o [k.ds],.un])<|by rfl,yF w1];exact⟨_,rfl⟩
mutual
theorem Kd.sP{S:Sp}:∀k:Kd,k.ok S->k.wd
 |.num,_=>trivial
 |.var _,_=>trivial
 |.fn a b,h=>⟨a.sP h.1,b.sP h.2⟩
 |.rw _ fs _,h=>⟨by rw[<-bD];exact h.2.2.2.1,fs.sP h.1⟩
theorem Fs.sP{S:Sp}:∀fs:Fs,fs.ok S->fs.wd
 |.nil,_=>trivial
 |.cons _ k r,h=>⟨k.sP h.2.1,r.sP h.2.2⟩
end
theorem Ja:∀(l w S:List D) (x:Sl),aO x->w.length=l.length->∃x',aO x'/\mI (yV 1) (vW 0) l [.p<|S++w.reverse,x]=aA (w,[.p S,x'])
 |[],[],S,x,hx,_=>⟨x,hx,by simp[mI]⟩
 |[],_::_,_,_,_,h=>by cases h
 |_::_,[],_,_,_,h=>by cases h
 |d::l,y::w,S,x,hx,h=>by
  obtain⟨x',fx,ih⟩:=Ja l w S (.v d) trivial (by simpa using h);refine⟨x',fx,?_⟩;unfold mI;rw[yD (x:=x) rfl hx,ae];have e:vW 0 [.p<|S++(y::w).reverse,.v d]=aA (y,[.p<|S++w.reverse,.v d]):=by
   rw[rp,<-kb];unfold vW gK b6;show(aA<|S++w.reverse++[y]).bind _=_;rw[ae,ag];simp
  show(vW 0 [.p<|S++(y::w).reverse,.v d]).bind _=_;rw[e,ae,ih];rfl
def rD:MS:=(yO (kH 4<|pB 2 2 (aR<|yE 1 yL<|zB (zE 3) zV) (yV 1)<|vW 0)
 (sX<|nA 2<|yE 3 u7<|zB (zE 3)<|zB (zE 4)<|zB (zE 1) zV))
section
variable{fv:Int->Option D}{fr:Int->Option (List Fd×D)}{S:Sp}{ks:List Key}{l:List D}
def rF(F:sI S ks l fv fr){k:Kd}(ok:k.ok S)(E:D)(T:List D)(x y:Sl)(hx:aO x)(hy:aO y)(hT:T.length<=5000)(rest:List D):bH (yV 3) rD (k.ds::rest) [.v E,.v<|.aJ ks l,.o<|T++(k.kids.map<|Kd.fl fv fr).reverse,x,y]=bH (yV 3) rD rest [.v E,.v<|.aJ ks l,.o<|T++[k.fl fv fr],.v k.ds,.v<|.lst<|k.kids.map<|Kd.fl fv fr]:=by
 have hl:=vK<|k.sP ok
 let w:List D:=k.kids.map<|Kd.fl fv fr
 let R1:En:=[.v E,.v<|.aJ ks l,.o<|T++w.reverse,.v k.ds,y]
 let R2:En:=[.v E,.v<|.aJ ks l,.o T,.v k.ds,.v<|.lst w]
 have cc:yE 1 yL (zB (zE 3) zV) R1=aA (.lst<|k.kids.map Kd.ds):=yK (p:=.v<|.lst<|k.kids.map Kd.ds) (zD rfl zO) rfl (vB<|by omega);obtain⟨x',fx,pe⟩:=Ja (k.kids.map Kd.ds) w T .un trivial (by show(k.kids.map _).length=_;rw[ah,ah]);have cx:pB 2 2 (aR<|yE 1 yL<|zB (zE 3) zV) (yV 1) (vW 0) R1=aA (.lst w,[.v E,.v<|.aJ ks l,.o T,.v k.ds,y]):=by
  unfold pB;rw[show aR (yE 1 yL<|zB (zE 3) zV) R1=aA (k.kids.map Kd.ds) by unfold aR;rw[cc];rfl,ae];show(aA<|T++w.reverse).bind _=_;rw[ae,if_pos (by rw[ah];exact cm hl<|by decide)];show(mI (yV 1) (vW 0) (k.kids.map Kd.ds) [.p<|T++w.reverse,.un]).bind _=_;rw[pe];rfl
 have b:rD R1=aA (.nx [.v E,.v<|.aJ ks l,.o<|T++[k.fl fv fr],.v k.ds,.v<|.lst w]):=by
  unfold rD;refine(yF (r':=R2)<|j5 cx<|yD (x:=y) rfl hy).trans ?_;exact kF (d:=.aE) (Q1 (S:=T) rfl (yK (p:=.v<|k.fl fv fr) (zD rfl<|zD rfl<|zD rfl zO) rfl<|tD F ok)<|cm hT<|by decide)
 exact j8 (r1:=R1) (yD (x:=x) rfl hx) b
mutual
theorem Ev(F:sI S ks l fv fr)(E:D):∀(k:Kd),k.ok S->∀(T:List D) (x y:Sl),aO x->aO y->T.length+k.pre.length<=5000->∃x' y',aO x'/\aO y'/\∀rest,bH (yV 3) rD (k.pre.reverse.map Kd.ds++rest) [.v E,.v<|.aJ ks l,.o T,x,y]=bH (yV 3) rD rest [.v E,.v<|.aJ ks l,.o<|T++[k.fl fv fr],x',y']
 |.num,ok,T,x,y,hx,hy,hT=>⟨.v Kd.num.ds,.v<|.lst<|Kd.num.kids.map<|Kd.fl fv fr,trivial,trivial,λrest=>by
  have:=rF F (k:=.num) ok E T x y hx hy (by omega) rest
  simp only[Kd.kids,vp,List.reverse_nil,ff] at this;exact this⟩
 |.var n,ok,T,x,y,hx,hy,hT=>⟨.v (Kd.var n).ds,.v<|.lst<|(Kd.var n).kids.map<|Kd.fl fv fr,trivial,trivial,λrest=>by
  have:=rF F (k:=.var n) ok E T x y hx hy (by omega) rest
  simp only[Kd.kids,vp,List.reverse_nil,ff] at this;exact this⟩
 |.fn a b,ok,T,x,y,hx,hy,hT=>by
  simp only[Kd.pre,ak,ag] at hT;have pa:=vE a;obtain⟨x1,y1,f1,g1,e1⟩:=Ev F E b ok.2 T x y hx hy (by omega);obtain⟨x2,y2,f2,g2,e2⟩:=Ev F E a ok.1 (T++[b.fl fv fr]) x1 y1 f1 g1 (by rw[ag];simp only[ak,bq];omega);refine⟨.v (Kd.fn a b).ds,.v<|.lst<|(Kd.fn a b).kids.map<|Kd.fl fv fr,trivial,trivial,λrest=>?_⟩;have st:=rF F (k:=.fn a b) ok E T x2 y2 f2 g2 (by omega) rest;rw[show(Kd.fn a b).pre.reverse.map Kd.ds++rest=b.pre.reverse.map Kd.ds++(a.pre.reverse.map Kd.ds++((Kd.fn a b).ds::rest)) by simp[Kd.pre]];rw[e1,e2];rw[show T++[b.fl fv fr]++[a.fl fv fr]=T++((Kd.fn a b).kids.map<|Kd.fl fv fr).reverse by simp[Kd.kids]];exact st
 |.rw o fs tl,ok,T,x,y,hx,hy,hT=>by
  simp only[Kd.pre,ak] at hT;obtain⟨x1,y1,f1,g1,e1⟩:=I0 F E fs ok.1 T x y hx hy (by omega);refine⟨.v (Kd.rw o fs tl).ds,.v<|.lst<|(Kd.rw o fs tl).kids.map<|Kd.fl fv fr,trivial,trivial,λrest=>?_⟩;have st:=rF F (k:=.rw o fs tl) ok E T x1 y1 f1 g1 (by omega) rest;rw[show(Kd.rw o fs tl).pre.reverse.map Kd.ds++rest=fs.pre.reverse.map Kd.ds++((Kd.rw o fs tl).ds::rest) by simp[Kd.pre]];rw[e1];exact st
theorem I0(F:sI S ks l fv fr)(E:D):∀(fs:Fs),fs.ok S->∀(T:List D) (x y:Sl),aO x->aO y->T.length+fs.pre.length<=5000->∃x' y',aO x'/\aO y'/\∀rest,bH (yV 3) rD (fs.pre.reverse.map Kd.ds++rest) [.v E,.v<|.aJ ks l,.o T,x,y]=bH (yV 3) rD rest [.v E,.v<|.aJ ks l,.o<|T++(fs.b_.map<|Kd.fl fv fr).reverse,x',y']
 |.nil,ok,T,x,y,hx,hy,hT=>⟨x,y,hx,hy,λrest=>by simp[Fs.pre,Fs.b_]⟩
 |.cons l' k r,ok,T,x,y,hx,hy,hT=>by
  simp only[Fs.pre,ag] at hT;have hk:=QE r;obtain⟨x1,y1,f1,g1,e1⟩:=I0 F E r ok.2.2 T x y hx hy (by omega);obtain⟨x2,y2,f2,g2,e2⟩:=Ev F E k ok.2.1 (T++(r.b_.map<|Kd.fl fv fr).reverse) x1 y1 f1 g1 (by rw[ag,kg,ah];omega);refine⟨x2,y2,f2,g2,λrest=>?_⟩;rw[show(Fs.cons l' k r).pre.reverse.map Kd.ds++rest=r.pre.reverse.map Kd.ds++(k.pre.reverse.map Kd.ds++rest) by simp[Fs.pre],e1,e2];simp[Fs.b_]
end
def Ud(F:sI S ks l fv fr){k:Kd}(ok:k.ok S)(hs:k.pre.length<=4000):∃as,XT [.v<|.lst<|k.pre.map Kd.ds,.v<|.aJ ks l]=aA (.v<|k.fl fv fr,as):=by
 let E:D:=.lst<|k.pre.map Kd.ds
 obtain⟨x',y',fx,fy,lp⟩:=Ev F E k ok [] .un .un trivial trivial (by simp only[bq];omega);have lp:=lp [];rw[ff,ja] at lp
 let R:En:=[.v E,.v<|.aJ ks l,.o [k.fl fv fr],x',y']
 have fe:k9 (yV 3) (aR<|aX lY<|zE 0) rD [.v E,.v<|.aJ ks l,.o [],.un,.un]=aA (.nx R):=by
  unfold k9;rw[show aR (aX lY<|zE 0) [.v E,.v<|.aJ ks l,.o [],.un,.un]=aA (k.pre.reverse.map Kd.ds) by
   show aA ((k.pre.map Kd.ds).reverse)=_;rw[List.map_reverse],ae]
  exact lp
 unfold rD at fe;refine jI (r':=R) ?_;show gR [.v E,.v<|.aJ ks l,.un,.un,.un]=_;unfold gR;exact(yF (r':=[.v E,.v<|.aJ ks l,.o [],.un,.un]) rfl).trans ((yF fe).trans<|yS rfl)
def QL(F:sI S ks l fv fr){k:Kd}(ok:k.ok S)(hs:k.pre.length<=4000):∃as,d8 [.v k.ds,.v<|.aJ ks l]=aA (.v<|k.fl fv fr,as):=by
 let R:En:=[.v k.ds,.v<|.aJ ks l]
 refine jI (r':=R) ?_;show bG R=_;unfold bG;obtain⟨as,ew⟩:=cJ (k.sP ok) hs;have cf:qD (jC 1 wV<|zB (zE 0) zV) R=aA (.lst<|k.pre.map Kd.ds):=by
  have a0:zB (zE 0) zV R=aA [k.ds]:=zD rfl zO;unfold qD jC;rw[a0,ae,if_pos (show([k.ds]:List D).length=1 from rfl),show wV (([k.ds]:List D).map Sl.v)=aA (.f<|k.pre.map Kd.ds,as) from ew];rfl
 exact yS<|yK (p:=.v<|k.fl fv fr) (zD cf<|zD rfl zO) rfl<|Ud F ok hs
end
def Qq{r:En}:zJ qO (zJ sM (mC<|.int 10)<|mC<|.int 30) (mC<|.int 57) r=aA (.int 1000000000000000000000000000057):=by rfl
def J5{f g:ME}{r:En}{i j:Int}(e1:f r=aA (.int i))(e2:g r=aA (.int j))(h:i.natAbs<2 ^ 1000/\j.natAbs<2 ^ 1000):zJ BW f g r=aA (.int<|i*j):=zL e1 e2<|if_pos h
def v9{n:Nat}(h:n<2 ^ 200):n<2 ^ 1000:=bw h (by decide +kernel)
def cZ(c:Int){k:Int}(h0:0<=k)(h1:k<=1000):∃n:Int,0<=n/\∃as,xO [.v<|.int c,.v<|.int k]=aA (.v<|.int n,as):=by
 let B:Int:=1000000000000000000000000000057
 let m1:Int:=c % B*271828182845904523536028747135
 let m2:Int:=m1+k*k*314159265358979323846264338327
 have hb:0<=c % B/\c % B<B:=⟨jb _<|by decide,ic _<|by decide⟩;have Yi:(c % B).natAbs<2 ^ 200:=by have h2:c % B<1000000000000000000000000000057:=hb.2;omega
 have NF:0<=k*k/\k*k<=1000000:=⟨Int.mul_nonneg h0 h0,by
  have:=Int.mul_le_mul h1 h1 h0 (by omega)
  omega⟩
 refine⟨(m2+577215664901532860606512090082) % B,jb _<|by decide,jI (r':=[.v<|.int c,.v<|.int k,.v<|.int B,.v<|.int m2]) ?_⟩;show qF [.v<|.int c,.v<|.int k,.un,.un]=_;unfold qF;refine yR (r2:=[.v<|.int c,.v<|.int k,.v<|.int B,.un]) (.int B) Qq rfl ?_;refine yR (r2:=[.v<|.int c,.v<|.int k,.v<|.int B,.v<|.int m1]) (.int m1) (J5 (wH (i:=c) (j:=B) rfl rfl<|by decide) zF ⟨v9 Yi,v9<|by decide⟩) rfl ?_;refine yR (r2:=[.v<|.int c,.v<|.int k,.v<|.int B,.v<|.int m2]) (.int m2) (j0 rfl<|J5 (o4 (i:=k) (j:=k) rfl rfl<|by omega) zF ⟨v9<|by omega,v9<|by decide⟩) rfl ?_;exact yS (wH (j0 rfl zF) rfl<|by decide)
def XH(ns:List Int)(k:Nat):∃as,wB [.v<|.lst<|ns.map D.int,.v<|.int (k:Int)]=aA (.v<|.int<|ns.getD k 0,as):=by
 let R:En:=[.v<|.lst<|ns.map D.int,.v<|.int (k:Int)]
 refine jI (r':=R) ?_;show x9 R=_;unfold x9;have c0:aP (zJ Cp (zE 1)<|aX mF<|zE 0) R=aA (decide (k<ns.length)):=(wZ<|zL (x:=.int (k:Int)) (y:=.int (ns.length:Int)) (d:=.bl<|decide ((k:Int)<(ns.length:Int))) rfl (cN (x:=.lst<|ns.map D.int) rfl (by show aA (D.int ((ns.map D.int).length:Int))=_;rw[ah])) rfl).trans (by congr 1;rw[decide_eq_decide];omega);by_cases h:k<ns.length
 .refine kR (c0.trans<|by rw[decide_eq_true h])<|yS<|zL (x:=.lst<|ns.map D.int) rfl rfl ?_;rw[cy,au h];exact yB (by simp[h])
 .refine yY (c0.trans<|by rw[decide_eq_false h])<|yS ?_;rw[cy,ji<|by omega];rfl
def kept:Ws:=[[100,101,102],[102,110],[100,111],[101,109,112,116,121],[103,101,116],[119,105,116,104],[112,117,116],[108,101,115,115],[116,97,103],[119,105,100,101],[99,97,115,101],[110,101,118,101,114],[105,102]]
def YV:∀u∈kept,113∉u/\2<=u.length/\u.length<=5:=by decide
def UO:∀u∈kept,∀v∈kept,u.length=v.length->∀p,p<5->u.take p=v.take p->u.drop (p+1)=v.drop (p+1)->u=v:=by decide +kernel
def red(w:List Nat):List Nat:=if w∈kept then bg w.length 113 else w
def Z6(w:List Nat):(red w).length=w.length:=by
 unfold red;split
 .rw[wm]
 .rfl
def TW{w:List Nat}(h:∀c∈w,97<=c/\c<=122):∀c∈red w,97<=c/\c<=122:=λc hc=>by
 unfold red at hc;split at hc
 .rw[(List.mem_replicate.mp hc).2];decide
 .exact h c hc
noncomputable def fA(B:List Nat)(pl lg s:Nat):List Nat:=B.take pl++[s]++(B.take lg).drop (pl+1)
def jT{B:List Nat}{pl lg:Nat}(h8:B.length=8)(h1:pl<lg)(h2:lg<=8)(s:Nat):(fA B pl lg s).length=lg/\(fA B pl lg s).take pl=B.take pl/\(fA B pl lg s).drop (pl+1)=(B.take lg).drop (pl+1):=by
 have l1:(B.take pl).length=pl:=by rw[cu];omega
 have l2:(B.take pl++[s]).length=pl+1:=by rw[ag,l1];rfl
 unfold fA;refine⟨?_,?_,?_⟩
 .rw[ag,l2,kr,cu];omega
 .rw[kb,List.take_left' l1]
 .rw[List.drop_left' l2]
def Q3{B:List Nat}{pl lg s s':Nat}(e:fA B pl lg s=fA B pl lg s'):s=s':=by
 unfold fA at e
 have:=(List.append_inj e<|by simp).1
 have:=(List.append_inj this rfl).2
 exact(List.cons.inj this).1
def YE{B:List Nat}{pl lg s s':Nat}(h8:B.length=8)(h1:pl<lg)(h2:lg<=8)(hk:fA B pl lg s∈kept)(e:bg lg 113=fA B pl lg s'):False:=by
 have n:=YV _ hk;have p:=jT h8 h1 h2 s;have p':=jT h8 h1 h2 s';rw[p.1] at n;have all:∀x∈fA B pl lg s',x=113:=λx hx=>by rw[<-e] at hx;exact(List.mem_replicate.mp hx).2
 rcases xl pl with z|z
 .subst z;have fC:((B.take lg).drop 1)≠[]:=aad (by rw[kr,cu];omega);obtain⟨x,hx⟩:=aae _ fC
  have:=all x (by unfold fA;exact cr _ hx)
  subst this;exact n.1 (by unfold fA;exact cr _ hx)
 .have fC:B.take pl≠[]:=aad (by rw[cu];omega);obtain⟨x,hx⟩:=aae _ fC
  have:=all x (by unfold fA;exact ma _<|ma _ hx)
  subst this;exact n.1 (by unfold fA;exact ma _<|ma _ hx)
def TX{B:List Nat}{pl lg s s':Nat}(h8:B.length=8)(h1:pl<lg)(h2:lg<=8)(hs:s≠s'):red (fA B pl lg s)≠red (fA B pl lg s'):=λe=>by
 have p:=jT h8 h1 h2 s;have p':=jT h8 h1 h2 s';unfold red at e;rw[p.1,p'.1] at e;by_cases c:fA B pl lg s∈kept
 .rw[if_pos c] at e;by_cases c':fA B pl lg s'∈kept
  .have n:=YV _ c;rw[p.1] at n;exact hs (Q3<|UO _ c _ c' (by rw[p.1,p'.1]) pl (by omega) (by rw[p.2.1,p'.2.1])<|by rw[p.2.2,p'.2.2])
  .rw[if_neg c'] at e;exact YE h8 h1 h2 c e
 .rw[if_neg c] at e;by_cases c':fA B pl lg s'∈kept
  .rw[if_pos c'] at e;exact YE h8 h1 h2 c' e.symm
  .rw[if_neg c'] at e;exact hs<|Q3 e
noncomputable def eY:List Nat:=[97,98,99,100,101,102,103,104,105,106,107,108,109,110,111,112,113,114,115,116,117,118,119,120,121,122]
def Qn:∀i,i<26->eY[i]?=aA (97+i):=by decide
def E5(a:Int):0<=a % 26/\a % 26<26:=⟨jb _<|by decide,ic _<|by decide⟩
noncomputable def chr(a:Int):Nat:=97+(a % 26).toNat
def K3(a:Int):97<=chr a/\chr a<=122:=by have:=E5 a;unfold chr;omega
def KL{f g:ME}{r:En}{a:Int}(e1:f r=aA (.str eY))(e2:g r=aA (.int a)):zJ aD f (zJ w6 g<|mC<|.int 26) r=aA (.str [chr a]):=by
 have q:=E5 a;refine zL e1 (y:=.int ((a % 26).toNat:Int)) ?_ ?_
 .rw[gw q.1];exact wH e2 zF (by decide)
 .show(if eY.length<=ar then (f9 eY ((a % 26).toNat:Int)).map (λc=>D.str [c]) else aB)=_;rw[if_pos<|cz (by decide:eY.length<=100)<|by decide,yB<|Qn _<|by omega];rfl
def CS:MS:=(yO (qP 6<|zJ qO (zE 6)<|zJ aD (zE 1)<|zJ w6 (zE 5)<|mC<|.int 26)
 (qP 5<|zJ xJ (zE 5)<|mC<|.int 26))
theorem rL(N KT LG PL:D):∀(l:List D) (t:List Nat) (q:Int) (x:Sl),aO x->t.length+l.length<=50->∃(t':List Nat) (q':Int) (x':Sl),aO x'/\t'.length=l.length/\(∀c∈t',97<=c/\c<=122) /\
  bH (yV 7) CS l [.v N,.v<|.str eY,.v KT,.v LG,.v PL,.v<|.int q,.v<|.str t,x,.un,.un,.un]=aA (.nx [.v N,.v<|.str eY,.v KT,.v LG,.v PL,.v<|.int q',.v<|.str<|t++t',x',.un,.un,.un])
 |[],t,q,x,hx,_=>⟨[],q,x,hx,rfl,by simp,by simp[bH]⟩
 |d::l,t,q,x,hx,h=>by
  rw[ak] at h;obtain⟨t',q',x',fx,hl,hc,ih⟩:=rL N KT LG PL l (t++[chr q]) (q / 26) (.v d) trivial (by rw[ag];simp only[ak,bq];omega);refine⟨chr q::t',q',x',fx,by rw[ak,ak,hl],λc h=>?_,?_⟩
  .rcases bb.mp h with rfl|h
   .exact K3 q
   .exact hc c h
  .let R:En:=[.v N,.v<|.str eY,.v KT,.v LG,.v PL,.v<|.int q,.v<|.str t,.v d,.un,.un,.un]
   let R2:En:=[.v N,.v<|.str eY,.v KT,.v LG,.v PL,.v<|.int q,.v<|.str<|t++[chr q],.v d,.un,.un,.un]
   let R3:En:=[.v N,.v<|.str eY,.v KT,.v LG,.v PL,.v<|.int<|q / 26,.v<|.str<|t++[chr q],.v d,.un,.un,.un]
   have b:CS R=aA (.nx R3):=by
    unfold CS;refine(yF (r':=R2)<|kG (zL (x:=.str t) rfl (KL rfl rfl)<|ZP (by show _+1<=_;omega)) rfl).trans ?_;exact kG (wJ (i:=q) rfl zF<|by decide) rfl
   rw[j8 (r1:=R) (yD (x:=x) rfl hx) b,ih,kb];rfl
def Aa(B:List Nat)(pl lg:Nat)(q:Int)(k:Nat):List Nat:=if q / 26 % 4=1 then B.take (8-k) else fA B pl lg<|chr<|q+5*(k:Int)
def CT:MS:=(yO (qP 9<|zJ aD (zE 1)<|zJ w6 (zJ qO (zE 5)<|zJ XU (mC<|.int 5)<|zE 7)<|mC<|.int 26)
 (yO (qP 10<|zJ qO (zJ qO (fB (zE 6) mO<|w4<|zE 4)<|zE 9)<|fB (zE 6) (w4<|zJ qO (zE 4)<|mC<|.int 1)<|w4<|zE 3)
 (yO (aU (aP<|zJ c_ (zJ w6 (zJ xJ (zE 5)<|mC<|.int 26)<|mC<|.int 4)<|mC<|.int 1)
 (qP 10<|fB (zE 6) mO<|w4<|zJ BY (mC<|.int 8)<|zE 7)
 xV)
 (yO (aU (aP<|zJ (inD false) (zE 10)<|zE 2)
 (qP 10<|zJ CO (mC<|.str [113])<|aX mF<|zE 10)
 xV)
 (sX<|nA 8<|zE 10)))))
theorem KG(t:List Nat):∀ss:Ws,((ss.map D.str).any λz=>iZ z<|.str t)=decide (t∈ss)
 |[]=>by simp
 |x::ss=>by
  rw[am,jt,KG t ss];show(decide (x=t) || decide (t∈ss))=_;by_cases c:x=t
  .subst c;simp
  .have c':¬t=x:=λe=>c e.symm
   simp[c,c']
def O9{w:List Nat}{l:Ws}:inD false (.str w) (.lst<|dw l)=aA (.bl<|decide (w∈l)):=by
 show(if jJ (.str w)=true/\(l.map D.str).all jJ=true then aA (D.bl<|(l.map D.str).any λz=>iZ z<|.str w) else aB)=_;rw[if_pos ⟨rfl,by rw[List.all_map,so];exact λ_ _=>rfl⟩,KG]
def SQ{s:List Nat}(h:s.length<=100):mF (.str s)=aA (.int (s.length:Int)):=if_pos (cz h<|by decide)
def rX{f:ME}{lo hi:MO}{r:En}{s:List Nat}{a b:Option Int}(e1:f r=aA (.str s))(e2:lo r=aA a)(e3:hi r=aA b)(h:s.length<=100):fB f lo hi r=aA (.str<|XW s a b):=GU e1 e2 e3 (if_pos<|cz h<|by decide)
def UW{B:List Nat}(h8:B.length=8){pl lg:Nat}(h1:pl<lg)(h2:lg<=8)(q:Int)(k:Nat):(Aa B pl lg q k).length<=8:=by
 unfold Aa;split
 .rw[cu];omega
 .rw[(jT h8 h1 h2 _).1];exact h2
theorem YO(N:D){B:List Nat}(h8:B.length=8){pl lg:Nat}(h1:pl<lg)(h2:lg<=8)(q:Int):∀(n s:Nat) (Fd:List D) (x y z:Sl),aO x->aO y->aO z->s+n<=6->Fd.length+n<=50 ->
  ∃x' y' z',bH (yV 7) CT ((mr s n).map λj=>D.int<|(0:Int)+(j:Nat)) [.v N,.v<|.str eY,.v<|.lst<|dw kept,.v<|.int (lg:Int),.v<|.int (pl:Int),.v<|.int q,.v<|.str B,x,.o Fd,y,z]=aA (.nx [.v N,.v<|.str eY,.v<|.lst<|dw kept,.v<|.int (lg:Int),.v<|.int (pl:Int),.v<|.int q,.v<|.str B,x',.o<|Fd++(mr s n).map λk=>D.str<|red<|Aa B pl lg q k,y',z'])
 |0,s,Fd,x,y,z,_,_,_,_,_=>⟨x,y,z,by simp[bH]⟩
 |n+1,s,Fd,x,y,z,hx,hy,hz,hs,hF=>by
  let w:=Aa B pl lg q s
  have wl:w.length<=8:=UW h8 h1 h2 q s;obtain⟨x',y',z',ih⟩:=YO N h8 h1 h2 q n (s+1) (Fd++[.str<|red w]) (.v<|.int (s:Int)) (.v<|.str [chr<|q+5*(s:Int)]) (.v<|.str<|red w) trivial trivial trivial (by omega) (by rw[ag];simp only[ak,bq];omega);refine⟨x',y',z',?_⟩;rw[sj,am,am,acb]
  let aV:Sl->Sl->Sl->En:=λy z o=>[.v N,.v<|.str eY,.v<|.lst<|dw kept,.v<|.int (lg:Int),.v<|.int (pl:Int),.v<|.int q,.v<|.str B,.v<|.int (s:Int),o,y,z]
  let sg:List Nat:=[chr<|q+5*(s:Int)]
  let w0:=fA B pl lg<|chr<|q+5*(s:Int)
  have e9:zJ aD (zE 1) (zJ w6 (zJ qO (zE 5)<|zJ XU (mC<|.int 5)<|zE 7)<|mC<|.int 26) (aV y z<|.o Fd)=aA (.str sg):=KL rfl (j0 rfl<|o4 zF rfl<|by omega);have BI:zJ qO (zJ qO (fB (zE 6) mO<|w4<|zE 4)<|zE 9) (fB (zE 6) (w4<|zJ qO (zE 4)<|mC<|.int 1)<|w4<|zE 3) (aV (.v<|.str sg) z<|.o Fd)=aA (.str w0):=by
   have a1:fB (zE 6) mO (w4<|zE 4) (aV (.v<|.str sg) z<|.o Fd)=aA (.str<|B.take pl):=by
    rw[<-GX B pl];exact rX rfl rfl (j6 rfl) (by omega)
   have a2:fB (zE 6) (w4<|zJ qO (zE 4)<|mC<|.int 1) (w4<|zE 3) (aV (.v<|.str sg) z<|.o Fd)=aA (.str<|(B.take lg).drop<|pl+1):=by
    rw[<-LL B (pl+1) lg,Int.natCast_add];exact rX rfl (j6<|j0 rfl zF) (j6 rfl) (by omega)
   exact zL (zL a1 rfl<|ZP (by rw[cu];show _+1<=_;omega)) a2<|ZP (by rw[ag,kr,cu,cu];show _+1+_<=_;omega)
  have c1:aP (zJ c_ (zJ w6 (zJ xJ (zE 5)<|mC<|.int 26)<|mC<|.int 4)<|mC<|.int 1) (aV (.v<|.str sg) (.v<|.str w0)<|.o Fd)=aA (decide (q / 26 % 4=1)):=wZ<|zL (wH (wJ (i:=q) rfl zF<|by decide) zF<|by decide) zF rfl;have i1:aU (aP<|zJ c_ (zJ w6 (zJ xJ (zE 5)<|mC<|.int 26)<|mC<|.int 4)<|mC<|.int 1) (qP 10<|fB (zE 6) mO<|w4<|zJ BY (mC<|.int 8)<|zE 7) xV (aV (.v<|.str sg) (.v<|.str w0)<|.o Fd)=aA (.nx<|aV (.v<|.str sg) (.v<|.str w)<|.o Fd):=by
   by_cases h:q / 26 % 4=1
   .rw[bM<|c1.trans<|by rw[decide_eq_true h]];have ew:w=B.take (8-s):=if_pos h;rw[ew];refine kG (d:=.str<|B.take<|8-s) ?_ rfl;rw[<-GX B<|8-s];refine rX rfl rfl (j6 ?_) (by omega);rw[show((8-s:Nat):Int)=8-(s:Int) by omega];exact RL zF rfl
   .have ew:w=w0:=if_neg h;rw[jE<|c1.trans<|by rw[decide_eq_false h],ew];rfl
  have c2:aP (zJ (inD false) (zE 10)<|zE 2) (aV (.v<|.str sg) (.v<|.str w)<|.o Fd)=aA (decide (w∈kept)):=wZ<|zL (x:=.str w) (y:=.lst<|dw kept) rfl rfl O9;have i2:aU (aP<|zJ (inD false) (zE 10)<|zE 2) (qP 10<|zJ CO (mC<|.str [113])<|aX mF<|zE 10) xV (aV (.v<|.str sg) (.v<|.str w)<|.o Fd)=aA (.nx<|aV (.v<|.str sg) (.v<|.str<|red w)<|.o Fd):=by
   by_cases h:w∈kept
   .rw[bM<|c2.trans<|by rw[decide_eq_true h]];have ew:red w=bg w.length 113:=if_pos h;rw[ew];refine kG (d:=.str<|bg w.length 113) (zL zF (cN (x:=.str w) rfl<|SQ<|by omega) ?_) rfl;show(if (0:Int)<=(w.length:Int)/\(w.length:Int)<=1000 then aA (D.str<|bg (w.length:Int).toNat 113) else aB)=_;rw[if_pos ⟨by omega,by omega⟩,gy]
   .have ew:red w=w:=if_neg h;rw[jE<|c2.trans<|by rw[decide_eq_false h],ew];rfl
  have b:CT (aV y z<|.o Fd)=aA (.nx<|aV (.v<|.str sg) (.v<|.str<|red w)<|.o<|Fd++[.str<|red w]):=by
   unfold CT;refine(yF (r':=aV (.v<|.str sg) z<|.o Fd)<|kG e9<|yD (x:=y) rfl hy).trans ((yF (r':=aV (.v<|.str sg) (.v<|.str w0)<|.o Fd)<|kG BI<|yD (x:=z) rfl hz).trans<|(yF i1).trans<|(yF i2).trans ?_);exact kF (d:=.aE) (Q1 rfl rfl<|cm (by omega:Fd.length<=50)<|by decide)
  refine(j8 (r1:=aV y z<|.o Fd) (yD (x:=x) rfl hx) b).trans (ih.trans ?_);simp[w]
structure É(L:Ws):Prop where
 len:L.length=6
 nd:L.Nodup
 low:∀l∈L,∀c∈l,97<=c/\c<=122
 pos:∀l∈L,l≠[]
def W4(n:Int):∃L,É L/\∃as,qM [.v<|.int n]=aA (.f<|dw L,as):=by
 have q8:0<=n % 8/\n % 8<8:=⟨jb _<|by decide,ic _<|by decide⟩;obtain⟨lg,Zj⟩:∃z:Nat,(z:Int)=1+n % 8:=⟨(1+n % 8).toNat,gw<|by omega⟩;have qp:0<=n / 8 % (lg:Int)/\n / 8 % (lg:Int)<lg:=⟨jb _<|by omega,ic _<|by omega⟩;obtain⟨pl,Zh⟩:∃z:Nat,(z:Int)=n / 8 % (lg:Int):=⟨(n / 8 % (lg:Int)).toNat,gw qp.1⟩;have h1:pl<lg:=by omega
 have h2:lg<=8:=by omega
 let rg:List D:=(fg 8).map λk=>.int<|(0:Int)+(k:Nat)
 obtain⟨B,q,x1,Zb,hB,cB,No⟩:=rL (.int n) (.lst<|dw kept) (.int (lg:Int)) (.int (pl:Int)) rg [] (n / 64) .un trivial (by show 0+8<=50;decide);have h8:B.length=8:=by rw[hB];rfl
 rw[ja] at No;obtain⟨x2,y2,z2,HZ⟩:=YO (.int n) h8 h1 h2 q 6 0 [] x1 .un .un Zb trivial trivial (by decide) (by decide);rw[ja] at HZ
 let L:Ws:=(mr 0 6).map λk=>red<|Aa B pl lg q k
 have eL:((mr 0 6).map λk=>D.str<|red<|Aa B pl lg q k)=dw L:=by show _=L.map D.str;rw[dm];rfl
 rw[eL] at HZ;have m6:∀{i:Nat},i∈mr 0 6->i<6:=λ{i} h=>by rw[List.mem_range'_1] at h;omega
 refine⟨L,⟨by rw[ah,List.length_range'],?_,λl hl c hc=>?_,λl hl e=>?_⟩,?_⟩
 .show List.Pairwise _ _;rw[du];refine ux (R:=λi j=>i<j) (λ{i j} hi hj eP e=>?_) abf;have hi:=m6 hi;have hj:=m6 hj;unfold Aa at e;by_cases c:q / 26 % 4=1
  .rw[if_pos c,if_pos c] at e
   have:=congrArg oq e
   rw[Z6,Z6,cu,cu] at this;omega
  .rw[if_neg c,if_neg c] at e;refine TX h8 h1 h2 (λz=>?_) e;unfold chr at z;have a:=E5<|q+5*(i:Int);have b:=E5<|q+5*(j:Int);omega
 .obtain⟨k,hk,rfl⟩:=cq.mp hl;refine TW (λc hc=>?_) c hc;unfold Aa at hc;split at hc
  .exact cB c<|on hc
  .unfold fA at hc;rcases aq.mp hc with hc|hc
   .rcases aq.mp hc with hc|hc
    .exact cB c<|on hc
    .rw[bf.mp hc];exact K3 _
   .exact cB c<|on<|List.mem_of_mem_drop hc
 .obtain⟨k,hk,rfl⟩:=cq.mp hl;have hk:=m6 hk
  have:=congrArg oq e
  rw[Z6] at this;unfold Aa at this;split at this
  .rw[cu,bq] at this;omega
  .rw[(jT h8 h1 h2 _).1,bq] at this;omega
 .let K0:D:=.lst<|dw kept
  let R0:En:=[.v<|.int n,.un,.un,.un,.un,.un,.un,.un,.un,.un,.un]
  let R1:En:=[.v<|.int n,.v<|.str eY,.un,.un,.un,.un,.un,.un,.un,.un,.un]
  let R2:En:=[.v<|.int n,.v<|.str eY,.v K0,.un,.un,.un,.un,.un,.un,.un,.un]
  let R3:En:=[.v<|.int n,.v<|.str eY,.v K0,.v<|.int (lg:Int),.un,.un,.un,.un,.un,.un,.un]
  let R4:En:=[.v<|.int n,.v<|.str eY,.v K0,.v<|.int (lg:Int),.v<|.int (pl:Int),.un,.un,.un,.un,.un,.un]
  let R5:En:=[.v<|.int n,.v<|.str eY,.v K0,.v<|.int (lg:Int),.v<|.int (pl:Int),.v<|.int<|n / 64,.un,.un,.un,.un,.un]
  let R6:En:=[.v<|.int n,.v<|.str eY,.v K0,.v<|.int (lg:Int),.v<|.int (pl:Int),.v<|.int<|n / 64,.v<|.str [],.un,.un,.un,.un]
  let R7:En:=[.v<|.int n,.v<|.str eY,.v K0,.v<|.int (lg:Int),.v<|.int (pl:Int),.v<|.int q,.v<|.str B,x1,.un,.un,.un]
  let R8:En:=[.v<|.int n,.v<|.str eY,.v K0,.v<|.int (lg:Int),.v<|.int (pl:Int),.v<|.int q,.v<|.str B,x1,.o [],.un,.un]
  have f1:k9 (yV 7) (mR<|mC<|.int 8) CS R6=aA (.nx R7):=by
   unfold k9;rw[WG (n:=8) rfl<|by decide,ae];exact No
  have f2:k9 (yV 7) (mR<|mC<|.int 6) CT R8=aA (.nx [.v<|.int n,.v<|.str eY,.v K0,.v<|.int (lg:Int),.v<|.int (pl:Int),.v<|.int q,.v<|.str B,x2,.o<|dw L,y2,z2]):=by
   unfold k9;rw[WG (n:=6) rfl<|by decide,ae,wx];exact HZ
  unfold CS at f1;unfold CT at f2;have e:xZ R0=aA (.rf (dw L) [.v<|.int n,.v<|.str eY,.v K0,.v<|.int (lg:Int),.v<|.int (pl:Int),.v<|.int q,.v<|.str B,x2,.o<|dw L,y2,z2]):=by
   unfold xZ;refine yR (r2:=R1) (.str eY) zF rfl<|yR (r2:=R2) K0 rfl rfl<|yR (r2:=R3) (.int (lg:Int)) (by rw[Zj];exact j0 zF<|wH rfl zF<|by decide) rfl ?_;refine yR (r2:=R4) (.int (pl:Int)) (by rw[Zh];exact wH (wJ rfl zF<|by decide) rfl<|by omega) rfl ?_;refine yR (r2:=R5) (.int<|n / 64) (wJ rfl zF<|by decide) rfl<|yR (r2:=R6) (.str []) zF rfl ?_;exact(yF f1).trans ((yF (r':=R8) rfl).trans<|(yF f2).trans rfl)
  unfold qM aY;show ∃as,(xZ R0).bind _=_;rw[e];exact⟨_,rfl⟩
noncomputable def fE:Option Int->List Int
 |none=>[]
 |some t=>[t]
def Kd.iO:Kd->List Int
 |.var n=>[n]
 |.rw _ _ tl=>fE tl
 |_=>[]
def JS(k:Kd):∃as,yU [.v k.ds]=aA (.v<|.lst<|k.iO.map D.int,as):=by
 let R:En:=[.v k.ds]
 refine jI (r':=R) ?_;show wT R=_;unfold wT;have hd:∀(w:List Nat) (l:List D),k.ds=.tup (.str w::l)->∀u:List Nat,aP (zJ c_ (zJ aD (zE 0)<|mC<|.int 0)<|mC<|.str u) R=aA (decide (w=u)):=λw l e u=>wZ<|zL (zL (x:=.tup (.str w::l)) (by show aA k.ds=_;rw[e]) zF<|xE _ _) zF rfl
 have hr:mQ (yE 1 xF<|zB (zE 0) zV) R=aA k.n_:=hE<|yK (p:=.v<|.bl k.n_) (zD rfl zO) rfl<|r8 k;cases k with
 |num=>exact yY (hd sN [] rfl oE)<|yY (jF hr)<|yS<|qS zO (by show 0<=100;decide)
 |var n=>exact kR (hd oE [.int n] rfl oE)<|yS<|qS (zD (zL (x:=(Kd.var n).ds) rfl zF<|yB (j:=1) rfl) zO) (by show 1<=100;decide)
 |fn a b=>exact yY (hd mN [a.ds,b.ds] rfl oE)<|yY (jF hr)<|yS<|qS zO (by show 0<=100;decide)
 |rw o fs tl=>
  have e1:aP (zJ c_ (zJ aD (zE 0)<|mC<|.int 0)<|mC<|.str [118,97,114]) R=aA false:=(hd (lH o) [.tup [.str oF,.tup fs.ds,a_ tl]] rfl oE).trans (by cases o<;>rfl);have e2:zJ aD (zJ aD (zE 0)<|mC<|.int 1) (mC<|.int 2) R=aA (a_ tl):=zL (x:=.tup [.str oF,.tup fs.ds,a_ tl]) (zL (x:=(Kd.rw o fs tl).ds) rfl zF<|yB (j:=1) rfl) zF<|yB (j:=2) rfl;cases tl with
  |none=>exact yY e1<|yY (jZ hr<|wZ<|zL e2 zF rfl)<|yS<|qS zO (by show 0<=100;decide)
  |some t=>exact yY e1<|kR (jZ hr<|wZ<|zL e2 zF rfl)<|yS<|qS (zD e2 zO) (by show 1<=100;decide)
noncomputable def ins(ns:List Int)(n:Int):List Int:=if n∈ns then ns else ns++[n]
def jN(ns:List Int)(o:List Int):List Int:=o.foldl ins ns
def j7(ns o p:List Int):jN ns (o++p)=jN (jN ns o) p:=yf
def L_(ns:List Int)(n:Int):(ins ns n).length<=ns.length+1:=by
 unfold ins;split
 .exact rc _
 .rw[ag];exact al _
theorem jA:∀(o ns:List Int),(jN ns o).length<=ns.length+o.length
 |[],ns=>al _
 |n::o,ns=>by
  have:=jA o<|ins ns n
  have:=L_ ns n
  show(jN (ins ns n) o).length<=_;rw[ak];omega
abbrev xQ(ns:List Int):List Key:=ns.map Sum.inl
def JK(ns:List Int)(l:List D)(n:Int)(d:D):(mX (xQ ns) l (.inl n) d).1=xQ (ins ns n):=by
 have e:((xQ ns).any λj=>decide (j=(Sum.inl n:Key)))=decide (n∈ns):=by
  rw[jp,sn,decide_eq_true_eq];constructor
  .rintro ⟨x,hx,h⟩;obtain⟨m,hm,rfl⟩:=cq.mp hx;rw[decide_eq_true_eq] at h;rw[<-ut h];exact hm
  .exact λh=>⟨.inl n,qe h,by simp⟩
 unfold mX ins;rw[e];by_cases h:n∈ns
 .rw[decide_eq_true h,if_pos rfl,if_pos h]
 .rw[decide_eq_false h,if_neg bc,if_neg h];show xQ ns++[_]=xQ (ns++[n]);rw[show xQ (ns++[n])=xQ ns++xQ [n] from bn];rfl
mutual
noncomputable def Kd.ord:Kd->List Int
 |.num=>[]
 |.var n=>[n]
 |.fn a b=>a.ord++b.ord
 |.rw _ fs tl=>fs.ord++fE tl
noncomputable def Fs.ord:Fs->List Int
 |.nil=>[]
 |.cons _ k r=>k.ord++r.ord
end
def EH:MS:=(yO (kH 3<|vW 2)
 (aU (mQ<|aX (dG "int")<|zE 3)
 (cQ 1 (zE 3)<|mC<|.bl true)
 (sX<|w_ 2<|aX lY<|zJ qO (yE 1 yL<|zB (zE 3) zV)<|yE 1 yU<|zB (zE 3) zV)))
abbrev wN(m:Nat)(E:D)(ks:List Key)(l S:List D)(x:Sl):Option Fl:=jB m (o8<|c5 2) EH [.v E,.d false ks l,.o S,x]
def UC(k:Kd):k.iO.length<=1:=by
 cases k with
 |rw o fs tl=>cases tl<;>first|exact bu _|exact al _
 |num=>exact bu _
 |var n=>exact al _
 |fn a b=>exact bu _
def P6(k:Kd):∃l,k.ds=.tup l:=by cases k<;>exact⟨_,rfl⟩
def rW{E:D}{ks:List Key}{l S:List D}{x:Sl}{k:Kd}(hx:aO x)(h:k.wd)(hS:S.length<=10000)(m:Nat):wN (m+1) E ks l (S++[k.ds]) x=wN m E ks l (S++((k.kids.map Kd.ds)++(k.iO.map D.int)).reverse) (.v k.ds):=by
 refine cK (m7 (S:=S) (d:=k.ds) rfl) ?_;unfold EH;have hl:=vK h;have ho:=UC k
 let R1:En:=[.v E,.d false ks l,.o S,.v k.ds]
 have pop:kH 3 (vW 2) [.v E,.d false ks l,.o<|S++[k.ds],x]=aA (.nx R1):=j5 (tK rfl)<|yD (x:=x) rfl hx;have cc:yE 1 yL (zB (zE 3) zV) R1=aA (.lst<|k.kids.map Kd.ds):=yK (p:=.v<|.lst<|k.kids.map Kd.ds) (zD rfl zO) rfl (vB<|by omega);have co:yE 1 yU (zB (zE 3) zV) R1=aA (.lst<|k.iO.map D.int):=yK (p:=.v<|.lst<|k.iO.map D.int) (zD rfl zO) rfl<|JS k;have ca:zJ qO (yE 1 yL<|zB (zE 3) zV) (yE 1 yU<|zB (zE 3) zV) R1=aA (.lst<|(k.kids.map Kd.ds)++(k.iO.map D.int)):=Gy cc co (by rw[ah,ah];omega);have ci:mQ (aX (dG "int")<|zE 3) R1=aA false:=by
  obtain⟨l',e⟩:=P6 k;refine hE<|cN (x:=.tup l') (by show aA k.ds=_;rw[e]) rfl
 refine(yF pop).trans ((jE ci).trans ?_);exact kF (d:=.aE)<|G6 (S:=S) (cN ca rfl) rfl (by rw[kg,ag,ah,ah];exact cz (by omega:_<=10009)<|by decide) (e:=rfl)
def Lp{E:D}{ns:List Int}{l S:List D}{x:Sl}{n:Int}(hx:aO x)(hk:ns.length<=1000):∃l',∀m,wN (m+1) E (xQ ns) l (S++[.int n]) x=wN m E (xQ<|ins ns n) l' S (.v<|.int n):=by
 refine⟨(mX (xQ ns) l (.inl n)<|.bl true).2,λm=>?_⟩;rw[<-JK ns l n<|.bl true];refine cK (m7 (S:=S) (d:=.int n) rfl) ?_;unfold EH
 let R1:En:=[.v E,.d false (xQ ns) l,.o S,.v<|.int n]
 have pop:kH 3 (vW 2) [.v E,.d false (xQ ns) l,.o<|S++[.int n],x]=aA (.nx R1):=j5 (tK rfl)<|yD (x:=x) rfl hx;have ci:mQ (aX (dG "int")<|zE 3) R1=aA true:=hE<|cN (x:=.int n) rfl rfl;refine(yF pop).trans ((bM ci).trans ?_);unfold cQ;show(if (xQ ns).length<ar then _ else aB)=_;rw[if_pos (by rw[ah];exact cm hk<|by decide)];rfl
def YC:∀k:Kd,k.ord.length<=k.pre.length:=λk=>FD k
where
 FD:∀k:Kd,k.ord.length<=k.pre.length
  |.num=>bu _
  |.var n=>al _
  |.fn a b=>by have:=FD a;have:=FD b;simp only[Kd.ord,Kd.pre,ag,ak];omega
  |.rw o fs tl=>by
   have:=M3 fs
   have:(fE tl).length<=1:=by cases tl<;>first|exact bu _|exact al _
   simp only[Kd.ord,Kd.pre,ag,ak];omega
 M3:∀fs:Fs,fs.ord.length<=fs.pre.length
  |.nil=>al _
  |.cons _ k r=>by have:=FD k;have:=M3 r;simp only[Fs.ord,Fs.pre,ag];omega
mutual
theorem Ey(E:D):∀(k:Kd),k.wd->∀(S:List D) (ns:List Int) (l:List D) (x:Sl),aO x->ns.length+k.ord.length<=900->S.length+2*k.pre.length<=5000->∃c l' x',c<=2*k.pre.length/\aO x'/\∀m,wN (c+m) E (xQ ns) l (S++[k.ds]) x=wN m E (xQ<|jN ns k.ord) l' S x'
 |.num,h,S,ns,l,x,hx,hk,hS=>by
  refine⟨1,l,.v Kd.num.ds,by show 1<=2*1;decide,trivial,λm=>?_⟩;rw[Nat.add_comm 1 m,rW hx h<|by omega];simp[Kd.kids,Kd.iO,Kd.ord,jN]
 |.var n,h,S,ns,l,x,hx,hk,hS=>by
  have hp:(Kd.var n).pre.length=1:=rfl;obtain⟨l',e⟩:=Lp (E:=E) (ns:=ns) (l:=l) (S:=S) (x:=.v (Kd.var n).ds) (n:=n) trivial (by omega);refine⟨2,l',.v<|.int n,by omega,trivial,λm=>?_⟩;rw[show 2+m=(m+1)+1 by omega,rW hx h<|by omega];rw[show S++(((Kd.var n).kids.map Kd.ds)++((Kd.var n).iO.map D.int)).reverse=S++[.int n] from rfl,e m];rfl
 |.fn a b,h,S,ns,l,x,hx,hk,hS=>by
  have hp:(Kd.fn a b).pre.length=a.pre.length+b.pre.length+1:=by simp[Kd.pre]
  have ho:(Kd.fn a b).ord.length=a.ord.length+b.ord.length:=by simp[Kd.ord]
  have pb:=vE b;have hi:=jA a.ord ns;obtain⟨c1,l1,x1,b1,f1,e1⟩:=Ey E a h.1 (S++[b.ds]) ns l (.v (Kd.fn a b).ds) trivial (by omega) (by rw[ag];simp only[ak,bq];omega);obtain⟨c2,l2,x2,b2,f2,e2⟩:=Ey E b h.2 S (jN ns a.ord) l1 x1 f1 (by omega) (by omega);refine⟨c1+c2+1,l2,x2,by omega,f2,λm=>?_⟩;rw[show c1+c2+1+m=(c1+(c2+m))+1 by omega,rW hx h<|by omega];rw[show S++(((Kd.fn a b).kids.map Kd.ds)++((Kd.fn a b).iO.map D.int)).reverse=S++[b.ds]++[a.ds] by simp[Kd.kids,Kd.iO],e1,e2,<-j7];rfl
 |.rw o fs tl,h,S,ns,l,x,hx,hk,hS=>by
  have hp:(Kd.rw o fs tl).pre.length=fs.pre.length+1:=by simp[Kd.pre]
  have ho:(Kd.rw o fs tl).ord.length=fs.ord.length+(fE tl).length:=by simp[Kd.ord]
  have hi:=jA fs.ord ns;cases tl with
  |none=>
   obtain⟨c1,l1,x1,b1,f1,e1⟩:=GC E fs h.2 S ns l (.v (Kd.rw o fs aB).ds) trivial (by omega) (by omega);refine⟨c1+1,l1,x1,by omega,f1,λm=>?_⟩;rw[show c1+1+m=(c1+m)+1 by omega,rW hx h<|by omega];rw[show S++(((Kd.rw o fs aB).kids.map Kd.ds)++((Kd.rw o fs aB).iO.map D.int)).reverse=S++(fs.b_.map Kd.ds).reverse by simp[Kd.kids,Kd.iO,fE],e1];rw[show(Kd.rw o fs aB).ord=fs.ord by simp[Kd.ord,fE]]
  |some t=>
   have ht:(fE<|some t).length=1:=rfl;obtain⟨c1,l1,x1,b1,f1,e1⟩:=GC E fs h.2 (S++[.int t]) ns l (.v (Kd.rw o fs<|some t).ds) trivial (by omega) (by rw[ag];simp only[ak,bq];omega);obtain⟨l2,e2⟩:=Lp (E:=E) (ns:=jN ns fs.ord) (l:=l1) (S:=S) (x:=x1) (n:=t) f1 (by omega);refine⟨c1+1+1,l2,.v<|.int t,by omega,trivial,λm=>?_⟩;rw[show c1+1+1+m=(c1+(m+1))+1 by omega,rW hx h<|by omega];rw[show S++(((Kd.rw o fs<|some t).kids.map Kd.ds)++((Kd.rw o fs<|some t).iO.map D.int)).reverse=S++[.int t]++(fs.b_.map Kd.ds).reverse by simp[Kd.kids,Kd.iO,fE],e1,e2];rw[show(Kd.rw o fs<|some t).ord=fs.ord++[t] by simp[Kd.ord,fE],j7];rfl
theorem GC(E:D):∀(fs:Fs),fs.wd->∀(S:List D) (ns:List Int) (l:List D) (x:Sl),aO x->ns.length+fs.ord.length<=900->S.length+2*fs.pre.length<=5000->∃c l' x',c<=2*fs.pre.length/\aO x'/\∀m,wN (c+m) E (xQ ns) l (S++(fs.b_.map Kd.ds).reverse) x=wN m E (xQ<|jN ns fs.ord) l' S x'
 |.nil,h,S,ns,l,x,hx,hk,hS=>⟨0,l,x,bu _,hx,λm=>by simp[Fs.b_,Fs.ord,jN]⟩
 |.cons lb k r,h,S,ns,l,x,hx,hk,hS=>by
  have hp:(Fs.cons lb k r).pre.length=k.pre.length+r.pre.length:=by simp[Fs.pre]
  have ho:(Fs.cons lb k r).ord.length=k.ord.length+r.ord.length:=by simp[Fs.ord]
  have hr:r.b_.length<=r.pre.length:=QE r;have hi:=jA k.ord ns;obtain⟨c1,l1,x1,b1,f1,e1⟩:=Ey E k h.1 (S++(r.b_.map Kd.ds).reverse) ns l x hx (by omega) (by rw[ag,kg,ah];omega);obtain⟨c2,l2,x2,b2,f2,e2⟩:=GC E r h.2 S (jN ns k.ord) l1 x1 f1 (by omega) (by omega);refine⟨c1+c2,l2,x2,by omega,f2,λm=>?_⟩;rw[show c1+c2+m=c1+(c2+m) by omega];rw[show S++((Fs.cons lb k r).b_.map Kd.ds).reverse=S++(r.b_.map Kd.ds).reverse++[k.ds] by simp[Fs.b_],e1,e2,<-j7];rfl
end
def tQ{k:Kd}(h:k.wd)(hs:k.pre.length<=400):∃as,jD [.v k.ds]=aA (.v<|.lst<|(jN [] k.ord).map D.int,as):=by
 have ho:=YC k;obtain⟨c,l,x,b1,f1,w⟩:=Ey k.ds k h [] [] [] .un trivial (by simp only[bq];omega) (by simp only[bq];omega);have w1:=w<|WF-c-1+1;rw[show c+(WF-c-1+1)=WF by unfold WF;omega] at w1;unfold wN at w1;rw[v5<|oQ (i:=2)<|by rfl,ja] at w1;unfold EH at w1;unfold jD aY uW;show ∃as,(yO _ _ [.v k.ds,.un,.un,.un]).bind _=_;rw[yF (r':=[.v k.ds,.d false (xQ []) [],.un,.un])<|by rfl,yF (r':=[.v k.ds,.d false (xQ []) [],.o [k.ds],.un])<|by rfl,yF w1];refine⟨[.v k.ds],?_⟩;show aA (Rs.v<|.lst<|(xQ<|jN [] k.ord).map B0,_)=_;rw[dm];rfl
structure Ly(n:Nat)(d:D):Prop where
 ok:m_ d=true
 IJ:PyData.canLay0 (aW d)=true
 dp:tz (aW d)<=n
def Ly.mono{n m:Nat}{d:D}(h:Ly n d)(hn:n<=m):Ly m d:=⟨h.ok,h.IJ,cz h.dp hn⟩
def Ly.lay{n m:Nat}{d:D}(h:Ly n d)(hn:n<=m):iJ m d=true:=by
 unfold iJ;rw[h.ok,h.IJ,decide_eq_true<|cz h.dp hn];rfl
def tR(i:Int):Ly 0 (.int i):=⟨rfl,rfl,by simp[aW,tz]⟩
def Rw:Ly 0 .aE:=⟨rfl,rfl,by simp[aW,tz]⟩
def uP{s:List Nat}(h:∀c∈s,97<=c/\c<=122):Ly 0 (.str s):=by
 refine⟨rfl,?_,by simp[aW,tz]⟩;show PyData.strOk ⟨s.toArray⟩=true;unfold PyData.strOk;rw[Array.all_eq_true_iff_forall_mem];intro c hc
 have:=h c (by simpa using hc)
 simp only[decide_eq_true_eq];omega
theorem G_{n:Nat}:∀l:List D,(∀d∈l,Ly n d)->Be l=true/\PyData.canLayAll0 (z_ l)=true/\zh (z_ l)<=n
 |[],_=>⟨rfl,rfl,by simp[z_,zh]⟩
 |d::l,h=>by
  obtain⟨a,b,c⟩:=G_ l λe he=>h e (by simp[he])
  have hd:=h d (by simp);refine⟨by simp only[Be,hd.ok,a,aay],by simp only[z_,PyData.canLayAll0,hd.IJ,b,aay],?_⟩;simp only[z_,zh]
  have:=hd.dp
  omega
def WY{n:Nat}{l:List D}(h:∀d∈l,Ly n d):Ly (n+1) (.tup l):=by
 obtain⟨a,b,c⟩:=G_ l h;refine⟨a,b,?_⟩;simp only[aW,tz];omega
def V0{n:Nat}{a:D}(ha:Ly n a):Ly (n+1) (.tup [a]):=WY λd h=>by rw[bf.mp h];exact ha
def AM{n:Nat}{a b:D}(ha:Ly n a)(hb:Ly n b):Ly (n+1) (.tup [a,b]):=WY λd h=>by
 rcases bb.mp h with rfl|h
 .exact ha
 .rw[bf.mp h];exact hb
def Nm{n:Nat}{a b c:D}(ha:Ly n a)(hb:Ly n b)(hc:Ly n c):Ly (n+1) (.tup [a,b,c]):=WY λd h=>by
 rcases bb.mp h with rfl|h
 .exact ha
 .rcases bb.mp h with rfl|h
  .exact hb
  .rw[bf.mp h];exact hc
def SU(o:Bool):Ly 0 (.str<|lH o):=by cases o<;>exact uP (by decide)
def Rx:Ly 1 (.tup [.str sN]):=V0 (uP<|by decide)
def Rz(i:Int):Ly 1 (.tup [.str oE,.int i]):=AM (uP<|by decide)<|tR i
def Qo{n:Nat}{a b:D}(ha:Ly n a)(hb:Ly n b):Ly (n+1) (.tup [.str mN,a,b]):=Nm ((uP<|by decide).mono<|bu _) ha hb
def Pl{a b c:D}{P:D->Prop}(ha:P a)(hb:P b)(hc:P c):∀i,i<3->∃d,P d/\([a,b,c]:List D)[i]?=aA d
 |0,_=>⟨a,ha,rfl⟩
 |1,_=>⟨b,hb,rfl⟩
 |2,_=>⟨c,hc,rfl⟩
 |i+3,h=>absurd h (by omega)
def Tc{f g h k:ME}{r:En}{a b c:D}{n:Int}{P:D->Prop}(e1:f r=aA a)(e2:g r=aA b)(e3:h r=aA c)(e4:k r=aA (.int n))(ha:P a)(hb:P b)(hc:P c):∃d,P d/\zJ aD (qD<|xX<|zB f<|zB g<|zB h zV) (zJ w6 k<|mC<|.int 3) r=aA d:=by
 have q:0<=n % 3/\n % 3<3:=⟨jb _<|by decide,ic _<|by decide⟩;obtain⟨d,hd,e⟩:=Pl ha hb hc (n % 3).toNat (by omega);refine⟨d,hd,zL (y:=.int ((n % 3).toNat:Int)) (qS (zD e1<|zD e2<|zD e3 zO) (by show 3<=100;decide)) ?_<|yB e⟩;rw[gw q.1];exact wH e4 zF (by decide)
def Y3{L:Ws}{i:Nat}(h:i<L.length):L.getD i []∈L:=by
 rw[cy,au h];exact List.getElem_mem h
def UK{L:Ws}(nd:L.Nodup){i j:Nat}(hi:i<L.length)(hj:j<L.length)(eP:i≠j):L.getD i []≠L.getD j []:=by
 have e:∀{i:Nat} (hl:i<L.length),L.getD i []=L[i]:=λhl=>by rw[cy,au hl];rfl
 rw[e hi,e hj];rcases Nat.lt_or_gt_of_ne eP with z|z
 .exact ck.mp nd i j hi hj z
 .exact λq=>ck.mp nd j i hj hi z q.symm
mutual
noncomputable def Kd.dp:Kd->Nat
 |.num=>0
 |.var _=>0
 |.fn a b=>max a.dp b.dp+1
 |.rw _ fs _=>fs.dp+1
noncomputable def Fs.dp:Fs->Nat
 |.nil=>0
 |.cons _ k r=>max k.dp r.dp
end
def GR{i:Nat}{r:En}{S:List D}{d:D}(e:r[i]?=aA (.p<|S++[d])):vW i r=aA (d,r.set i<|.p S):=by
 simp[vW,gK,e,Sl.ml,b6]
def ED{i:Nat}{f:ME}{r:En}{S:List D}{d:D}(e:r[i]?=aA (.p S))(e2:f r=aA d)(h:S.length<ar):nA i f r=aA (.aE,r.set i<|.p<|S++[d]):=by
 simp[nA,gK,e,Sl.ml,b6,e2,h]
noncomputable abbrev Fk:=List Nat×Kd
def Q2:List Fk->Fs
 |[]=>.nil
 |p::r=>.cons p.1 p.2<|Q2 r
def DP(a b:Fk):Bool:=!decide (b.1<a.1)
def l5(U:List Fk):List Fk:=U.mergeSort DP
def kO(U:List Fk):(l5 U).Perm U:=adk U DP
def JF(U:List Fk):(l5 U).Pairwise λa b=>a.1<=b.1:=by
 have iff:∀a b:Fk,DP a b=true↔a.1<=b.1:=λa b=>by
  unfold DP;rw[Bool.not_eq_true',decide_eq_false_iff_not];exact my
 exact(abe (le:=DP) (λa b c h1 h2=>(iff a c).mpr<|List.le_trans ((iff a b).mp h1)<|(iff b c).mp h2) (λa b=>by
  rw[Bool.or_eq_true];exact(List.le_total a.1 b.1).imp (iff a b).mpr (iff b a).mpr) U).imp λ{a b} z=>(iff a b).mp z
def TC(g:Kd->D){U:List Fk}(nd:(U.map (·.1)).Nodup):ZX (U.map λp=>(p.1,g p.2))=(l5 U).map λp=>(p.1,g p.2):=by
 have e:∀V:List Fk,(V.map λp=>((p.1,g p.2):Fd)).map (·.1)=V.map (·.1):=λV=>by rw[dm];rfl
 refine Q6 ?_ ((kP _).trans<|(kO U).symm.map _) (ZW _) ?_
 .exact((kP _).map _).nodup_iff.mpr (by rw[e];exact nd)
 .rw[du];exact JF U
theorem JC:∀U:List Fk,(Q2 U).ds=(U.map λp=>((p.1,p.2.ds):Fd)).map aZ
 |[]=>rfl
 |p::r=>by simp only[Q2,Fs.ds,am,JC r,aZ]
theorem v6:∀U:List Fk,(Q2 U).a7=U.map (·.1)
 |[]=>rfl
 |p::r=>by simp only[Q2,Fs.a7,am,v6 r]
theorem JB{S:Sp}:∀U:List Fk,(∀p∈U,S.A p.1/\p.2.ok S)->(Q2 U).ok S
 |[],_=>trivial
 |p::r,h=>⟨(h p<|by simp).1,(h p<|by simp).2,JB r λq hq=>h q<|by simp[hq]⟩
def eB(P:List Kd):Nat:=(P.map λk=>k.pre.length).sum
theorem ZJ:∀U:List Fk,(Q2 U).pre.length=eB (U.map (·.2))
 |[]=>rfl
 |p::r=>by
  have:=ZJ r
  simp only[Q2,Fs.pre,ag,eB,am,List.sum_cons] at this ⊢;omega
def ZO{P Q:List Kd}(h:P.Perm Q):eB P=eB Q:=(h.map _).sum_nat
def Sk{i:Nat}{f:En->Option (D×En)}{r0 r1:En}{l0 l:List D}{d:D}(e0:gK r0 i=aA l0)(e:f r0=aA (d,r1))(e1:r1[i]?=aA (.p l))(h:l.length<ar):pC i f r0=aA (.aE,r1.set i<|.p<|l++[d]):=by
 unfold pC;rw[e,ae,e0,ae];simp[gK,e1,Sl.ml,b6,h]
def Ks(tl:Option Int):Ly 0 (a_ tl):=by cases tl<;>first|exact Rw|exact tR _
mutual
theorem Kd.ly{S:Sp}(low:∀l,S.A l->∀c∈l,97<=c/\c<=122):∀k:Kd,k.ok S->Ly (4*k.dp+1) k.ds
 |.num,_=>Rx
 |.var n,_=>Rz n
 |.fn x y,h=>(Qo ((x.ly low h.1).mono (m:=4*max x.dp y.dp+1)<|by omega)<|(y.ly low h.2).mono<|by omega).mono (by simp only[Kd.dp];omega)
 |.rw o fs tl,h=>by
  refine(AM (n:=4*fs.dp+4) ((SU o).mono<|bu _)<|Nm ((uP<|by decide).mono<|bu _) (WY (n:=4*fs.dp+2) λd hd=>fs.ly low h.1 d hd)<|(Ks tl).mono<|bu _).mono (by simp only[Kd.dp];omega)
theorem Fs.ly{S:Sp}(low:∀l,S.A l->∀c∈l,97<=c/\c<=122):∀fs:Fs,fs.ok S->∀d∈fs.ds,Ly (4*fs.dp+2) d
 |.nil,_,d,hd=>by cases hd
 |.cons l k r,h,d,hd=>by
  simp only[Fs.dp];rcases bb.mp hd with rfl|hd
  .exact(AM (n:=4*k.dp+1) ((uP<|low l h.1).mono<|bu _)<|k.ly low h.2.1).mono (by omega)
  .exact(r.ly low h.2.2 d hd).mono (by omega)
end
def JD(P Q:List Kd):eB (P++Q)=eB P+eB Q:=by
 unfold eB;rw[bn,List.sum_append]
def fF(b:Int)(A:Ws):Sp where
 Vr:=λn=>(n-b) % 2=0/\0<=n-b/\n-b<=8
 Tr:=λn=>(n-b) % 2=1/\0<=n-b/\n-b<=8
 A:=λl=>l∈A
 B:=λ_=>False
 ap:=λ_ _ h=>h
mutual
noncomputable def Kd.sh(b:Int):Kd->Kd
 |.num=>.num
 |.var n=>.var<|b+n
 |.fn x y=>.fn (x.sh b)<|y.sh b
 |.rw o fs tl=>.rw o (fs.sh b)<|tl.map λt=>b+t
noncomputable def Fs.sh(b:Int):Fs->Fs
 |.nil=>.nil
 |.cons l k r=>.cons l (k.sh b)<|r.sh b
end
theorem gD(b:Int):∀fs:Fs,(fs.sh b).a7=fs.a7
 |.nil=>rfl
 |.cons l k r=>by show l::(r.sh b).a7=l::r.a7;rw[gD b r]
mutual
theorem Kd.Bp{M:Ws}(b:Int):∀k:Kd,k.ok (fF 0 M)->(k.sh b).ok (fF b M)
 |.num,_=>trivial
 |.var n,h=>by
  obtain⟨h1,h2,h3⟩:=h;refine⟨?_,?_,?_⟩<;>omega
 |.fn x y,h=>⟨x.Bp b h.1,y.Bp b h.2⟩
 |.rw o fs tl,h=>by
  refine⟨fs.Bp b h.1,?_,?_,?_,λt e=>?_⟩
  .rw[gD];exact h.2.1
  .rw[gD];exact h.2.2.1
  .rw[gD];exact h.2.2.2.1
  .cases tl with
   |none=>cases e
   |some u=>
    cases e;obtain⟨h1,h2,h3⟩:=h.2.2.2.2 u rfl;refine⟨?_,?_,?_⟩<;>dsimp only<;>omega
theorem Fs.Bp{M:Ws}(b:Int):∀fs:Fs,fs.ok (fF 0 M)->(fs.sh b).ok (fF b M)
 |.nil,_=>trivial
 |.cons l k r,h=>⟨h.1,k.Bp b h.2.1,r.Bp b h.2.2⟩
end
theorem JA(b:Int):∀U:List Fk,(Q2 U).sh b=Q2 (U.map λp=>(p.1,p.2.sh b))
 |[]=>rfl
 |p::r=>by show Fs.cons p.1 (p.2.sh b) ((Q2 r).sh b)=_;rw[JA b r];rfl
mutual
theorem Kd.Bo(b:Int):∀k:Kd,(k.sh b).pre.length=k.pre.length
 |.num=>rfl
 |.var n=>rfl
 |.fn x y=>by show(_::((x.sh b).pre++(y.sh b).pre)).length=(_::(x.pre++y.pre)).length;rw[ak,ak,ag,ag,x.Bo,y.Bo]
 |.rw o fs tl=>by show(_::(fs.sh b).pre).length=(_::fs.pre).length;rw[ak,ak,fs.Bo]
theorem Fs.Bo(b:Int):∀fs:Fs,(fs.sh b).pre.length=fs.pre.length
 |.nil=>rfl
 |.cons l k r=>by show((k.sh b).pre++(r.sh b).pre).length=(k.pre++r.pre).length;rw[ag,ag,k.Bo,r.Bo]
end
mutual
theorem Kd.Bq(b:Int):∀k:Kd,(k.sh b).dp=k.dp
 |.num=>rfl
 |.var n=>rfl
 |.fn x y=>by show max _ _+1=max _ _+1;rw[x.Bq,y.Bq]
 |.rw o fs tl=>by show _+1=_+1;rw[fs.Bq]
theorem Fs.Bq(b:Int):∀fs:Fs,(fs.sh b).dp=fs.dp
 |.nil=>rfl
 |.cons l k r=>by show max _ _=max _ _;rw[k.Bq,r.Bq]
end
mutual
theorem Kd.AY:∀k:Kd,k.dp<=k.pre.length
 |.num=>bu _
 |.var n=>bu _
 |.fn x y=>by
  have:=x.AY
  have:=y.AY
  show max _ _+1<=(_::(x.pre++y.pre)).length;rw[ak,ag];omega
 |.rw o fs tl=>by
  have:=fs.AY
  show fs.dp+1<=(_::fs.pre).length;rw[ak];omega
theorem Fs.AY:∀fs:Fs,fs.dp<=fs.pre.length
 |.nil=>al _
 |.cons l k r=>by
  have:=k.AY
  have:=r.AY
  show max _ _<=(k.pre++r.pre).length;rw[ag];omega
end
abbrev aG(b:Int)(k:Kd):D:=(k.sh b).ds
theorem LB(n:Int):∀ns:List Int,((ns.map D.int).any λz=>iZ z<|.int n)=decide (n∈ns)
 |[]=>by simp
 |m::ns=>by
  rw[am,jt,LB n ns];show(decide (m=n) || _)=_;by_cases h:m=n
  .subst h;simp
  .rw[decide_eq_false h,Bool.false_or]
   have:(n∈m::ns)↔n∈ns:=⟨λz=>(bb.mp z).elim (λz=>absurd z.symm h) id,λz=>bt _ z⟩
   simp only[this]
theorem Y6:∀ns:List Int,(ns.map D.int).all jJ=true
 |[]=>rfl
 |n::ns=>by rw[am,km,Y6 ns];rfl
theorem YY:∀l:List Int,Y0 (l.map D.int)=aA l
 |[]=>rfl
 |i::l=>by show(Y0<|l.map D.int).map _=_;rw[YY l];rfl
def Uz{f:ME}{fl:ML}{r:En}{n:Int}{ns:List Int}(e1:f r=aA (.int n))(e2:fl r=aA (ns.map D.int)):Bg true f fl r=aA (!decide (n∈ns)):=by
 have e:inD true (.int n) (.lst<|ns.map D.int)=aA (.bl<|!decide (n∈ns)):=by
  show(if jJ (.int n)=true/\(ns.map D.int).all jJ=true then aA (D.bl (if true then !((ns.map D.int).any λz=>iZ z<|.int n) else _)) else aB)=_;rw[if_pos ⟨rfl,Y6 ns⟩,LB];rfl
 unfold Bg;rw[e1,ae,e2,ae,e];rfl
def XJ{m:MF}{i j:Nat}{f:ML}{r r1 r2:En}{d d':D}{l1 l2 l1' l2':List D}{as:List Sl}(e1:gK r i=aA l1)(e2:gK r j=aA l2)(e3:f r=aA [d])(eP:i≠j)(e4:m [.v d,.p l1,.p l2]=aA (.v d',as))(a1:as[1]?=aA (.p l1'))(a2:as[2]?=aA (.p l2'))(p1:b6 i l1' r=aA r1)(p2:b6 j l2' r1=aA r2):uO 3 m i j f r=aA (d',r2):=by
 unfold uO;rw[e1,ae,e2,ae,e3,ae,if_pos ⟨rfl,eP⟩];show(m<|fZ [d] l1 l2).bind _=_;rw[show fZ [d] l1 l2=[.v d,.p l1,.p l2] from rfl,e4,ae];have Ç:as[([d]:List D).length]?=aA (.p l1'):=a1;have Æ:as[([d]:List D).length+1]?=aA (.p l2'):=a2;show(match as[([d]:List D).length]?,as[([d]:List D).length+1]? with
  |some (.p l1'),aA (.p l2')=>(b6 i l1' r).bind λr1=>(b6 j l2' r1).map λr2=>(d',r2)
  |_,_=>aB)=_
 rw[Ç,Æ];show(b6 i l1' r).bind _=_;rw[p1,ae,p2];rfl
noncomputable abbrev TL:=Option Int×List Nat
mutual
noncomputable def Kd.aQ:Kd->List TL
 |.num=>[]
 |.var _=>[]
 |.fn a b=>a.aQ++b.aQ
 |.rw _ fs tl=>fs.aQ tl++[(tl,[])]
noncomputable def Fs.aQ(tl:Option Int):Fs->List TL
 |.nil=>[]
 |.cons l k r=>k.aQ++(tl,l)::r.aQ tl
end
def eO(p:TL):D:=.tup [a_ p.1,.str p.2]
mutual
theorem Kd.Bl:∀k:Kd,k.aQ.length+1<=2*k.pre.length
 |.num=>by show 0+1<=2*1;decide
 |.var _=>by show 0+1<=2*1;decide
 |.fn a b=>by
  have:=a.Bl
  have:=b.Bl
  show(a.aQ++b.aQ).length+1<=2*(_::(a.pre++b.pre)).length;rw[ag,ak,ag];omega
 |.rw _ fs tl=>by
  have:=fs.Bl tl
  show(fs.aQ tl++[(tl,[])]).length+1<=2*(_::fs.pre).length;rw[ag,ak];simp only[ak,bq];omega
theorem Fs.Bl(tl:Option Int):∀fs:Fs,(fs.aQ tl).length<=2*fs.pre.length
 |.nil=>bu _
 |.cons l k r=>by
  have:=k.Bl
  have:=r.Bl tl
  have:=vE k
  show(k.aQ++(tl,l)::r.aQ tl).length<=2*(k.pre++r.pre).length;rw[ag,ag,ak];omega
end
abbrev nf(d:D)(ns:List Int)(T:List TL)(x y:Sl):En:=[.v d,.p<|ns.map D.int,.p<|T.map eO,x,y]
def EI(m:MF):MS:=(yO (sX<|uO 3 m 1 2<|zB (zE 4) zV)
 (sX<|nA 2<|qQ<|zB (zJ aD (zJ aD (zE 0)<|mC<|.int 1)<|mC<|.int 2)<|zB (zE 3) zV))
def IZ(m:MF)(k:Kd):Prop:=∀(ns:List Int) (T:List TL),ns.length+k.ord.length<=900->T.length+k.aQ.length<=900->∃as,as[1]?=aA (.p<|(jN ns k.ord).map .int)/\as[2]?=aA (.p<|(T++k.aQ).map eO)/\m [.v k.ds,.p<|ns.map .int,.p<|T.map eO]=aA (.v .aE,as)
def YH{m:MF}{g:ME}{k:Kd}(h:IZ m k){d:D}{ns:List Int}{T:List TL}{x y:Sl}(e:g (nf d ns T x y)=aA k.ds)(h1:ns.length+k.ord.length<=900)(h2:T.length+k.aQ.length<=900):uO 3 m 1 2 (zB g zV) (nf d ns T x y)=aA (.aE,nf d (jN ns k.ord) (T++k.aQ) x y):=by
 obtain⟨as,a1,a2,a3⟩:=h ns T h1 h2;exact XJ (l1:=ns.map .int) (l2:=T.map eO) rfl rfl (zD e zO) (by decide) a3 a1 a2 rfl rfl
def Ku{d:D}{ns:List Int}{T:List TL}{x y:Sl}{f:ME}{p:TL}(e:f (nf d ns T x y)=aA (eO p))(h:T.length<=900):sX (nA 2 f) (nf d ns T x y)=aA (.nx<|nf d ns (T++[p]) x y):=by
 refine(kF (d:=.aE)<|ED (i:=2) (S:=T.map eO) rfl e (by rw[ah];exact cm h<|by decide)).trans ?_;show aA (Fl.nx [.v d,.p<|ns.map D.int,.p<|T.map eO++[eO p],x,y])=aA (Fl.nx [.v d,.p<|ns.map D.int,.p<|(T++[p]).map eO,x,y]);rw[bn];rfl
def J'{d:D}{ns:List Int}{T:List TL}{x y:Sl}{f:ME}{c:MB}{n:Int}(hc:c (nf d ns T x y)=aA true)(e:f (nf d ns T x y)=aA (.int n))(h:ns.length<=900):aU (bN c<|Bg true f<|c5 1) (sX<|nA 1 f) xV (nf d ns T x y)=aA (.nx<|nf d (ins ns n) T x y):=by
 have ci:Bg true f (c5 1) (nf d ns T x y)=aA (!decide (n∈ns)):=Uz e rfl;unfold ins;by_cases z:n∈ns
 .rw[if_pos z];exact(jE<|jZ hc<|ci.trans (by rw[decide_eq_true z];rfl)).trans rfl
 .rw[if_neg z];refine(bM<|jZ hc<|ci.trans (by rw[decide_eq_false z];rfl)).trans ((kF (d:=.aE)<|ED (i:=1) (S:=ns.map D.int) rfl e (by rw[ah];exact cm h<|by decide)).trans ?_);show aA (Fl.nx [.v d,.p<|ns.map D.int++[.int n],.p<|T.map eO,x,y])=aA (Fl.nx [.v d,.p<|(ns++[n]).map D.int,.p<|T.map eO,x,y]);rw[bn];rfl
def oZ{m:MF}{k:Kd}{ns:List Int}{T:List TL}{x y:Sl}(e:xC m (nf k.ds ns T .un .un)=aA (.nx<|nf k.ds (jN ns k.ord) (T++k.aQ) x y)):∃as:List Sl,as[1]?=aA (.p<|(jN ns k.ord).map .int)/\as[2]?=aA (.p<|(T++k.aQ).map eO)/\aY 3 5 (xC m) [.v k.ds,.p<|ns.map .int,.p<|T.map eO]=aA (.v .aE,as):=
 ⟨_,rfl,rfl,Kb (n:=3) (N:=5) e⟩
mutual
theorem oY:∀(k:Kd) (f:Nat),k.dp<f->IZ (xN f) k
 |k,0,h=>absurd h (by omega)
 |.num,f+1,h=>λns T h1 h2=>by
  refine oZ (x:=.un) (y:=.un) ?_;rw[show jN ns Kd.num.ord=ns from rfl,show T++Kd.num.aQ=T from ff T];have hd:∀u:List Nat,aP (zJ c_ (zJ aD (zE 0)<|mC<|.int 0)<|mC<|.str u) (nf Kd.num.ds ns T .un .un)=aA (decide (sN=u)):=λu=>wZ<|zL (zL (x:=Kd.num.ds) rfl zF<|xE _ _) zF rfl
  unfold xC;exact yY (jF<|hd oE)<|yY (hd mN)<|(jE<|hZ (hd Ay)<|hd Bh).trans rfl
 |.var n,f+1,h=>λns T h1 h2=>by
  refine oZ (x:=.un) (y:=.un) ?_;rw[show jN ns (Kd.var n).ord=ins ns n from rfl,show T++(Kd.var n).aQ=T from ff T];have hd:∀(ns:List Int) (u:List Nat),aP (zJ c_ (zJ aD (zE 0)<|mC<|.int 0)<|mC<|.str u) (nf (Kd.var n).ds ns T .un .un)=aA (decide (oE=u)):=λns u=>wZ<|zL (zL (x:=(Kd.var n).ds) rfl zF<|xE _ _) zF rfl
  unfold xC;refine(yF<|J' (hd ns oE) (zL (x:=(Kd.var n).ds) rfl zF<|yB (j:=1) rfl)<|by omega).trans ?_;exact yY (hd _ mN)<|(jE<|hZ (hd _ Ay)<|hd _ Bh).trans rfl
 |.fn a b,f+1,h=>λns T h1 h2=>by
  have El:(Kd.fn a b).dp=max a.dp b.dp+1:=rfl;have ho:(Kd.fn a b).ord=a.ord++b.ord:=rfl;have ht:(Kd.fn a b).aQ=a.aQ++b.aQ:=rfl;rw[ho,ag] at h1;rw[ht,ag] at h2;have hi:=jA a.ord ns;refine oZ (x:=.un) (y:=.un) ?_;rw[ho,ht,j7,<-kb];have hd:∀(ns:List Int) (T:List TL) (u:List Nat),aP (zJ c_ (zJ aD (zE 0)<|mC<|.int 0)<|mC<|.str u) (nf (Kd.fn a b).ds ns T .un .un)=aA (decide (mN=u)):=λns T u=>wZ<|zL (zL (x:=(Kd.fn a b).ds) rfl zF<|xE _ _) zF rfl
  unfold xC;refine yY (jF<|hd ns T oE)<|(yF (r':=nf (Kd.fn a b).ds (jN (jN ns a.ord) b.ord) (T++a.aQ++b.aQ) .un .un)<|(bM<|hd ns T mN).trans ?_).trans<|(jE<|hZ (hd _ _ Ay)<|hd _ _ Bh).trans rfl;refine(yF<|kF<|YH (oY a f<|by omega) (zL (x:=(Kd.fn a b).ds) rfl zF<|yB (j:=1) rfl) (by omega)<|by omega).trans ?_;exact kF<|YH (oY b f<|by omega) (zL (x:=(Kd.fn a b).ds) rfl zF<|yB (j:=2) rfl) (by omega) (by rw[ag];omega)
 |.rw o fs tl,f+1,h=>λns T h1 h2=>by
  have El:(Kd.rw o fs tl).dp=fs.dp+1:=rfl;have ho:(Kd.rw o fs tl).ord=fs.ord++fE tl:=rfl;have ht:(Kd.rw o fs tl).aQ=fs.aQ tl++[(tl,[])]:=rfl;rw[ho,ag] at h1;rw[ht,ag] at h2;simp only[ak,bq] at h2;have hi:=jA fs.ord ns
  let dd:D:=(Kd.rw o fs tl).ds
  have hd:∀(ns:List Int) (T:List TL) (u:List Nat),aP (zJ c_ (zJ aD (zE 0)<|mC<|.int 0)<|mC<|.str u) (nf dd ns T .un .un)=aA (decide (lH o=u)):=λns T u=>wZ<|zL (zL (x:=dd) rfl zF<|xE _ _) zF rfl
  have e2:∀(ns:List Int) (T:List TL) (x y:Sl),zJ aD (zJ aD (zE 0)<|mC<|.int 1) (mC<|.int 2) (nf dd ns T x y)=aA (a_ tl):=λns T x y=>zL (x:=.tup [.str oF,.tup fs.ds,a_ tl]) (zL (x:=dd) rfl zF<|yB (j:=1) rfl) zF<|yB (j:=2) rfl
  obtain⟨x,y,_,_,lp⟩:=J1 fs f (by omega) dd tl e2 ns T .un .un trivial trivial (by omega) (by omega);refine oZ (x:=x) (y:=y) ?_;rw[ho,ht,j7,<-kb];unfold xC;refine yY (jF<|(hd ns T oE).trans (by cases o<;>rfl))<|yY ((hd ns T mN).trans (by cases o<;>rfl)) ?_;have oc:sL (aP<|zJ c_ (zJ aD (zE 0)<|mC<|.int 0)<|mC<|.str [114,101,99]) (aP<|zJ c_ (zJ aD (zE 0)<|mC<|.int 0)<|mC<|.str [111,110,101]) (nf dd ns T .un .un)=aA true:=by
   cases o with
   |false=>exact Rf<|hd ns T Ay
   |true=>exact hZ (hd ns T Ay)<|hd ns T Bh
  refine(bM oc).trans ?_;have it:aR (zJ aD (zJ aD (zE 0)<|mC<|.int 1)<|mC<|.int 1) (nf dd ns T .un .un)=aA fs.ds:=by
   unfold aR;rw[zL (x:=.tup [.str oF,.tup fs.ds,a_ tl]) (zL (x:=dd) rfl zF<|yB (j:=1) rfl) zF<|yB (j:=1) rfl];rfl
  have fo:k9 (qA 2<|yH (yV 3)<|yH (yV 4) qL) (aR<|zJ aD (zJ aD (zE 0)<|mC<|.int 1)<|mC<|.int 1) (EI<|xN f) (nf dd ns T .un .un)=aA (.nx<|nf dd (jN ns fs.ord) (T++fs.aQ tl) x y):=by
   unfold k9;rw[it,ae];exact lp
  unfold EI at fo;refine(yF fo).trans ((yF<|Ku (p:=(tl,[])) (xI (zD (e2 _ _ x y)<|zD zF zO) (by show 2<=100;decide)) (by rw[ag];omega)).trans ?_);cases tl with
  |none=>exact(jE<|jF<|wZ<|zL (e2 _ _ x y) zF rfl).trans rfl
  |some t=>exact J' (wZ<|zL (e2 _ _ x y) zF rfl) (e2 _ _ x y) (by omega)
theorem J1:∀(fs:Fs) (f:Nat),fs.dp<f->∀(dd:D) (tl:Option Int),(∀(ns:List Int) (T:List TL) (x y:Sl),zJ aD (zJ aD (zE 0)<|mC<|.int 1) (mC<|.int 2) (nf dd ns T x y)=aA (a_ tl))->∀(ns:List Int) (T:List TL) (x y:Sl),aO x->aO y->ns.length+fs.ord.length<=900->T.length+(fs.aQ tl).length<=900 ->
  ∃x' y',aO x'/\aO y'/\bH (qA 2<|yH (yV 3)<|yH (yV 4) qL) (EI<|xN f) fs.ds (nf dd ns T x y)=aA (.nx<|nf dd (jN ns fs.ord) (T++fs.aQ tl) x' y')
 |.nil,f,h,dd,tl,e2,ns,T,x,y,hx,hy,h1,h2=>⟨x,y,hx,hy,by show aA (Fl.nx<|nf dd ns T x y)=aA (Fl.nx<|nf dd ns (T++[]) x y);rw[ff]⟩
 |.cons l k r,f,h,dd,tl,e2,ns,T,x,y,hx,hy,h1,h2=>by
  have El:(Fs.cons l k r).dp=max k.dp r.dp:=rfl;have ho:(Fs.cons l k r).ord=k.ord++r.ord:=rfl;have ht:(Fs.cons l k r).aQ tl=k.aQ++(tl,l)::r.aQ tl:=rfl;rw[ho,ag] at h1;rw[ht,ag,ak] at h2;have hi:=jA k.ord ns;obtain⟨x',y',lK,q_,ih⟩:=J1 r f (by omega) dd tl e2 (jN ns k.ord) (T++k.aQ++[(tl,l)]) (.v<|.str l) (.v k.ds) trivial trivial (by omega) (by rw[ag,ag];simp only[ak,bq];omega);refine⟨x',y',lK,q_,?_⟩;rw[ho,ht,j7,show T++(k.aQ++(tl,l)::r.aQ tl)=T++k.aQ++[(tl,l)]++r.aQ tl by simp,<-ih];show bH _ _ (.tup [.str l,k.ds]::r.ds) _=_;refine j8 (r1:=nf dd ns T (.v<|.str l)<|.v k.ds) (AZ (r1:=nf dd ns T (.v<|.str l) y) (yD (x:=x) rfl hx)<|yD (x:=y) rfl hy) ?_;unfold EI;refine(yF<|kF<|YH (oY k f<|by omega) rfl (by omega)<|by omega).trans ?_;exact Ku (p:=(tl,l)) (xI (zD (e2 _ _ _ _)<|zD rfl zO) (by show 2<=100;decide)) (by rw[ag];omega)
end
mutual
noncomputable def Kd.rn(ns:List Int):Kd->Kd
 |.num=>.num
 |.var n=>.var (ns.idxOf n:Nat)
 |.fn a b=>.fn (a.rn ns)<|b.rn ns
 |.rw o fs tl=>.rw o (fs.rn ns)<|tl.map λt=>((ns.idxOf t:Nat):Int)
noncomputable def Fs.rn(ns:List Int):Fs->Fs
 |.nil=>.nil
 |.cons l k r=>.cons l (k.rn ns)<|r.rn ns
end
def QI{fl:ML}{g:ME}{r:En}{ns:List Int}{n:Int}(e1:fl r=aA (ns.map D.int))(e2:g r=aA (.int n))(h:n∈ns)(hl:ns.length<=1000):o9 fl g r=aA (.int (ns.idxOf n:Nat)):=by
 unfold o9;rw[e1,ae,e2,ae];show(Y0<|ns.map D.int).bind _=_;rw[YY,ae,if_pos ⟨h,hl⟩]
def ZD{g:ME}{r:En}{l:List D}(e:g r=aA (.lst l)):XV g r=aA l:=by unfold XV;rw[e];rfl
def Ub{fl:ML}{r:En}{l:List D}(e:fl r=aA l):mE fl r=aA (.tup l):=by unfold mE;rw[e];rfl
def à(m:MF)(ns:List Int)(k:Kd):Prop:=∃as,m [.v k.ds,.v<|.lst<|ns.map D.int]=aA (.v (k.rn ns).ds,as)
section
variable{ns:List Int}
mutual
theorem rM(hl:ns.length<=1000):∀(k:Kd) (f:Nat),k.dp<f->k.wd->(∀n∈k.ord,n∈ns)->à (xP f) ns k
 |k,0,h,_,_=>absurd h (by omega)
 |.num,f+1,h,_,hm=>by
  let R:En:=[.v Kd.num.ds,.v<|.lst<|ns.map D.int,.un,.un]
  refine jI (n:=2) (N:=4) (r':=R) ?_;show yW _ R=_;unfold yW;exact kR (wZ<|zL (zL (x:=Kd.num.ds) rfl zF<|xE _ _) zF rfl)<|yS rfl
 |.var n,f+1,h,_,hm=>by
  let R:En:=[.v (Kd.var n).ds,.v<|.lst<|ns.map D.int,.un,.un]
  have hd:∀u:List Nat,aP (zJ c_ (zJ aD (zE 0)<|mC<|.int 0)<|mC<|.str u) R=aA (decide (oE=u)):=λu=>wZ<|zL (zL (x:=(Kd.var n).ds) rfl zF<|xE _ _) zF rfl
  refine jI (n:=2) (N:=4) (r':=R) ?_;show yW _ R=_;unfold yW;exact yY (hd sN)<|kR (hd oE)<|yS<|xI (zD zF<|zD (QI (ZD rfl) (zL (x:=(Kd.var n).ds) rfl zF<|yB (j:=1) rfl) (hm n<|by simp[Kd.ord]) hl) zO) (by show 2<=100;decide)
 |.fn a b,f+1,h,hw,hm=>by
  have El:(Kd.fn a b).dp=max a.dp b.dp+1:=rfl
  let R:En:=[.v (Kd.fn a b).ds,.v<|.lst<|ns.map D.int,.un,.un]
  have hd:∀u:List Nat,aP (zJ c_ (zJ aD (zE 0)<|mC<|.int 0)<|mC<|.str u) R=aA (decide (mN=u)):=λu=>wZ<|zL (zL (x:=(Kd.fn a b).ds) rfl zF<|xE _ _) zF rfl
  have A:=rM hl a f (by omega) hw.1 λn hn=>hm n (by show n∈a.ord++b.ord;exact aq.mpr<|.inl hn)
  have B:=rM hl b f (by omega) hw.2 λn hn=>hm n (by show n∈a.ord++b.ord;exact aq.mpr<|.inr hn)
  refine jI (n:=2) (N:=4) (r':=R) ?_;show yW _ R=_;unfold yW;exact yY (hd sN)<|yY (hd oE)<|kR (hd mN)<|yS<|xI (zD zF<|zD (yK (p:=.v (a.rn ns).ds) (zD (zL (x:=(Kd.fn a b).ds) rfl zF<|yB (j:=1) rfl)<|zD rfl zO) rfl A)<|zD (yK (p:=.v (b.rn ns).ds) (zD (zL (x:=(Kd.fn a b).ds) rfl zF<|yB (j:=2) rfl)<|zD rfl zO) rfl B) zO) (by show 3<=100;decide)
 |.rw o fs tl,f+1,h,hw,hm=>by
  have El:(Kd.rw o fs tl).dp=fs.dp+1:=rfl
  let dd:D:=(Kd.rw o fs tl).ds
  let L:D:=.lst<|ns.map D.int
  let R:Sl->Sl->En:=λx y=>[.v dd,.v L,x,y]
  have hd:∀u:List Nat,aP (zJ c_ (zJ aD (zE 0)<|mC<|.int 0)<|mC<|.str u) (R .un .un)=aA (decide (lH o=u)):=λu=>wZ<|zL (zL (x:=dd) rfl zF<|xE _ _) zF rfl
  have e1:∀x y,zJ aD (zE 0) (mC<|.int 1) (R x y)=aA (.tup [.str oF,.tup fs.ds,a_ tl]):=λx y=>zL (x:=dd) rfl zF<|yB (j:=1) rfl
  let td:D:=a_<|tl.map λt=>((ns.idxOf t:Nat):Int)
  have cp:∀x y,mE (jX [1] 3 (aR<|zJ aD (zJ aD (zE 0)<|mC<|.int 1)<|mC<|.int 1) (qA 2<|yH (yV 1)<|yH (yV 2) qL)<|qQ<|zB (zE 1)<|zB (yE 2 (xP f)<|zB (zE 2)<|zB (zE 0) zV) zV) (R x y)=aA (.tup (fs.rn ns).ds):=λx y=>by
   refine Ub ?_;have it:aR (zJ aD (zJ aD (zE 0)<|mC<|.int 1)<|mC<|.int 1) (R x y)=aA fs.ds:=by
    unfold aR;rw[zL (x:=.tup [.str oF,.tup fs.ds,a_ tl]) (e1 x y) zF<|yB (j:=1) rfl];rfl
   unfold jX qR;rw[it,ae,if_pos (by rw[tX];have:=vK hw;exact cm this<|by decide)];exact Lz hl fs f (by omega) hw.2 (λn hn=>hm n (by show n∈fs.ord++fE tl;exact aq.mpr<|.inl hn)) .un .un trivial trivial
  refine jI (n:=2) (N:=4) (r':=R (.v td)<|.v<|.tup (fs.rn ns).ds) ?_;show yW _ (R .un .un)=_;unfold yW;refine yY ((hd sN).trans (by cases o<;>rfl))<|yY ((hd oE).trans (by cases o<;>rfl))<|yY ((hd mN).trans (by cases o<;>rfl)) ?_;refine yR (r2:=R (.v<|a_ tl) .un) (a_ tl) (zL (x:=.tup [.str oF,.tup fs.ds,a_ tl]) (e1 _ _) zF<|yB (j:=2) rfl) rfl ?_;have st:aU (aP<|zJ mP (zE 2)<|mC .aE) (qP 2<|o9 (XV<|zE 1)<|zE 2) xV (R (.v<|a_ tl) .un)=aA (.nx<|R (.v td) .un):=by
   cases tl with
   |none=>exact(jE<|wZ<|zL (x:=D.aE) rfl zF rfl).trans rfl
   |some t=>exact(bM<|wZ<|zL (x:=D.int t) rfl zF rfl).trans<|kG (QI (ZD rfl) rfl (hm t (by show t∈fs.ord++[t];exact aq.mpr<|.inr<|by simp)) hl) rfl
  refine(yF st).trans (yR (r2:=R (.v td)<|.v<|.tup (fs.rn ns).ds) (.tup (fs.rn ns).ds) (cp _ _) rfl<|yS ?_);exact xI (zD (zL (x:=dd) rfl zF<|xE _ _)<|zD (xI (zD zF<|zD rfl<|zD rfl zO) (by show 3<=100;decide)) zO) (by show 2<=100;decide)
theorem Lz(hl:ns.length<=1000):∀(fs:Fs) (f:Nat),fs.dp<f->fs.wd->(∀n∈fs.ord,n∈ns)->∀x y:Sl,aO x->aO y->jK (qA 2<|yH (yV 1)<|yH (yV 2) qL) uN (qQ<|zB (zE 1)<|zB (yE 2 (xP f)<|zB (zE 2)<|zB (zE 0) zV) zV) fs.ds [.v<|.lst<|ns.map D.int,x,y]=aA (fs.rn ns).ds
 |.nil,f,h,_,hm,x,y,hx,hy=>rfl
 |.cons l k r,f,h,hw,hm,x,y,hx,hy=>by
  have El:(Fs.cons l k r).dp=max k.dp r.dp:=rfl;have A:=rM hl k f (by omega) hw.1 λn hn=>hm n (by show n∈k.ord++r.ord;exact aq.mpr<|.inl hn)
  have B:=Lz hl r f (by omega) hw.2 (λn hn=>hm n (by show n∈k.ord++r.ord;exact aq.mpr<|.inr hn)) (.v<|.str l) (.v k.ds) trivial trivial;show jK _ uN _ (.tup [.str l,k.ds]::r.ds) _=aA (.tup [.str l,(k.rn ns).ds]::(r.rn ns).ds);exact cF (r1:=[.v<|.lst<|ns.map D.int,.v<|.str l,.v k.ds]) (AZ (r1:=[.v<|.lst<|ns.map D.int,.v<|.str l,y]) (yD (x:=x) rfl hx)<|yD (x:=y) rfl hy) (xI (zD rfl<|zD (yK (p:=.v (k.rn ns).ds) (zD rfl<|zD rfl zO) rfl A) zO) (by show 2<=100;decide)) B
end
end
def d5{n:Nat}{m:MF}{fl:ML}{r:En}{l q:List D}(e:fl r=aA l)(hl:l.length=n)(h:∃as,m (l.map .v)=aA (.f q,as)):jC n m fl r=aA q:=by
 obtain⟨as,h⟩:=h;unfold jC;rw[e,ae,if_pos hl,h];rfl
def uM{fl:ML}{r:En}{q:List D}(e:fl r=aA q):qD fl r=aA (.lst q):=by unfold qD;rw[e];rfl
def rP{g:ME}{r:En}{l:List D}(e:g r=aA (.lst l)):aR g r=aA l:=by unfold aR;rw[e];rfl
def Qc{g:ME}{r:En}{l:List D}(e:g r=aA (.tup l)):aR g r=aA l:=by unfold aR;rw[e];rfl
mutual
theorem tH:∀k:Kd,k.wd->∀q∈k.pre,q.wd
 |.num,h,q,hq=>by rw[bf.mp (show q∈[Kd.num] from hq)];exact h
 |.var n,h,q,hq=>by rw[bf.mp (show q∈[Kd.var n] from hq)];exact h
 |.fn a b,h,q,hq=>by
  rcases bb.mp (show q∈Kd.fn a b::(a.pre++b.pre) from hq) with z|z
  .rw[z];exact h
  .rcases aq.mp z with z|z
   .exact tH a h.1 q z
   .exact tH b h.2 q z
 |.rw o fs tl,h,q,hq=>by
  rcases bb.mp (show q∈Kd.rw o fs tl::fs.pre from hq) with z|z
  .rw[z];exact h
  .exact JO fs h.2 q z
theorem JO:∀fs:Fs,fs.wd->∀q∈fs.pre,q.wd
 |.nil,h,q,hq=>by cases hq
 |.cons l k r,h,q,hq=>by
  rcases aq.mp (show q∈k.pre++r.pre from hq) with z|z
  .exact tH k h.1 q z
  .exact JO r h.2 q z
end
noncomputable abbrev NL:=Int×List Nat
def a6(p:NL):D:=.tup [.int p.1,.str p.2]
def Kd.lk:Kd->List NL
 |.rw _ fs (aA t)=>fs.a7.map λl=>(t,l)
 |_=>[]
def Kd.tw:Kd->List Int
 |.rw _ _ tl=>fE tl
 |_=>[]
def K_(k:Kd)(h:k.wd):k.lk.length<=8:=by
 cases k with
 |rw o fs tl=>
  cases tl with
  |none=>exact bu _
  |some t=>
   show(fs.a7.map _).length<=8;rw[ah,bD];exact vK h
 |num=>exact bu _
 |var n=>exact bu _
 |fn a b=>exact bu _
def EG:MS:=(aU (bN (mQ<|yE 1 xF<|zB (zE 2) zV)<|aP<|zJ mP (zJ aD (zJ aD (zE 2)<|mC<|.int 1)<|mC<|.int 2)<|mC .aE)
 (sX<|w_ 1<|qD<|jX [2] 2 (aR<|zJ aD (zJ aD (zE 2)<|mC<|.int 1)<|mC<|.int 1) (yV 1)<|qQ<|zB (zJ aD (zJ aD (zE 0)<|mC<|.int 1)<|mC<|.int 2)<|zB (zJ aD (zE 1)<|mC<|.int 0) zV)
 xV)
theorem LK{dd:D}{t:Int}{u:List D}(hd:dd=.tup u)(e1:u[1]?=aA (.tup [.str oF,.tup v,.int t])):∀(gs:Fs) (x:Sl),aO x->jK (yV 1) uN (qQ<|zB (zJ aD (zJ aD (zE 0)<|mC<|.int 1)<|mC<|.int 2)<|zB (zJ aD (zE 1)<|mC<|.int 0) zV) gs.ds [.v dd,x]=aA ((gs.a7.map λl=>(t,l)).map a6)
 |.nil,_,_=>rfl
 |.cons l k r,x,hx=>by
  show jK _ uN _ (.tup [.str l,k.ds]::r.ds) _=aA (a6 (t,l)::_);subst hd;exact cF (r1:=[.v<|.tup u,.v<|.tup [.str l,k.ds]]) (yD (x:=x) rfl hx) (xI (zD (zL (x:=.tup [.str oF,.tup v,.int t]) (zL (x:=.tup u) rfl zF<|yB (j:=1) e1) zF<|yB (j:=2) rfl)<|zD (zL (x:=.tup [.str l,k.ds]) rfl zF<|xE _ _) zO) (by show 2<=100;decide))<|LK rfl e1 r _ trivial
theorem J9(E:D):∀(Q:List Kd) (A:List NL) (x:Sl),aO x->(∀q∈Q,q.wd)->A.length+8*Q.length<=5000->∃x',bH (yV 2) EG (Q.map Kd.ds) [.v E,.o<|A.map a6,x]=aA (.nx [.v E,.o<|(A++Q.flatMap Kd.lk).map a6,x'])
 |[],A,x,_,_,_=>⟨x,by simp[bH]⟩
 |k::Q,A,x,hx,hw,hl=>by
  rw[ak] at hl;have kw:=hw k (by simp);have ll:=K_ k kw;obtain⟨x',ih⟩:=J9 E Q (A++k.lk) (.v k.ds) trivial (λq hq=>hw q<|by simp[hq]) (by rw[ag];omega);refine⟨x',?_⟩;rw[oh,<-kb,<-ih,am]
  let R:En:=[.v E,.o<|A.map a6,.v k.ds]
  refine j8 (r1:=R) (yD (x:=x) rfl hx) ?_;have hr:mQ (yE 1 xF<|zB (zE 2) zV) R=aA k.n_:=hE<|yK (p:=.v<|.bl k.n_) (zD rfl zO) rfl<|r8 k;unfold EG;cases k with
  |num=>exact(jE<|jF hr).trans (by show aA (Fl.nx _)=_;rw[show A++Kd.num.lk=A from ff A])
  |var n=>exact(jE<|jF hr).trans (by show aA (Fl.nx _)=_;rw[show A++(Kd.var n).lk=A from ff A])
  |fn a b=>exact(jE<|jF hr).trans (by show aA (Fl.nx _)=_;rw[show A++(Kd.fn a b).lk=A from ff A])
  |rw o fs tl=>
   have e1:zJ aD (zE 2) (mC<|.int 1) R=aA (.tup [.str oF,.tup fs.ds,a_ tl]):=zL (x:=(Kd.rw o fs tl).ds) rfl zF<|yB (j:=1) rfl;have e2:zJ aD (zJ aD (zE 2)<|mC<|.int 1) (mC<|.int 2) R=aA (a_ tl):=zL (x:=.tup [.str oF,.tup fs.ds,a_ tl]) e1 zF<|yB (j:=2) rfl;cases tl with
   |none=>exact(jE<|jZ hr<|wZ<|zL e2 zF rfl).trans (by show aA (Fl.nx _)=_;rw[show A++(Kd.rw o fs aB).lk=A from ff A])
   |some t=>
    refine(bM<|jZ hr<|wZ<|zL e2 zF rfl).trans ?_;have it:aR (zJ aD (zJ aD (zE 2)<|mC<|.int 1)<|mC<|.int 1) R=aA fs.ds:=Qc<|zL (x:=.tup [.str oF,.tup fs.ds,a_<|some t]) e1 zF<|yB (j:=1) rfl;have cp:jX [2] 2 (aR<|zJ aD (zJ aD (zE 2)<|mC<|.int 1)<|mC<|.int 1) (yV 1) (qQ<|zB (zJ aD (zJ aD (zE 0)<|mC<|.int 1)<|mC<|.int 2)<|zB (zJ aD (zE 1)<|mC<|.int 0) zV) R=aA ((Kd.rw o fs<|some t).lk.map a6):=by
     unfold jX qR;rw[it,ae,if_pos (by rw[tX];have:=vK kw;exact cm this<|by decide)];exact LK (v:=fs.ds) (t:=t) rfl rfl fs .un trivial
    refine(kF (d:=.aE)<|G6 (S:=A.map a6) (uM cp) rfl (by rw[ah,ah];exact cz (by omega:_<=5000)<|by decide) (e:=rfl)).trans ?_;show aA (Fl.nx [.v E,.o<|A.map a6++(Kd.rw o fs<|some t).lk.map a6,.v (Kd.rw o fs<|some t).ds])=aA (Fl.nx [.v E,.o<|(A++(Kd.rw o fs<|some t).lk).map a6,.v (Kd.rw o fs<|some t).ds]);rw[bn]
def W3{k:Kd}(h:k.wd)(hs:k.pre.length<=500):∃as,xR [.v k.ds]=aA (.f<|(k.pre.flatMap Kd.lk).map a6,as):=by
 obtain⟨x,lp⟩:=J9 k.ds k.pre [] .un trivial (tH k h) (by simp only[bq];omega);rw[ja] at lp;have it:aR (qD<|jC 1 wV<|zB (zE 0) zV) [.v k.ds,.o [],.un]=aA (k.pre.map Kd.ds):=rP (uM<|d5 (zD rfl zO) rfl<|cJ h<|by omega);have fo:k9 (yV 2) (aR<|qD<|jC 1 wV<|zB (zE 0) zV) EG [.v k.ds,.o [],.un]=aA (.nx [.v k.ds,.o<|(k.pre.flatMap Kd.lk).map a6,x]):=by
  unfold k9;rw[it,ae];exact lp
 unfold EG at fo;unfold xR aY wY;show ∃as,(yO _ _ [.v k.ds,.un,.un]).bind _=_;rw[yF (r':=[.v k.ds,.o [],.un])<|by rfl,yF fo];exact⟨_,rfl⟩
def Z8(ns:List Int)(f:Int->D)(n:Int):mX (xQ ns) (ns.map f) (.inl n) (f n)=(xQ<|ins ns n,(ins ns n).map f):=by
 refine va (JK ns _ n _) ?_;have e:((xQ ns).any λj=>decide (j=(Sum.inl n:Key)))=decide (n∈ns):=by
  rw[jp,sn,decide_eq_true_eq];constructor
  .rintro ⟨x,hx,h⟩;obtain⟨m,hm,rfl⟩:=cq.mp hx;rw[decide_eq_true_eq] at h;rw[<-ut h];exact hm
  .exact λh=>⟨.inl n,qe h,by simp⟩
 unfold mX ins;rw[e];by_cases h:n∈ns
 .rw[decide_eq_true h,if_pos rfl,if_pos h];show ye _ (ns.map Sum.inl) (ns.map f)=_;rw[List.zipWith_map,List.zipWith_self];refine qf λm _=>?_
  by_cases z:m=n
  .rw[z,if_pos rfl]
  .rw[if_neg λq=>z<|ut q]
 .rw[decide_eq_false h,if_neg bc,if_neg h];show ns.map f++[f n]=_;rw[bn];rfl
theorem bC(f:Int->D)(n:Int):∀ns:List Int,uS (xQ ns) (ns.map f) (.inl n)=if n∈ns then aA (f n) else aB
 |[]=>rfl
 |m::ns=>by
  show(if (Sum.inl m:Key)=Sum.inl n then aA (f m) else uS (xQ ns) (ns.map f)<|.inl n)=_;rw[bC f n ns];by_cases h:m=n
  .subst h;rw[if_pos rfl,if_pos<|by simp]
  .rw[if_neg λq=>h<|ut q]
   have:(n∈m::ns)↔n∈ns:=⟨λz=>(bb.mp z).elim (λz=>absurd z.symm h) id,λz=>bt _ z⟩
   by_cases z:n∈ns
   .rw[if_pos z,if_pos<|this.mpr z]
   .rw[if_neg z,if_neg λq=>z<|this.mp q]
def SY{ns:List Int}{n m:Int}:m∈ins ns n↔m∈ns\/m=n:=by
 unfold ins;split
 .rename_i h;exact⟨.inl,λz=>z.elim id λz=>by rw[z];exact h⟩
 .rw[aq,bf]
theorem bE:∀(o ns:List Int) (m:Int),m∈jN ns o↔m∈ns\/m∈o
 |[],ns,m=>by show m∈ns↔_;simp
 |n::o,ns,m=>by
  show m∈jN (ins ns n) o↔_;rw[bE o,SY,bb,or_assoc]
def Qa{ns:List Int}(n:Int)(h:ns.Nodup):(ins ns n).Nodup:=by
 unfold ins;split
 .exact h
 .rename_i z;exact lw.mpr ⟨h,by simp,λx hx y hy e=>z (by rw[bf.mp hy] at e;rw[<-e];exact hx)⟩
theorem Mc:∀(o ns:List Int),ns.Nodup->(jN ns o).Nodup
 |[],ns,h=>h
 |n::o,ns,h=>Mc o (ins ns n)<|Qa n h
theorem Ma:∀(o ns:List Int),(ns++o).Nodup->jN ns o=ns++o
 |[],ns,_=>(ff ns).symm
 |n::o,ns,h=>by
  have hn:n∉ns:=λz=>by
   have:=(lw.mp h).2.2 n z n (by simp)
   exact this rfl
  show jN (ins ns n) o=_;unfold ins;rw[if_neg hn,Ma o (ns++[n])<|by simpa using h];simp
def Y9{i:Nat}{fk fe:ME}{r:En}{ns:List Int}{f:Int->D}{n:Int}(e1:fe r=aA (f n))(e2:fk r=aA (.int n))(e3:r[i]?=aA (.d false (xQ ns)<|ns.map f))(h:ns.length<=1000):cQ i fk fe r=aA (.nx<|r.set i<|.d false (xQ<|ins ns n)<|(ins ns n).map f):=by
 unfold cQ;rw[e1,ae,e2,ae];show(match r[i]? with
  |some (.d b ks l)=>if ks.length<ar then aA (Fl.nx<|r.set i<|.d b (mX ks l (.inl n)<|f n).1 (mX ks l (.inl n)<|f n).2) else aB
  |_=>aB)=_
 rw[e3];show(if (xQ ns).length<ar then aA (Fl.nx<|r.set i<|.d false (mX (xQ ns) (ns.map f) (.inl n)<|f n).1 (mX (xQ ns) (ns.map f) (.inl n)<|f n).2) else aB)=_;rw[if_pos (by rw[ah];exact cm h<|by decide),Z8]
def Lb{fk:ME}{fd:MD}{r:En}{ns:List Int}{f:Int->D}{n:Int}(e1:fk r=aA (.int n))(e2:fd r=aA (xQ ns,ns.map f)):pA false fk fd r=aA (decide (n∈ns)):=by
 unfold pA;rw[e1,ae,e2,ae];show aA (uS (xQ ns) (ns.map f)<|.inl n).isSome=_;rw[bC];by_cases h:n∈ns
 .rw[if_pos h,decide_eq_true h];rfl
 .rw[if_neg h,decide_eq_false h];rfl
def Kv{fk:ME}{fd:MD}{r:En}{ns:List Int}{f:Int->D}{n:Int}(e2:fd r=aA (xQ ns,ns.map f))(e1:fk r=aA (.int n))(h:n∈ns):k_ fd fk r=aA (f n):=by
 unfold k_;rw[e2,ae,e1,ae];show uS (xQ ns) (ns.map f) (.inl n)=_;rw[bC,if_pos h]
def Q0{g:ME}{r:En}{ks:List Key}{l:List D}(e:g r=aA (.aJ ks l)):m9 g r=aA (ks,l):=by unfold m9;rw[e];rfl
noncomputable def fT:Int->D:=λ_=>.bl true
def EJ:MS:=(aU (mQ<|yE 1 xF<|zB (zE 2) zV)
 (sX<|CN 1<|WX<|jX [] 1 (aR<|yE 1 yU<|zB (zE 2) zV) (yV 0)<|qQ<|zB (zE 0)<|zB (mC<|.bl true) zV)
 xV)
def RU{fd:MD}{r:En}{ns:List Int}(tl:Option Int)(e1:fd r=aA (GK<|(fE tl).map λt=>((Sum.inl t:Key),D.bl true)))(e2:r[1]?=aA (.d false (xQ ns)<|ns.map fT))(h:ns.length<=1000):CN 1 fd r=aA (.aE,r.set 1<|.d false (xQ<|jN ns<|fE tl)<|(jN ns<|fE tl).map fT):=by
 unfold CN;rw[e1,ae];rw[e2];have hz:∀m,m<=1->(xQ ns).length+m<=ar:=λm hm=>by rw[ah];exact cz (by omega:_<=1001) (by decide)
 cases tl with
 |none=>exact if_pos (hz 0<|by decide)
 |some t=>
  refine(if_pos<|hz 1<|by decide).trans ?_;show aA (D.aE,r.set 1<|.d false (mX (xQ ns) (ns.map fT) (.inl t)<|fT t).1 (mX (xQ ns) (ns.map fT) (.inl t)<|fT t).2)=_;rw[Z8];rfl
theorem Q8(E:D):∀(Q:List Kd) (ns:List Int) (x:Sl),aO x->ns.length+Q.length<=900->∃x',bH (yV 2) EJ (Q.map Kd.ds) [.v E,.d false (xQ ns)<|ns.map fT,x]=aA (.nx [.v E,.d false (xQ<|jN ns<|Q.flatMap Kd.tw)<|(jN ns<|Q.flatMap Kd.tw).map fT,x'])
 |[],ns,x,_,_=>⟨x,rfl⟩
 |k::Q,ns,x,hx,hl=>by
  rw[ak] at hl;have Vf:k.tw.length<=1:=by
   cases k with
   |rw o fs tl=>cases tl<;>first|exact bu _|exact al _
   |_=>exact bu _
  have:=jA k.tw ns
  obtain⟨x',ih⟩:=Q8 E Q (jN ns k.tw) (.v k.ds) trivial (by omega);refine⟨x',?_⟩;rw[oh,j7,<-ih,am]
  let R:En:=[.v E,.d false (xQ ns)<|ns.map fT,.v k.ds]
  refine j8 (r1:=R) (yD (x:=x) rfl hx) ?_;have hr:mQ (yE 1 xF<|zB (zE 2) zV) R=aA k.n_:=hE<|yK (p:=.v<|.bl k.n_) (zD rfl zO) rfl<|r8 k;unfold EJ;cases k with
  |num=>exact(jE hr).trans rfl
  |var n=>exact(jE hr).trans rfl
  |fn a b=>exact(jE hr).trans rfl
  |rw o fs tl=>
   refine(bM hr).trans (kF (d:=.aE)<|RU tl ?_ rfl<|by omega);have co:aR (yE 1 yU<|zB (zE 2) zV) R=aA ((fE tl).map D.int):=rP<|yK (p:=.v<|.lst<|(fE tl).map D.int) (zD rfl zO) rfl<|JS<|.rw o fs tl;have cp:jX [] 1 (aR<|yE 1 yU<|zB (zE 2) zV) (yV 0) (qQ<|zB (zE 0)<|zB (mC<|.bl true) zV) R=aA ((fE tl).map λt=>D.tup [.int t,.bl true]):=by
    unfold jX qR;rw[co,ae,if_pos (by rw[ah];exact cm Vf<|by decide)];cases tl with
    |none=>rfl
    |some t=>exact cF (r1:=[.v<|.int t]) (yD (x:=.un) rfl trivial) (xI (zD rfl<|zD zF zO) (by show 2<=100;decide)) rfl
   unfold WX;rw[cp];cases tl<;>rfl
def UT{k:Kd}(h:k.wd)(hs:k.pre.length<=500):∃as,wA [.v k.ds]=aA (.g (xQ<|jN []<|k.pre.flatMap Kd.tw)<|(jN []<|k.pre.flatMap Kd.tw).map fT,as):=by
 obtain⟨x,lp⟩:=Q8 k.ds k.pre [] .un trivial (by simp only[bq];omega);have it:aR (qD<|jC 1 wV<|zB (zE 0) zV) [.v k.ds,.d false [] [],.un]=aA (k.pre.map Kd.ds):=rP (uM<|d5 (zD rfl zO) rfl<|cJ h<|by omega);have fo:k9 (yV 2) (aR<|qD<|jC 1 wV<|zB (zE 0) zV) EJ [.v k.ds,.d false [] [],.un]=aA (.nx [.v k.ds,.d false (xQ<|jN []<|k.pre.flatMap Kd.tw)<|(jN []<|k.pre.flatMap Kd.tw).map fT,x]):=by
  unfold k9;rw[it,ae];exact lp
 unfold EJ at fo;unfold wA aY wX;show ∃as,(yO _ _ [.v k.ds,.un,.un]).bind _=_;rw[yF (r':=[.v k.ds,.d false [] [],.un])<|by rfl,yF fo];exact⟨_,rfl⟩
noncomputable def fN(ns:List Int):Int->D:=λn=>.int ((ns.idxOf n:Nat):Int)
def fR(ns tn:List Int):Int->D:=λn=>if n∈tn then JJ [] (.int ((ns.idxOf n:Nat):Int)) else (Kd.var ((ns.idxOf n:Nat):Int)).ds
def EE:MS:=(aU (pA false (zE 3)<|m9<|zE 1)
 (cQ 2 (zE 3)<|qQ<|zB (mC<|.str [114,111,119])<|zB (qQ zV)<|zB (k_ (m9<|zE 0)<|zE 3) zV)
 (cQ 2 (zE 3)<|qQ<|zB (mC<|.str [118,97,114])<|zB (k_ (m9<|zE 0)<|zE 3) zV))
theorem Z4(ns tn:List Int):∀(o p:List Int) (x:Sl),aO x->(∀n∈o,n∈ns)->p.length+o.length<=900->∃x',bH (yV 3) EE (o.map D.int) [.v<|.aJ (xQ ns)<|ns.map<|fN ns,.v<|.aJ (xQ tn)<|tn.map fT,.d false (xQ p)<|p.map<|fR ns tn,x]=aA (.nx [.v<|.aJ (xQ ns)<|ns.map<|fN ns,.v<|.aJ (xQ tn)<|tn.map fT,.d false (xQ<|jN p o)<|(jN p o).map<|fR ns tn,x'])
 |[],p,x,_,_,_=>⟨x,rfl⟩
 |n::o,p,x,hx,hm,hl=>by
  rw[ak] at hl
  have:=L_ p n
  obtain⟨x',ih⟩:=Z4 ns tn o (ins p n) (.v<|.int n) trivial (λm h=>hm m<|by simp[h]) (by omega);refine⟨x',?_⟩;rw[am]
  let R:En:=[.v<|.aJ (xQ ns)<|ns.map<|fN ns,.v<|.aJ (xQ tn)<|tn.map fT,.d false (xQ p)<|p.map<|fR ns tn,.v<|.int n]
  refine(j8 (r1:=R) (yD (x:=x) rfl hx) ?_).trans ih;have hc:pA false (zE 3) (m9<|zE 1) R=aA (decide (n∈tn)):=Lb rfl<|Q0 rfl;have ha:k_ (m9<|zE 0) (zE 3) R=aA (fN ns n):=Kv (Q0 rfl) rfl (hm n<|by simp);unfold EE;by_cases z:n∈tn
  .refine(bM<|hc.trans<|by rw[decide_eq_true z]).trans (Y9 (f:=fR ns tn) ?_ rfl rfl<|by omega);refine(xI (zD zF<|zD (xI zO (by show 0<=100;decide))<|zD ha zO) (by show 3<=100;decide)).trans ?_;unfold fR;rw[if_pos z];rfl
  .refine(jE<|hc.trans<|by rw[decide_eq_false z]).trans (Y9 (f:=fR ns tn) ?_ rfl rfl<|by omega);refine(xI (zD zF<|zD ha zO) (by show 2<=100;decide)).trans ?_;unfold fR;rw[if_neg z];rfl
def WH{ns:List Int}(tn:List Int)(nd:ns.Nodup)(hl:ns.length<=800):∃as,qW [.v<|.aJ (xQ ns)<|ns.map<|fN ns,.v<|.aJ (xQ tn)<|tn.map fT]=aA (.g (xQ ns)<|ns.map<|fR ns tn,as):=by
 obtain⟨x,lp⟩:=Z4 ns tn ns [] .un trivial (λ_ h=>h) (by simp only[bq];omega);rw[Ma ns []<|by simpa using nd,ja] at lp;have it:WV (zE 0) [.v<|.aJ (xQ ns)<|ns.map<|fN ns,.v<|.aJ (xQ tn)<|tn.map fT,.d false [] [],.un]=aA (ns.map D.int):=by
  show aA ((xQ ns).map B0)=_;rw[dm];rfl
 have fo:k9 (yV 3) (WV<|zE 0) EE [.v<|.aJ (xQ ns)<|ns.map<|fN ns,.v<|.aJ (xQ tn)<|tn.map fT,.d false [] [],.un]=aA (.nx [.v<|.aJ (xQ ns)<|ns.map<|fN ns,.v<|.aJ (xQ tn)<|tn.map fT,.d false (xQ ns)<|ns.map<|fR ns tn,x]):=by
  unfold k9;rw[it,ae];exact lp
 unfold EE at fo;unfold qW aY kX;show ∃as,(yO _ _ [.v<|.aJ (xQ ns)<|ns.map<|fN ns,.v<|.aJ (xQ tn)<|tn.map fT,.un,.un]).bind _=_;rw[yF (r':=[.v<|.aJ (xQ ns)<|ns.map<|fN ns,.v<|.aJ (xQ tn)<|tn.map fT,.d false [] [],.un])<|by rfl,yF fo];exact⟨_,rfl⟩
noncomputable def Fi(ns tn:List Int):Sp where
 Vr:=λn=>n∈ns/\n∉tn
 Tr:=λn=>n∈ns/\n∈tn
 A:=λ_=>True
 B:=λ_=>False
 ap:=λ_ _ h=>h
def Cw(ns:List Int):Int->Option D:=λn=>aA (Kd.var ((ns.idxOf n:Nat):Int)).ds
def s_(ns:List Int):Int->Option (List Fd×D):=λn=>aA ([],.int ((ns.idxOf n:Nat):Int))
def Sv(ns tn:List Int):sI (Fi ns tn) (xQ ns) (ns.map<|fR ns tn) (Cw ns) (s_ ns) where
 v:=λn h=>by rw[bC,if_pos h.1];unfold fR Cw;rw[if_neg h.2]
 t:=λn h=>by rw[bC,if_pos h.1];unfold fR s_;rw[if_pos h.2];rfl
 f8:=λn q e=>by cases e;exact bu _
 nd:=λn q e=>by cases e;exact⟨rq,λp hp=>by cases hp⟩
mutual
theorem oK{S:Sp}:∀k:Kd,k.ok S->∀q∈k.pre,q.ok S
 |.num,h,q,hq=>by rw[bf.mp (show q∈[Kd.num] from hq)];exact h
 |.var n,h,q,hq=>by rw[bf.mp (show q∈[Kd.var n] from hq)];exact h
 |.fn a b,h,q,hq=>by
  rcases bb.mp (show q∈Kd.fn a b::(a.pre++b.pre) from hq) with z|z
  .rw[z];exact h
  .rcases aq.mp z with z|z
   .exact oK a h.1 q z
   .exact oK b h.2 q z
 |.rw o fs tl,h,q,hq=>by
  rcases bb.mp (show q∈Kd.rw o fs tl::fs.pre from hq) with z|z
  .rw[z];exact h
  .exact JQ fs h.1 q z
theorem JQ{S:Sp}:∀fs:Fs,fs.ok S->∀q∈fs.pre,q.ok S
 |.nil,h,q,hq=>by cases hq
 |.cons l k r,h,q,hq=>by
  rcases aq.mp (show q∈k.pre++r.pre from hq) with z|z
  .exact oK k h.2.1 q z
  .exact JQ r h.2.2 q z
end
def PD{S:Sp}{q:Kd}(h:q.ok S){t:Int}(ht:t∈q.tw):S.Tr t:=by
 cases q with
 |rw o fs tl=>
  cases tl with
  |none=>cases ht
  |some u=>rw[bf.mp (show t∈[u] from ht)];exact h.2.2.2.2 u rfl
 |num=>cases ht
 |var n=>cases ht
 |fn a b=>cases ht
def Jq{S:Sp}{q:Kd}(h:q.ok S){p:NL}(hp:p∈q.lk):S.A p.2:=by
 cases q with
 |rw o fs tl=>
  cases tl with
  |none=>cases hp
  |some u=>
   obtain⟨l,hl,rfl⟩:=cq.mp (show p∈fs.a7.map λl=>(u,l) from hp);exact G9 fs h.1 l hl
 |num=>cases hp
 |var n=>cases hp
 |fn a b=>cases hp
section
variable{b:Int}{M:Ws}{ns tn:List Int}
mutual
theorem WO(ho:∀n∈tn,(n-b) % 2=1):∀k:Kd,k.ok (fF b M)->(∀n∈k.ord,n∈ns)->(∀q∈k.pre,∀t∈q.tw,t∈tn)->k.ok (Fi ns tn)
 |.num,_,_,_=>trivial
 |.var n,h,hn,_=>⟨hn n<|by simp[Kd.ord],λz=>by have:=ho n z;have:=h.1;omega⟩
 |.fn x y,h,hn,ht=>⟨WO ho x h.1 (λn z=>hn n<|aq.mpr<|.inl z) λq z=>ht q<|bt _<|aq.mpr<|.inl z,WO ho y h.2 (λn z=>hn n<|aq.mpr<|.inr z) λq z=>ht q<|bt _<|aq.mpr<|.inr z⟩
 |.rw o fs tl,h,hn,ht=>by
  refine⟨JW ho fs h.1 (λn z=>hn n<|aq.mpr<|.inl z) λq z=>ht q<|bt _ z,h.2.1,h.2.2.1,h.2.2.2.1,λt e=>?_⟩;subst e;exact⟨hn t<|aq.mpr<|.inr<|bf.mpr rfl,ht (.rw o fs<|some t) (dg) t<|bf.mpr rfl⟩
theorem JW(ho:∀n∈tn,(n-b) % 2=1):∀fs:Fs,fs.ok (fF b M)->(∀n∈fs.ord,n∈ns)->(∀q∈fs.pre,∀t∈q.tw,t∈tn)->fs.ok (Fi ns tn)
 |.nil,_,_,_=>trivial
 |.cons l k r,h,hn,ht=>⟨trivial,WO ho k h.2.1 (λn z=>hn n<|aq.mpr<|.inl z) λq z=>ht q<|aq.mpr<|.inl z,JW ho r h.2.2 (λn z=>hn n<|aq.mpr<|.inr z) λq z=>ht q<|aq.mpr<|.inr z⟩
end
end
mutual
theorem ER{S:Sp}{ns:List Int}:∀k:Kd,k.ok S->k.fl (Cw ns) (s_ ns)=(k.rn ns).ds
 |.num,_=>rfl
 |.var n,_=>rfl
 |.fn a b,h=>by show D.tup [.str mN,_,_]=D.tup [.str mN,_,_];rw[ER a h.1,ER b h.2]
 |.rw o fs tl,h=>by
  have e1:(kK (s_ ns) tl).1=[]:=by cases tl<;>rfl
  have e2:(kK (s_ ns) tl).2=a_ (tl.map λt=>((ns.idxOf t:Nat):Int)):=by cases tl<;>rfl
  show D.tup [.str<|lH o,.tup [.str oF,.tup<|(ZX<|fs.fl (Cw ns) (s_ ns)++(kK (s_ ns) tl).1).map aZ,(kK (s_ ns) tl).2]]=D.tup [.str<|lH o,.tup [.str oF,.tup (fs.rn ns).ds,_]];rw[e1,e2,ff,Tx (by rw[gT];exact h.2.1) (by
   have:=h.2.2.1
   rw[<-gT (fv:=Cw ns) (fr:=s_ ns)] at this;exact du.mp this),KW fs h.1]
theorem KW{S:Sp}{ns:List Int}:∀fs:Fs,fs.ok S->(fs.fl (Cw ns)<|s_ ns).map aZ=(fs.rn ns).ds
 |.nil,_=>rfl
 |.cons l k r,h=>by show aZ (l,k.fl _ _)::(r.fl _ _).map aZ=D.tup [.str l,(k.rn ns).ds]::(r.rn ns).ds;rw[ER k h.2.1,KW r h.2.2];rfl
end
theorem L7{n:Int}:∀(p o:List Int),n∉p->(p++n::o).idxOf n=p.length
 |[],o,_=>by rw[ja,tm];simp
 |m::p,o,h=>by
  rw[List.cons_append,tm,L7 p o λz=>h<|bt _ z]
  have:(m == n)=false:=by simpa using λz:m=n=>h (by rw[z];exact dg)
  rw[this];rfl
theorem YK{NS:List Int}(A0 A1:Sl):∀(o p:List Int) (x y:Sl),aO x->aO y->NS=p++o->NS.Nodup->NS.length<=800->∃x' y',bH (qA 2<|yH (yV 3)<|yH (yV 4) qL) (cQ 2 (zE 4)<|zE 3) (((o.map D.int).zipIdx p.length).map λq=>D.tup [.int (q.2:Nat),q.1]) [A0,A1,.d false (xQ p)<|p.map<|fN NS,x,y,.un,.un]=aA (.nx [A0,A1,.d false (xQ NS)<|NS.map<|fN NS,x',y',.un,.un])
 |[],p,x,y,_,_,e,_,_=>⟨x,y,by rw[e,ff];rfl⟩
 |n::o,p,x,y,hx,hy,e,nd,hl=>by
  have hn:n∉p:=λz=>by
   rw[e] at nd;exact(lw.mp nd).2.2 n z n (by simp) rfl
  obtain⟨x',y',ih⟩:=YK A0 A1 o (p++[n]) (.v<|.int (p.length:Int)) (.v<|.int n) trivial trivial (by rw[e];simp) nd hl;refine⟨x',y',?_⟩;rw[am,vb,am]
  let R:En:=[A0,A1,.d false (xQ p)<|p.map<|fN NS,.v<|.int (p.length:Int),.v<|.int n,.un,.un]
  refine(j8 (r1:=R) (AZ (r1:=[A0,A1,.d false (xQ p)<|p.map<|fN NS,.v<|.int (p.length:Int),y,.un,.un]) (yD (x:=x) rfl hx)<|yD (x:=y) rfl hy)<|Y9 (f:=fN NS) (n:=n) ?_ rfl rfl ?_).trans ?_
  .unfold fN;rw[e,L7 p o hn];rfl
  .have:=congrArg oq e
   rw[ag] at this;omega
  .rw[ag] at ih;unfold ins;rw[if_neg hn];exact ih
def XI{n:Nat}{m:MF}{fl:ML}{r:En}{l q:List D}{ks:List Key}(e:fl r=aA l)(hl:l.length=n)(h:∃as,m (l.map .v)=aA (.g ks q,as)):Ax (c7 n m fl) r=aA (.aJ ks q):=by
 obtain⟨as,h⟩:=h;unfold Ax c7;rw[e,ae,if_pos hl,h];rfl
def j4(ns tn:List Int)(Q:List NL):List (Nat×List Nat):=(Q.filter λp=>decide (p.1∈tn)).map λp=>(ns.idxOf p.1,p.2)
theorem pJ{ns tn:List Int}(hs:∀t∈tn,t∈ns):∀(Q:List NL) (x y:Sl),aO x->aO y->jK (qA 2<|yH (yV 2)<|yH (yV 3) qL) (pA false (zE 2)<|m9<|zE 1) (qQ<|zB (k_ (m9<|zE 0)<|zE 2)<|zB (zE 3) zV) (Q.map a6) [.v<|.aJ (xQ ns)<|ns.map<|fN ns,.v<|.aJ (xQ tn)<|tn.map fT,x,y]=aA ((j4 ns tn Q).map eV)
 |[],x,y,_,_=>rfl
 |p::Q,x,y,hx,hy=>by
  rw[am]
  let R:En:=[.v<|.aJ (xQ ns)<|ns.map<|fN ns,.v<|.aJ (xQ tn)<|tn.map fT,.v<|.int p.1,.v<|.str p.2]
  have bd:qA 2 (yH (yV 2)<|yH (yV 3) qL) (a6 p) [.v<|.aJ (xQ ns)<|ns.map<|fN ns,.v<|.aJ (xQ tn)<|tn.map fT,x,y]=aA R:=AZ (r1:=[.v<|.aJ (xQ ns)<|ns.map<|fN ns,.v<|.aJ (xQ tn)<|tn.map fT,.v<|.int p.1,y]) (yD (x:=x) rfl hx)<|yD (x:=y) rfl hy;have hc:pA false (zE 2) (m9<|zE 1) R=aA (decide (p.1∈tn)):=Lb rfl<|Q0 rfl;have ih:=pJ hs Q (.v<|.int p.1) (.v<|.str p.2) trivial trivial;by_cases z:p.1∈tn
  .rw[show j4 ns tn (p::Q)=(ns.idxOf p.1,p.2)::j4 ns tn Q by unfold j4;rw[vc<|by simpa using z];rfl,am];have ha:k_ (m9<|zE 0) (zE 2) R=aA (fN ns p.1):=Kv (Q0 rfl) rfl<|hs _ z;exact Uf bd (hc.trans<|by rw[decide_eq_true z]) (xI (zD ha<|zD rfl zO) (by show 2<=100;decide)) ih
  .rw[show j4 ns tn (p::Q)=j4 ns tn Q by unfold j4;rw[vd<|by simpa using z]];exact Ug bd (hc.trans<|by rw[decide_eq_false z]) ih
theorem pG:∀q:List (Nat×List Nat),EU (q.map eV)=aA q
 |[]=>rfl
 |p::q=>by
  show(CL<|eV p).bind _=_
  have:CL (eV p)=aA p:=by
   show(if (0:Int)<=(p.1:Int) then aA ((p.1:Int).toNat,p.2) else aB)=_;rw[if_pos<|by omega,gy]
  rw[this,ae,pG q];rfl
theorem J3{α:Type}[DecidableEq α]:∀{l L:List α},l.Nodup->(∀x∈l,x∈L)->l.length<=L.length
 |[],L,_,_=>bu _
 |x::l,L,nd,h=>by
  rw[ng] at nd;have hx:=h x (by simp);have ne:∀y∈l,y≠x:=λy hy e=>nd.1 (by rw[<-e];exact hy)
  have:=J3 (l:=l) (L:=L.erase x) nd.2 λy hy=>(List.mem_erase_of_ne<|ne y hy).mpr (h y<|by simp[hy])
  rw[List.length_erase_of_mem hx] at this
  have:=List.length_pos_of_mem hx
  rw[ak];omega
def uX{b:Int}{M:Ws}(hM:M.length=6){ns tn:List Int}(ht:∀t∈tn,(t-b) % 2=1/\0<=t-b/\t-b<=8){l:List (Nat×List Nat)}(nd:l.Nodup)(h:∀w∈l,∃t∈tn,w.1=ns.idxOf t/\w.2∈M):l.length<=24:=by
 let L:List (Nat×List Nat):=[b+1,b+3,b+5,b+7].flatMap λt=>M.map λm=>(ns.idxOf t,m)
 have hL:L.length=24:=by
  show(List.flatMap _ _).length=24;simp[oh,ag,hM]
 rw[<-hL];refine J3 nd λw hw=>?_
 obtain⟨t,h1,h2,h3⟩:=h w hw
 have:=ht t h1
 refine qc.mpr ⟨t,?_,cq.mpr ⟨w.2,h3,by rw[<-h2]⟩⟩;rcases(by omega:t=b+1\/t=b+3\/t=b+5\/t=b+7) with z|z|z|z<;>rw[z]<;>simp
def JG(q:List (Nat×List Nat)):(rN q).Nodup:=(v8 q).imp λh e=>by rw[e] at h;exact uq _ h
def qC(k:Kd):List Int:=jN [] k.ord
def qH(k:Kd):List Int:=jN []<|k.pre.flatMap Kd.tw
def qB(k:Kd)(L:List NL):List (Nat×List Nat):=j4 (qC k) (qH k)<|L++k.pre.flatMap Kd.lk
def B9{k:Kd}{t:Int}:t∈qH k↔∃q∈k.pre,t∈q.tw:=by
 unfold qH;rw[bE,qc];simp
mutual
theorem X1:∀(k q:Kd),q∈k.pre->∀t∈q.tw,t∈k.ord
 |.num,q,hq,t,ht=>by rw[bf.mp (show q∈[Kd.num] from hq)] at ht;cases ht
 |.var n,q,hq,t,ht=>by rw[bf.mp (show q∈[Kd.var n] from hq)] at ht;cases ht
 |.fn a b,q,hq,t,ht=>by
  rcases bb.mp (show q∈Kd.fn a b::(a.pre++b.pre) from hq) with z|z
  .rw[z] at ht;cases ht
  .rcases aq.mp z with z|z
   .exact aq.mpr<|.inl<|X1 a q z t ht
   .exact aq.mpr<|.inr<|X1 b q z t ht
 |.rw o fs tl,q,hq,t,ht=>by
  rcases bb.mp (show q∈Kd.rw o fs tl::fs.pre from hq) with z|z
  .rw[z] at ht;exact aq.mpr<|.inr ht
  .exact aq.mpr<|.inl<|Q7 fs q z t ht
theorem Q7:∀(fs:Fs) (q:Kd),q∈fs.pre->∀t∈q.tw,t∈fs.ord
 |.nil,q,hq,t,ht=>by cases hq
 |.cons l k r,q,hq,t,ht=>by
  rcases aq.mp (show q∈k.pre++r.pre from hq) with z|z
  .exact aq.mpr<|.inl<|X1 k q z t ht
  .exact aq.mpr<|.inr<|Q7 r q z t ht
end
theorem Y5{α:Type}{c:Nat}{f:Kd->List α}:∀(Q:List Kd),(∀q∈Q,(f q).length<=c)->(Q.flatMap f).length<=c*Q.length
 |[],_=>bu _
 |q::Q,h=>by
  have:=Y5 Q λx hx=>h x (by simp[hx])
  have:=h q (by simp)
  rw[oh,ag,ak,Nat.mul_add];omega
structure Gd(b:Int)(M:Ws)(k:Kd)(L:List NL):Prop where
 ok:k.ok (fF b M)
 m6:M.length=6
 sz:k.pre.length<=200
 lb:∀p∈L,p.2∈M
 f8:L.length<=20
section
variable{b:Int}{M:Ws}{k:Kd}{L:List NL}
def Gd.tr(g:Gd b M k L):∀t∈qH k,(t-b) % 2=1/\0<=t-b/\t-b<=8:=λt h=>by
 obtain⟨q,hq,ht⟩:=B9.mp h;exact PD (oK k g.ok q hq) ht
def Gd.sub(g:Gd b M k L):∀t∈qH k,t∈qC k:=λt h=>by
 obtain⟨q,hq,ht⟩:=B9.mp h;exact(bE _ _ _).mpr (.inr<|X1 k q hq t ht)
def Gd.nl(g:Gd b M k L):(qC k).length<=200:=by
 have:=jA k.ord []
 have:=YC k
 have:=g.sz
 simp only[bq] at *;unfold qC;omega
def Gd.want(g:Gd b M k L):∀w∈qB k L,∃t∈qH k,w.1=(qC k).idxOf t/\w.2∈M:=λw hw=>by
 obtain⟨p,hp,rfl⟩:=cq.mp hw;obtain⟨h1,h2⟩:=qu.mp hp;refine⟨p.1,by simpa using h2,rfl,?_⟩;rcases aq.mp h1 with z|z
 .exact g.lb p z
 .obtain⟨q,hq,hp⟩:=qc.mp z;exact Jq (oK k g.ok q hq) hp
def YJ(g:Gd b M k L):∃as,cH [.v k.ds,.v<|.lst<|L.map a6]=aA (.v<|.tup [(k.rn<|qC k).ds,.lst<|(rN<|qB k L).map eV],as):=by
 have wd:=k.sP g.ok;have sz:=g.sz
 let NS:=qC k
 let TN:=qH k
 have Nd:NS.Nodup:=Mc k.ord [] rq;have nl:=g.nl
 let dN:D:=.aJ (xQ NS)<|NS.map<|fN NS
 let dT:D:=.aJ (xQ TN)<|TN.map fT
 let kp:D:=.lst<|(qB k L).map eV
 obtain⟨x,y,lp⟩:=YK (.v k.ds) (.v<|.lst<|L.map a6) NS [] .un .un trivial trivial rfl Nd (by show(qC k).length<=800;omega)
 let R0:En:=[.v k.ds,.v<|.lst<|L.map a6,.un,.un,.un,.un,.un]
 let R1:En:=[.v k.ds,.v<|.lst<|L.map a6,.d false [] [],.un,.un,.un,.un]
 let R2:En:=[.v k.ds,.v<|.lst<|L.map a6,.d false (xQ NS)<|NS.map<|fN NS,x,y,.un,.un]
 let R3:En:=[.v k.ds,.v<|.lst<|L.map a6,.d false (xQ NS)<|NS.map<|fN NS,x,y,.v dT,.un]
 let R4:En:=[.v k.ds,.v<|.lst<|L.map a6,.v dN,x,y,.v dT,.un]
 let R5:En:=[.v k.ds,.v<|.lst<|L.map a6,.v dN,x,y,.v dT,.v kp]
 have en:WW (yE 1 jD<|zB (zE 0) zV) R1=aA (B3<|NS.map D.int):=by
  unfold WW;have cn:yE 1 jD (zB (zE 0) zV) R1=aA (.lst<|NS.map D.int):=yK (p:=.v<|.lst<|NS.map D.int) (zD rfl zO) rfl (tQ wd<|by omega);rw[cn];rfl
 have f1:k9 (qA 2<|yH (yV 3)<|yH (yV 4) qL) (WW<|yE 1 jD<|zB (zE 0) zV) (cQ 2 (zE 4)<|zE 3) R1=aA (.nx R2):=by
  unfold k9;rw[en,ae];exact lp
 have e3:Ax (c7 1 wA<|zB (zE 0) zV) R2=aA dT:=XI (zD rfl zO) rfl (UT wd<|by omega);have ö:(k.pre.flatMap Kd.lk).length<=1600:=cz (Y5 (c:=8) k.pre λq hq=>K_ q<|tH k wd q hq) (by omega);have it:aR (zJ qO (qD<|aR<|zE 1)<|qD<|jC 1 xR<|zB (zE 0) zV) R4=aA ((L++k.pre.flatMap Kd.lk).map a6):=by
  refine rP ?_;rw[bn];have fw:=g.f8;exact Gy (uM<|rP rfl) (uM<|d5 (zD rfl zO) rfl<|W3 wd<|by omega) (by rw[ah,ah];omega)
 have e4:qD (qR [2,5] 4 (aR<|zJ qO (qD<|aR<|zE 1)<|qD<|jC 1 xR<|zB (zE 0) zV) (qA 2<|yH (yV 2)<|yH (yV 3) qL) (pA false (zE 2)<|m9<|zE 1)<|qQ<|zB (k_ (m9<|zE 0)<|zE 2)<|zB (zE 3) zV) R4=aA kp:=by
  refine uM ?_;unfold qR;have fw:=g.f8;rw[it,ae,if_pos (by rw[ah,ag];exact cm (by omega:_<=1620)<|by decide)];exact pJ g.sub (L++k.pre.flatMap Kd.lk) .un .un trivial trivial
 have e5:yE 2 d8 (zB (zE 0)<|zB (Ax<|c7 2 qW<|zB (zE 2)<|zB (zE 5) zV) zV) R5=aA (k.rn NS).ds:=by
  have er:Ax (c7 2 qW<|zB (zE 2)<|zB (zE 5) zV) R5=aA (.aJ (xQ NS)<|NS.map<|fR NS TN):=XI (zD rfl<|zD rfl zO) rfl<|WH TN Nd (by show(qC k).length<=800;omega);have M6:k.ok (Fi NS TN):=WO (λn z=>(g.tr n z).1) k g.ok (λn z=>(bE _ _ _).mpr<|.inr z) λq hq t ht=>B9.mpr ⟨q,hq,ht⟩
  obtain⟨as,ef⟩:=QL (Sv NS TN) M6 (by omega);rw[ER k M6] at ef;exact yK (p:=.v (k.rn NS).ds) (zD rfl<|zD er zO) rfl ⟨as,ef⟩
 have e6:qD (EZ<|XV<|zE 6) R5=aA (.lst<|(rN<|qB k L).map eV):=by
  refine uM ?_;unfold EZ;rw[show XV (zE 6) R5=aA ((qB k L).map eV) from rfl,ae,pG,ae,if_pos ?_]
  have:=uX g.m6 (ns:=qC k) g.tr (JG<|qB k L) λw hw=>g.want w<|(qY _ _).mp hw
  omega
 refine jI (n:=2) (N:=7) (r':=R5) ?_;show gQ R0=_;unfold gQ;refine(yF (r':=R1)<|by rfl).trans ((yF f1).trans<|yR (r2:=R3) dT e3 rfl ?_);refine(yF (r':=R5) ?_).trans (yS<|xI (zD e5<|zD e6 zO) (by show 2<=100;decide));show qP 6 _ R4=_;exact kG e4 rfl
end
def Pt(t:Int)(l:List Nat)(q:Kd):Prop:=(t,l)∈q.lk\/(l=[]/\t∈q.tw)
def Cj{t:Int}{l:List Nat}{o:Bool}{fs:Fs}{tl:Option Int}:Pt t l (.rw o fs tl)↔tl=aA t/\(l∈fs.a7\/l=[]):=by
 unfold Pt;cases tl with
 |none=>simp[Kd.lk,Kd.tw,fE]
 |some u=>
  show(t,l)∈(fs.a7.map λm=>(u,m))\/(l=[]/\t∈[u])↔_;rw[cq,bf];constructor
  .rintro (⟨m,hm,e⟩|⟨e1,e2⟩)
   .injection e with e1 e2
    subst e1;subst e2;exact⟨rfl,.inl hm⟩
   .subst e2;exact⟨rfl,.inr e1⟩
  .rintro ⟨e,z⟩
   injection e with e
   subst e;exact z.elim (λz=>.inl ⟨l,z,rfl⟩) λz=>.inr ⟨z,rfl⟩
mutual
theorem bZ(t:Int)(l:List Nat):∀k:Kd,(aA t,l)∈k.aQ↔∃q∈k.pre,Pt t l q
 |.num=>by simp[Kd.aQ,Kd.pre,Pt,Kd.lk,Kd.tw]
 |.var n=>by simp[Kd.aQ,Kd.pre,Pt,Kd.lk,Kd.tw]
 |.fn a b=>by
  show(aA t,l)∈a.aQ++b.aQ↔∃q∈Kd.fn a b::(a.pre++b.pre),Pt t l q;rw[aq,bZ t l a,bZ t l b];constructor
  .rintro (⟨q,h1,h2⟩|⟨q,h1,h2⟩)
   .exact⟨q,by simp[h1],h2⟩
   .exact⟨q,by simp[h1],h2⟩
  .rintro ⟨q,h1,h2⟩;rcases bb.mp h1 with z|z
   .rw[z] at h2;unfold Pt at h2;simp[Kd.lk,Kd.tw] at h2
   .exact(aq.mp z).imp (λz=>⟨q,z,h2⟩) λz=>⟨q,z,h2⟩
 |.rw o fs tl=>by
  show(aA t,l)∈fs.aQ tl++[(tl,[])]↔∃q∈Kd.rw o fs tl::fs.pre,Pt t l q;rw[aq,bf,ZL t l tl fs];constructor
  .rintro ((⟨q,h1,h2⟩|⟨e,h⟩)|e)
   .exact⟨q,by simp[h1],h2⟩
   .exact⟨_,dg,Cj.mpr ⟨e,.inl h⟩⟩
   .injection e with e1 e2
    exact⟨_,dg,Cj.mpr ⟨e1.symm,.inr e2⟩⟩
  .rintro ⟨q,h1,h2⟩;rcases bb.mp h1 with z|z
   .rw[z] at h2;obtain⟨e,h⟩:=Cj.mp h2;exact h.elim (λh=>.inl<|.inr ⟨e,h⟩) λh=>.inr (by rw[e,h])
   .exact .inl<|.inl ⟨q,z,h2⟩
theorem ZL(t:Int)(l:List Nat)(tl:Option Int):∀fs:Fs,(aA t,l)∈fs.aQ tl↔(∃q∈fs.pre,Pt t l q)\/(tl=aA t/\l∈fs.a7)
 |.nil=>by simp[Fs.aQ,Fs.pre,Fs.a7]
 |.cons m k r=>by
  show(aA t,l)∈k.aQ++(tl,m)::r.aQ tl↔(∃q∈k.pre++r.pre,Pt t l q)\/(tl=aA t/\l∈m::r.a7);rw[aq,bb,bZ t l k,ZL t l tl r];constructor
  .rintro (⟨q,h1,h2⟩|e|⟨q,h1,h2⟩|⟨e,h⟩)
   .exact .inl ⟨q,by simp[h1],h2⟩
   .injection e with e1 e2
    exact .inr ⟨e1.symm,by rw[e2];exact dg⟩
   .exact .inl ⟨q,by simp[h1],h2⟩
   .exact .inr ⟨e,bt _ h⟩
  .rintro (⟨q,h1,h2⟩|⟨e,h⟩)
   .rcases aq.mp h1 with z|z
    .exact .inl ⟨q,z,h2⟩
    .exact .inr<|.inr<|.inl ⟨q,z,h2⟩
   .rcases bb.mp h with z|z
    .exact .inr (.inl<|by rw[e,z])
    .exact .inr<|.inr<|.inr ⟨e,z⟩
end
def US{k:Kd}{t:Int}:(aA t,[])∈k.aQ↔t∈qH k:=by
 rw[bZ,B9];constructor
 .rintro ⟨q,hq,h⟩;refine⟨q,hq,?_⟩;rcases h with h|h
  .cases q with
   |rw o fs tl=>
    obtain⟨e,_⟩:=Cj.mp<|.inl h;subst e;exact bf.mpr rfl
   |num=>cases h
   |var n=>cases h
   |fn a b=>cases h
  .exact h.2
 .rintro ⟨q,hq,h⟩;exact⟨q,hq,.inr ⟨rfl,h⟩⟩
def YN{k:Kd}{t:Int}{l:List Nat}(hl:l≠[]):(aA t,l)∈k.aQ↔(t,l)∈k.pre.flatMap Kd.lk:=by
 rw[bZ,qc];exact⟨λ⟨q,hq,h⟩=>⟨q,hq,h.elim id λz=>absurd z.1 hl⟩,λ⟨q,hq,h⟩=>⟨q,hq,.inl h⟩⟩
theorem nD(b:Int):∀(o ns:List Int),jN (ns.map λn=>b+n) (o.map λn=>b+n)=(jN ns o).map λn=>b+n
 |[],ns=>rfl
 |n::o,ns=>by
  have e:ins (ns.map λn=>b+n) (b+n)=(ins ns n).map λn=>b+n:=by
   unfold ins
   have:(b+n∈ns.map λn=>b+n)↔n∈ns:=by
    rw[cq];exact⟨λ⟨m,hm,z⟩=>by rw[show n=m by omega];exact hm,λh=>⟨n,h,rfl⟩⟩
   by_cases h:n∈ns
   .rw[if_pos h,if_pos<|this.mpr h]
   .rw[if_neg h,if_neg λz=>h<|this.mp z,bn];rfl
  show jN (ins (ns.map λn=>b+n)<|b+n) (o.map λn=>b+n)=(jN (ins ns n) o).map _;rw[e,nD b o]
def Nk{b n:Int}{ns:List Int}:(b+n∈ns.map λn=>b+n)↔n∈ns:=by
 rw[cq];exact⟨λ⟨m,hm,z⟩=>by rw[show n=m by omega];exact hm,λh=>⟨n,h,rfl⟩⟩
theorem QH(b n:Int):∀ns:List Int,(ns.map λn=>b+n).idxOf (b+n)=ns.idxOf n
 |[]=>rfl
 |m::ns=>by
  rw[am,tm,tm,QH b n ns]
  have:(b+m == b+n)=(m == n):=by
   rw[jp,beq_iff_eq,beq_iff_eq];omega
  rw[this]
mutual
theorem X8(b:Int):∀k:Kd,(k.sh b).ord=k.ord.map λn=>b+n
 |.num=>rfl
 |.var n=>rfl
 |.fn x y=>by show(x.sh b).ord++(y.sh b).ord=(x.ord++y.ord).map _;rw[X8 b x,X8 b y,bn]
 |.rw o fs tl=>by
  show(fs.sh b).ord++fE (tl.map _)=(fs.ord++fE tl).map _;rw[JH b fs,bn];cases tl<;>rfl
theorem JH(b:Int):∀fs:Fs,(fs.sh b).ord=fs.ord.map λn=>b+n
 |.nil=>rfl
 |.cons l k r=>by show(k.sh b).ord++(r.sh b).ord=(k.ord++r.ord).map _;rw[X8 b k,JH b r,bn]
end
def Lg(b:Int)(q:Kd):(q.sh b).tw=(q.tw.map λn=>b+n)/\(q.sh b).lk=q.lk.map λp=>(b+p.1,p.2):=by
 cases q with
 |rw o fs tl=>
  cases tl with
  |none=>exact⟨rfl,rfl⟩
  |some t=>
   refine⟨rfl,?_⟩;show((fs.sh b).a7.map λl=>(b+t,l))=(fs.a7.map λl=>(t,l)).map _;rw[gD,dm];rfl
 |num=>exact⟨rfl,rfl⟩
 |var n=>exact⟨rfl,rfl⟩
 |fn a c=>exact⟨rfl,rfl⟩
mutual
theorem tJ(b:Int):∀k:Kd,(k.sh b).pre=k.pre.map (Kd.sh b)
 |.num=>rfl
 |.var n=>rfl
 |.fn x y=>by show _::((x.sh b).pre++(y.sh b).pre)=(_::(x.pre++y.pre)).map _;rw[tJ b x,tJ b y,am,bn];rfl
 |.rw o fs tl=>by show _::(fs.sh b).pre=(_::fs.pre).map _;rw[JP b fs,am];rfl
theorem JP(b:Int):∀fs:Fs,(fs.sh b).pre=fs.pre.map (Kd.sh b)
 |.nil=>rfl
 |.cons l k r=>by show(k.sh b).pre++(r.sh b).pre=(k.pre++r.pre).map _;rw[tJ b k,JP b r,bn]
end
theorem vM{α:Type}{f:Kd->List α}{h:α->α}{g:Kd->Kd}(e:∀q,f (g q)=(f q).map h):∀Q:List Kd,(Q.map g).flatMap f=(Q.flatMap f).map h
 |[]=>rfl
 |q::Q=>by rw[am,oh,oh,bn,e q,vM e Q]
def JZ(b:Int)(k:Kd):qC (k.sh b)=(qC k).map λn=>b+n:=by
 unfold qC;rw[X8];exact nD b k.ord []
def UU(b:Int)(k:Kd):qH (k.sh b)=(qH k).map λn=>b+n:=by
 unfold qH;rw[tJ,vM (h:=λn=>b+n) λq=>(Lg b q).1];exact nD b _ []
mutual
theorem E7(b:Int)(ns:List Int):∀k:Kd,(k.sh b).rn (ns.map λn=>b+n)=k.rn ns
 |.num=>rfl
 |.var n=>by show Kd.var _=Kd.var _;rw[QH]
 |.fn x y=>by show Kd.fn _ _=Kd.fn _ _;rw[E7 b ns x,E7 b ns y]
 |.rw o fs tl=>by
  show Kd.rw o ((fs.sh b).rn _) ((tl.map _).map _)=Kd.rw o (fs.rn ns) (tl.map _);rw[Ln b ns fs];cases tl with
  |none=>rfl
  |some t=>show Kd.rw o _ (aA _)=Kd.rw o _ (aA _);dsimp only;rw[QH]
theorem Ln(b:Int)(ns:List Int):∀fs:Fs,(fs.sh b).rn (ns.map λn=>b+n)=fs.rn ns
 |.nil=>rfl
 |.cons l k r=>by show Fs.cons l _ _=Fs.cons l _ _;rw[E7 b ns k,Ln b ns r]
end
def fG(b:Int)(L:List NL):List NL:=L.map λp=>(b+p.1,p.2)
theorem nW(b:Int)(ns tn:List Int):∀Q:List NL,j4 (ns.map λn=>b+n) (tn.map λn=>b+n) (fG b Q)=j4 ns tn Q
 |[]=>rfl
 |p::Q=>by
  have ih:=nW b ns tn Q;unfold j4 fG at ih ⊢;rw[am];by_cases h:p.1∈tn
  .rw[vc (p:=λp:NL=>decide (p.1∈tn.map λn=>b+n)) (a:=(b+p.1,p.2))<|decide_eq_true<|Nk.mpr h,vc<|by simpa using h,am,am,ih];show(_,_)::_=_;rw[QH]
  .rw[vd (p:=λp:NL=>decide (p.1∈tn.map λn=>b+n)) (a:=(b+p.1,p.2)) λz=>h<|Nk.mp<|of_decide_eq_true z,vd<|by simpa using h,ih]
def T2(b:Int)(k:Kd)(L:List NL):qB (k.sh b) (fG b L)=qB k L:=by
 unfold qB;rw[JZ,UU,tJ,vM (h:=λp=>(b+p.1,p.2)) λq=>(Lg b q).2];show j4 _ _ (L.map _++(k.pre.flatMap Kd.lk).map _)=_;rw[<-bn];exact nW b _ _ _
def res(k:Kd)(L:List NL):D:=.tup [(k.rn<|qC k).ds,.lst<|(rN<|qB k L).map eV]
def Sf(b:Int)(k:Kd)(L:List NL):res (k.sh b) (fG b L)=res k L:=by
 unfold res;rw[T2,JZ,E7]
def Mi(n:Int)(M:Ws):∃k:Kd,k.ok (fF 0 M)/\k.dp=0/\k.pre.length=1/\∀b:Int,∃as,x0 [.v<|.int n,.v<|.int b]=aA (.v<|aG b k,as):=by
 have c0:∀b:Int,aP (zJ c_ (zJ w6 (zE 0)<|mC<|.int 3)<|mC<|.int 0) [.v<|.int n,.v<|.int b]=aA (decide (n % 3=0)):=λb=>wZ<|zL (wH (i:=n) rfl zF<|by decide) zF rfl
 by_cases c:n % 3=0
 .refine⟨.num,trivial,rfl,rfl,λb=>jI (r':=[.v<|.int n,.v<|.int b]) ?_⟩;show wI [.v<|.int n,.v<|.int b]=_;unfold wI;exact kR ((c0 b).trans<|by rw[decide_eq_true c])<|yS<|xI (zD zF zO) (by show 1<=100;decide)
 .refine⟨.var<|2*(n / 3 % 5),by refine⟨?_,?_,?_⟩<;>omega,rfl,rfl,λb=>jI (r':=[.v<|.int n,.v<|.int b]) ?_⟩;show wI [.v<|.int n,.v<|.int b]=_;unfold wI;exact yY ((c0 b).trans<|by rw[decide_eq_false c])<|yS<|xI (zD zF<|zD (j0 rfl<|o4 zF (wH (wJ rfl zF<|by decide) zF<|by decide)<|by decide) zO) (by show 2<=100;decide)
def Gx(M:Ws)(q:Int)(k:Nat):List Nat:=M.getD ((q+(k:Int)) % 6).toNat []
def BV(a:Int):0<=a % 6/\a % 6<6:=⟨jb _<|by decide,ic _<|by decide⟩
def Jt(a:Int):0<=a % 2/\a % 2<2:=⟨jb _<|by decide,ic _<|by decide⟩
def SN{M:Ws}(h3:M.length=6)(nd:M.Nodup)(q:Int){m:Nat}(hm:m<=6):((mr 0 m).map<|Gx M q).Nodup:=by
 unfold List.Nodup;rw[du];refine ux (R:=λi j=>i<j) (λ{i j} hi hj eP=>?_) abf;rw[List.mem_range'_1] at hi hj;have a:=BV<|q+(i:Int);have b:=BV<|q+(j:Int);exact UK nd (by omega) (by omega) (by omega)
def CU:MS:=(sX<|pC 4<|gL<|kN (zJ aD (zE 2)<|zJ w6 (zJ qO (zJ xJ (zE 1)<|mC<|.int 4)<|zE 5)<|aX mF<|zE 2)<|rQ<|vW 0)
def LC{i:Nat}{f:En->Option (D×En)}{r0 r1:En}{l0 l:List D}{d:D}(e0:gK r0 i=aA l0)(e:f r0=aA (d,r1))(e1:r1[i]?=aA (.o l))(h:l.length<ar):pC i f r0=aA (.aE,r1.set i<|.o<|l++[d]):=by
 unfold pC;rw[e,ae,e0,ae];simp[gK,e1,Sl.ml,b6,h]
theorem JX{M:Ws}(h3:M.length=6)(n:Int)(Y:D):∀(m s:Nat) (P:List Kd),m<=P.length ->
  ∃(P':List Kd) (V:List Fk),P=P'++(V.map (·.2)).reverse/\V.length=m/\V.map (·.1)=(mr s m).map (Gx M<|n / 4)/\∀(b:Int) (U:List Fd) (x:Sl),aO x->U.length+m<=50 ->
   ∃x',bH (yV 5) CU ((mr s m).map λj=>D.int<|(0:Int)+(j:Nat)) [.p<|P.map<|aG b,.v<|.int n,.v<|.lst<|dw M,.v Y,.o<|U.map aZ,x]
    = aA (.nx [.p<|P'.map<|aG b,.v<|.int n,.v<|.lst<|dw M,.v Y,.o<|(U++V.map λp=>(p.1,aG b p.2)).map aZ,x'])
 |0,s,P,_=>⟨P,[],by simp,rfl,rfl,λb U x _ _=>⟨x,by simp[bH]⟩⟩
 |m+1,s,P,hm=>by
  obtain⟨P0,k,rfl⟩:∃P0 k,P=P0++[k]:=by
   rcases nr P with h|⟨P0,k,h⟩
   .subst h;simp at hm
   .exact⟨P0,k,by rw[h,nu]⟩
  let lb:=Gx M (n / 4) s
  obtain⟨P',V,e1,e2,e3,ih⟩:=JX h3 n Y m (s+1) P0 (by rw[ag] at hm;simp at hm;exact hm);refine⟨P',(lb,k)::V,by rw[e1];simp,by rw[ak,e2],by rw[sj,am,am,e3],λb U x hx hU=>?_⟩;obtain⟨x',ih⟩:=ih b (U++[(lb,aG b k)]) (.v<|.int (s:Int)) trivial (by rw[ag];simp only[ak,bq];omega);refine⟨x',?_⟩;rw[sj,am,acb]
  let uf:List D:=U.map aZ
  let aV:List Kd->List D->En:=λP a=>[.p<|P.map<|aG b,.v<|.int n,.v<|.lst<|dw M,.v Y,.o a,.v<|.int (s:Int)]
  have lu:uf.length<=50:=by
   show(U.map _).length<=50;rw[ah];omega
  have pp:vW 0 (aV (P0++[k]) uf)=aA (aG b k,aV P0 uf):=by
   refine GR (S:=P0.map<|aG b) (d:=aG b k) ?_;show aA (Sl.p<|(P0++[k]).map<|aG b)=_;rw[bn];rfl
  have q3:=BV<|n / 4+(s:Int);have hi:((n / 4+(s:Int)) % 6).toNat<M.length:=by omega
  have el:zJ aD (zE 2) (zJ w6 (zJ qO (zJ xJ (zE 1)<|mC<|.int 4)<|zE 5)<|aX mF<|zE 2) (aV (P0++[k]) uf)=aA (.str lb):=by
   refine zL (x:=.lst<|dw M) (y:=.int (((n / 4+(s:Int)) % 6).toNat:Int)) rfl ?_<|yB ?_
   .rw[gw q3.1];refine wH (j0 (wJ rfl zF<|by decide) rfl) (cN (x:=.lst<|dw M) rfl ?_) (by decide);show aA (D.int ((dw M).length:Int))=_;rw[ah,h3];rfl
   .show(dw M)[((n / 4+(s:Int)) % 6).toNat]?=aA (D.str<|M.getD ((n / 4+(s:Int)) % 6).toNat []);rw[av,au hi,cy,au hi];rfl
  have tx:gL (kN (zJ aD (zE 2)<|zJ w6 (zJ qO (zJ xJ (zE 1)<|mC<|.int 4)<|zE 5)<|aX mF<|zE 2)<|rQ<|vW 0) (aV (P0++[k]) uf)=aA (aZ (lb,aG b k),aV P0 uf):=by
   unfold gL kN rQ;rw[el,ae,pp];rfl
  have bo:CU (aV (P0++[k]) uf)=aA (.nx<|aV P0<|uf++[aZ (lb,aG b k)]):=by
   unfold CU;exact kF (d:=.aE) (LC (i:=4) (l0:=uf) (l:=uf) rfl tx rfl<|cm lu<|by decide)
  refine(j8 (r1:=aV (P0++[k]) uf) (yD (x:=x) rfl hx) bo).trans ?_;have u1:uf++[aZ (lb,aG b k)]=(U++[(lb,aG b k)]).map aZ:=by rw[bn];rfl
  show bH _ _ _ [.p<|P0.map<|aG b,.v<|.int n,.v<|.lst<|dw M,.v Y,.o<|uf++[aZ (lb,aG b k)],.v<|.int (s:Int)]=_;rw[u1,ih,kb];rfl
def QM(n:Int){M:Ws}(h2:M.length=6)(nM:M.Nodup)(P:List Kd)(hP:P.length<=1000):∃(P':List Kd) (V:List Fk),P=P'++(V.map (·.2)).reverse/\V.length<=3/\(V.map (·.1)).Nodup/\(∀p∈V,p.1∈M)/\∀b:Int,∃as:List Sl,as[0]?=aA (.p<|P'.map<|aG b) /\
  qN [.p<|P.map<|aG b,.v<|.int n,.v<|.lst<|dw M]=aA (.v<|.tup ((Q2<|l5 V).sh b).ds,as):=by
 have q4:0<=n % 4/\n % 4<4:=⟨jb _<|by decide,ic _<|by decide⟩
 let mi:Int:=c8 (P.length:Int) (n % 4) 6
 have Xo:0<=mi/\mi<=3/\mi<=P.length:=by
  show 0<=c8 _ _ _/\c8 _ _ _<=3/\c8 _ _ _<=_;unfold c8
  split<;>split<;>omega
 obtain⟨m,em⟩:∃m:Nat,(m:Int)=mi:=⟨mi.toNat,gw Xo.1⟩;obtain⟨P',V,p1,p2,p3,lp⟩:=JX h2 n (.int (m:Int)) m 0 P (by omega);have nd:(V.map (·.1)).Nodup:=by rw[p3];exact SN h2 nM _ (by omega)
 refine⟨P',V,p1,by omega,nd,λp hp=>?_,λb=>?_⟩
 .have:p.1∈V.map (·.1):=qe hp
  rw[p3] at this;obtain⟨j,_,e⟩:=cq.mp this;rw[<-e]
  have:=BV<|n / 4+(j:Int)
  exact Y3 (by omega)
 .let R0:En:=[.p<|P.map<|aG b,.v<|.int n,.v<|.lst<|dw M,.un,.un,.un]
  have e1:EW (zB (rO<|c5 0)<|zB (zJ w6 (zE 1)<|mC<|.int 4)<|zB (aX mF<|zE 2) zV) R0=aA (.int (m:Int)):=by
   rw[em];have a:zB (rO<|c5 0) (zB (zJ w6 (zE 1)<|mC<|.int 4)<|zB (aX mF<|zE 2) zV) R0=aA [.int (P.length:Int),.int<|n % 4,.int 6]:=by
    refine zD ?_<|zD (wH rfl zF<|by decide)<|zD (cN (x:=.lst<|dw M) rfl ?_) zO
    .show aA (D.int ((P.map<|aG b).length:Int))=_;rw[ah]
    .show aA (D.int ((dw M).length:Int))=_;rw[ah,h2];rfl
   unfold EW;rw[a];rfl
  obtain⟨x',lp⟩:=lp b [] .un trivial (by simp only[bq];omega);rw[ja] at lp
  let W:List Fd:=V.map λp=>(p.1,aG b p.2)
  let R:En:=[.p<|P'.map<|aG b,.v<|.int n,.v<|.lst<|dw M,.v<|.int (m:Int),.o<|W.map aZ,x']
  refine⟨R.take 3,rfl,?_⟩;refine RB (n:=3) (N:=6) ?_;show wU R0=_;unfold wU;have fo:k9 (yV 5) (mR<|zE 3) CU [.p<|P.map<|aG b,.v<|.int n,.v<|.lst<|dw M,.v<|.int (m:Int),.o [],.un]=aA (.nx R):=by
   unfold k9;rw[WG (n:=m) rfl<|by omega,ae,wx];exact lp
  unfold CU at fo;refine yR (r2:=[.p<|P.map<|aG b,.v<|.int n,.v<|.lst<|dw M,.v<|.int (m:Int),.un,.un]) (.int (m:Int)) e1 rfl ?_;refine(yF (r':=[.p<|P.map<|aG b,.v<|.int n,.v<|.lst<|dw M,.v<|.int (m:Int),.o [],.un]) rfl).trans ((yF fo).trans<|yS ?_);have eK:W.map (·.1)=V.map (·.1):=by show(V.map _).map _=_;rw[dm];rfl
  have sp:=TB (r:=R) (P:=W) (fl:=c5 4) rfl (by show(V.map _).length<64;rw[ah];omega) (by rw[eK];exact nd);have ee:ZX W=(l5 V).map λp=>(p.1,aG b p.2):=TC (aG b) nd
  rw[JA,JC,show(((l5 V).map λp=>((p.1,p.2.sh b):Fk)).map λp=>((p.1,p.2.ds):Fd))=(l5 V).map λp=>(p.1,aG b p.2) from by rw[dm];rfl];refine(congrArg (uk D.tup) sp).trans ?_;rw[ee];rfl
def jG(P:List Kd)(k:Kd):eB (P++[k])=eB P+k.pre.length:=by
 rw[JD];unfold eB;simp
def T7(P:List Kd):eB P.reverse=eB P:=ZO<|List.reverse_perm P
theorem pF:∀P:List Kd,P.length<=eB P
 |[]=>al _
 |k::P=>by
  have:=pF P
  have:=vE k
  unfold eB at *;rw[ak,am,List.sum_cons];omega
def T9{r:En}{b q:Int}(h3:r[3]?=aA (.v<|.int b))(h5:r[5]?=aA (.v<|.int q)):zJ aD (qD<|xX<|zB (mC .aE)<|zB (mC .aE)<|zB (zJ qO (zJ qO (zE 3)<|mC<|.int 1)<|zJ XU (mC<|.int 2)<|zJ w6 (zJ xJ (zE 5)<|mC<|.int 3)<|mC<|.int 4) zV) (zJ w6 (zE 5)<|mC<|.int 3) r=aA (a_<|(if q % 3=2 then aA (1+2*(q / 3 % 4)) else aB).map λt=>b+t):=by
 have el:qD (xX<|zB (mC .aE)<|zB (mC .aE)<|zB (zJ qO (zJ qO (zE 3)<|mC<|.int 1)<|zJ XU (mC<|.int 2)<|zJ w6 (zJ xJ (zE 5)<|mC<|.int 3)<|mC<|.int 4) zV) r=aA (.lst [.aE,.aE,.int<|b+1+2*(q / 3 % 4)]):=qS (zD zF<|zD zF<|zD (j0 (j0 (rS h3) zF)<|o4 zF (wH (wJ (rS h5) zF<|by decide) zF<|by decide)<|by decide) zO) (by show 3<=100;decide);have ei:zJ w6 (zE 5) (mC<|.int 3) r=aA (.int<|q % 3):=wH (rS h5) zF (by decide);rcases(by omega:q % 3=0\/q % 3=1\/q % 3=2) with h|h|h
 .rw[if_neg<|by omega];exact zL el (y:=.int ((0:Nat):Int)) (ei.trans (by rw[h];rfl))<|yB (j:=0) rfl
 .rw[if_neg<|by omega];exact zL el (y:=.int ((1:Nat):Int)) (ei.trans (by rw[h];rfl))<|yB (j:=1) rfl
 .rw[if_pos h];refine(zL el (y:=.int ((2:Nat):Int)) (ei.trans (by rw[h];rfl))<|yB (j:=2) rfl).trans ?_;show aA (D.int _)=aA (D.int _);rw[Int.add_assoc]
def T3{r:En}{w:Int}(h4:r[4]?=aA (.v<|.int w)):zJ aD (qD<|xX<|zB (mC<|.str [114,101,99])<|zB (mC<|.str [111,110,101]) zV) (zJ w6 (zE 4)<|mC<|.int 2) r=aA (.str<|lH<|decide (w % 2=1)):=by
 have el:qD (xX<|zB (mC<|.str [114,101,99])<|zB (mC<|.str [111,110,101]) zV) r=aA (.lst [.str Ay,.str Bh]):=qS (zD zF<|zD zF zO) (by show 2<=100;decide);have ei:zJ w6 (zE 4) (mC<|.int 2) r=aA (.int<|w % 2):=wH (rS h4) zF (by decide);rcases(by omega:w % 2=0\/w % 2=1) with h|h
 .rw[decide_eq_false<|by omega];exact zL el (y:=.int ((0:Nat):Int)) (ei.trans (by rw[h];rfl))<|yB (j:=0) rfl
 .rw[decide_eq_true h];exact zL el (y:=.int ((1:Nat):Int)) (ei.trans (by rw[h];rfl))<|yB (j:=1) rfl
section
variable{M:Ws}
def TH(h2:M.length=6)(nM:M.Nodup)(n:Int){P:List Kd}(hP:∀k∈P,k.ok<|fF 0 M)(hl:P.length<=1000):∃P2:List Kd,(∀k∈P2,k.ok<|fF 0 M)/\eB P2=eB P+1/\P2.length<=P.length+1/\∀b:Int,∃as:List Sl,as[0]?=aA (.p<|P2.map<|aG b) /\
   xS [.p<|P.map<|aG b,.v<|.int n,.v<|.lst<|dw M,.v<|.int b]=aA (.v .aE,as):=by
 let w:Int:=n % 8
 let q:Int:=n / 8
 have qw:0<=w/\w<8:=⟨jb _<|by decide,ic _<|by decide⟩
 let aV:Int->List Kd->Sl->Sl->Sl->En:=λb P a b' c=>[.p<|P.map<|aG b,.v<|.int n,.v<|.lst<|dw M,.v<|.int b,.v<|.int w,.v<|.int q,a,b',c]
 let R:Int->En:=λb=>aV b P .un .un .un
 have pl:∀(b:Int) (P:List Kd),(P.map<|aG b).length=P.length:=λb P=>ah _
 have fin:∀(P2:List Kd),(∀k∈P2,k.ok<|fF 0 M)->eB P2=eB P+1->P2.length<=P.length+1->(∀b,∃r':En,r'[0]?=aA (.p<|P2.map<|aG b)/\xB [.p<|P.map<|aG b,.v<|.int n,.v<|.lst<|dw M,.v<|.int b,.un,.un,.un,.un,.un]=aA (.nx r'))->∃P2:List Kd,(∀k∈P2,k.ok<|fF 0 M)/\eB P2=eB P+1/\P2.length<=P.length+1/\∀b:Int,∃as:List Sl,as[0]?=aA (.p<|P2.map<|aG b) /\
   xS [.p<|P.map<|aG b,.v<|.int n,.v<|.lst<|dw M,.v<|.int b]=aA (.v .aE,as):=λP2 a1 a2 a3 a4=>⟨P2,a1,a2,a3,λb=>by
    obtain⟨r',e1,e2⟩:=a4 b;exact⟨r'.take 4,by rw[List.getElem?_take,if_pos<|by decide];exact e1,Kb (n:=4) (N:=9) e2⟩⟩
 have start:∀{b:Int} {h:MS} {z},h (R b)=z->yO (qP 4<|zJ w6 (zE 1)<|mC<|.int 8) (yO (qP 5<|zJ xJ (zE 1)<|mC<|.int 8) h) [.p<|P.map<|aG b,.v<|.int n,.v<|.lst<|dw M,.v<|.int b,.un,.un,.un,.un,.un]=z:=λ{b h z} e=>
  yR (r2:=[.p<|P.map<|aG b,.v<|.int n,.v<|.lst<|dw M,.v<|.int b,.v<|.int w,.un,.un,.un,.un]) (.int w) (wH rfl zF<|by decide) rfl (yR (r2:=R b) (.int q) (wJ rfl zF<|by decide) rfl e)
 have c3:∀b,aP (zJ c_ (zE 4)<|mC<|.int 3) (R b)=aA (decide (w=3)):=λb=>wZ<|zL (x:=.int w) rfl zF rfl
 have cl:∀b,aP (zJ sY (rO<|c5 0)<|mC<|.int 1) (R b)=aA (decide (1<(P.length:Int))):=λb=>E2 (by show aA (D.int ((P.map<|aG b).length:Int))=_;rw[pl]) zF
 have cg:∀b,aP (zJ sY (zE 4)<|mC<|.int 3) (R b)=aA (decide (3<w)):=λb=>E2 rfl zF
 by_cases IE:w=3/\1<P.length
 .obtain⟨P0,f,la,rfl⟩:∃P0 f la,P=P0++[f]++[la]:=by
   rcases nr P with h|⟨P1,la,h⟩
   .subst h;simp at IE
   .rw[nu] at h;rcases nr P1 with h'|⟨P0,f,h'⟩
    .subst h' h;simp at IE
    .rw[nu] at h';exact⟨P0,f,la,by rw[h,h']⟩
  refine fin (P0++[.fn f la]) (λk hk=>?_) ?_ (by simp) λb=>⟨aV b (P0++[.fn f la]) (.v<|aG b la) .un .un,rfl,?_⟩
  .rcases aq.mp hk with hk|hk
   .exact hP k (by simp[hk])
   .rw[bf.mp hk];exact⟨hP f<|by simp,hP la<|by simp⟩
  .rw[jG,jG,jG];show _+(Kd.fn f la::(f.pre++la.pre)).length=_;rw[ak,ag];omega
  .unfold xB;refine start<|(bM<|jZ ((c3 b).trans<|by rw[decide_eq_true IE.1])<|(cl b).trans<|by rw[decide_eq_true<|by omega]).trans ?_;have p1:kH 6 (vW 0) (aV b (P0++[f]++[la]) .un .un .un)=aA (.nx<|aV b (P0++[f]) (.v<|aG b la) .un .un):=by
    refine j5 (GR (S:=(P0++[f]).map<|aG b) (d:=aG b la) ?_) rfl;show aA (Sl.p<|(P0++[f]++[la]).map<|aG b)=_;rw[bn (l₁:=P0++[f])];rfl
   have p2:vW 0 (aV b (P0++[f]) (.v<|aG b la) .un .un)=aA (aG b f,aV b P0 (.v<|aG b la) .un .un):=by
    refine GR (S:=P0.map<|aG b) (d:=aG b f) ?_;show aA (Sl.p<|(P0++[f]).map<|aG b)=_;rw[bn];rfl
   have tx:gL (kN (mC<|.str [102,117,110])<|YL (vW 0)<|zB (zE 6) zV) (aV b (P0++[f]) (.v<|aG b la) .un .un)=aA (aG b<|.fn f la,aV b P0 (.v<|aG b la) .un .un):=by
    unfold gL kN YL;rw[zF,ae,p2];rfl
   refine(yF p1).trans ((kF (d:=.aE)<|Sk (i:=0) (l0:=(P0++[f]).map<|aG b) (l:=P0.map<|aG b) rfl tx rfl (by rw[pl];simp at hl;exact cm (by omega:P0.length<=1000)<|by decide)).trans ?_);show aA (Fl.nx [.p<|P0.map (aG b)++[aG b<|Kd.fn f la],.v<|.int n,.v<|.lst<|dw M,.v<|.int b,.v<|.int w,.v<|.int q,.v<|aG b la,.un,.un])=aA (Fl.nx [.p<|(P0++[Kd.fn f la]).map<|aG b,.v<|.int n,.v<|.lst<|dw M,.v<|.int b,.v<|.int w,.v<|.int q,.v<|aG b la,.un,.un]);rw[bn];rfl
 .have na:∀b,bN (aP<|zJ c_ (zE 4)<|mC<|.int 3) (aP<|zJ sY (rO<|c5 0)<|mC<|.int 1) (R b)=aA false:=λb=>by
   by_cases h:w=3
   .exact jZ ((c3 b).trans<|by rw[decide_eq_true h]) ((cl b).trans<|by rw[decide_eq_false<|by omega])
   .exact jF ((c3 b).trans<|by rw[decide_eq_false h])
  by_cases h4:3<w
  .let tl:Option Int:=if q % 3=2 then aA (1+2*(q / 3 % 4)) else aB
   have Wx:∀t,tl=aA t->(fF 0 M).Tr t:=λt e=>by
    by_cases h:q % 3=2
    .have e':aA (1+2*(q / 3 % 4))=aA t:=by rw[<-e];exact(if_pos h).symm
     cases e';refine⟨?_,?_,?_⟩<;>omega
    .have e':aB=aA t:=by rw[<-e];exact(if_neg h).symm
     cases e'
   obtain⟨P',V,p1,p2,p3,p4,p5⟩:=QM (q / 12) h2 nM P hl
   let k:Kd:=.rw (decide (w % 2=1)) (Q2<|l5 V) tl
   have Nl:∀p∈l5 V,p.2∈P/\p.1∈M:=λp hp=>by
    have BA:=(kO V).mem_iff.mp hp;refine⟨?_,p4 p BA⟩;rw[p1];exact aq.mpr<|.inr<|List.mem_reverse.mpr<|qe BA
   have sub:∀x∈P',x∈P:=λx hx=>by rw[p1];exact aq.mpr<|.inl hx
   have ø:P'.length<=P.length:=by rw[p1,ag];omega
   refine fin (P'++[k]) (λx hx=>?_) ?_ (by rw[ag];simp only[ak,bq];omega) λb=>?_
   .rcases aq.mp hx with hx|hx
    .exact hP x<|sub x hx
    .rw[bf.mp hx];refine⟨JB _ λp hp=>⟨(Nl p hp).2,hP p.2 (Nl p hp).1⟩,?_,?_,?_,Wx⟩
     .rw[v6];exact((kO V).map _).nodup_iff.mpr p3
     .rw[v6,du];exact JF V
     .rw[v6,ah,(kO V).length_eq];omega
   .rw[jG];show _+(_::(Q2<|l5 V).pre).length=_;have e:eB P=eB P'+eB (V.map (·.2)):=by rw[p1,JD,T7]
    rw[ak,ZJ,ZO<|(kO V).map _,e];omega
   .obtain⟨as,a1,a2⟩:=p5 b
    let td:D:=a_<|tl.map λt=>b+t
    let fd:D:=.tup ((Q2<|l5 V).sh b).ds
    let R9:En:=aV b P .un (.v td) .un
    let Ra:En:=aV b P' .un (.v td)<|.v fd
    have ec:c6 3 qN 0 (zP<|zB (zJ xJ (zE 5)<|mC<|.int 12)<|zB (zE 2) zV) R9=aA (fd,aV b P' .un (.v td) .un):=KJ (l:=P.map<|aG b) (es:=[.int<|q / 12,.lst<|dw M]) (as:=as) (l':=P'.map<|aG b) rfl (zD (wJ rfl zF<|by decide)<|zD rfl zO) rfl a2 a1 rfl;refine⟨aV b (P'++[k]) .un (.v td)<|.v fd,rfl,?_⟩;unfold xB;refine start<|(jE<|na b).trans<|(bM<|(cg b).trans<|by rw[decide_eq_true h4]).trans ?_;refine yR (r2:=R9) td (T9 rfl rfl) rfl<|(yF (r':=Ra)<|j5 ec rfl).trans ?_;have ek:qQ (zB (zJ aD (qD<|xX<|zB (mC<|.str [114,101,99])<|zB (mC<|.str [111,110,101]) zV)<|zJ w6 (zE 4)<|mC<|.int 2)<|zB (qQ<|zB (mC<|.str [114,111,119])<|zB (zE 8)<|zB (zE 7) zV) zV) Ra=aA (aG b k):=xI (zD (T3 rfl)<|zD (xI (zD zF<|zD rfl<|zD rfl zO) (by show 3<=100;decide)) zO) (by show 2<=100;decide);refine(kF (d:=.aE)<|ED (i:=0) (S:=P'.map<|aG b) rfl ek (by rw[pl];exact cm (by omega:P'.length<=1000)<|by decide)).trans ?_;show aA (Fl.nx [.p<|P'.map (aG b)++[aG b k],.v<|.int n,.v<|.lst<|dw M,.v<|.int b,.v<|.int w,.v<|.int q,.un,.v td,.v fd])=aA (Fl.nx [.p<|(P'++[k]).map<|aG b,.v<|.int n,.v<|.lst<|dw M,.v<|.int b,.v<|.int w,.v<|.int q,.un,.v td,.v fd]);rw[bn];rfl
  .obtain⟨k,k1,k2,k3,ek⟩:=Mi q M;refine fin (P++[k]) (λx hx=>?_) (by rw[jG,k3]) (by rw[ag];simp only[ak,bq];omega) λb=>⟨aV b (P++[k]) .un .un .un,rfl,?_⟩
   .rcases aq.mp hx with hx|hx
    .exact hP x hx
    .rw[bf.mp hx];exact k1
   .unfold xB;refine start<|(jE<|na b).trans<|(jE<|(cg b).trans<|by rw[decide_eq_false h4]).trans ?_;refine(kF (d:=.aE)<|ED (i:=0) (S:=P.map<|aG b) rfl (yK (p:=.v<|aG b k) (zD rfl<|zD rfl zO) rfl<|ek b) (by rw[pl];exact cm hl<|by decide)).trans ?_;show aA (Fl.nx [.p<|P.map (aG b)++[aG b k],.v<|.int n,.v<|.lst<|dw M,.v<|.int b,.v<|.int w,.v<|.int q,.un,.un,.un])=aA (Fl.nx [.p<|(P++[k]).map<|aG b,.v<|.int n,.v<|.lst<|dw M,.v<|.int b,.v<|.int w,.v<|.int q,.un,.un,.un]);rw[bn];rfl
def CV:MS:=(sX<|c6 4 xS 3<|zP<|zB (yE 2 xO<|zB (zE 5)<|zB (zJ qO (zE 4)<|mC<|.int 3) zV)<|zB (zE 1)<|zB (zE 2) zV)
theorem oN(h2:M.length=6)(nM:M.Nodup):∀(cs:List Int) (s:Nat) (P:List Kd),s+cs.length<=500->eB P+cs.length<=500->(∀k∈P,k.ok<|fF 0 M) ->
  ∃P':List Kd,(∀k∈P',k.ok<|fF 0 M)/\eB P'=eB P+cs.length/\∀(b:Int) (A0:D) (x y:Sl),aO x->aO y->∃x' y':Sl,
   bH (qA 2<|yH (yV 4)<|yH (yV 5) qL) CV (((cs.map D.int).zipIdx s).map λp=>D.tup [.int (p.2:Nat),p.1]) [.v A0,.v<|.lst<|dw M,.v<|.int b,.o<|P.map<|aG b,x,y,.un]=aA (.nx [.v A0,.v<|.lst<|dw M,.v<|.int b,.o<|P'.map<|aG b,x',y',.un])
 |[],s,P,_,_,hP=>⟨P,hP,rfl,λb A0 x y _ _=>⟨x,y,by simp[bH]⟩⟩
 |c::cs,s,P,hs,hz,hP=>by
  rw[ak] at hs hz;obtain⟨z,_,em⟩:=cZ c (k:=(s:Int)+3) (by omega) (by omega);have pl:=pF P;obtain⟨P2,a1,a2,a3,a4⟩:=TH h2 nM z hP (by omega);obtain⟨P',e1,e2,ih⟩:=oN h2 nM cs (s+1) P2 (by omega) (by omega) a1;refine⟨P',e1,by rw[e2,a2,ak];omega,λb A0 x y hx hy=>?_⟩;obtain⟨as,a4,a5⟩:=a4 b;obtain⟨x',y',ih⟩:=ih b A0 (.v<|.int (s:Int)) (.v<|.int c) trivial trivial;refine⟨x',y',?_⟩;rw[am,vb,am]
  let R:En:=[.v A0,.v<|.lst<|dw M,.v<|.int b,.o<|P.map<|aG b,.v<|.int (s:Int),.v<|.int c,.un]
  have ec:c6 4 xS 3 (zP<|zB (yE 2 xO<|zB (zE 5)<|zB (zJ qO (zE 4)<|mC<|.int 3) zV)<|zB (zE 1)<|zB (zE 2) zV) R=aA (.aE,[.v A0,.v<|.lst<|dw M,.v<|.int b,.o<|P2.map<|aG b,.v<|.int (s:Int),.v<|.int c,.un]):=KJ (l:=P.map<|aG b) (es:=[.int z,.lst<|dw M,.int b]) (as:=as) (l':=P2.map<|aG b) rfl (zD (yK (p:=.v<|.int z) (zD rfl<|zD (j0 rfl zF) zO) rfl em)<|zD rfl<|zD rfl zO) rfl a5 a4 rfl;have bd:CV R=aA (.nx [.v A0,.v<|.lst<|dw M,.v<|.int b,.o<|P2.map<|aG b,.v<|.int (s:Int),.v<|.int c,.un]):=by
   unfold CV;exact kF ec
  exact(j8 (r1:=R) (AZ (r1:=[.v A0,.v<|.lst<|dw M,.v<|.int b,.o<|P.map<|aG b,.v<|.int (s:Int),y,.un]) (yD (x:=x) rfl hx)<|yD (x:=y) rfl hy) bd).trans ih
def XD:MB:=aP<|zJ sY (rO<|c5 3)<|mC<|.int 1
def CW:MS:=(yO (kH 6<|vW 3)
 (sX<|pC 3<|gL<|kN (mC<|.str [102,117,110])<|YL (vW 3)<|zB (zE 6) zV))
theorem pK:∀(n:Nat) (P0:List Kd) (la:Kd),P0.length=n->(∀k∈P0,k.ok<|fF 0 M)->la.ok (fF 0 M)->eB P0<=60->la.dp+eB P0<=61->∃k:Kd,k.ok (fF 0 M)/\k.dp<=61/\k.pre.length=eB P0+la.pre.length+n /\
  ∀(b:Int) (A0 A1 A2 x4 x5 x6:Sl),aO x6->∃x',∀m,jB (n+m) XD CW [A0,A1,A2,.o<|(P0++[la]).map<|aG b,x4,x5,x6]=jB m XD CW [A0,A1,A2,.o [aG b k],x4,x5,x']
 |0,P0,la,hn,_,ho,_,hd=>by
  obtain rfl:=rh.mp hn;exact⟨la,ho,by omega,by show _=eB []+_+0;simp[eB],λb A0 A1 A2 x4 x5 x6 _=>⟨x6,λm=>by rw[ub];rfl⟩⟩
 |n+1,P0,la,hn,hP,ho,hz,hd=>by
  obtain⟨P1,f,rfl⟩:∃P1 f,P0=P1++[f]:=by
   rcases nr P0 with h|⟨P1,f,h⟩
   .subst h;cases hn
   .exact⟨P1,f,by rw[h,nu]⟩
  rw[jG] at hz hd;have hf:=f.AY;have fp:=vE f;have FU:P1.length=n:=by rw[ag] at hn;simpa using hn
  have l1:=pF P1;obtain⟨k,k1,k2,k3,ih⟩:=pK n P1 (.fn f la) FU (λk hk=>hP k<|by simp[hk]) ⟨hP f<|by simp,ho⟩ (by omega) (by show max f.dp la.dp+1+_<=61;omega);refine⟨k,k1,k2,?_,λb A0 A1 A2 x4 x5 x6 h6=>?_⟩
  .rw[k3,jG];show _+(Kd.fn f la::(f.pre++la.pre)).length+_=_;rw[ak,ag];omega
  .obtain⟨x',ih⟩:=ih b A0 A1 A2 x4 x5 (.v<|aG b la) trivial;refine⟨x',λm=>?_⟩;rw[<-ih m,show n+1+m=(n+m)+1 by omega]
   let aV:List Kd->Sl->En:=λP a=>[A0,A1,A2,.o<|P.map<|aG b,x4,x5,a]
   have c:XD (aV (P1++[f]++[la]) x6)=aA true:=by
    unfold XD;refine(E2 (i:=((P1.length+2:Nat):Int)) ?_ zF).trans (by rw[decide_eq_true<|by omega]);show aA (D.int (((P1++[f]++[la]).map<|aG b).length:Int))=_;rw[ah,ag,ag];rfl
   have p1:kH 6 (vW 3) (aV (P1++[f]++[la]) x6)=aA (.nx<|aV (P1++[f])<|.v<|aG b la):=by
    refine j5 (tK (S:=(P1++[f]).map<|aG b) (d:=aG b la) ?_)<|yD (x:=x6) rfl h6;show aA (Sl.o<|(P1++[f]++[la]).map<|aG b)=_;rw[bn (l₁:=P1++[f])];rfl
   have p2:vW 3 (aV (P1++[f])<|.v<|aG b la)=aA (aG b f,aV P1<|.v<|aG b la):=by
    refine tK (S:=P1.map<|aG b) (d:=aG b f) ?_;show aA (Sl.o<|(P1++[f]).map<|aG b)=_;rw[bn];rfl
   have tx:gL (kN (mC<|.str [102,117,110])<|YL (vW 3)<|zB (zE 6) zV) (aV (P1++[f])<|.v<|aG b la)=aA (aG b<|.fn f la,aV P1<|.v<|aG b la):=by
    unfold gL kN YL;rw[zF,ae,p2];rfl
   refine cK (r':=aV (P1++[.fn f la])<|.v<|aG b la) c ?_;unfold CW;refine(yF p1).trans ((kF (d:=.aE)<|LC (i:=3) (l0:=(P1++[f]).map<|aG b) (l:=P1.map<|aG b) rfl tx rfl (by rw[ah];exact cm (by omega:P1.length<=60)<|by decide)).trans ?_);show aA (Fl.nx [A0,A1,A2,.o<|P1.map (aG b)++[aG b<|Kd.fn f la],x4,x5,.v<|aG b la])=aA (Fl.nx [A0,A1,A2,.o<|(P1++[Kd.fn f la]).map<|aG b,x4,x5,.v<|aG b la]);rw[bn];rfl
def SM(h2:M.length=6)(nM:M.Nodup)(cs:List Int)(hc:cs.length<=60):∃k:Kd,k.ok (fF 0 M)/\k.dp<=61/\k.pre.length<=130/\∀b:Int,∃as,wP [.v<|.lst<|cs.map D.int,.v<|.lst<|dw M,.v<|.int b]=aA (.v<|aG b k,as):=by
 obtain⟨P,h1,hz,lp⟩:=oN h2 nM cs 0 [] (by omega) (by show 0+_<=500;omega) (λk hk=>by cases hk);have Wm:eB P<=60:=by rw[hz];show 0+cs.length<=60;omega
 obtain⟨kl,l1,l2,l3,el⟩:=Mi 6 M;have ret:∀(b:Int) (T:List D) (d:D) (x4 x5 x6:Sl),(T++[aG b kl])[0]?=aA d->T.length<=1000->kM (zJ aD (qD<|Aw (c5 3)<|xX<|zB (yE 2 x0<|zB (aX mF<|zE 1)<|zB (zE 2) zV) zV)<|mC<|.int 0) [.v<|.lst<|cs.map D.int,.v<|.lst<|dw M,.v<|.int b,.o T,x4,x5,x6]=aA (.rt d [.v<|.lst<|cs.map D.int,.v<|.lst<|dw M,.v<|.int b,.o T,x4,x5,x6]):=λb T d x4 x5 x6 e hT=>by
  let R:En:=[.v<|.lst<|cs.map D.int,.v<|.lst<|dw M,.v<|.int b,.o T,x4,x5,x6]
  have e1:xX (zB (yE 2 x0<|zB (aX mF<|zE 1)<|zB (zE 2) zV) zV) R=aA [aG b kl]:=by
   have:zB (yE 2 x0<|zB (aX mF<|zE 1)<|zB (zE 2) zV) zV R=aA [aG b kl]:=by
    refine zD (yK (p:=.v<|aG b kl) (l:=[.int 6,.int b]) (zD (cN (x:=.lst<|dw M) rfl ?_)<|zD rfl zO) rfl<|el b) zO;show aA (D.int ((dw M).length:Int))=_;rw[ah,h2];rfl
   unfold xX;rw[this];rfl
  have e2:Aw (c5 3) (xX<|zB (yE 2 x0<|zB (aX mF<|zE 1)<|zB (zE 2) zV) zV) R=aA (T++[aG b kl]):=by
   unfold Aw;rw[show c5 3 R=aA T from rfl,ae,e1,ae,if_pos (by show T.length+1<=_;exact cz (by omega:T.length+1<=1001)<|by decide)]
  exact yS<|zL (x:=.lst<|T++[aG b kl]) (congrArg (uk D.lst) e2) (y:=.int ((0:Nat):Int)) zF<|yB (j:=0) e
 have run:∀(b:Int) (T:List D) (d:D),(∀x y:Sl,∃x',jB WF XD CW [.v<|.lst<|cs.map D.int,.v<|.lst<|dw M,.v<|.int b,.o<|P.map<|aG b,x,y,.un]=aA (.nx [.v<|.lst<|cs.map D.int,.v<|.lst<|dw M,.v<|.int b,.o T,x,y,x']))->(T++[aG b kl])[0]?=aA d->T.length<=1000->∃as,wP [.v<|.lst<|cs.map D.int,.v<|.lst<|dw M,.v<|.int b]=aA (.v d,as):=λb T d hw e hT=>by
  obtain⟨x,y,lp⟩:=lp b (.lst<|cs.map D.int) .un .un trivial trivial;obtain⟨x',w⟩:=hw x y;have fo:k9 (qA 2<|yH (yV 4)<|yH (yV 5) qL) (WW<|zE 0) CV [.v<|.lst<|cs.map D.int,.v<|.lst<|dw M,.v<|.int b,.o [],.un,.un,.un]=aA (.nx [.v<|.lst<|cs.map D.int,.v<|.lst<|dw M,.v<|.int b,.o<|P.map<|aG b,x,y,.un]):=lp;unfold CV at fo;unfold XD CW at w;refine jI (r':=[.v<|.lst<|cs.map D.int,.v<|.lst<|dw M,.v<|.int b,.o T,x,y,x']) ?_;show qV [.v<|.lst<|cs.map D.int,.v<|.lst<|dw M,.v<|.int b,.un,.un,.un,.un]=_;unfold qV;exact(yF (r':=[.v<|.lst<|cs.map D.int,.v<|.lst<|dw M,.v<|.int b,.o [],.un,.un,.un])<|by rfl).trans ((yF fo).trans<|(yF w).trans<|ret b T d x y x' e hT)
 have cf:∀(b:Int) (T:List D) (x4 x5 x6:Sl),T.length<=1->XD [.v<|.lst<|cs.map D.int,.v<|.lst<|dw M,.v<|.int b,.o T,x4,x5,x6]=aA false:=λb T x4 x5 x6 h=>by
  unfold XD;exact(E2 (i:=(T.length:Int)) rfl zF).trans (by rw[decide_eq_false<|by omega])
 rcases nr P with h|⟨P0,la,h⟩
 .subst h;refine⟨kl,l1,by omega,by omega,λb=>run b [] (aG b kl) (λx y=>⟨.un,?_⟩) rfl<|by decide⟩;exact v5 (n:=99999) (cf b [] x y .un<|by decide)
 .rw[nu] at h;subst h;rw[jG] at Wm
  have:=la.AY
  have l0:=pF P0;obtain⟨k,k1,k2,k3,jl⟩:=pK P0.length P0 la rfl (λk hk=>h1 k<|by simp[hk]) (h1 la<|by simp) (by omega) (by omega);refine⟨k,k1,k2,by omega,λb=>run b [aG b k] (aG b k) (λx y=>?_) rfl (by show 1<=1000;decide)⟩;obtain⟨x',w⟩:=jl b (.v<|.lst<|cs.map D.int) (.v<|.lst<|dw M) (.v<|.int b) x y .un trivial;have w1:=w<|99999-P0.length+1;rw[show P0.length+(99999-P0.length+1)=WF by unfold WF;omega,v5<|cf b _ x y x' (by show 1<=1;decide)] at w1;exact⟨x',w1⟩
end
noncomputable def AN(n:Int)(k:Nat):Int:=n / 9 / (1+(k:Int)*(k:Int)) % 12
noncomputable def AO(n:Int)(k:Nat):Nat:=((n / 108+(k:Int)*(n / 648 % 5)) % 6).toNat
def lcs(n:Int)(M:Ws)(m s:Nat):List NL:=(mr s m).map λk=>(AN n k,M.getD (AO n k) [])
def EF:MS:=(yO (qP 5<|zJ w6 (zJ xJ (zJ xJ (zE 0)<|mC<|.int 9)<|zJ qO (mC<|.int 1)<|zJ XU (zE 4)<|zE 4)<|mC<|.int 12)
 (sX<|nA 3<|qQ<|zB (zJ qO (zE 2)<|zE 5)<|zB (zJ aD (zE 1)<|zJ w6 (zJ qO (zJ xJ (zE 0)<|mC<|.int 108)<|zJ XU (zE 4)<|zJ w6 (zJ xJ (zE 0)<|mC<|.int 648)<|mC<|.int 5)<|mC<|.int 6) zV))
theorem Mg{M:Ws}(h6:M.length=6)(n b:Int):∀(m s:Nat) (A:List NL) (x y:Sl),aO x->aO y->s+m<=8->A.length<=s->∃x' y',bH (yV 4) EF ((mr s m).map λj=>D.int<|(0:Int)+(j:Nat)) [.v<|.int n,.v<|.lst<|dw M,.v<|.int b,.o<|A.map a6,x,y]=aA (.nx [.v<|.int n,.v<|.lst<|dw M,.v<|.int b,.o<|(A++fG b (lcs n M m s)).map a6,x',y'])
 |0,s,A,x,y,_,_,_,_=>⟨x,y,by simp[bH,lcs,fG]⟩
 |m+1,s,A,x,y,hx,hy,hs,hA=>by
  let p:NL:=(b+AN n s,M.getD (AO n s) [])
  obtain⟨x',y',ih⟩:=Mg h6 n b m (s+1) (A++[p]) (.v<|.int (s:Int)) (.v<|.int<|AN n s) trivial trivial (by omega) (by rw[ag];simp only[ak,bq];omega);refine⟨x',y',?_⟩;rw[show A++fG b (lcs n M (m+1) s)=A++[p]++fG b (lcs n M m<|s+1) by unfold lcs fG;rw[sj];simp;rfl,<-ih];rw[sj,am,acb]
  let R:En:=[.v<|.int n,.v<|.lst<|dw M,.v<|.int b,.o<|A.map a6,.v<|.int (s:Int),y]
  let R1:En:=[.v<|.int n,.v<|.lst<|dw M,.v<|.int b,.o<|A.map a6,.v<|.int (s:Int),.v<|.int<|AN n s]
  refine j8 (r1:=R) (yD (x:=x) rfl hx) ?_;have ú:(0:Int)<=(s:Int)*(s:Int)/\(s:Int)*(s:Int)<=64:=⟨Int.mul_nonneg (by omega)<|by omega,by
   have:(s:Int)*(s:Int)<=8*8:=Int.mul_le_mul (by omega) (by omega) (by omega) (by omega)
   omega⟩
  have e1:zJ w6 (zJ xJ (zJ xJ (zE 0)<|mC<|.int 9)<|zJ qO (mC<|.int 1)<|zJ XU (zE 4)<|zE 4) (mC<|.int 12) R=aA (.int<|AN n s):=wH (wJ (wJ rfl zF<|by decide) (j0 zF<|o4 rfl rfl<|by omega)<|by omega) zF (by decide);have q6:=BV<|n / 108+(s:Int)*(n / 648 % 5);have hi:AO n s<M.length:=by unfold AO;omega
  have e2:zJ aD (zE 1) (zJ w6 (zJ qO (zJ xJ (zE 0)<|mC<|.int 108)<|zJ XU (zE 4)<|zJ w6 (zJ xJ (zE 0)<|mC<|.int 648)<|mC<|.int 5)<|mC<|.int 6) R1=aA (.str<|M.getD (AO n s) []):=by
   refine zL (x:=.lst<|dw M) (y:=.int ((AO n s:Nat):Int)) rfl ?_<|yB ?_
   .unfold AO;rw[gw q6.1];exact wH (j0 (wJ rfl zF<|by decide)<|o4 rfl (wH (wJ rfl zF<|by decide) zF<|by decide)<|by omega) zF (by decide)
   .rw[av,au hi,cy,au hi];rfl
  unfold EF;refine yR (r2:=R1) (.int<|AN n s) e1 (yD (x:=y) rfl hy) ?_;refine(kF (d:=.aE)<|Q1 (i:=3) (S:=A.map a6) (d:=a6 p) rfl (xI (zD (j0 rfl rfl)<|zD e2 zO) (by show 2<=100;decide)) (by rw[ah];exact cm (by omega:A.length<=8)<|by decide)).trans ?_;show aA (Fl.nx [.v<|.int n,.v<|.lst<|dw M,.v<|.int b,.o<|A.map a6++[a6 p],.v<|.int (s:Int),.v<|.int<|AN n s])=aA (Fl.nx [.v<|.int n,.v<|.lst<|dw M,.v<|.int b,.o<|(A++[p]).map a6,.v<|.int (s:Int),.v<|.int<|AN n s]);rw[bn];rfl
def Ut(n:Int){M:Ws}(h6:M.length=6):∃L:List NL,L.length<=20/\(∀p∈L,p.2∈M)/\∀b:Int,∃as,wO [.v<|.int n,.v<|.lst<|dw M,.v<|.int b]=aA (.v<|.lst<|(fG b L).map a6,as):=by
 have q9:0<=n % 9/\n % 9<9:=⟨jb _<|by decide,ic _<|by decide⟩;have q2:=Jt<|n / 50;obtain⟨m,em⟩:∃m:Nat,(m:Int)=n % 9:=⟨(n % 9).toNat,gw q9.1⟩;obtain⟨c,ec⟩:∃c:Nat,(c:Int)=n / 50 % 2:=⟨(n / 50 % 2).toNat,gw q2.1⟩
 let B:List NL:=lcs n M m 0
 have lB:B.length=m:=by show(List.map _ _).length=m;rw[ah,List.length_range']
 have mB:∀p∈B,p.2∈M:=λp hp=>by
  obtain⟨k,_,rfl⟩:=cq.mp hp
  have:=BV<|n / 108+(k:Int)*(n / 648 % 5)
  exact Y3 (by unfold AO;omega)
 refine⟨B++B.take c,by rw[ag,cu];omega,λp hp=>?_,λb=>?_⟩
 .rcases aq.mp hp with z|z
  .exact mB p z
  .exact mB p<|on z
 .obtain⟨x,y,lp⟩:=Mg h6 n b m 0 [] .un .un trivial trivial (by omega)<|al 0;rw[ja] at lp
  let S:List D:=(fG b B).map a6
  let R1:En:=[.v<|.int n,.v<|.lst<|dw M,.v<|.int b,.o [],.un,.un]
  let R2:En:=[.v<|.int n,.v<|.lst<|dw M,.v<|.int b,.o S,x,y]
  let R3:En:=[.v<|.int n,.v<|.lst<|dw M,.v<|.int b,.v<|.lst S,x,y]
  have fo:k9 (yV 4) (mR<|zJ w6 (zE 0)<|mC<|.int 9) EF R1=aA (.nx R2):=by
   unfold k9;rw[WG (n:=m) (by rw[em];exact wH rfl zF<|by decide)<|by omega,ae,wx];exact lp
  unfold EF at fo;refine jI (n:=3) (N:=6) (r':=R3) ?_;show qG [.v<|.int n,.v<|.lst<|dw M,.v<|.int b,.un,.un,.un]=_;unfold qG;refine(yF (r':=R1)<|by rfl).trans ((yF fo).trans ?_);show kM _ R3=_;refine yS ?_;have es:fB (zE 3) mO (w4<|zJ w6 (zJ xJ (zE 0)<|mC<|.int 50)<|mC<|.int 2) R3=aA (.lst<|S.take c):=by
   refine GU (a:=aB) (b:=aA (c:Int)) (x:=.lst S) rfl rfl (j6 (by rw[ec];exact wH (wJ rfl zF<|by decide) zF<|by decide)) ?_;show aA (D.lst<|XW S aB<|some (c:Int))=_;rw[GX]
  have ls:S.length<=8:=by show((B.map _).map _).length<=8;rw[ah,ah,lB];omega
  refine(Gy (l:=S) rfl es (by rw[cu];omega)).trans ?_;show aA (D.lst<|S++S.take c)=aA (D.lst<|(fG b<|B++B.take c).map a6);unfold fG;rw[bn,bn,xk,xk];rfl
def UV(i:Int):∃as,xY [.v<|.int i]=aA (.v<|.bl true,as):=by
 refine jI (r':=[.v<|.int i]) ?_;show qE [.v<|.int i]=_;unfold qE;exact yS rfl
theorem LI:∀n:Nat,A_ (bg n<|.bl true)=aA (bg n true)
 |0=>rfl
 |n+1=>by
  rw[qd,qd];unfold A_;rw[LI n];rfl
def Sj(n:Nat):(bg n true).all id=true:=by simp
theorem p7:∀(W:List (Nat×List Nat)) (x:Sl),aO x->jK (yV 0) uN (Bf (aX (dG "tuple")<|zE 0)<|yE 1 xY<|zB (zJ aD (zE 0)<|mC<|.int 0) zV) (W.map eV) [x]=aA (bg W.length<|.bl true)
 |[],_,_=>rfl
 |w::W,x,hx=>by
  rw[am,ak,qd];have e:Bf (aX (dG "tuple")<|zE 0) (yE 1 xY<|zB (zJ aD (zE 0)<|mC<|.int 0) zV) [.v<|eV w]=aA (.bl true):=by
   have c:yE 1 xY (zB (zJ aD (zE 0)<|mC<|.int 0) zV) [.v<|eV w]=aA (.bl true):=yK (p:=.v<|.bl true) (zD (zL (x:=eV w) rfl zF<|xE _ _) zO) rfl<|UV _;unfold Bf;rw[cN (x:=eV w) (d:=.bl true) rfl rfl];exact c
  exact cF (r1:=[.v<|eV w]) (yD (x:=x) rfl hx) e<|p7 W (.v<|eV w) trivial
def Ts{A:D}{W:List (Nat×List Nat)}(hl:W.length<=1000)(ly:iJ 400 (.tup [A,.lst<|W.map eV])=true):∃as,wM [.v<|.tup [A,.lst<|W.map eV],.v<|.tup [A,.lst<|W.map eV]]=aA (.v<|.bl true,as):=by
 let X:D:=.tup [A,.lst<|W.map eV]
 let R:En:=[.v X,.v X]
 refine jI (r':=R) ?_;show qU R=_;unfold qU;have e1:zJ aD (zE 0) (mC<|.int 1) R=aA (.lst<|W.map eV):=zL (x:=X) rfl zF<|yB (j:=1) rfl;refine yY (hZ (GB (b:=true)<|cN (x:=X) rfl rfl)<|hZ (wZ<|zL (cN (x:=X) rfl rfl) zF rfl)<|wZ<|zL (x:=X) (y:=X) rfl rfl (Y7 ly).2) ?_;refine yY (GB (b:=true)<|cN e1 rfl)<|yS ?_;have cp:jX [] 1 (aR<|zJ aD (zE 0)<|mC<|.int 1) (yV 0) (Bf (aX (dG "tuple")<|zE 0)<|yE 1 xY<|zB (zJ aD (zE 0)<|mC<|.int 0) zV) R=aA (bg W.length<|.bl true):=by
  unfold jX qR;rw[rP e1,ae,if_pos (by rw[ah];exact cm hl<|by decide)];exact p7 W .un trivial
 unfold Gz;rw[cp,ae,LI];show aA (D.bl _)=_;rw[Sj]
def La{n:Nat}{l:List D}(h:∀d∈l,Ly n d):Ly (n+1) (.lst l):=by
 obtain⟨a,b,c⟩:=G_ l h;refine⟨a,b,?_⟩;simp only[aW,tz];omega
noncomputable def Hv(A:List Nat->Prop):Sp where
 Vr:=λ_=>True
 Tr:=λ_=>True
 A:=A
 B:=λ_=>False
 ap:=λ_ _ h=>h
theorem oG(ns:List Int):∀fs:Fs,(fs.rn ns).a7=fs.a7
 |.nil=>rfl
 |.cons l k r=>by show l::(r.rn ns).a7=l::r.a7;rw[oG ns r]
mutual
theorem E6{S:Sp}(ns:List Int):∀k:Kd,k.ok S->(k.rn ns).ok (Hv S.A)
 |.num,_=>trivial
 |.var n,_=>trivial
 |.fn a b,h=>⟨E6 ns a h.1,E6 ns b h.2⟩
 |.rw o fs tl,h=>by
  refine⟨Lm ns fs h.1,?_,?_,?_,λ_ _=>trivial⟩
  .rw[oG];exact h.2.1
  .rw[oG];exact h.2.2.1
  .rw[oG];exact h.2.2.2.1
theorem Lm{S:Sp}(ns:List Int):∀fs:Fs,fs.ok S->(fs.rn ns).ok (Hv S.A)
 |.nil,_=>trivial
 |.cons l k r,h=>⟨h.1,E6 ns k h.2.1,Lm ns r h.2.2⟩
end
mutual
theorem E_(ns:List Int):∀k:Kd,(k.rn ns).dp=k.dp
 |.num=>rfl
 |.var n=>rfl
 |.fn x y=>by show max _ _+1=max _ _+1;rw[E_ ns x,E_ ns y]
 |.rw o fs tl=>by show _+1=_+1;rw[Lr ns fs]
theorem Lr(ns:List Int):∀fs:Fs,(fs.rn ns).dp=fs.dp
 |.nil=>rfl
 |.cons l k r=>by show max _ _=max _ _;rw[E_ ns k,Lr ns r]
end
def TY{b:Int}{M:Ws}{k:Kd}{L:List NL}(g:Gd b M k L)(low:∀l∈M,∀c∈l,97<=c/\c<=122)(hd:k.dp<=61):iJ 400 (res k L)=true:=by
 have h1:Ly 300 (k.rn<|qC k).ds:=(Kd.ly (S:=Hv λl=>l∈M) low _<|E6 _ k g.ok).mono (by rw[E_];omega);have h2:Ly 300 (.lst<|(rN<|qB k L).map eV):=(La (n:=1) λd hd=>by
  obtain⟨w,hw,rfl⟩:=cq.mp hd;obtain⟨t,_,_,hm⟩:=g.want w<|(qY _ _).mp hw;exact AM (tR _)<|uP<|low _ hm).mono (by decide)
 exact(AM h1 h2).lay (by decide)
noncomputable abbrev WN:=Nat×List Nat
def j3(w:WN):List Key:=[.inl (w.1:Int),.inr ⟨w.2.toArray⟩]
def QA{a c:WN}(e:j3 a=j3 c):a=c:=by
 unfold j3 at e
 injection e with e1 e2
 injection e2 with e2 _
 have h1:=ut e1;have h2:=congrArg (λs:Str=>s.cps.toList)<|Sum.inr.inj e2;exact va (by omega) (by simpa using h2)
def iR(W:List WN)(w:WN):List WN:=if w∈W then W else W++[w]
def Y1{W:List WN}{w v:WN}:v∈iR W w↔v∈W\/v=w:=by
 unfold iR;split
 .rename_i h;exact⟨.inl,λz=>z.elim id λz=>by rw[z];exact h⟩
 .rw[aq,bf]
def L9{W:List WN}(w:WN)(h:W.Nodup):(iR W w).Nodup:=by
 unfold iR;split
 .exact h
 .rename_i z;exact lw.mpr ⟨h,by simp,λx hx y hy e=>z (by rw[bf.mp hy] at e;rw[<-e];exact hx)⟩
def Y2(W:List WN)(w:WN):(iR W w).length<=W.length+1:=by
 unfold iR;split
 .exact rc _
 .rw[ag];exact al _
def PP(W:List WN)(w:WN):lW (W.map j3) (j3 w)=(iR W w).map j3:=by
 have e:((W.map j3).any λj=>decide (j=j3 w))=decide (w∈W):=by
  rw[jp,sn,decide_eq_true_eq];constructor
  .rintro ⟨x,hx,h⟩;obtain⟨v,hv,rfl⟩:=cq.mp hx;rw[<-QA<|of_decide_eq_true h];exact hv
  .exact λh=>⟨j3 w,qe h,decide_eq_true rfl⟩
 unfold lW iR;rw[e];by_cases h:w∈W
 .rw[decide_eq_true h,if_pos rfl,if_pos h]
 .rw[decide_eq_false h,if_neg bc,if_neg h,bn];rfl
def Q9{f g:ME}{r:En}{W:List WN}{w:WN}(e1:f r=aA (.int (w.1:Int)))(e2:g r=aA (.str w.2))(e3:r[10]?=aA (.t<|W.map j3))(h:W.length<=1000):WE 10 (zB f<|zB g zV) r=aA (.nx<|r.set 10<|.t<|(iR W w).map j3):=by
 unfold WE;rw[zD e1<|zD e2 zO,ae];show(match r[10]? with
  |some (.t ks)=>if ks.length<ar/\([D.int (w.1:Int),D.str w.2]:List D).length<=ar then aA (Fl.nx<|r.set 10<|.t<|lW ks<|j3 w) else aB
  |_=>aB)=_
 rw[e3];show(if (W.map j3).length<ar/\2<=ar then aA (Fl.nx<|r.set 10<|.t<|lW (W.map j3)<|j3 w) else aB)=_;rw[if_pos ⟨by rw[ah];exact cm h<|by decide,by decide⟩,PP]
theorem Jv:∀W:List WN,Bd (W.map j3)=aA W
 |[]=>rfl
 |w::W=>by
  show(Ak<|j3 w).bind _=_
  have:Ak (j3 w)=aA w:=by
   show(if (0:Int)<=(w.1:Int) then aA ((w.1:Int).toNat,w.2.toArray.toList) else aB)=_;rw[if_pos<|by omega,gy]
  rw[this,ae,Jv W];rfl
section
variable(ns tn:List Int)
def iA(W:List WN)(p:TL):List WN:=match p.1 with
 |some t=>if p.2=[] then W else iR W (ns.idxOf t,p.2)
 |none=>W
def eT(W:List WN)(p:NL):List WN:=if p.1∈tn then iR W (ns.idxOf p.1,p.2) else W
end
section
variable{ns tn:List Int}
theorem JE:∀(T:List TL) (W:List WN) (w:WN),w∈T.foldl (iA ns) W↔w∈W\/∃t l,(aA t,l)∈T/\l≠[]/\w=(ns.idxOf t,l)
 |[],W,w=>by simp
 |p::T,W,w=>by
  rw[gp,JE T];obtain⟨tl,l⟩:=p;cases tl with
  |none=>
   show w∈W\/_↔_;refine or_congr my ⟨λ⟨t,l',h1,h2⟩=>⟨t,l',bt _ h1,h2⟩,λ⟨t,l',h1,h2⟩=>⟨t,l',?_,h2⟩⟩;rcases bb.mp h1 with z|z
   .cases z
   .exact z
  |some u=>
   show w∈(if l=[] then W else iR W (ns.idxOf u,l))\/_↔_;by_cases hl:l=[]
   .rw[if_pos hl];refine or_congr my ⟨λ⟨t,l',h1,h2⟩=>⟨t,l',bt _ h1,h2⟩,λ⟨t,l',h1,h2⟩=>⟨t,l',?_,h2⟩⟩;rcases bb.mp h1 with z|z
    .injection z with z1 z2
     exact absurd (z2.trans hl) h2.1
    .exact z
   .rw[if_neg hl,Y1,or_assoc];refine or_congr my ⟨λh=>?_,λ⟨t,l',h1,h2,h3⟩=>?_⟩
    .rcases h with h|⟨t,l',h1,h2⟩
     .exact⟨u,l,dg,hl,h⟩
     .exact⟨t,l',bt _ h1,h2⟩
    .rcases bb.mp h1 with z|z
     .injection z with z1 z2
      injection z1 with z1
      subst z1;subst z2;exact .inl h3
     .exact .inr ⟨t,l',z,h2,h3⟩
theorem ZT:∀(T:List NL) (W:List WN) (w:WN),w∈T.foldl (eT ns tn) W↔w∈W\/∃p∈T,p.1∈tn/\w=(ns.idxOf p.1,p.2)
 |[],W,w=>by simp
 |p::T,W,w=>by
  rw[gp,ZT T];unfold eT;by_cases h:p.1∈tn
  .rw[if_pos h,Y1,or_assoc];refine or_congr my ⟨λz=>?_,λ⟨q,h1,h2,h3⟩=>?_⟩
   .rcases z with z|⟨q,h1,h2⟩
    .exact⟨p,dg,h,z⟩
    .exact⟨q,bt _ h1,h2⟩
   .rcases bb.mp h1 with z|z
    .subst z;exact .inl h3
    .exact .inr ⟨q,z,h2,h3⟩
  .rw[if_neg h];refine or_congr my ⟨λ⟨q,h1,h2⟩=>⟨q,bt _ h1,h2⟩,λ⟨q,h1,h2,h3⟩=>⟨q,?_,h2,h3⟩⟩;rcases bb.mp h1 with z|z
   .subst z;exact absurd h2 h
   .exact z
def RJ(W:List WN)(p:TL)(h:W.Nodup):(iA ns W p).Nodup:=by
 unfold iA;split
 .split
  .exact h
  .exact L9 _ h
 .exact h
def TD(W:List WN)(p:TL):(iA ns W p).length<=W.length+1:=by
 unfold iA;split
 .split
  .exact rc _
  .exact Y2 _ _
 .exact rc _
def RK(W:List WN)(p:NL)(h:W.Nodup):(eT ns tn W p).Nodup:=by
 unfold eT;split
 .exact L9 _ h
 .exact h
def TF(W:List WN)(p:NL):(eT ns tn W p).length<=W.length+1:=by
 unfold eT;split
 .exact Y2 _ _
 .exact rc _
theorem Y4{α:Type}{f:List WN->α->List WN}(h:∀W p,W.Nodup->(f W p).Nodup):∀(T:List α) (W:List WN),W.Nodup->(T.foldl f W).Nodup
 |[],W,z=>z
 |p::T,W,z=>Y4 h T _<|h W p z
end
abbrev lf(s0 s1 s2 s3 s4 s5 s6 s7:Sl)(ns:List Int)(T:List TL)(W:List WN)(x y z:Sl):En:=[s0,s1,s2,s3,s4,s5,s6,s7,.v<|.lst<|ns.map D.int,.v<|.lst<|T.map eO,.t<|W.map j3,x,y,z,.un,.un]
def EK:MS:=(aU (bN (aP<|zJ mP (zE 11)<|mC .aE)<|aP<|zJ Co (zE 12)<|mC<|.str [])
 (WE 10<|zB (o9 (XV<|zE 8)<|zE 11)<|zB (zE 12) zV)
 xV)
def EL:MS:=(aU (BS false (qQ<|zB (zE 13)<|zB (mC<|.str []) zV)<|XV<|zE 9)
 (WE 10<|zB (o9 (XV<|zE 8)<|zE 13)<|zB (zE 12) zV)
 xV)
section
variable{s0 s1 s2 s3 s4 s5 s6 s7:Sl}{ns:List Int}{TT:List TL}
theorem Ls(hn:ns.length<=1000):∀(T:List TL) (W:List WN) (x y z:Sl),aO x->aO y->(∀t l,(aA t,l)∈T->t∈ns)->W.length+T.length<=900->∃x' y',aO x'/\aO y'/\bH (qA 2<|yH (yV 11)<|yH (yV 12) qL) EK (T.map eO) (lf s0 s1 s2 s3 s4 s5 s6 s7 ns TT W x y z)=aA (.nx<|lf s0 s1 s2 s3 s4 s5 s6 s7 ns TT (T.foldl (iA ns) W) x' y' z)
 |[],W,x,y,z,hx,hy,_,_=>⟨x,y,hx,hy,rfl⟩
 |p::T,W,x,y,z,hx,hy,hm,hl=>by
  rw[ak] at hl
  have:=TD (ns:=ns) W p
  obtain⟨x',y',lK,q_,ih⟩:=Ls hn T (iA ns W p) (.v<|a_ p.1) (.v<|.str p.2) z trivial trivial (λt l h=>hm t l<|bt _ h) (by omega);refine⟨x',y',lK,q_,?_⟩;rw[am,gp];refine(j8 (r1:=lf s0 s1 s2 s3 s4 s5 s6 s7 ns TT W (.v<|a_ p.1) (.v<|.str p.2) z) (AZ (r1:=lf s0 s1 s2 s3 s4 s5 s6 s7 ns TT W (.v<|a_ p.1) y z) (yD (x:=x) rfl hx)<|yD (x:=y) rfl hy) ?_).trans ih;obtain⟨tl,l⟩:=p;unfold EK;cases tl with
  |none=>exact(jE<|jF<|wZ<|zL (x:=D.aE) rfl zF rfl).trans rfl
  |some t=>
   have c1:aP (zJ mP (zE 11)<|mC .aE) (lf s0 s1 s2 s3 s4 s5 s6 s7 ns TT W (.v<|.int t) (.v<|.str l) z)=aA true:=wZ<|zL (x:=D.int t) rfl zF rfl;have c2:aP (zJ Co (zE 12)<|mC<|.str []) (lf s0 s1 s2 s3 s4 s5 s6 s7 ns TT W (.v<|.int t) (.v<|.str l) z)=aA (!decide (l=[])):=wZ<|zL (x:=D.str l) rfl zF rfl;show aU _ _ _ (lf s0 s1 s2 s3 s4 s5 s6 s7 ns TT W (.v<|.int t) (.v<|.str l) z)=aA (.nx<|lf s0 s1 s2 s3 s4 s5 s6 s7 ns TT (if l=[] then W else iR W (ns.idxOf t,l)) (.v<|.int t) (.v<|.str l) z);by_cases iV:l=[]
   .rw[if_pos iV];exact(jE<|jZ c1<|c2.trans (by rw[decide_eq_true iV];rfl)).trans rfl
   .rw[if_neg iV];exact(bM<|jZ c1<|c2.trans (by rw[decide_eq_false iV];rfl)).trans (Q9 (w:=(ns.idxOf t,l)) (QI (ZD rfl) rfl (hm t l dg) hn) rfl rfl<|by omega)
def KU(a:TL)(p:Int):ke (aW<|eO a) (aW<|.tup [.int p,.str []])=decide (a=(aA p,[])):=by
 obtain⟨tl,l⟩:=a;show PyData.eqvAll [aW<|a_ tl,.str ⟨l.toArray⟩] [.int p,.str ⟨([]:List Nat).toArray⟩]=_;cases tl with
 |none=>simp[PyData.eqvAll,ke,aW,a_]
 |some t=>
  show(ke (.int t) (.int p) && (ke (.str ⟨l.toArray⟩) (.str ⟨([]:List Nat).toArray⟩) && true))=_;rw[jp,aay,fu,decide_eq_true_eq];simp only[ke,beq_iff_eq];constructor
  .rintro ⟨h1,h2⟩;have h3:=congrArg (λs:Str=>s.cps.toList) h2;simp at h3;rw[h1,h3]
  .intro h
   injection h with h1 h2
   injection h1 with h1
   exact⟨h1,by rw[h2]⟩
def O_{T:List TL}(lay:(T.map eO).all i_=true){f:ME}{fl:ML}{r:En}{p:Int}(e1:f r=aA (.tup [.int p,.str []]))(e2:fl r=aA (T.map eO)):BS false f fl r=aA (decide ((aA p,[])∈T)):=by
 unfold BS;rw[e1,ae,e2,ae,if_pos ⟨(AM (tR p)<|uP (s:=[]) λc h=>by cases h).lay<|by decide,lay⟩];show aA ((T.map eO).any λd=>ke (aW d) _)=_;rw[aca]
 congr 1
 rw[jp,sn,decide_eq_true_eq];constructor
 .rintro ⟨a,ha,h⟩;have h':ke (aW<|eO a) (aW<|.tup [.int p,.str []])=true:=h;rw[KU,decide_eq_true_eq] at h';rw[<-h'];exact ha
 .exact λh=>⟨_,h,by show ke (aW<|eO (aA p,[])) (aW<|.tup [.int p,.str []])=true;rw[KU,decide_eq_true rfl]⟩
theorem Lu{tn:List Int}(hn:ns.length<=1000)(lay:(TT.map eO).all i_=true)(hT:∀t,(aA t,[])∈TT↔t∈tn)(hs:∀t∈tn,t∈ns):∀(L:List NL) (W:List WN) (x y z:Sl),aO y->aO z->W.length+L.length<=950->∃y' z',bH (qA 2<|yH (yV 13)<|yH (yV 12) qL) EL (L.map a6) (lf s0 s1 s2 s3 s4 s5 s6 s7 ns TT W x y z)=aA (.nx<|lf s0 s1 s2 s3 s4 s5 s6 s7 ns TT (L.foldl (eT ns tn) W) x y' z')
 |[],W,x,y,z,hy,hz,_=>⟨y,z,rfl⟩
 |p::L,W,x,y,z,hy,hz,hl=>by
  rw[ak] at hl
  have:=TF (ns:=ns) (tn:=tn) W p
  obtain⟨y',z',ih⟩:=Lu hn lay hT hs L (eT ns tn W p) x (.v<|.str p.2) (.v<|.int p.1) trivial trivial (by omega);refine⟨y',z',?_⟩;rw[am,gp]
  let R:En:=lf s0 s1 s2 s3 s4 s5 s6 s7 ns TT W x (.v<|.str p.2)<|.v<|.int p.1
  refine(j8 (r1:=R) (AZ (r1:=lf s0 s1 s2 s3 s4 s5 s6 s7 ns TT W x y<|.v<|.int p.1) (yD (x:=z) rfl hz)<|yD (x:=y) rfl hy) ?_).trans ih;have c:BS false (qQ<|zB (zE 13)<|zB (mC<|.str []) zV) (XV<|zE 9) R=aA (decide ((aA p.1,[])∈TT)):=O_ lay (xI (zD rfl<|zD zF zO) (by show 2<=100;decide))<|ZD rfl;unfold EL eT;by_cases h:p.1∈tn
  .rw[if_pos h];exact(bM<|c.trans<|by rw[decide_eq_true<|(hT p.1).mpr h]).trans (Q9 (w:=(ns.idxOf p.1,p.2)) (QI (ZD rfl) rfl (hs _ h) hn) rfl rfl<|by omega)
  .rw[if_neg h];exact(jE<|c.trans<|by rw[decide_eq_false λz=>h<|(hT p.1).mp z]).trans rfl
end
mutual
theorem nZ{S:Sp}:∀k:Kd,k.ok S->∀p∈k.aQ,p.2=[]\/S.A p.2
 |.num,_,p,h=>by cases h
 |.var n,_,p,h=>by cases h
 |.fn a b,ok,p,h=>(aq.mp h).elim (nZ a ok.1 p)<|nZ b ok.2 p
 |.rw o fs tl,ok,p,h=>by
  rcases aq.mp (show p∈fs.aQ tl++[(tl,[])] from h) with z|z
  .exact ZK tl fs ok.1 p z
  .rw[bf.mp z];exact .inl rfl
theorem ZK{S:Sp}(tl:Option Int):∀fs:Fs,fs.ok S->∀p∈fs.aQ tl,p.2=[]\/S.A p.2
 |.nil,_,p,h=>by cases h
 |.cons l k r,ok,p,h=>by
  rcases aq.mp (show p∈k.aQ++(tl,l)::r.aQ tl from h) with z|z
  .exact nZ k ok.2.1 p z
  .rcases bb.mp z with z|z
   .rw[z];exact .inr ok.1
   .exact ZK tl r ok.2.2 p z
end
def T_{b:Int}{M:Ws}{k:Kd}(ok:k.ok (fF b M))(low:∀l∈M,∀c∈l,97<=c/\c<=122):(k.aQ.map eO).all i_=true:=by
 rw[so];intro d hd;obtain⟨p,hp,rfl⟩:=cq.mp hd;refine(AM (Ks p.1)<|uP ?_).lay (m:=150) (by decide);rcases nZ k ok p hp with z|z
 .rw[z];intro c h;cases h
 .exact low _ z
def P9{b:Int}{M:Ws}{k:Kd}{L:List NL}(g:Gd b M k L)(pos:∀l∈M,l≠[])(w:WN):w∈L.foldl (eT (qC k)<|qH k) (k.aQ.foldl (iA<|qC k) [])↔w∈qB k L:=by
 rw[ZT,JE];unfold qB j4;rw[cq];constructor
 .rintro ((z|⟨t,l,h1,h2,h3⟩)|⟨p,h1,h2,h3⟩)
  .cases z
  .have hk:=(YN h2).mp h1;obtain⟨q,hq,hp⟩:=qc.mp hk;refine⟨(t,l),qu.mpr ⟨aq.mpr<|.inr hk,decide_eq_true<|B9.mpr ⟨q,hq,?_⟩⟩,h3.symm⟩;cases q with
   |rw o fs tl=>
    obtain⟨e,_⟩:=Cj.mp (show Pt t l (.rw o fs tl) from .inl hp);subst e;exact bf.mpr rfl
   |num=>cases hp
   |var n=>cases hp
   |fn a c=>cases hp
  .exact⟨p,qu.mpr ⟨aq.mpr<|.inl h1,decide_eq_true h2⟩,h3.symm⟩
 .rintro ⟨p,hp,rfl⟩;obtain⟨h1,h2⟩:=qu.mp hp;have h2:=of_decide_eq_true h2;rcases aq.mp h1 with z|z
  .exact .inr ⟨p,z,h2,rfl⟩
  .obtain⟨q,hq,hp⟩:=qc.mp z;have hl:=pos _<|Jq (oK k g.ok q hq) hp;exact .inl<|.inr ⟨p.1,p.2,(YN hl).mpr z,hl,rfl⟩
def Lq{i:Nat}{g:MS}{r:En}{l:List D}{z:Option Fl}(e:r[i]?=aA (.o l))(q:g (r.set i<|.v<|.lst l)=z):Bi i g r=z:=by unfold Bi;rw[e];exact q
def law_math(ns:List Int)(hl:ns.length<=63):∃as,XS [.v<|.lst<|ns.map .int]=aA (.v<|.bl true,as):=by
 let sc:D:=.lst<|ns.map D.int
 obtain⟨z0,_,m0⟩:=cZ (ns.getD 0 0) (k:=0) (by decide) (by decide);obtain⟨z1,_,m1⟩:=cZ (ns.getD 1 0) (k:=1) (by decide) (by decide);obtain⟨z2,_,m2⟩:=cZ (ns.getD 2 0) (k:=2) (by decide) (by decide);have c0:=XH ns 0;have c1:=XH ns 1;have c2:=XH ns 2;obtain⟨M,lb,hM⟩:=W4 z0
 let cs:List Int:=(ns.take 63).drop 3
 have F1:cs.length<=60:=by show((ns.take 63).drop 3).length<=60;rw[kr,cu];omega
 obtain⟨k0,VJ,Zw,è,hk⟩:=SM lb.len lb.nd cs F1;obtain⟨L0,Zc,V6,hL⟩:=Ut z2 lb.len;have gd:∀b:Int,Gd b M (k0.sh b) (fG b L0):=λb=>⟨k0.Bp b VJ,lb.len,by rw[k0.Bo];omega,λp hp=>by
  obtain⟨q,hq,rfl⟩:=cq.mp hp;exact V6 q hq,by unfold fG;rw[ah];exact Zc⟩
 have hX:∀b:Int,res (k0.sh b) (fG b L0)=res k0 L0:=λb=>Sf b k0 L0
 let DM:D:=.lst<|dw M
 let R1:En:=[.v sc,.v DM,.un,.un,.un,.un,.un,.un,.un,.un,.un,.un,.un,.un,.un,.un]
 let R2:En:=[.v sc,.v DM,.v<|.int z1,.un,.un,.un,.un,.un,.un,.un,.un,.un,.un,.un,.un,.un]
 have q2:=Jt z1;obtain⟨b,eb⟩:∃b:Int,zJ aD (qD<|xX<|zB (mC<|.int 0)<|zB (zJ w6 (zJ xJ (zE 2)<|mC<|.int 2)<|zJ sM (mC<|.int 10)<|mC<|.int 15) zV) (zJ w6 (zE 2)<|mC<|.int 2) R2=aA (.int b):=by
  have el:qD (xX<|zB (mC<|.int 0)<|zB (zJ w6 (zJ xJ (zE 2)<|mC<|.int 2)<|zJ sM (mC<|.int 10)<|mC<|.int 15) zV) R2=aA (.lst [.int 0,.int<|z1 / 2 % 1000000000000000]):=qS (zD zF<|zD (wH (wJ rfl zF<|by decide) (by rfl)<|by decide) zO) (by show 2<=100;decide);have ei:zJ w6 (zE 2) (mC<|.int 2) R2=aA (.int<|z1 % 2):=wH rfl zF (by decide);rcases(by omega:z1 % 2=0\/z1 % 2=1) with h|h
  .exact⟨_,zL el (y:=.int ((0:Nat):Int)) (ei.trans (by rw[h];rfl))<|yB (j:=0) rfl⟩
  .exact⟨_,zL el (y:=.int ((1:Nat):Int)) (ei.trans (by rw[h];rfl))<|yB (j:=1) rfl⟩
 let R3:En:=[.v sc,.v DM,.v<|.int z1,.v<|.int b,.un,.un,.un,.un,.un,.un,.un,.un,.un,.un,.un,.un]
 obtain⟨dc,⟨c',rfl⟩,Zk⟩:∃d,(∃i:Int,d=.int i)/\zJ aD (qD<|xX<|zB (mC<|.int 1)<|zB (mC<|.int 9)<|zB (zJ sM (mC<|.int 10)<|mC<|.int 20) zV) (zJ w6 (zJ xJ (zE 2)<|mC<|.int 7)<|mC<|.int 3) R3=aA d:=Tc (P:=λd=>∃i:Int,d=.int i) (a:=.int 1) (b:=.int 9) (c:=.int 100000000000000000000) zF zF (by rfl) (wJ rfl zF<|by decide) ⟨_,rfl⟩ ⟨_,rfl⟩ ⟨_,rfl⟩
 let c:Int:=c'+b
 have ec:zJ qO (zJ aD (qD<|xX<|zB (mC<|.int 1)<|zB (mC<|.int 9)<|zB (zJ sM (mC<|.int 10)<|mC<|.int 20) zV)<|zJ w6 (zJ xJ (zE 2)<|mC<|.int 7)<|mC<|.int 3) (zE 3) R3=aA (.int c):=j0 Zk rfl
 let R4:En:=[.v sc,.v DM,.v<|.int z1,.v<|.int b,.v<|.int c,.un,.un,.un,.un,.un,.un,.un,.un,.un,.un,.un]
 have MI:∀r:En,r[0]?=aA (.v sc)->fB (zE 0) (w4<|mC<|.int 3) (w4<|mC<|.int 63) r=aA (.lst<|cs.map D.int):=λr hr=>by
  refine GU (a:=aA ((3:Nat):Int)) (b:=aA ((63:Nat):Int)) (x:=sc) (rS hr) (j6 zF) (j6 zF) ?_;show aA (D.lst<|XW (ns.map D.int) (aA ((3:Nat):Int))<|some ((63:Nat):Int))=_;rw[LL];show _=aA (D.lst<|List.map D.int<|(ns.take 63).drop 3);rw[List.map_drop,xk]
 let k:Kd:=k0.sh b
 let L:List NL:=fG b L0
 have g:Gd b M k L:=gd b;have dk:k.dp<=61:=by show(k0.sh b).dp<=61;rw[k0.Bq];exact Zw
 let R5:En:=[.v sc,.v DM,.v<|.int z1,.v<|.int b,.v<|.int c,.v k.ds,.un,.un,.un,.un,.un,.un,.un,.un,.un,.un]
 let R6:En:=[.v sc,.v DM,.v<|.int z1,.v<|.int b,.v<|.int c,.v k.ds,.v<|.int z2,.un,.un,.un,.un,.un,.un,.un,.un,.un]
 let dL:D:=.lst<|L.map a6
 let R7:En:=[.v sc,.v DM,.v<|.int z1,.v<|.int b,.v<|.int c,.v k.ds,.v<|.int z2,.v dL,.un,.un,.un,.un,.un,.un,.un,.un]
 let R9:En:=[.v sc,.v DM,.v<|.int z1,.v<|.int b,.v<|.int c,.v k.ds,.v<|.int z2,.v dL,.o [],.o [],.un,.un,.un,.un,.un,.un]
 let NS:List Int:=qC k
 let TN:List Int:=qH k
 let T:List TL:=k.aQ
 let RA:En:=[.v sc,.v DM,.v<|.int z1,.v<|.int b,.v<|.int c,.v k.ds,.v<|.int z2,.v dL,.o<|NS.map D.int,.o<|T.map eO,.un,.un,.un,.un,.un,.un]
 let f0:List WN->Sl->Sl->Sl->En:=λW x y z=>lf (.v sc) (.v DM) (.v<|.int z1) (.v<|.int b) (.v<|.int c) (.v k.ds) (.v<|.int z2) (.v dL) NS T W x y z
 have nl:NS.length<=200:=g.nl;have æ:T.length<=400:=by
  have:=k.Bl
  have:=g.sz
  show k.aQ.length<=400;omega
 have í:=YC k;have sz:=g.sz;have BI:uO 3 (xN vS) 8 9 (zB (zE 5) zV) R9=aA (.aE,RA):=by
  obtain⟨as,a1,a2,a3⟩:=oY k 70 (by omega) [] [] (by simp only[bq];omega) (by simp only[bq];show 0+T.length<=900;omega);rw[ja] at a2;exact XJ (l1:=[]) (l2:=[]) (l1':=NS.map D.int) (l2':=T.map eO) (r1:=[.v sc,.v DM,.v<|.int z1,.v<|.int b,.v<|.int c,.v k.ds,.v<|.int z2,.v dL,.o<|NS.map D.int,.o [],.un,.un,.un,.un,.un,.un]) rfl rfl (zD rfl zO) (by decide) a3 a1 a2 rfl rfl
 obtain⟨x,y,hx,hy,V2⟩:=Ls (s0:=.v sc) (s1:=.v DM) (s2:=.v<|.int z1) (s3:=.v<|.int b) (s4:=.v<|.int c) (s5:=.v k.ds) (s6:=.v<|.int z2) (s7:=.v dL) (ns:=NS) (TT:=T) (by omega) T [] .un .un .un trivial trivial (λt l h=>by
  obtain⟨q,hq,hp⟩:=(bZ t l k).mp h;refine g.sub t<|B9.mpr ⟨q,hq,?_⟩;rcases hp with hp|hp
  .cases q with
   |rw o fs tl=>
    obtain⟨e,_⟩:=Cj.mp (show Pt t l (.rw o fs tl) from .inl hp);subst e;exact bf.mpr rfl
   |num=>cases hp
   |var n=>cases hp
   |fn a d=>cases hp
  .exact hp.2) (by simp only[bq];omega)
 let W1:List WN:=T.foldl (iA NS) []
 have Mu:W1.Nodup:=Y4 RJ T [] rq
 let W2:List WN:=L.foldl (eT NS TN) W1
 have U':W2.Nodup:=Y4 RK L W1 Mu;have HW:∀w,w∈W2↔w∈qB k L:=P9 g lb.pos;have ą:W2.length<=24:=uX g.m6 (ns:=NS) g.tr U' λw hw=>g.want w<|(HW w).mp hw
 have Ć:W1.length<=24:=uX g.m6 (ns:=NS) g.tr Mu λw hw=>g.want w<|(HW w).mp<|(ZT L W1 w).mpr<|.inl hw
 obtain⟨y2,Mt,V1⟩:=Lu (s0:=.v sc) (s1:=.v DM) (s2:=.v<|.int z1) (s3:=.v<|.int b) (s4:=.v<|.int c) (s5:=.v k.ds) (s6:=.v<|.int z2) (s7:=.v dL) (ns:=NS) (TT:=T) (tn:=TN) (by omega) (T_ g.ok lb.low) (λt=>US) g.sub L W1 x y .un hy trivial (by have:=g.f8;omega);have fx:k9 (qA 2<|yH (yV 11)<|yH (yV 12) qL) (aR<|zE 9) EK (f0 [] .un .un .un)=aA (.nx<|f0 W1 x y .un):=by
  unfold k9;rw[rP (l:=T.map eO) rfl,ae];exact V2
 have fy:k9 (qA 2<|yH (yV 13)<|yH (yV 12) qL) (aR<|zE 7) EL (f0 W1 x y .un)=aA (.nx<|f0 W2 x y2 Mt):=by
  unfold k9;rw[rP (l:=L.map a6) rfl,ae];exact V1
 unfold EK at fx;unfold EL at fy
 let X:D:=res k L
 have sx:rN W2=rN (qB k L):=Fa _ _ (v8 _) (v8 _) λw=>by rw[qY,qY,HW]
 let hd:Sl->Sl->En:=λu v=>[.v sc,.v DM,.v<|.int z1,.v<|.int b,.v<|.int c,.v k.ds,.v<|.int z2,.v dL,.v<|.lst<|NS.map D.int,.v<|.lst<|T.map eO,.t<|W2.map j3,x,y2,Mt,u,v]
 have Zs:qQ (zB (yE 2 (xP vT)<|zB (zE 5)<|zB (zE 8) zV)<|zB (qD<|C2 10) zV) (hd (.v dL) .un)=aA X:=by
  have a:=rM (ns:=NS) (by omega) k 70 (by omega) (k.sP g.ok) λn h=>(bE _ _ _).mpr<|.inr h
  have s:qD (C2 10) (hd (.v dL) .un)=aA (.lst<|(rN<|qB k L).map eV):=by
   refine uM ?_;show(Bd<|W2.map j3).bind _=_;rw[Jv,ae,if_pos<|by omega,sx]
  exact xI (zD (yK (p:=.v (k.rn NS).ds) (zD rfl<|zD rfl zO) rfl a)<|zD s zO) (by show 2<=100;decide)
 have lay:=TY g lb.low dk;have Ze:(rN<|qB k L).length<=1000:=by
  have:=uX g.m6 (ns:=NS) g.tr (JG<|qB k L) λw hw=>g.want w<|(qY _ _).mp hw
  omega
 have same:∃as,wM [.v X,.v X]=aA (.v<|.bl true,as):=Ts Ze lay;have nm:yE 2 wM (zB (yE 2 cH<|zB (zE 5)<|zB (zE 14) zV)<|zB (zE 15) zV) (hd (.v dL)<|.v X)=aA (.bl true):=yK (p:=.v<|.bl true) (zD (yK (p:=.v X) (zD rfl<|zD rfl zO) rfl<|YJ g)<|zD rfl zO) rfl same;have V5:iJ 400 dL=true:=(La (n:=1) λd hd=>by
  obtain⟨p,hp,rfl⟩:=cq.mp hd;exact AM (tR _)<|uP<|lb.low _<|g.lb p hp).lay (by decide)
 have fin:yE 2 wM (zB (yE 2 cH<|zB (yE 3 wP<|zB (fB (zE 0) (w4<|mC<|.int 3)<|w4<|mC<|.int 63)<|zB (zE 1)<|zB (zE 4) zV)<|zB (yE 3 wO<|zB (zE 6)<|zB (zE 1)<|zB (zE 4) zV) zV)<|zB (zE 15) zV) (hd (.v dL)<|.v X)=aA (.bl true):=by
  have e1:yE 3 wP (zB (fB (zE 0) (w4<|mC<|.int 3)<|w4<|mC<|.int 63)<|zB (zE 1)<|zB (zE 4) zV) (hd (.v dL)<|.v X)=aA (aG c k0):=yK (p:=.v<|aG c k0) (zD (MI _ rfl)<|zD rfl<|zD rfl zO) rfl<|hk c;have e2:yE 3 wO (zB (zE 6)<|zB (zE 1)<|zB (zE 4) zV) (hd (.v dL)<|.v X)=aA (.lst<|(fG c L0).map a6):=yK (p:=.v<|.lst<|(fG c L0).map a6) (zD rfl<|zD rfl<|zD rfl zO) rfl<|hL c;have e3:=YJ<|gd c;have eX:D.tup [((k0.sh c).rn<|qC<|k0.sh c).ds,.lst<|(rN<|qB (k0.sh c)<|fG c L0).map eV]=X:=(hX c).trans (hX b).symm;rw[eX] at e3;exact yK (p:=.v<|.bl true) (zD (yK (p:=.v X) (zD e1<|zD e2 zO) rfl e3)<|zD rfl zO) rfl same
 refine jI (n:=1) (N:=16) (r':=hd (.v dL)<|.v X) ?_;show CZ [.v sc,.un,.un,.un,.un,.un,.un,.un,.un,.un,.un,.un,.un,.un,.un,.un]=_;unfold CZ;refine yR (r2:=R1) DM (uM<|d5 (zD (yK (p:=.v<|.int z0) (zD (yK (p:=.v<|.int<|ns.getD 0 0) (zD rfl<|zD zF zO) rfl c0)<|zD zF zO) rfl m0) zO) rfl hM) rfl ?_;refine yR (r2:=R2) (.int z1) (yK (p:=.v<|.int z1) (zD (yK (p:=.v<|.int<|ns.getD 1 0) (zD rfl<|zD zF zO) rfl c1)<|zD zF zO) rfl m1) rfl ?_;refine yR (r2:=R3) (.int b) eb rfl<|yR (r2:=R4) (.int c) ec rfl ?_;refine yR (r2:=R5) k.ds (yK (p:=.v<|aG b k0) (zD (MI _ rfl)<|zD rfl<|zD rfl zO) rfl<|hk b) rfl ?_;refine yR (r2:=R6) (.int z2) (yK (p:=.v<|.int z2) (zD (yK (p:=.v<|.int<|ns.getD 2 0) (zD rfl<|zD zF zO) rfl c2)<|zD zF zO) rfl m2) rfl ?_;refine yR (r2:=R7) dL (yK (p:=.v dL) (zD rfl<|zD rfl<|zD rfl zO) rfl<|hL b) rfl ?_;refine(yF (r':=[.v sc,.v DM,.v<|.int z1,.v<|.int b,.v<|.int c,.v k.ds,.v<|.int z2,.v dL,.o [],.un,.un,.un,.un,.un,.un,.un])<|by rfl).trans ((yF (r':=R9)<|by rfl).trans<|(yF<|kF BI).trans ?_);refine Lq (l:=T.map eO) rfl<|Lq (l:=NS.map D.int) rfl ?_;show yO (GS 10) _ [.v sc,.v DM,.v<|.int z1,.v<|.int b,.v<|.int c,.v k.ds,.v<|.int z2,.v dL,.v<|.lst<|NS.map D.int,.v<|.lst<|T.map eO,.un,.un,.un,.un,.un,.un]=_;refine(yF (r':=f0 [] .un .un .un)<|by rfl).trans ((yF fx).trans<|(yF fy).trans ?_);refine yR (r2:=hd (.v dL) .un) dL (uM<|rP (l:=L.map a6) rfl) rfl<|yR (r2:=hd (.v dL)<|.v X) X Zs rfl ?_;refine yY (hZ (GB (b:=true) nm)<|wZ<|zL (x:=dL) (y:=dL) rfl rfl (Y7 V5).2) ?_;exact yS fin
def j_{α:Type}{l:List α}(h:l.length=1):∃a0,l=[a0]:=List.length_eq_one_iff.mp h
def lV{α:Type}{l:List α}(h:l.length=2):∃a0 a1,l=[a0,a1]:=by
 cases l with
 |nil=>cases h
 |cons a0 l=>obtain⟨a1,rfl⟩:=j_<|vm h;exact⟨a0,a1,rfl⟩
def A9{α:Type}{l:List α}(h:l.length=3):∃a0 a1 a2,l=[a0,a1,a2]:=by
 cases l with
 |nil=>cases h
 |cons a0 l=>obtain⟨a1,a2,rfl⟩:=lV<|vm h;exact⟨a0,a1,a2,rfl⟩
def Oy{α:Type}{l:List α}(h:l.length=4):∃a0 a1 a2 a3,l=[a0,a1,a2,a3]:=by
 cases l with
 |nil=>cases h
 |cons a0 l=>obtain⟨a1,a2,a3,rfl⟩:=A9<|vm h;exact⟨a0,a1,a2,a3,rfl⟩
def cI(K:Fg)(n:Str)(st:Stmt):Prop:=∃(f:Addr) (od an:Option Addr) (sl:Array (Option Value)) (oc kV dc pm cd ct:Value),io K dh n=aA (aA<|.ref f)/\K.lookup f=aA ⟨oc,od,.func<|ph n n (cD st) (vQ st) (zZ st) .none kV dc pm an cd ct,sl⟩/\ui K cd n=true/\jv K (.ref f)=true
def dfo{K:Fg}{n:Str}{st:Stmt}{f:Addr}{od an:Option Addr}{sl:Array (Option Value)}{oc kV dc pm cd ct:Value}(a:io K dh n=aA (aA<|.ref f))(l:K.lookup f=aA ⟨oc,od,.func<|ph n n (cD st) (vQ st) (zZ st) .none kV dc pm an cd ct,sl⟩)(c:ui K cd n=true)(k:jv K (.ref f)=true):cI K n st:=⟨f,od,an,sl,oc,kV,dc,pm,cd,ct,a,l,c,k⟩
def eU{K:Fg}{h:Heap}{mg:Str->Option Value}{n:Str}{i:Nat}{ps:List Str}(X:K.In h)(G:h.Ns dh mg)(D:cI K n (top i))(hb:∀{f:Addr} {d:FuncData},BQ K n n (top i) f d->Binds K d ps []):Nonempty (De K mg n i ps):=by
 obtain⟨f,_,_,_,_,_,_,_,_,_,a,l,c,k⟩:=D;have F:=K2 (st:=top i) l c k;exact⟨⟨f,_,F,aap X G a,hb F⟩⟩
def Ql{K:Fg}(hm:∀ns:List Int,ns.length<=63->∃as,XS [.v<|.lst<|ns.map .int]=aA (.v<|.bl true,as))(H:Hp)(a:Addr)(ns:List Int)(hl:ns.length<=63)(hS:aN K H a (ns.map V.int)):fQ K 1 XS [.ref a] H (λv _=>v=.bl true) (λ_ _ _=>False):=by
 have il:∀l:List Int,IsL K (λ_=>False) H (l.map D.int) (l.map V.int):=λl=>by
  induction l with
  |nil=>exact IsL.nil
  |cons x l ih=>exact .cons (by rw[zM]) ih
 obtain⟨as,e⟩:=hm ns hl;refine⟨λ_=>False,[.v<|.lst<|ns.map .int],_,as,rfl,KE (ds:=[.lst<|ns.map .int]) VU<|.cons (by rw[zY];exact⟨a,_,rfl,hS.imp (λz=>⟨id,z⟩) id,il ns⟩) .nil,λi l=>?_,e,λv H' _ iv=>by rw[yG] at iv;exact iv⟩;cases i with
 |zero=>exact⟨(λz=>by cases z),(λz=>by cases z),(λ_ z=>by cases z),(λ_ z=>by cases z)⟩
 |succ i=>exact⟨(λz=>by cases z),(λz=>by cases z),(λ_ z=>by cases z),(λ_ z=>by cases z)⟩
def all_mk{l:PySem.W.OpenLaw}{w:World}{K:Fg}{h:Heap}{mg:Str->Option Value}{fa:Addr}(X:K.In h)(G:h.Ns dh mg)(Yb:mg "law" = aA (.ref fa))(D0:cI K "has_row" (top 1))(D1:cI K "straight_in" (top 2))(D2:cI K "within" (top 3))(D3:cI K "own_numbers" (top 5))(D4:cI K "numbers" (top 4))(D5:cI K "label_of" (top 11))(D6:cI K "joined" (top 10))(D7:cI K "rebuilt_row" (top 9))(D8:cI K "rebuilt" (top 8))(D9:cI K "built" (top 7))(ß:cI K "filled" (top 6))(Þ:cI K "lacks_within" (top 12))(Ý:cI K "tails_within" (top 15))(Ü:cI K "renaming" (top 16))(Û:cI K "named" (top 14))(Ú:cI K "_law_whole" (top 18))(Ù:cI K "_law_cell_at" (top 19))(Ø:cI K "_law_mixed" (top 20))(Ö:cI K "_law_labels" (top 21))(Õ:cI K "_law_leaf" (top 22))(Ô:cI K "_law_fields" (top 23))(Ó:cI K "_law_stepped" (top 24))(Ò:cI K "_law_kind" (top 25))(Ñ:cI K "_law_noted" (top 26))(Ð:cI K "_law_again" (top 27))(Ï:cI K "_law_lacks" (top 28))(Î:cI K "_law_same" (top 29))(Í:cI K "law" (top 30))(HH:io K dh "all" = aA aB)(HJ:io K dh "bool" = aA aB)(HI:io K dh "dict" = aA aB)(Fv:io K dh "enumerate" = aA aB)(Fo:io K dh "int" = aA aB)(AH:io K dh "isinstance" = aA aB)(l7:io K dh "len" = aA aB)(AC:io K dh "list" = aA aB)(HG:io K dh "min" = aA aB)(Ce:io K dh "range" = aA aB)(HF:io K dh "set" = aA aB)(Cg:io K dh "sorted" = aA aB)(Bt:io K dh "tuple" = aA aB)(HE:io K dh "zip" = aA aB):∃fd:FuncData,(∀(s:Shared) (v:Value),BindsTo s fd ⟨[v],[]⟩ [("_law_script",v)])/\∀base:Heap,K.In base->base.Ns dh mg->fP l.prog w K mg base h_ 91 fa fd ["_law_script"] (fQ K 1 XS):=by
 obtain⟨ć,_,_,_,_,_,_,_,_,_,Oe,V',Â,We⟩:=Í;have e:=Yb.symm.trans<|aap X G Oe;cases e;have Oo:=K2 (st:=top 30) V' Â We;have Ä:=Oo.binds (ps:=["_law_script"]) λ_ _ _ _ _ _ us hl=>by obtain⟨_,rfl⟩:=j_ hl;rfl
 exact⟨_,λs v=>.of_eq rfl,λbase _ _=>Qw ⟨Classical.choice (eU (ps:=["kind"]) X G D0 λF=>F.binds (ps:=["kind"]) λ_ _ _ _ _ _ us hl=>by obtain⟨_,rfl⟩:=j_ hl;rfl),
  Classical.choice (eU (ps:=["kind"]) X G D1 λF=>F.binds (ps:=["kind"]) λ_ _ _ _ _ _ us hl=>by obtain⟨_,rfl⟩:=j_ hl;rfl),
  Classical.choice (eU (ps:=["K"]) X G D2 λF=>F.binds (ps:=["K"]) λ_ _ _ _ _ _ us hl=>by obtain⟨_,rfl⟩:=j_ hl;rfl),
  Classical.choice (eU (ps:=["kind"]) X G D3 λF=>F.binds (ps:=["kind"]) λ_ _ _ _ _ _ us hl=>by obtain⟨_,rfl⟩:=j_ hl;rfl),
  Classical.choice (eU (ps:=["K"]) X G D4 λF=>F.binds (ps:=["K"]) λ_ _ _ _ _ _ us hl=>by obtain⟨_,rfl⟩:=j_ hl;rfl),
  Classical.choice (eU (ps:=["field"]) X G D5 λF=>F.binds (ps:=["field"]) λ_ _ _ _ _ _ us hl=>by obtain⟨_,rfl⟩:=j_ hl;rfl),
  Classical.choice (eU (ps:=["fields", "row"]) X G D6 λF=>F.binds (ps:=["fields", "row"]) λ_ _ _ _ _ _ us hl=>by obtain⟨_,_,rfl⟩:=lV hl;rfl),
  Classical.choice (eU (ps:=["row", "inner", "filling"]) X G D7 λF=>F.binds (ps:=["row", "inner", "filling"]) λ_ _ _ _ _ _ us hl=>by obtain⟨_,_,_,rfl⟩:=A9 hl;rfl),
  Classical.choice (eU (ps:=["kind", "inner", "filling"]) X G D8 λF=>F.binds (ps:=["kind", "inner", "filling"]) λ_ _ _ _ _ _ us hl=>by obtain⟨_,_,_,rfl⟩:=A9 hl;rfl),
  Classical.choice (eU (ps:=["found", "filling"]) X G D9 λF=>F.binds (ps:=["found", "filling"]) λ_ _ _ _ _ _ us hl=>by obtain⟨_,_,rfl⟩:=lV hl;rfl),
  Classical.choice (eU (ps:=["K", "filling"]) X G ß λF=>F.binds (ps:=["K", "filling"]) λ_ _ _ _ _ _ us hl=>by obtain⟨_,_,rfl⟩:=lV hl;rfl),
  Classical.choice (eU (ps:=["K"]) X G Þ λF=>F.binds (ps:=["K"]) λ_ _ _ _ _ _ us hl=>by obtain⟨_,rfl⟩:=j_ hl;rfl),
  Classical.choice (eU (ps:=["K"]) X G Ý λF=>F.binds (ps:=["K"]) λ_ _ _ _ _ _ us hl=>by obtain⟨_,rfl⟩:=j_ hl;rfl),
  Classical.choice (eU (ps:=["names", "tails"]) X G Ü λF=>F.binds (ps:=["names", "tails"]) λ_ _ _ _ _ _ us hl=>by obtain⟨_,_,rfl⟩:=lV hl;rfl),
  Classical.choice (eU (ps:=["K", "lacks"]) X G Û λF=>F.binds (ps:=["K", "lacks"]) λ_ _ _ _ _ _ us hl=>by obtain⟨_,_,rfl⟩:=lV hl;rfl),
  Classical.choice (eU (ps:=["_law_found"]) X G Ú λF=>F.binds (ps:=["_law_found"]) λ_ _ _ _ _ _ us hl=>by obtain⟨_,rfl⟩:=j_ hl;rfl),
  Classical.choice (eU (ps:=["_law_script", "_law_k"]) X G Ù λF=>F.binds (ps:=["_law_script", "_law_k"]) λ_ _ _ _ _ _ us hl=>by obtain⟨_,_,rfl⟩:=lV hl;rfl),
  Classical.choice (eU (ps:=["_law_cell", "_law_k"]) X G Ø λF=>F.binds (ps:=["_law_cell", "_law_k"]) λ_ _ _ _ _ _ us hl=>by obtain⟨_,_,rfl⟩:=lV hl;rfl),
  Classical.choice (eU (ps:=["_law_number"]) X G Ö λF=>F.binds (ps:=["_law_number"]) λ_ _ _ _ _ _ us hl=>by obtain⟨_,rfl⟩:=j_ hl;rfl),
  Classical.choice (eU (ps:=["_law_number", "_law_base"]) X G Õ λF=>F.binds (ps:=["_law_number", "_law_base"]) λ_ _ _ _ _ _ us hl=>by obtain⟨_,_,rfl⟩:=lV hl;rfl),
  Classical.choice (eU (ps:=["_law_pile", "_law_number", "_law_labels_here"]) X G Ô λF=>F.binds (ps:=["_law_pile", "_law_number", "_law_labels_here"]) λ_ _ _ _ _ _ us hl=>by obtain⟨_,_,_,rfl⟩:=A9 hl;rfl),
  Classical.choice (eU (ps:=["_law_pile", "_law_number", "_law_labels_here", "_law_base"]) X G Ó λF=>F.binds (ps:=["_law_pile", "_law_number", "_law_labels_here", "_law_base"]) λ_ _ _ _ _ _ us hl=>by obtain⟨_,_,_,_,rfl⟩:=Oy hl;rfl),
  Classical.choice (eU (ps:=["_law_cells", "_law_labels_here", "_law_base"]) X G Ò λF=>F.binds (ps:=["_law_cells", "_law_labels_here", "_law_base"]) λ_ _ _ _ _ _ us hl=>by obtain⟨_,_,_,rfl⟩:=A9 hl;rfl),
  Classical.choice (eU (ps:=["_law_told", "_law_order", "_law_tails"]) X G Ñ λF=>F.binds (ps:=["_law_told", "_law_order", "_law_tails"]) λ_ _ _ _ _ _ us hl=>by obtain⟨_,_,_,rfl⟩:=A9 hl;rfl),
  Classical.choice (eU (ps:=["_law_told", "_law_order"]) X G Ð λF=>F.binds (ps:=["_law_told", "_law_order"]) λ_ _ _ _ _ _ us hl=>by obtain⟨_,_,rfl⟩:=lV hl;rfl),
  Classical.choice (eU (ps:=["_law_number", "_law_labels_here", "_law_base"]) X G Ï λF=>F.binds (ps:=["_law_number", "_law_labels_here", "_law_base"]) λ_ _ _ _ _ _ us hl=>by obtain⟨_,_,_,rfl⟩:=A9 hl;rfl),
  Classical.choice (eU (ps:=["_law_found", "_law_due"]) X G Î λF=>F.binds (ps:=["_law_found", "_law_due"]) λ_ _ _ _ _ _ us hl=>by obtain⟨_,_,rfl⟩:=lV hl;rfl),
  ⟨_,_,Oo,aap X G Oe,Ä⟩,gh X G HH,gh X G HJ,gh X G HI,gh X G Fv,gh X G Fo,gh X G AH,gh X G l7,gh X G AC,gh X G HG,gh X G Ce,gh X G HF,gh X G Cg,gh X G Bt,gh X G HE⟩⟩
def walk{l:PySem.W.OpenLaw}{q:Program}{loose:List Str}{XP:(Str->Option Value)->Heap->Prop}{YP:World->Heap->Prop}{d:DefRec}{K:Params->Fg}(hm:∀ns:List Int,ns.length<=63->∃as,XS [.v<|.lst<|ns.map .int]=aA (.v<|.bl true,as))(hn:l.most=aA 63)(BD:d.params.defaults=[])(hY:∀(w:World) (h:Heap),YP w h->(K w.params).In h)(F:∀(w:World) (mg:Str->Option Value) (fa:Addr) (h:Heap),(K w.params).In h->h.Ns dh mg->mg d.name=aA (.ref fa) ->
   ∃fd:FuncData,(∀(s:Shared) (u:Value),BindsTo s fd ⟨[u],[]⟩ [("_law_script",u)])/\∀base:Heap,(K w.params).In base->base.Ns dh mg->fP l.prog w (K w.params) mg base h_ 91 fa fd ["_law_script"] (fQ (K w.params) 1 XS)):aaq q loose XP YP l.row.toRowW d [] (λf vs=>zw f vs):=
 L2.U_ (n:=63) (k:=91) (x:="_law_script") (CX:=h_) (sp:=λK=>fQ K 1 XS) hn (by decide) BD ⟨rfl,by decide,by decide,rfl⟩ hY F (λK H a ns hl _ hS=>Ql hm H a ns hl hS) λ_ _ _ _ z=>z
end K14
end
/-! twins that no proof needs: where a constant of such a name stands, the head lays none -/
namespace PySem.W.Fast
def tw16448247321018048984:=0
def tw3944158278163827551:=0
def tw4255390834829871741:=0
noncomputable def tw8115654423839681958 : PySem.Program := PySem.Challenge.pw_fieldrows_k14_named
theorem te8115654423839681958 : PySem.Challenge.pw_fieldrows_k14_named = tw8115654423839681958 := rfl
def tw16708260075574960481:=0
def tw16235119079298604232:=0
def tw16275156255536177207:=0
def tw15398948527939115713:=0
def tw6085217346755959553:=0
def tw668195524101285463:=0
def tw207381689007260110:=0
def tw9176091266692120668:=0
def tw11058228736559739659:=0
def tw13681369362603893611:=0
def tw17842281117245240051:=0
def tw14954075385061613448:=0
def tw8187035366110376207:=0
def tw5720533997292279352:=0
def tw2644235343282804886:=0
def tw6055518390010572438:=0
def tw12351712294513013:=0
def tw253272441950773839:=0
def tw16209614249992634094:=0
def tw9495187653602347832:=0
def tw12928113304800504412:=0
def tw15105418021488537680:=0
def tw6429704230242642403:=0
def tw11620170449044233115:=0
def tw18007079285783950209:=0
def tw13906766329385001351:=0
def tw18080633684353737108:=0
def tw12540811756339391125:=0
def tw8966267960440607601:=0
def tw14746594248679373083:=0
def tw2587303487216796236:=0
def tw15455074731917107426:=0
def tw7571603542629146090:=0
def tw9451617220855534612:=0
def tw18343699392938805901:=0
def tw7379790187166183525:=0
def tw6938655949807831643:=0
def tw10509655127557481603:=0
def tw3867762515499045983:=0
def tw7576479980870783844:=0
def tw16934403393838180469:=0
def tw7953376454215030888:=0
def tw8709120979234996065:=0
def tw14775726999439108668:=0
def tw7247816513164599582:=0
def tw10228422755604630187:=0
def tw7766168870677127116:=0
def tw11343580405306751263:=0
def tw6233589049274457192:=0
def tw6631773513483173863:=0
def tw16183759246924304506:=0
def tw4798244264502598845:=0
def tw1965252586693413920:=0
def tw12863313283301986581:=0
def tw58060027182100394:=0
def tw6183474630006717444:=0
def tw10456512006123742601:=0
def tw2416475590268835479:=0
def tw4619798648583022681:=0
def tw9294182640186399117:=0
def tw4212024429567173542:=0
def tw5019643828178588883:=0
def tw17306817831796495661:=0
end PySem.W.Fast
open PyProof.Rows PySem PySem.W
set_option maxRecDepth 100000 in
set_option maxHeartbeats 0 in
theorem PySem.Challenge.cw_fieldrows_k14_named_holds : PySem.Challenge.rw_fieldrows_k14_named.Holds := by
  w_on; o_law; k_head; (case hw => w_witness2)
  k_fill
  refine K14.walk (l := PySem.Challenge.rw_fieldrows_k14_named) K14.law_math rfl rfl (fun w h Y => PySem.W.kIn_of Y) ?F
  case F =>
    intro w mg fa h KX G hmg
    refine' K14.all_mk KX G hmg (K14.dfo ?q0a ?q0b ?q0c ?q0d) (K14.dfo ?q0e ?q0f ?q0g ?q0h) (K14.dfo ?q0i ?q0j ?q0k ?q0l) (K14.dfo ?q0m ?q0n ?q0o ?q0p) (K14.dfo ?q0q ?q0r ?q0s ?q0t) (K14.dfo ?q0u ?q0v ?q0w ?q0x) (K14.dfo ?q0y ?q0z ?q1a ?q1b) (K14.dfo ?q1c ?q1d ?q1e ?q1f) (K14.dfo ?q1g ?q1h ?q1i ?q1j) (K14.dfo ?q1k ?q1l ?q1m ?q1n) (K14.dfo ?q1o ?q1p ?q1q ?q1r) (K14.dfo ?q1s ?q1t ?q1u ?q1v) (K14.dfo ?q1w ?q1x ?q1y ?q1z) (K14.dfo ?q2a ?q2b ?q2c ?q2d) (K14.dfo ?q2e ?q2f ?q2g ?q2h) (K14.dfo ?q2i ?q2j ?q2k ?q2l) (K14.dfo ?q2m ?q2n ?q2o ?q2p) (K14.dfo ?q2q ?q2r ?q2s ?q2t) (K14.dfo ?q2u ?q2v ?q2w ?q2x) (K14.dfo ?q2y ?q2z ?q3a ?q3b) (K14.dfo ?q3c ?q3d ?q3e ?q3f) (K14.dfo ?q3g ?q3h ?q3i ?q3j) (K14.dfo ?q3k ?q3l ?q3m ?q3n) (K14.dfo ?q3o ?q3p ?q3q ?q3r) (K14.dfo ?q3s ?q3t ?q3u ?q3v) (K14.dfo ?q3w ?q3x ?q3y ?q3z) (K14.dfo ?q4a ?q4b ?q4c ?q4d) (K14.dfo ?q4e ?q4f ?q4g ?q4h)  ?q4i ?q4j ?q4k ?q4l ?q4m ?q4n ?q4o ?q4p ?q4q ?q4r ?q4s ?q4t ?q4u ?q4v
    (case q0a|q0b|q0c|q0d|q0e|q0f|q0g|q0h|q0i|q0j|q0k|q0l|q0m|q0n|q0o|q0p|q0q|q0r|q0s|q0t|q0u|q0v|q0w|q0x|q0y|q0z|q1a|q1b|q1c|q1d|q1e|q1f|q1g|q1h|q1i|q1j|q1k|q1l|q1m|q1n|q1o|q1p|q1q|q1r|q1s|q1t|q1u|q1v|q1w|q1x|q1y|q1z|q2a|q2b|q2c|q2d|q2e|q2f|q2g|q2h|q2i|q2j|q2k|q2l|q2m|q2n|q2o|q2p|q2q|q2r|q2s|q2t|q2u|q2v|q2w|q2x|q2y|q2z|q3a|q3b|q3c|q3d|q3e|q3f|q3g|q3h|q3i|q3j|q3k|q3l|q3m|q3n|q3o|q3p|q3q|q3r|q3s|q3t|q3u|q3v|q3w|q3x|q3y|q3z|q4a|q4b|q4c|q4d|q4e|q4f|q4g|q4h|q4i|q4j|q4k|q4l|q4m|q4n|q4o|q4p|q4q|q4r|q4s|q4t|q4u|q4v => k_is)
