import PyProof.Rows.All
import Wide.All
import OpenK.AllK
import Wide.FinOn
import PySem.Challenge.RW_fieldrows_k45_stuck_places
import Lean
set_option Elab.async false
set_option linter.all false
set_option maxRecDepth 100000
set_option maxHeartbeats 4100000
set_option bootstrap.genMatcherCode false
set_option compiler.extract_closed false
open Option renaming some->aA,none->aD
noncomputable section
open Option renaming bind_some->aa,map_some->ba,isSome_some->rh,bind_eq_some_iff->sr,bind->aaj
open PySem renaming wpAny_bind->ac,sizeLine->ae,wpAny_pure->af,Spec->ao,starEach->ar,mainGlobals->ax,attributeBase->cn,wpAny_field->cu,wpAny_newObj_type->cz,wpAny_callSpecial?_slot->ee,wpAny_holding->fi,wpAny_call_entry->fu,wpAny_seqItems->gn,compareOp->gq,behindInMarks->gr,mem_of_lookup->ik,wpAny_of_eq->io,foldedSetIterable->iq,codeAny_builtin->jl,builtinLookup_eq_fast->jn,wpAny_mono->jp,swapsWith->js,wpAny_specialOf->ju,sysModules->jv,assignEach->jw,plainId_quiet->jy,keywordEach->ke,wpAny_setField_rec->kg,wpAny_updateSeq->kl,wpAny_truthy_bool->kq,backTo->lm,wpAny_passesOwn->mh,typeLookup_type->mi,wpAny_attempt->nk,backToKw->nr,wpAny_Call_Name_kw->oq,isSubtype_type->oy,wpAny_letGo->qm,wpAny_typeOf->qv,wpAny_tryCatch->ra,wpAny_setField->rb,wpAny_rule->re,sizeLine_eq->rj,Builtin->se,wpAny_isInstance->sn,wpAny_pyNext_list_item->tq,call_meets->tx,wpAny_execs_nil->ud,wpAny_pyNext_list_end->uf,wpAny_updateSeq_pair->um,wpAny_standAt->vf,wpAny_onRaise->vg,wpAny_pyIter_tuple->vn,wpAny_pyIter_list->vq,slot_list_getitem->vt,codeAny_mono->vw,Within->vz,wpAny_pyIter_zip->wu,isSubtype_stop->xq,call->xt,wpAny_getItem_list_slice->yj,wpAny_comprehension_free->yn,nums_intItems->yp,evalPart_none->yq,concat_meets->zj,wpAny_isTrue_Compare1->zx,wpAny_pyIter_revIter->aag,wpAny_loadName_local->aah,intItems_at->aai,wpAny_loadName_cell->aas
open PySem.Heap renaming get?_push_of_some->ad,lt_size->al,get?_push_size->ay,get?_update_other->gj,SameBut->gm,get?_update_self->ir,size_push->kh,ExtBut->aao
open List renaming length_map->ag,size_toArray->ak,length_cons->am,getElem?_eq_some_iff->aq,map_cons->au,length_append->bc,getElem?_append_left->be,replicate->bg,mem_cons_of_mem->bh,mem_cons->bq,length_nil->bv,getElem?_map->bw,getElem?_eq_getElem->bx,mem_singleton->ck,filterMap_cons->cq,getElem?_replicate->cw,getElem?_append_right->dk,nodup_cons->dm,mem_cons_self->dz,mem_append_right->ft,mem_map->gh,length_reverse->gx,append_nil->ie,lookup_cons->ig,length_take->ii,mem_append->ja,map_append->jb,find?_cons->jc,length_drop->jf,length->jg,filter_cons_of_pos->jh,filter_cons_of_neg->ji,getElem?_set_ne->jr,append_assoc->jt,map_map->jx,foldl_cons->kn,reverse_cons->kt,range->ku,lookup->lh,zipWith->lw,take_of_length_le->ma,all_cons->mj,dropLast_eq_take->mx,any_cons->on,map_nil->oz,drop_of_length_le->pe,drop_eq_nil_of_le->ph,getElem?_reverse->qe,getElem?_eq_none->qf,mem_of_getElem?->qo,mem_append_left->qp,forIn_cons->qr,nodup_nil->ri,length_range->rm,getElem?_take_of_lt->sf,not_mem_nil->sw,length_eq_zero_iff->sx,getElem?_zipWith->uk,mem_range->ut,getElem?_of_mem->uv,forIn_nil->uw,mem_filterMap->vo,eraseIdxIfInBounds_toArray->wq,getElem_mem->ww,of_mem_zip->xh,nil_append->xi,mem_filter->xj,length_set->xk,dropLast_concat_getLast->xl,getD_eq_getElem?_getD->xz,drop_zero->ya,mem_of_find?_eq_some->yf,getElem?_zip_eq_some->yg,drop_eq_getElem_cons->yh,getElem?_cons_succ->ze,length_eq_one_iff->zq,getElem?_set_self->zr,length_singleton->aad,length_replicate->aae,length_filter_le->aaf,mem_of_mem_take->aak,mem_of_mem_drop->aal,forall_mem_cons->aam,dropLast_concat->aan,map_congr_left->aaz,getElem?_range->aba,forall_mem_nil->abb
open Nat renaming le_refl->ah,lt_of_lt_of_le->bb,ne_of_lt->bf,le_trans->cg,zero_le->fg,ne_of_gt->ib,lt_irrefl->iw,le_add_right->lc,le_of_lt->lu,zero_add->ni,lt_succ_self->qh,le_of_not_lt->qk,add_comm->qw,succ_le_succ->su,lt_trans->ub,le_of_eq->uc,min_eq_left->xg,sub_min_sub_right->aac,add_left_cancel->aay
open Bool renaming false_ne_true->av,false_eq_true->cf,and_eq_true->dl,eq_iff_iff->qt,and_false->uy,not_true->vm
open PySem.W renaming nsIn->bm,findIn->cj,mg_none_of->dg,keepIn->dw,kia_one->gp,emptyDict->jj,isFn->jq,mg_of->kf,instObj->km,fnOf->kr,codeIn->my,callWith_K->ou,plainGet->qg,KeysLit->qq,hasDictIn->rl,methodCall_KW->ug,lookIn->uq,kitOne->ur,plainGet_of->va,plainOver->we,methodObj->wf,kitx_list->wg,handedIn->wv,takerIn->xb,makesIn->xf,WalkO->yr,cellsFrom_some->zk
open Option.some renaming inj->bu,injEq->fw
open PySem.Builtin.SmallTypes renaming nextOf->cr,ownedTupleIsFree->cy,ownedTupleHandOut->vc
open PySem.SeqAt renaming EqAt->dq
open PySem.F renaming plainAttrs_list->et,slot_zip_next->ko,plain_max_loop->lg,type_list_pop->mq,slot_list_pop->mw,slot_NoneType_hash->mz,slot_tuple_iterator_next->ng,type_list_append->oh,slot_list_append->om,plain_extend_loop->qu,args_zip_next_1->rp,slot_list_getattribute->sk,entry_zip_next->tm,entry_max_loop->wz,args_tuple_iterator_next_1->xn,entry_tuple_iterator_next->xp,slot_tuple_getitem->xu,args_tuple_add_2->yt,plainAttrs_dict->za,entry_tuple_add->zc,slot_tuple_add->zm,slot_dict_pop->zy,slot_dict_get->aaa,plain_reversed_new->aap,args_object_init_2->aaq,args_list_extend_2->aar,entry_list_extend->abc,entry_extend_loop->abd
open PySem.Builtin.Tuple renaming tupleExact->fo,tupleItemsOf->ye
open PyProof.Rows renaming callWith_type1->fq,slot_tuple_getitem->ic,subscriptTail_builtinR->tt,boot_max->uh,slicePart_none->uo,Subscript_->xr,boot_reversed->xx,boot_tuple->zd,boot_dict->zo,boot_zip->aab,entry_tuple_getitem->aat
open PySem.Around renaming under_plainId->gc,under->zw
open PySem.Builtin.Slice renaming slicePlaces->gf,sliceAdjust->jm,sliceApplied->nh,sliceFields->yi
open Array renaming length_toList->gy,getElem?_toList->jo,toArray_toList->uz,getElem?_push->abe
open PySem.Str renaming ofString->ia,length->tz
open Int renaming emod_nonneg->jd,emod_lt_of_pos->je,toNat_natCast->qc,eq_ofNat_of_zero_le->sy,zero_add->wo
open False renaming elim->jk
open Ne renaming symm->ki
open Classical renaming choose_spec->kj
open PySem.Builtin.List renaming listTooLong->kz,listExtendWith->qy,listSameRef->yw
open PySem.Obj renaming mapSeq->lq,data_mapFields->lr,isFreed_of_fields->ui,mapFields->yu
open PySem.Heap.SameBut renaming update->nj,refl->wp
open PySem.Value renaming isStrOf->og
open PySem.Calls renaming spliced_cons->ox,callWith_builtin->qd,spliced_nil->rq,evalArgs_plain->ux,Name_function_global->yb
open Iff renaming rfl->ql
open PySem.Builtin.Str renaming strSliceIndices->qx,strSliceIndices->vp
open Function renaming comp_def->rn
open Nat.succ renaming inj->ua
open PySem.PassesOwn renaming never->ue
open PySem.PyData renaming eqvAll->vh,strOk->wj,eqv->xy
open PySem.Paired renaming length->vk
open Prod renaming snd->wl,fst->wm
open PySem.AutoSeq1 renaming sub_tuple_tuple->yz,sub_tuple_list->zh,sub_list_tuple->zi,sub_list_list->zu
open PyProof.Rows.IsTup renaming new->zf
open PySem.Builtin.Dict renaming updateFrom->zg
open PySem.Code renaming isFrame->zt
open PySem.SeqAt.EqAt renaming str_none->aau,none_str->aav,none_int->aaw,int_none->aax
noncomputable abbrev Fg:=PySem.W.Frag
namespace L2
open PySem PySem.Spec PyProof.Rows
noncomputable abbrev Key:=Sum Int Str
noncomputable def mT:Key->Value->Bool
 |.inl k,v=>Value.isInt k v
 |.inr x,v=>og x v
noncomputable def Sd(w:World):Key->Int
 |.inl k=>hashInt k
 |.inr x=>hashStr w x
def yZ:∀{k:Key} {v:Value},mT k v=true->(∃i t,k=Sum.inl i/\v=Value.int i t)\/(∃x t,k=Sum.inr x/\v=Value.str x t)
 |.inl i,v,h=>by
  obtain⟨t,e⟩:=Value.isInt_shape (k:=i) (v:=v) h;exact .inl ⟨i,t,rfl,e⟩
 |.inr x,v,h=>by
  obtain⟨t,e⟩:=Value.isStrOf_shape (x:=x) (v:=v) h;exact .inr ⟨x,t,rfl,e⟩
def QN(i:Int)(t:Tok):mT (.inl i) (.int i t)=true:=by simp[mT,Value.isInt]
def QM(x:Str)(t:Tok):mT (.inr x) (.str x t)=true:=by simp[mT,og]
def Xg(a b:Int):decide ((Sum.inl a:Key)=Sum.inl b)=(a == b):=by
 by_cases e:a=b
 .subst e;simp
 .have h:¬(Sum.inl a:Key)=Sum.inl b:=λq=>e<|Sum.inl.inj q
  rw[decide_eq_false h];exact(beq_eq_false_iff_ne.mpr e).symm
def Xj(a b:Str):decide ((Sum.inr a:Key)=Sum.inr b)=decide (a=b):=by
 by_cases e:a=b
 .subst e;simp
 .have h:¬(Sum.inr a:Key)=Sum.inr b:=λq=>e<|Sum.inr.inj q
  rw[decide_eq_false h,decide_eq_false e]
def Xh(a:Int)(b:Str):decide ((Sum.inl a:Key)=Sum.inr b)=false:=decide_eq_false λq=>nomatch q
def Xi(a:Str)(b:Int):decide ((Sum.inr a:Key)=Sum.inl b)=false:=decide_eq_false λq=>nomatch q
noncomputable def yS(prog:Program)(w:World):PySem.KeyKind prog w Key where
 is:=mT
 hash:=Sd w
 inj:=λv a b ha hb=>by
  rcases yZ ha with⟨i,t,rfl,rfl⟩|⟨x,t,rfl,rfl⟩
  .rcases yZ hb with⟨j,u,rfl,e⟩|⟨y,u,rfl,e⟩
   .injection e with e1 _;rw[e1]
   .exact nomatch e
  .rcases yZ hb with⟨j,u,rfl,e⟩|⟨y,u,rfl,e⟩
   .exact nomatch e
   .injection e with e1 _;rw[e1]
 byValue:=λk v h=>by
  rcases yZ h with⟨i,t,rfl,rfl⟩|⟨x,t,rfl,rfl⟩<;>rfl
 pyHash:=λhv h=>by
  rcases yZ hv with⟨i,t,rfl,rfl⟩|⟨x,t,rfl,rfl⟩
  .exact wpAny_pyHash_int h
  .exact wpAny_pyHash_str h
 eqBool:=λhu hv h=>by
  rcases yZ hu with⟨i,t,rfl,rfl⟩|⟨x,t,rfl,rfl⟩
  .rcases yZ hv with⟨j,u,rfl,rfl⟩|⟨y,u,rfl,rfl⟩
   .rw[Xg] at h;exact wpAny_eqBool_int h
   .rw[Xh] at h;exact dq.int_str i t y u _ _ _ _ h
  .rcases yZ hv with⟨j,u,rfl,rfl⟩|⟨y,u,rfl,rfl⟩
   .rw[Xi] at h;exact dq.str_int x t j u _ _ _ _ h
   .rw[Xj] at h;exact wpAny_eqBool_str h
 «strs»:=λk x t v h=>by
  rcases yZ h with⟨i,u,rfl,e⟩|⟨y,u,rfl,e⟩
  .exact nomatch e
  .injection e with e1 _
   subst e1;cases v<;>rfl
def o5(prog:Program)(w:World)(i:Int)(t:Tok):(yS prog w).is (.inl i) (.int i t)=true:=QN i t
def oZ(prog:Program)(w:World)(x:Str)(t:Tok):(yS prog w).is (.inr x) (.str x t)=true:=QM x t
inductive V where
 |aE|bl (b:Bool)|int (i:Int)|str (x:Str)|l6 (b:Array UInt8)|B2 (b:UInt64)|ref (a:Addr)|ty (n:String)
 deriving DecidableEq
def RelV:V->Value->Prop
 |.aE,u=>u=Value.none
 |.bl b,u=>u=Value.bool b
 |.int i,u=>∃t,u=Value.int i t
 |.str x,u=>∃t,u=Value.str x t
 |.l6 b,u=>∃t,u=Value.bytes b t
 |.B2 b,u=>∃t,u=Value.float b t
 |.ref a,u=>u=Value.ref a
 |.ty n,u=>u=Value.type n
abbrev Vals:List V->List Value->Prop:=Paired RelV
def Vals.length(r:Vals xs us):xs.length=us.length:=vk r
def Vals.get:∀{xs:List V} {us:List Value} {i:Nat} {x:V},Vals xs us->xs[i]?=aA x->∃u,us[i]?=aA u/\RelV x u
 |_,_,_,_,.nil,e=>by simp at e
 |_,_,0,_,.cons r _,e=>by simp at e;subst e;exact⟨_,rfl,r⟩
 |_,_,i+1,x,.cons _ t,e=>by
  obtain⟨u,h1,h2⟩:=Vals.get (i:=i) (x:=x) t (by simpa using e);exact⟨u,by simpa using h1,h2⟩
def Vals.append:∀{xs ys:List V} {us ws:List Value},Vals xs us->Vals ys ws->Vals (xs++ys) (us++ws)
 |_,_,_,_,.nil,s=>s
 |_,_,_,_,.cons r t,s=>.cons r<|Vals.append t s
def Vals.take:∀{xs:List V} {us:List Value} (n:Nat),Vals xs us->Vals (xs.take n) (us.take n)
 |_,_,0,_=>.nil
 |_,_,_+1,.nil=>.nil
 |_,_,n+1,.cons r t=>.cons r<|Vals.take n t
def Vals.drop:∀{xs:List V} {us:List Value} (n:Nat),Vals xs us->Vals (xs.drop n) (us.drop n)
 |_,_,0,r=>r
 |_,_,_+1,.nil=>.nil
 |_,_,n+1,.cons _ t=>Vals.drop n t
def sT:Option V->Option Value->Prop
 |some v,aA u=>RelV v u
 |none,aD=>True
 |_,_=>False
def KV:List (κ×V)->List (κ×Value)->Prop:=Paired λ(p:κ×V) (q:κ×Value)=>p.1=q.1/\RelV p.2 q.2
noncomputable def kV:Key->V
 |.inl i=>.int i
 |.inr x=>.str x
inductive HO where
 |lst (xs:List V)
 |tup (xs:List V)
 |dK (kvs:List (Key×V))|dT (kvs:List (List Key×V))
 |set (S:Int->Bool) (n:Nat)
 |ins (C dx:Addr) (fs:List (Str×V))
 |own (x:Addr)
 |xd (fs:List (Str×V))
 |met (f x:Addr)
 |KG (lo hi:Int)
 |i6 (o:Obj) (u:HO)
 |tbl (ps:Array Value)
 |ext (φ:Heap->Prop)
noncomputable abbrev Hp:=Addr->Option HO
noncomputable def upd(H:Hp)(a:Addr)(o:HO):Hp:=λb=>if b=a then aA o else H b
def zJ:upd H a o a=aA o:=by unfold upd;rw[if_pos rfl]
def zI(h:b≠a):upd H a o b=H b:=by unfold upd;rw[if_neg h]
def Jb{H:Hp}{a b:Addr}{o u:HO}(h:H a=aA o)(h':H b=aA u)(d:o≠u):a≠b:=by
 intro e;subst e;rw[h] at h';exact d<|bu h'
def xY{H:Hp}{a b:Addr}{o:HO}(h:H a=aA o)(h':H b=aD):a≠b:=by
 intro e;subst e;rw[h] at h';cases h'
noncomputable def qOf(ps:Array Value):Str:=match (ps[0]?:Option Value) with
 |some (.str q _)=>q
 |_=>""
def qj2(q:Str)(o:Obj):Prop:=∃vs t,o.data=.fields vs/\vs[1]?=aA (.str q t)
def Va(H:Hp)(h:Heap)(a:Addr)(q:Str):Prop:=∃ts:Array Value,h.get? a=aA (PySem.W.tabObj ts)/\TriplesOk ts.toList/\∀pos cv,codeAmong pos ts.toList=aA cv->∃c oc u,cv=.ref c/\H c=aA (.i6 oc u)/\qj2 q oc
section
variable(P:Program)(w:World)
def fS(H:Hp)(h:Heap)(a:Addr):HO->Prop
 |.lst xs=>xs.length<=ae/\∃(its:List Value) (n:Nat),Vals xs its/\h.get? a=aA { cls:=.type "list",data:=.seq its.toArray n }
 |.tup xs=>xs.length<=ae/\∃its:List Value,Vals xs its/\IsTup h a its.toArray
 |.dK kvs=>kvs.length<=ae/\(a == jv)=false/\∃vs,KV kvs vs/\h.DictOf (yS P w) a vs
 |.dT kvs=>kvs.length<=ae/\(a == jv)=false/\∃xs:List (List Key×Addr×Value),
   Paired (λ(p:List Key×V) (q:List Key×Addr×Value)=>p.1=q.1/\H q.2.1=aA (.tup<|p.1.map kV)/\RelV p.2 q.2.2) kvs xs /\
   ∃o es ep,h.get? a=aA o/\o.ExactDict/\o.data=.dict es ep/\es.toList=xs.map (entryOfKey<|tupleKind<|yS P w)/\(xs.map (·.1)).Nodup
 |.set S n=>h.SetOf (intKind P w) a S n
 |.ins C dx fs=>H dx=aA (.own a)/\fs.length<=1000/\dx≠a/\h.get? a=aA (km C dx) /\
   ∃mA,h.Ns1 dx mA/\(∀f,sT (fs.lookup f)<|mA f)/\vz mA (fs.map (·.1))
 |.own _=>∃o,h.get? a=aA o
 |.xd fs=>∃mA,h.Ns1 a mA/\∀f,sT (fs.lookup f) (mA f)
 |.KG lo hi=>∃t u v,h.get? a=aA { cls:=.type "range",data:=.fields #[.int lo t,.int hi u,.int 1 v] }
 |.i6 o u=>h.get? a=aA o/\fS H h a u
 |.tbl ps=>Va H h a<|qOf ps
 |.met f x=>h.get? a=aA (wf (.ref f)<|.ref x)
 |.ext φ=>φ h/\(∃o,h.get? a=aA o)/\∀h1 h2:Heap,φ h1->(∀o,h1.get? a=aA o->h2.get? a=aA o)->φ h2
def fL(H:Hp)(h:Heap):Prop:=∀a o,H a=aA o->fS P w H h a o
end
def fS.lt(x:fS P w H h a o):a<h.objs.size:=by
 cases o with
 |lst xs=>obtain⟨_,_,_,_,e⟩:=x;exact al e
 |tup xs=>obtain⟨_,_,_,p⟩:=x;exact p.lt
 |dK kvs=>obtain⟨_,_,_,_,o,_,_,e,_⟩:=x;exact al e
 |dT kvs=>obtain⟨_,_,_,_,o,_,_,e,_⟩:=x;exact al e
 |set S n=>obtain⟨o,_,_,_,e,_⟩:=x;exact al e
 |ins C dx fs=>obtain⟨_,_,_,e,_⟩:=x;exact al e
 |own y=>obtain⟨_,e⟩:=x;exact al e
 |xd fs=>obtain⟨_,⟨_,_,_,e,_⟩,_⟩:=x;exact al e
 |KG lo hi=>obtain⟨_,_,_,e⟩:=x;exact al e
 |i6 ob u=>obtain⟨e,_⟩:=x;exact al e
 |tbl ps=>obtain⟨_,e,_⟩:=x;exact al e
 |met f y=>exact al (show h.get? a=aA _ from x)
 |ext φ=>obtain⟨_,⟨_,e⟩,_⟩:=x;exact al e
theorem vY:∀{l₁:List α} {l₂:List β},Paired F l₁ l₂->(∀a b,F a b->G a b)->Paired G l₁ l₂
 |_,_,.nil,_=>.nil
 |_,_,.cons r t,f=>.cons (f _ _ r)<|vY t f
def fS.A'(x:fS P w H h a o)(k:∀b u,(b=a\/H b=aA (.own a))->h.get? b=aA u->h'.get? b=aA u)(ho:∀b,H b=aA (.own a)->H' b=aA (.own a))(ht:∀b xs,H b=aA (.tup xs)->H' b=aA (.tup xs))(hf:∀b o u,H b=aA (.i6 o u)->H' b=aA (.i6 o u)):fS P w H' h' a o:=by
 induction o with
 |lst xs=>obtain⟨z,its,n,r,e⟩:=x;exact⟨z,its,n,r,k _ _ (.inl rfl) e⟩
 |tup xs=>obtain⟨z,its,r,ob,e,c⟩:=x;exact⟨z,its,r,ob,k _ _ (.inl rfl) e,c⟩
 |dK kvs=>obtain⟨z,y,vs,r,ob,es,ep,e,c⟩:=x;exact⟨z,y,vs,r,ob,es,ep,k _ _ (.inl rfl) e,c⟩
 |dT kvs=>
  obtain⟨z,y,xs,r,ob,es,ep,e,c⟩:=x;exact⟨z,y,xs,vY r λp q z=>⟨z.1,ht _ _ z.2.1,z.2.2⟩,ob,es,ep,k _ _ (.inl rfl) e,c⟩
 |set S n=>obtain⟨ob,es,ep,t,e,c⟩:=x;exact⟨ob,es,ep,t,k _ _ (.inl rfl) e,c⟩
 |ins C dx fs=>
  obtain⟨d,z,ne,e,mA,⟨od,es,ep,e2,c⟩,r⟩:=x;exact⟨ho _ d,z,ne,k _ _ (.inl rfl) e,mA,⟨od,es,ep,k _ _ (.inr d) e2,c⟩,r⟩
 |own y=>obtain⟨ob,e⟩:=x;exact⟨ob,k _ _ (.inl rfl) e⟩
 |xd fs=>obtain⟨mA,⟨od,es,ep,e,c⟩,r⟩:=x;exact⟨mA,⟨od,es,ep,k _ _ (.inl rfl) e,c⟩,r⟩
 |KG lo hi=>obtain⟨t,u,v,e⟩:=x;exact⟨t,u,v,k _ _ (.inl rfl) e⟩
 |i6 ob u ih=>obtain⟨e,q⟩:=x;exact⟨k _ _ (.inl rfl) e,ih q⟩
 |tbl ps=>obtain⟨ts,e,z,r⟩:=x;exact⟨ts,k _ _ (.inl rfl) e,z,λp v q=>let ⟨c,oc,u,e1,e2,e3⟩:=r p v q;⟨c,oc,u,e1,hf _ _ _ e2,e3⟩⟩
 |met f y=>
  have e:h.get? a=aA (wf (.ref f)<|.ref y):=x;show h'.get? a=aA (wf (.ref f)<|.ref y);exact k a _ (.inl rfl) e
 |ext φ=>obtain⟨p,⟨o,e⟩,st⟩:=x;exact⟨st _ _ p λo q=>k _ _ (.inl rfl) q,⟨o,k _ _ (.inl rfl) e⟩,st⟩
def fL.lt(x:fL P w H h)(e:H a=aA o):a<h.objs.size:=(x a o e).lt
def fL.fresh(x:fL P w H h)(e:h.objs.size<=a):H a=aD:=by
 cases q:H a with
 |none=>rfl
 |some u=>exact absurd (bb (x.lt q) e)<|iw _
def fL.kept(x:fL P w H h)(k:∀b u,h.get? b=aA u->h'.get? b=aA u):fL P w H h':=λa o e=>
 (x a o e).A' (λb u _ q=>k b u q) (λ_ q=>q) (λ_ _ q=>q) λ_ _ _ q=>q
def fL.laid(x:fL P w H h)(k:∀b u,h.get? b=aA u->h'.get? b=aA u)(hp:h.objs.size<=a)(new:fS P w (upd H a o) h' a o):fL P w (upd H a o) h':=λb u e=>by
 have hn:=x.fresh hp;by_cases hb:b=a
 .subst hb;rw[zJ] at e;cases e;exact new
 .rw[zI hb] at e;exact(x b u e).A' (λc v _ q=>k c v q) (λc q=>by rw[zI<|xY q hn];exact q) (λc xs q=>by rw[zI<|xY q hn];exact q) λc o u q=>by rw[zI<|xY q hn];exact q
def Rd(H:Hp)(a:Addr)(u:HO):Prop:=H a=aA u\/∃o,H a=aA (.i6 o u)
def Rd.ok(r:Rd H a u)(x:fL P w H h):fS P w H h a u:=by
 rcases r with r|⟨o,r⟩
 .exact x a u r
 .obtain⟨_,q⟩:=x a _ r;exact q
def FS:Option HO->Prop
 |some (.lst _)=>True
 |some (.dK _)=>True
 |some (.dT _)=>True
 |some (.set _ _)=>True
 |some (.ins _ _ _)=>True
 |some (.ext _)=>True
 |_=>False
def fL.write(ok:fL P w H h)(mu:FS (H x))(he:e=x\/H e=aA (.own x))(k:∀b u,b≠e->h.get? b=aA u->h'.get? b=aA u)(DC:∃u,h'.get? e=aA u)(new:fS P w (upd H x o') h' x o'):fL P w (upd H x o') h':=λb u q=>by
 have RO:∀c y,H c=aA (.own y)->c≠x:=λc y r z=>by subst z;rw[r] at mu;exact mu
 have qc1:∀c xs,H c=aA (.tup xs)->c≠x:=λc xs r z=>by subst z;rw[r] at mu;exact mu
 by_cases hb:b=x
 .subst hb;rw[zJ] at q;cases q;exact new
 .rw[zI hb] at q;by_cases Bi:b=e
  .have q':H b=aA (.own x):=by
    rcases he with z|z
    .exact absurd (Bi.trans z) hb
    .rw[Bi];exact z
   rw[q] at q';cases q';obtain⟨v,hv⟩:=DC;exact⟨v,by rw[Bi];exact hv⟩
  .refine(ok b u q).A' (λc v hc r=>k c v ?_ r) (λc r=>by rw[zI<|RO c b r];exact r) (λc xs r=>by rw[zI<|qc1 c xs r];exact r) λc o u r=>by rw[zI (λz=>by subst z;rw[r] at mu;exact mu)];exact r
   rcases hc with rfl|hc
   .exact Bi
   .rintro rfl;rcases he with z|z
    .exact RO c b hc z
    .rw[hc] at z;cases z;exact hb rfl
structure Un(fs ex:List Addr)(H H':Hp)(h h':Heap):Prop where
 keep:∀b o,h.get? b=aA o->H b=aD->b∉fs->b∉ex->h'.get? b=aA o
 slot:∀b o,h.get? b=aA o->H b=aD->b∈fs->b∉ex->∃sl,h'.get? b=aA { o with slots:=sl }
 free:∀b o,h.get? b=aA o->H b=aD->b∉ex->H' b=aD
 there:∀b o,h.get? b=aA o->b∉ex->∃o',h'.get? b=aA o'
 A9:∀b xs,H b=aA (.tup xs)->H' b=aA (.tup xs)
 AW:∀b o u,H b=aA (.i6 o u)->H' b=aA (.i6 o u)
 A_:∀b ps,H b=aA (.tbl ps)->∃more,H' b=aA (.tbl<|ps++more)
def Un.any(u:Un fs ex H H1 h h1)(q:h.get? b=aA ob)(n:H b=aD)(hx:b∉ex):∃sl,h1.get? b=aA { ob with slots:=sl }:=by
 by_cases hb:b∈fs
 .exact u.slot b ob q n hb hx
 .exact⟨ob.slots,u.keep b ob q n hb hx⟩
def Un.kept(k:∀b u,h.get? b=aA u->h'.get? b=aA u):Un fs ex H H h h':=
 ⟨λb ob q _ _ _=>k b ob q,λb ob q _ _ _=>⟨ob.slots,k b ob q⟩,λ_ _ _ n _=>n,λb ob q _=>⟨ob,k b ob q⟩,λ_ _ q=>q,λ_ _ _ q=>q,λ_ ps q=>⟨#[],by rw[q];simp⟩⟩
def Un.refl:Un fs ex H H h h:=Un.kept λ_ _ q=>q
def Un.laid(k:∀b u,h.get? b=aA u->h'.get? b=aA u)(hp:h.objs.size<=a)(hn:H a=aD):Un fs ex H (upd H a o) h h' where
 keep:=λb u q _ _ _=>k b u q
 slot:=λb u q _ _ _=>⟨u.slots,k b u q⟩
 free:=λb u q n _=>by rw[zI<|bf<|bb (al q) hp];exact n
 there:=λb u q _=>⟨u,k b u q⟩
 A9:=λb xs q=>by rw[zI<|xY q hn];exact q
 AW:=λb u xs q=>by rw[zI<|xY q hn];exact q
 A_:=λb ps q=>⟨#[],by rw[zI<|xY q hn,q];simp⟩
def Un.write(mu:FS (H x))(he:e=x\/H e=aA (.own x))(k:∀b u,b≠e->h.get? b=aA u->h'.get? b=aA u)(DC:∃u,h'.get? e=aA u):Un fs ex H (upd H x o) h h':=by
 have hx:∀b,H b=aD->b≠x:=λb n z=>by subst z;rw[n] at mu;exact mu
 have hb:∀b,H b=aD->b≠e:=λb n z=>by
  subst z;rcases he with r|r
  .exact hx b n r
  .rw[n] at r;cases r
 have hm:∀b u,H b=aA u->¬FS (aA u)->b≠x:=λb u q nm z=>by subst z;rw[q] at mu;exact nm mu
 refine⟨λb u q n _ _=>k b u (hb b n) q,λb u q n _ _=>⟨u.slots,k b u (hb b n) q⟩,λb u q n _=>by rw[zI<|hx b n];exact n,λb u q _=>?_,
  λb xs q=>by rw[zI<|hm b _ q λz=>z];exact q,λb u xs q=>by rw[zI<|hm b _ q λz=>z];exact q,λb ps q=>⟨#[],by rw[zI<|hm b _ q λz=>z,q];simp⟩⟩
 by_cases Bi:b=e
 .subst Bi;exact DC
 .exact⟨u,k b u Bi q⟩
noncomputable def G0(h:Heap)(H:Hp):List Addr:=(ku h.objs.size).filter λa=>(H a).isSome
def A7(h:Heap)(H:Hp):Heap:=PySem.W.hideAll h<|G0 h H
def QT(h:Heap)(H:Hp):(A7 h H).objs.size=h.objs.size:=PySem.W.hideAll_size _ _
def ź(e:h.get? b=aA o)(n:H b=aD):(A7 h H).get? b=aA o:=
 PySem.W.hideAll_get _ e λhm=>by
  have q:(H b).isSome=true:=(xj.mp hm).2;rw[n] at q;simp at q
def ġ(e:(A7 h H).get? b=aA o):h.get? b=aA o/\H b=aD:=by
 have e':h.get? b=aA o:=PySem.W.of_hideAll (G0 h H) e;refine⟨e',?_⟩;cases q:H b with
 |none=>rfl
 |some x=>
  have hm:b∈G0 h H:=xj.mpr ⟨ut.mpr<|al e',by simp[q]⟩;have z:(A7 h H).get? b=aD:=PySem.W.hideAll_none (G0 h H) hm;rw[z] at e;cases e
structure Mod(K:Fg)(mg:Str->Option Value)(base:Heap):Prop where
 Bf:K.In base
 glob:base.Ns ax mg
 blt:∃mb,base.Ns builtinsNs mb/\∀x:Str,x ≠ "__name__" -> mb x=bootBuiltins x
 nolimit:base.NoLimit
structure Cx where
 prog:Program
 w:World
 K:Fg
 mg:Str->Option Value
 base:Heap
 A:Around
 N:List Str
 s₀:Shared
 H₀:Hp
 env:Env
 outer:List Env
 stack:List Env
 ex:List Addr
 fn:Str->Bool
 calm:Bool
 pn:List (Addr×Obj)
 xe:Value->Shared->Prop
noncomputable def sS(l:List Env):List Addr:=l.filterMap (·.frame)
abbrev Cx.fs(X:Cx):List Addr:=sS X.outer
def FD(sc:Scope)(x:Str):Prop:=sc.names.lookup x=aA .local\/sc.names.lookup x=aA .cell\/sc.names.lookup x=aA .free
def Loc(sc:Scope)(x:Str):Prop:=sc.names.lookup x=aA .local\/sc.names.lookup x=aA .cell
def Look(env:Env)(h:Heap)(m:Str->Option Value)(x:Str)(u:Value):Prop:=
 (env.kindOf x=aA .local/\m x=aA u)\/((env.kindOf x=aA .cell\/env.kindOf x=aA .free)/\∃c,env.cells.lookup x=aA c/\h.IsCell c (aA u))
def Nn(K:Fg)(H:Hp):Prop:=True
structure UV(K:Fg)(l:List Env)(H:Hp):Prop where
 fr:∀b∈sS l,H b=aD
 tb:Nn K H
abbrev Ay(X:Cx)(es:List Expr)(p:Pos):Prop:=((lm p<|ar es X.env).all (λx=>!x.1) && (nr p<|ke [] X.env).all (λx=>x.1.isSome) && decide (es.length+([]:List Keyword).length+(if ([]:List Keyword).isEmpty then 0 else 1)<30))=true
abbrev i_(X:Cx)(e:Expr)(es:List Expr):Prop:=ar (e::es) X.env=(false,eval e X.env)::ar es X.env
abbrev JV(X:Cx)(es:List Expr)(p:Pos):Prop:=(lm p<|ar es X.env).any (·.1)=false
abbrev m_(X:Cx)(x:Str):Prop:=X.fn x=true\/X.env.scope.names.lookup x=aA .local
abbrev iH(x:Str):Prop:=(x == ("__debug__" : Str))=false
abbrev l7(a c:Pos):Prop:=(a.endLine == c.line)=true
structure Cx.Ok(X:Cx):Prop where
 mod:Mod X.K X.mg X.base
 kind:X.env.scope.kind=.function
 glob:X.env.globals=ax
 blt:X.env.builtins=builtinsNs
 above:X.s₀.heap.objs.size<=X.env.locals
 inj:∀x y c,X.env.cells.lookup x=aA c->X.env.cells.lookup y=aA c->x=y
 has:∀x,(X.env.kindOf x=aA .cell\/X.env.kindOf x=aA .free)->∃c,X.env.cells.lookup x=aA c
 FC:∀x c,X.fn x=true->X.env.cells.lookup x=aA c->X.s₀.heap.objs.size<=c
 hd:X.calm=true->X.A.handled=aD
 frames:X.A.frames=aA X.stack
 aO:X.stack=X.outer\/(X.stack=X.env::X.outer/\X.env.frame=aA X.env.locals)
 LU:∀b∈X.ex,b≠X.env.locals/\∀x c,X.env.cells.lookup x=aA c->c≠b
 bs:∀b o,X.base.get? b=aA o->X.s₀.heap.get? b=aA o/\X.H₀ b=aD
 A0:X.base.objs.size<=X.s₀.heap.objs.size
 Df:∀b o,X.base.get? b=aA o->b∉X.ex
 Fw:∀b∈X.ex,b∉X.fs
 u_:X.s₀.heap.FunFrames X.base X.outer
 CM:UV X.K X.outer X.H₀
structure Inv(X:Cx)(pZ:List (Addr×Obj))(σ:List (Option V))(H:Hp)(s:Shared):Prop where
 ok:X.Ok
 os:s.os=X.s₀.os
 bare:AllBare s.gens
 base:Un X.fs X.ex X.H₀ H X.s₀.heap s.heap
 loc:∃m,s.heap.Ns X.env.locals m/\∀(i:Nat) (x:Str) (v:V),X.N[i]?=aA x->σ[i]?=aA (aA v)->FD X.env.scope x->∃u,RelV v u/\Look X.env s.heap m x u
 cell:∀x c,X.env.cells.lookup x=aA c->∃v,s.heap.IsCell c v
 free:H X.env.locals=aD
 AX:∀x c,X.env.cells.lookup x=aA c->H c=aD
 pin:∀p∈X.pn++pZ,s.heap.get? p.1=aA p.2/\H p.1=aD/\p.1≠X.env.locals/\p.1∉X.fs/\∀v,p.2.data≠.cell v
 aT:fL X.prog X.w H s.heap
 len:σ.length=X.N.length
section
variable{X:Cx}{pZ:List (Addr×Obj)}{σ:List (Option V)}{H H':Hp}{s:Shared}{h':Heap}
def Cx.Ok.qc5(ok:X.Ok){b:Addr}{o:Obj}(e:X.base.get? b=aA o):b∉X.fs:=λhb=>by
 have:=(ok.u_.mem hb).1
 rw[e] at this;cases this
def Inv.bs(I:Inv X pZ σ H s):∀b o,X.base.get? b=aA o->s.heap.get? b=aA o/\H b=aD:=λb o e=>
 ⟨I.base.keep b o (I.ok.bs b o e).1 (I.ok.bs b o e).2 (I.ok.qc5 e)<|I.ok.Df b o e,I.base.free b o (I.ok.bs b o e).1 (I.ok.bs b o e).2<|I.ok.Df b o e⟩
def Inv.bk(I:Inv X pZ σ H s):∀b o,X.base.get? b=aA o->s.heap.get? b=aA o:=λb o e=>(I.bs b o e).1
def Inv.mod(I:Inv X pZ σ H s):Mod X.K X.mg X.base:=I.ok.mod
def Inv.fE(I:Inv X pZ σ H s):X.K.In s.heap:=I.ok.mod.Bf.keeps I.bk
def Inv.lt(I:Inv X pZ σ H s):X.env.locals<s.heap.objs.size:=let ⟨_,hn,_⟩:=I.loc;hn.lt
def Inv.sz(I:Inv X pZ σ H s):X.s₀.heap.objs.size<=s.heap.objs.size:=cg I.ok.above<|lu I.lt
def Inv.qc3(I:Inv X pZ σ H s)(h:s.heap.objs.size<=a):a∉X.fs:=λhb=>by
 obtain⟨_,o,ho,_⟩:=I.ok.u_.mem hb;exact absurd (bb (al ho)<|cg I.sz h)<|iw _
def Inv.CN(I:Inv X pZ σ H s):∀x c,X.env.cells.lookup x=aA c->c≠X.env.locals:=λx c e z=>by
 obtain⟨v,o,ho,hd⟩:=I.cell x c e;obtain⟨m,⟨o',es,ep,CD,CG,_⟩,_⟩:=I.loc;rw[z,CD] at ho;cases ho;rw[CG] at hd;cases hd
def Inv.u_(I:Inv X pZ σ H s):s.heap.FunFrames X.base X.outer:=by
 have all:∀(l:List Env),(∀b∈sS l,b∈X.fs)->X.s₀.heap.FunFrames X.base l->s.heap.FunFrames X.base l:=by
  intro l
  induction l with
  |nil=>intro _ _;trivial
  |cons env r ih=>
   intro hs hl;obtain⟨hk,⟨L,o,hf,hn,ho,hd⟩,hr⟩:=hl;have hL:L∈X.fs:=hs L (by unfold sS;rw[cq,hf];exact dz);obtain⟨sl,e⟩:=I.base.slot L o ho (I.ok.CM.fr L hL) hL λz=>I.ok.Fw L z hL
   exact⟨hk,⟨L,_,hf,hn,e,hd⟩,ih (λb hb=>hs b (by unfold sS;rw[cq,hf];exact bh _ hb)) hr⟩
 exact all X.outer (λ_ hb=>hb) I.ok.u_
def Inv.stack(I:Inv X pZ σ H s):s.heap.FunFrames X.base X.stack:=by
 rcases I.ok.aO with e|⟨e,hf⟩
 .rw[e];exact I.u_
 .rw[e];obtain⟨m,hn,_⟩:=I.loc;refine .cons (by rw[I.ok.kind];decide) hf hn ?_ I.u_;exact Heap.get?_none_of_le<|cg I.ok.A0 I.ok.above
def Inv.Kw(I:Inv X pZ σ H s):∀b∈sS X.stack,b∈X.env.locals::X.fs:=λb hb=>by
 rcases I.ok.aO with e|⟨e,hf⟩
 .rw[e] at hb;exact bh _ hb
 .rw[e] at hb;unfold sS at hb;rw[cq,hf] at hb;exact hb
def Inv.Qy(I:Inv X pZ σ H s):∀b∈sS X.stack,H b=aD:=λb hb=>by
 rcases bq.mp (I.Kw b hb) with e|hb
 .rw[e];exact I.free
 .obtain⟨_,o,ho,_⟩:=I.ok.u_.mem hb;exact I.base.free b o ho (I.ok.CM.fr b hb) λz=>I.ok.Fw b z hb
def Inv.tabIn(I:Inv X pZ σ H s):Nn X.K H:=
 trivial
def Inv.step{ch:List Addr}(I:Inv X pZ σ H s)(iA:∀b∈ch,(b∈X.ex\/X.s₀.heap.objs.size<=b)/\b≠X.env.locals/\(∀x c,X.env.cells.lookup x=aA c->c≠b)/\∀p∈X.pn++pZ,p.1≠b)(keep:∀b o,b≠X.env.locals->b∉X.fs->b∉ch->s.heap.get? b=aA o->H b=aD->h'.get? b=aA o)(slot:∀b o,b≠X.env.locals->b∈X.fs->b∉ch->s.heap.get? b=aA o->H b=aD->∃sl,h'.get? b=aA { o with slots:=sl })(free:∀b o,b∉ch->s.heap.get? b=aA o->H b=aD->H' b=aD)(there:∀b o,b∉ch->s.heap.get? b=aA o->∃o',h'.get? b=aA o')(A9:∀b xs,H b=aA (.tup xs)->H' b=aA (.tup xs))(AW:∀b o u,H b=aA (.i6 o u)->H' b=aA (.i6 o u))(A_:∀b ps,H b=aA (.tbl ps)->∃more,H' b=aA (.tbl<|ps++more))(ns:∀m,s.heap.Ns X.env.locals m->h'.Ns X.env.locals m)(aT:fL X.prog X.w H' h')(hg:AllBare g'):Inv X pZ σ H' { s with heap:=h',gens:=g',drawn:=d',toks:=t' }:=by
 have RW:∀b o,X.s₀.heap.get? b=aA o->b≠X.env.locals:=λb o e=>bf<|bb (al e) I.ok.above
 have Hh:∀b o,X.s₀.heap.get? b=aA o->b∉X.ex->b∉ch:=λb o e hx hb=>by
  rcases(iA b hb).1 with z|z
  .exact hx z
  .exact absurd (bb (al e) z)<|iw _
 have cellK:∀x c,X.env.cells.lookup x=aA c->∀v,s.heap.IsCell c v->h'.IsCell c v:=λx c e v ⟨o,ho,hd⟩=>by
  have EZ:c∉ch:=λz=>(iA c z).2.2.1 x c e rfl
  by_cases hc:c∈X.fs
  .obtain⟨sl,q⟩:=slot c o (I.CN x c e) hc EZ ho<|I.AX x c e;exact⟨_,q,hd⟩
  .exact⟨o,keep c o (I.CN x c e) hc EZ ho<|I.AX x c e,hd⟩
 refine⟨I.ok,I.os,hg,⟨λb o e n hb hx=>?_,λb o e n hb hx=>?_,λb o e n hx=>?_,λb o e hx=>?_,λb xs e=>A9 b xs<|I.base.A9 b xs e,λb o xs e=>AW b o xs<|I.base.AW b o xs e,λb ps e=>?_⟩,?_,λx c e=>?_,?_,λx c e=>?_,λp hp=>?_,aT,I.len⟩
 .exact keep b o (RW b o e) hb (Hh b o e hx) (I.base.keep b o e n hb hx)<|I.base.free b o e n hx
 .obtain⟨sl,e1⟩:=I.base.slot b o e n hb hx;obtain⟨sl',e2⟩:=slot b _ (RW b o e) hb (Hh b o e hx) e1<|I.base.free b o e n hx;exact⟨sl',e2⟩
 .obtain⟨o',e1⟩:=I.base.there b o e hx;exact free b o' (Hh b o e hx) e1<|I.base.free b o e n hx
 .obtain⟨o',e1⟩:=I.base.there b o e hx;exact there b o' (Hh b o e hx) e1
 .obtain⟨m1,e1⟩:=I.base.A_ b ps e;obtain⟨m2,e2⟩:=A_ b _ e1;exact⟨m1++m2,by rw[e2,Array.append_assoc]⟩
 .obtain⟨m,hn,hl⟩:=I.loc;refine⟨m,ns m hn,λi x v e1 e2 e3=>?_⟩;obtain⟨u,r,l⟩:=hl i x v e1 e2 e3;refine⟨u,r,?_⟩;rcases l with l|⟨k,c,e,z⟩
  .exact .inl l
  .exact .inr ⟨k,c,e,cellK x c e _ z⟩
 .obtain⟨v,z⟩:=I.cell x c e;exact⟨v,cellK x c e v z⟩
 .obtain⟨m,⟨o,_,_,ho,_⟩,_⟩:=I.loc;exact free _ o (λz=>(iA _ z).2.1 rfl) ho I.free
 .obtain⟨v,o,ho,hd⟩:=I.cell x c e;exact free c o (λz=>(iA c z).2.2.1 x c e rfl) ho<|I.AX x c e
 .obtain⟨e,n,ne,nf,d⟩:=I.pin p hp;have EZ:p.1∉ch:=λz=>(iA p.1 z).2.2.2 p hp rfl
  exact⟨keep p.1 p.2 ne nf EZ e n,free p.1 p.2 EZ e n,ne,nf,d⟩
def Inv.un(I:Inv X pZ σ H s)(u:Un X.fs [] H H' s.heap h')(aT:fL X.prog X.w H' h'):Inv X pZ σ H' { s with heap:=h',toks:=t' }:=by
 obtain⟨m,⟨o,es,ep,ho,r⟩,_⟩:=id I.loc;obtain⟨sl,hL⟩:=u.any ho I.free (by simp);exact I.step (g':=s.gens) (d':=s.drawn) (ch:=[]) (λ_ z=>nomatch z) (λb o _ hb _ e n=>u.keep b o e n hb<|by simp) (λb o _ hb _ e n=>u.slot b o e n hb<|by simp) (λb o _ e n=>u.free b o e n<|by simp) (λb o _ e=>u.there b o e<|by simp) u.A9 u.AW u.A_ (λm' hm=>by
  obtain⟨o',LW,LX,CD,r'⟩:=hm;rw[ho] at CD;cases CD;exact⟨_,LW,LX,hL,r'⟩) aT I.bare
def Inv.call{ch:List Addr}(I:Inv X pZ σ H s)(u:Un (sS X.stack) ch H H' s.heap h')(aT:fL X.prog X.w H' h')(hg:AllBare g')(iA:∀b∈ch,(b∈X.ex\/X.s₀.heap.objs.size<=b)/\b≠X.env.locals/\(∀x c,X.env.cells.lookup x=aA c->c≠b)/\∀p∈X.pn++pZ,p.1≠b):Inv X pZ σ H' { s with heap:=h',gens:=g',drawn:=d',toks:=t' }:=by
 obtain⟨m,⟨o,es,ep,ho,r⟩,_⟩:=id I.loc;obtain⟨sl,hL⟩:=u.any ho I.free λz=>(iA _ z).2.1 rfl
 exact I.step (ch:=ch) iA (λb o hL hb hc e n=>u.keep b o e n (λz=>(bq.mp<|I.Kw b z).elim hL hb) hc) (λb o _ _ hc e n=>u.any e n hc) (λb o hc e n=>u.free b o e n hc) (λb o hc e=>u.there b o e hc) u.A9 u.AW u.A_ (λm' hm=>by
  obtain⟨o',LW,LX,CD,r'⟩:=hm;rw[ho] at CD;cases CD;exact⟨_,LW,LX,hL,r'⟩) aT hg
def Inv.turned(I:Inv X pZ σ H s)(k:∀b o,b≠it->s.heap.get? b=aA o->h'.get? b=aA o)(hn:H it=aD)(hL:it≠X.env.locals)(h1:it∈X.ex\/X.s₀.heap.objs.size<=it)(h2:∀x c,X.env.cells.lookup x=aA c->c≠it)(h3:∀p∈X.pn++pZ,p.1≠it):Inv X pZ σ H { s with heap:=h',toks:=t' }:=by
 have RT:∀b u,H b=aA u->b≠it:=λb u e z=>by rw[z,hn] at e;cases e
 refine I.step (g':=s.gens) (d':=s.drawn) (ch:=[it]) (λb hb=>?_) (λb o _ _ hc e _=>k b o (λz=>hc<|by simp[z]) e) (λb o _ _ hc e _=>⟨o.slots,k b o (λz=>hc<|by simp[z]) e⟩) (λ_ _ _ _ n=>n)
  (λb o hc e=>⟨o,k b o (λz=>hc<|by simp[z]) e⟩) (λ_ _ e=>e) (λ_ _ _ e=>e) (λb ps e=>⟨#[],by rw[e];simp⟩) (λm hm=>?_) (λb u e=>?_) I.bare
 .have e:b=it:=by simpa using hb
  subst e;exact⟨h1,hL,h2,h3⟩
 .obtain⟨o,es,ep,ho,r⟩:=hm;exact⟨o,es,ep,k _ o (ki hL) ho,r⟩
 .refine(I.aT b u e).A' (λc v hc q=>k c v ?_ q) (λ_ q=>q) (λ_ _ q=>q) λ_ _ _ q=>q
  rcases hc with z|z
  .rw[z];exact RT b u e
  .exact RT c _ z
def Inv.tok(I:Inv X pZ σ H s)(t:Nat):Inv X pZ σ H { s with toks:=t }:=I.un (h':=s.heap) (t':=t) Un.refl I.aT
def Inv.kept(I:Inv X pZ σ H s)(k:∀b u,s.heap.get? b=aA u->h'.get? b=aA u):Inv X pZ σ H { s with heap:=h',toks:=t' }:=I.un (Un.kept k)<|I.aT.kept k
def Inv.laid(I:Inv X pZ σ H s)(k:∀b u,s.heap.get? b=aA u->h'.get? b=aA u)(hp:s.heap.objs.size<=a)(new:fS X.prog X.w (upd H a o) h' a o):Inv X pZ σ (upd H a o) { s with heap:=h',toks:=t' }:=I.un (Un.laid k hp<|I.aT.fresh hp)<|I.aT.laid k hp new
def Inv.write(I:Inv X pZ σ H s)(mu:FS (H x))(he:e=x\/H e=aA (.own x))(k:∀b u,b≠e->s.heap.get? b=aA u->h'.get? b=aA u)(DC:∃u,h'.get? e=aA u)(new:fS X.prog X.w (upd H x o) h' x o):Inv X pZ σ (upd H x o) { s with heap:=h',toks:=t' }:=I.un (Un.write mu he k DC)<|I.aT.write mu he k DC new
def Inv.RJ(I:Inv X pZ σ H s)(h:∀p∈pZ',s.heap.get? p.1=aA p.2/\H p.1=aD/\p.1≠X.env.locals/\p.1∉X.fs/\∀v,p.2.data≠.cell v):Inv X pZ' σ H s:=
 ⟨I.ok,I.os,I.bare,I.base,I.loc,I.cell,I.free,I.AX,λp hp=>(ja.mp hp).elim (λz=>I.pin p<|qp _ z)<|h p,I.aT,I.len⟩
def YE{N:List Str}(hN:N.Nodup){i j:Nat}{x:Str}(a:N[i]?=aA x)(b:N[j]?=aA x):i=j:=by
 obtain⟨h1,e1⟩:=aq.mp a;obtain⟨h2,e2⟩:=aq.mp b;exact(List.getElem_inj hN).mp (e1.trans e2.symm)
def nX{M:Model}{A:Around}{E:Value->Shared->Prop}{i:Nat}{x:Str}{v:V}{u:Value}{Q:Unit->Shared->Prop}(I:Inv X pZ σ H s)(hN:X.N.Nodup)(hi:X.N[i]?=aA x)(hx:Loc X.env.scope x)(r:RelV v u)(h:∀s',Inv X pZ (σ.set i<|some v) H s'->(∃a,gm a s.heap s'.heap/\(a=X.env.locals\/X.env.cells.lookup x=aA a))->Q () s')(hf:m_ X x:=by first|exact .inl rfl|exact .inr rfl|assumption):wpAny M A (storeName X.env x u) Q E s:=by
 obtain⟨m,hn,hl⟩:=id I.loc;have qf5:(X.env.scope.kind == .class || (X.env.scope.kind == .module && X.env.locals != X.env.globals))=false:=by rw[I.ok.kind];rfl
 have S':i<σ.length:=by rw[I.len];exact(aq.mp hi).1
 have CN:=I.CN;have tracked:∀{a:Addr} {h':Heap},(∃o,s.heap.get? a=aA o/\H a=aD)->gm a s.heap h'->fL X.prog X.w H h':=λ{a h'} ha hs b ob e=>by
  obtain⟨_,_,Ta⟩:=ha;refine(I.aT b ob e).A' (λc w' hc q=>(hs.2 c ?_).trans q) (λ_ q=>q) (λ_ _ q=>q) λ_ _ _ q=>q
  rintro rfl;rcases hc with rfl|hc
  .rw[Ta] at e;cases e
  .rw[Ta] at hc;cases hc
 rcases hx with hk|hk
 .refine wpAny_storeName_local hk hn (λh' t_ hs=>?_) qf5;obtain⟨oL,_,_,hoL,_⟩:=id hn;refine h _ ⟨I.ok,I.os,I.bare,⟨λb o e n hb hx=>?_,λb o e n hb hx=>?_,I.base.free,λb o e hx=>?_,I.base.A9,I.base.AW,I.base.A_⟩,⟨_,t_,λj y v' e1 e2 e3=>?_⟩,λy c e=>?_,I.free,I.AX,λp hp=>?_,tracked ⟨oL,hoL,I.free⟩ hs,by simpa using I.len⟩ ⟨_,hs,.inl rfl⟩
  .exact(hs.2 b<|bf<|bb (al e) I.ok.above).trans (I.base.keep b o e n hb hx)
  .obtain⟨sl,e1⟩:=I.base.slot b o e n hb hx;exact⟨sl,(hs.2 b<|bf<|bb (al e) I.ok.above).trans e1⟩
  .obtain⟨o',e1⟩:=I.base.there b o e hx;exact⟨o',(hs.2 b<|bf<|bb (al e) I.ok.above).trans e1⟩
  .by_cases hj:j=i
   .subst hj;rw[hi] at e1;cases e1;rw[zr S'] at e2;cases e2;exact⟨u,r,.inl ⟨hk,by simp⟩⟩
   .rw[jr<|ki hj] at e2;obtain⟨u',r',q⟩:=hl j y v' e1 e2 e3;refine⟨u',r',?_⟩;rcases q with⟨k,e⟩|⟨k,c,e,z⟩
    .refine .inl ⟨k,?_⟩
     have:y≠x:=λe=>hj<|YE hN e1<|e ▸ hi
     simp[this,e]
    .exact .inr ⟨k,c,e,z.sameBut hs<|CN y c e⟩
  .obtain⟨w',z⟩:=I.cell y c e;exact⟨w',z.sameBut hs<|CN y c e⟩
  .obtain⟨e,n,ne,nf,d⟩:=I.pin p hp;exact⟨(hs.2 p.1 ne).trans e,n,ne,nf,d⟩
 .have Lx:X.fn x=true:=by
   rcases hf with z|z
   .exact z
   .rw[z] at hk;cases hk
  obtain⟨c,hc⟩:=I.ok.has x<|.inl hk;obtain⟨w',z⟩:=I.cell x c hc;refine wpAny_storeName_cell I.ok.kind hk hc z λh' CH hs=>?_;obtain⟨oc,SX,qe5⟩:=id z;refine h { s with heap:=h' } ⟨I.ok,I.os,I.bare,⟨λb o e n hb hx=>?_,λb o e n hb hx=>?_,I.base.free,λb o e hx=>?_,I.base.A9,I.base.AW,I.base.A_⟩,⟨m,hn.sameBut hs<|ki<|CN x c hc,λj y v' e1 e2 e3=>?_⟩,λy c' e=>?_,I.free,I.AX,λp hp=>?_,tracked ⟨oc,SX,I.AX x c hc⟩ hs,by simpa using I.len⟩ ⟨c,hs,.inr hc⟩
  .exact(hs.2 b<|bf<|bb (al e)<|I.ok.FC x c Lx hc).trans (I.base.keep b o e n hb hx)
  .obtain⟨sl,e1⟩:=I.base.slot b o e n hb hx;exact⟨sl,(hs.2 b<|bf<|bb (al e)<|I.ok.FC x c Lx hc).trans e1⟩
  .obtain⟨o',e1⟩:=I.base.there b o e hx;exact⟨o',(hs.2 b<|bf<|bb (al e)<|I.ok.FC x c Lx hc).trans e1⟩
  .by_cases hj:j=i
   .subst hj;rw[hi] at e1;cases e1;rw[zr S'] at e2;cases e2;exact⟨u,r,.inr ⟨.inl hk,c,hc,CH⟩⟩
   .rw[jr<|ki hj] at e2;obtain⟨u',r',q⟩:=hl j y v' e1 e2 e3;refine⟨u',r',?_⟩;rcases q with q|⟨k,c',e,z'⟩
    .exact .inl q
    .refine .inr ⟨k,c',e,z'.sameBut hs ?_⟩;rintro rfl;exact hj<|YE hN e1<|I.ok.inj _ _ _ e hc ▸ hi
  .by_cases Fo:c'=c
   .subst Fo;exact⟨_,CH⟩
   .obtain⟨w2,z2⟩:=I.cell y c' e;exact⟨w2,z2.sameBut hs Fo⟩
  .obtain⟨e,n,ne,nf,d⟩:=I.pin p hp;refine⟨(hs.2 p.1 ?_).trans e,n,ne,nf,d⟩;intro q;rw[q,SX] at e;have q':oc=p.2:=bu e;exact d w' (by rw[<-q'];exact qe5)
def mX(I:Inv X pZ σ H s)(hN:X.N.Nodup)(hi:X.N[i]?=aA x)(hx:Loc X.env.scope x)(r:RelV v u)(h:∀s',Inv X pZ (σ.set i<|some v) H s'->Q () s')(hf:m_ X x:=by first|exact .inl rfl|exact .inr rfl|assumption):wpAny M A (storeName X.env x u) Q E s:=
 nX I hN hi hx r (λs' I' _=>h s' I') hf
def Inv.qi7{ch:List Addr}(I:Inv X pZ σ H s)(ho:s'.os=s.os)(u:Un (sS X.stack) ch H H' s.heap s'.heap)(aT:fL X.prog X.w H' s'.heap)(hg:AllBare s'.gens)(iA:∀b∈ch,(b∈X.ex\/X.s₀.heap.objs.size<=b)/\b≠X.env.locals/\(∀x c,X.env.cells.lookup x=aA c->c≠b)/\∀p∈X.pn++pZ,p.1≠b):Inv X pZ σ H' s':=by
 obtain⟨h',g',d',t',o'⟩:=s';have e:o'=s.os:=ho;subst e;exact I.call (g':=g') (t':=t') (d':=d') u aT hg iA
end
abbrev XK:=Value->Option Addr->Hp->Prop
noncomputable abbrev St:=List<|Option V
abbrev VK:=V->Hp->Prop
abbrev TE:=St->Hp->VK->Prop
abbrev TT:=St->Hp->(Bool->Hp->Prop)->Prop
abbrev TA:=St->Hp->(List V->Hp->Prop)->Prop
structure Ends where
 nx:St->Hp->Prop
 rt:VK
 bk:St->Hp->Prop:=λ_ _=>False
 ct:St->Hp->Prop:=λ_ _=>False
abbrev TS:=Ends->St->Hp->Prop
def EP(X:Cx)(pZ:List (Addr×Obj))(σ:St)(Q:VK)(u:Value)(s':Shared):Prop:=∃v H',Inv X pZ σ H' s'/\RelV v u/\Q v H'
def TP(X:Cx)(pZ:List (Addr×Obj))(σ:St)(Q:Bool->Hp->Prop)(b:Bool)(s':Shared):Prop:=∃H',Inv X pZ σ H' s'/\Q b H'
def AP(X:Cx)(pZ:List (Addr×Obj))(σ:St)(Q:List V->Hp->Prop)(us:List Value)(s':Shared):Prop:=∃vs H',Inv X pZ σ H' s'/\Vals vs us/\Q vs H'
def SP(X:Cx)(pZ:List (Addr×Obj))(D:Ends)(f:Flow)(s':Shared):Prop:=
 match f with
 |.next=>∃σ' H',Inv X pZ σ' H' s'/\D.nx σ' H'
 |.brk=>∃σ' H',Inv X pZ σ' H' s'/\D.bk σ' H'
 |.cont=>∃σ' H',Inv X pZ σ' H' s'/\D.ct σ' H'
 |.ret u=>∃v σ' H',Inv X pZ σ' H' s'/\RelV v u/\D.rt v H'
def PE(X:Cx)(e:Expr)(t:TE):Prop:=
 ∀pZ s σ H (Q:VK),Inv X pZ σ H s->t σ H Q->wpAny (model X.prog X.w) X.A (eval e X.env) (EP X pZ σ Q) X.xe s
def PT(X:Cx)(e:Expr)(t:TT):Prop:=
 ∀pZ s σ H (Q:Bool->Hp->Prop),Inv X pZ σ H s->t σ H Q->wpAny (model X.prog X.w) X.A (isTrue e X.env<|eval e X.env) (TP X pZ σ Q) X.xe s
def PW(X:Cx)(e:Expr)(t:TT):Prop:=
 ∀(whole:Sem Value) (pZ:List (Addr×Obj)) (s:Shared) (σ:St) (H:Hp) (Q:Bool->Hp->Prop),Inv X pZ σ H s->t σ H Q->wpAny (model X.prog X.w) X.A (isTrue e X.env whole) (TP X pZ σ Q) X.xe s
def PW.pt(h:PW X e t):PT X e t:=h _
def PA(X:Cx)(es:List Expr)(t:TA):Prop:=
 ∀(pos:Pos) (pZ:List (Addr×Obj)) (s:Shared) (σ:St) (H:Hp) (Q:List V->Hp->Prop),Inv X pZ σ H s->t σ H Q->wpAny (model X.prog X.w) X.A (spliced<|lm pos<|ar es X.env) (AP X pZ σ Q) X.xe s
def PS(X:Cx)(st:Stmt)(t:TS):Prop:=
 ∀pZ s σ H (D:Ends),Inv X pZ σ H s->t D σ H->wpAny (model X.prog X.w) X.A (exec st X.env) (SP X pZ D) X.xe s
def iE(X:Cx)(st:List Stmt)(t:TS):Prop:=
 ∀pZ s σ H (D:Ends),Inv X pZ σ H s->t D σ H->wpAny (model X.prog X.w) X.A (execs st X.env) (SP X pZ D) X.xe s
def aQ(h:wpAny M A t Q E s)(hQ:∀a s,Q a s->Q' a s):wpAny M A t Q' E s:=jp h hQ λ_ _ x=>x
section
noncomputable def v6(i:Nat):TE:=λσ H Q=>∃v,σ[i]?=aA (aA v)/\Q v H
noncomputable def tC(v:V):TE:=λ_ H Q=>Q v H
def Zf(hN:X.N[i]?=aA x)(hv:FD X.env.scope x)(hd:iH x:=by decide)(sQ:(x == ("__classdict__" : Str))=false:=by decide):PE X (.Name x pos) (v6 i):=by
 intro pZ s σ H Q I h;obtain⟨v,e,h⟩:=h;obtain⟨m,hn,hl⟩:=I.loc;obtain⟨u,r,l⟩:=hl i x v hN e hv;have fin:EP X pZ σ Q u s:=⟨v,H,I,r,h⟩;rcases l with⟨hk,hm⟩|⟨hk,c,hc,DH⟩
 .exact wpAny_Name (aah I.ok.kind hk hn hm fin) hd
 .rcases hk with hk|hk
  .exact wpAny_Name (aas I.ok.kind hk hc DH fin) hd
  .exact wpAny_Name (wpAny_loadName_free I.ok.kind hk hc DH fin sQ) hd
def oM{i j pos}:PE X (.Constant (.int i) j pos) (tC<|.int i):=λ_ _ _ H _ I h=>wpAny_Constant_int ⟨.int i,H,I.tok _,⟨_,rfl⟩,h⟩
def VD{b j pos}:PE X (.Constant (.bool b) j pos) (tC<|.bl b):=λ_ _ _ H _ I h=>Constant_bool ⟨.bl b,H,I,rfl,h⟩
def OJ{j pos}:PE X (.Constant .none j pos) (tC .aE):=λ_ _ _ H _ I h=>Constant_none ⟨.aE,H,I,rfl,h⟩
def Ze{x j pos}:PE X (.Constant (.str x) j pos) (tC<|.str x):=λ_ _ _ H _ I h=>Calls.Constant_str ⟨.str x,H,I.tok _,⟨_,rfl⟩,h⟩
def Gl(X:Cx)(x:Str):Prop:=X.env.kindOf x=aA .globalImplicit
def pB(I:Inv X pZ σ H s)(hg:Gl X x)(hm:X.mg x=aA u)(h:Q u s)(hd:iH x:=by decide):wpAny (model X.prog X.w) X.A (eval (.Name x pos) X.env) Q E s:=
 yb I.ok.kind hg (Calls.loadGlobal_global (by rw[I.ok.glob];exact I.mod.glob.keeps I.bk) hm h) hd
def uB(I:Inv X pZ σ H s)(hg:Gl X x)(hm:X.mg x=aD)(hv:bootBuiltins x=aA u)(h:Q u s)(hn:x ≠ "__name__" := by decide)(hd:iH x:=by decide):wpAny (model X.prog X.w) X.A (eval (.Name x pos) X.env) Q E s:=by
 obtain⟨mb,h1,h2⟩:=I.mod.blt;exact yb I.ok.kind hg (Calls.loadGlobal_builtin (by rw[I.ok.glob];exact I.mod.glob.keeps I.bk) hm (by rw[I.ok.blt];exact h1.keeps I.bk) ((h2 x hn).trans hv) h) hd
def PQ(hg:Gl X x)(hm:X.mg x=aA u)(r:RelV v u)(hd:iH x:=by decide):PE X (.Name x pos) (tC v):=
 λ_ _ _ H _ I h=>pB I hg hm ⟨v,H,I,r,h⟩ hd
def gH(hg:Gl X x)(hm:X.mg x=aD)(hv:bootBuiltins x=aA u)(r:RelV v u)(hn:x ≠ "__name__" := by decide)(hd:iH x:=by decide):PE X (.Name x pos) (tC v):=
 λ_ _ _ H _ I h=>uB I hg hm hv ⟨v,H,I,r,h⟩ hn hd
def PC(X:Cx)(op:CmpOp)(a b:Expr)(t:TE):Prop:=
 ∀pZ s σ H (Q:VK),Inv X pZ σ H s->t σ H Q ->
  wpAny (model X.prog X.w) X.A (eval a X.env) (λv s₁=>wpAny (model X.prog X.w) X.A (eval b X.env) (λu s₂=>wpAny (model X.prog X.w) X.A (gq op v u) (EP X pZ σ Q) X.xe s₂) X.xe s₁) X.xe s
def YF(b:Expr)(h:op≠.In)(h2:op≠.NotIn):gr op b=false:=by
 have e1:(op == CmpOp.In)=false:=by cases op<;>first|rfl|exact absurd rfl h
 have e2:(op == CmpOp.NotIn)=false:=by cases op<;>first|rfl|exact absurd rfl h2
 cases b<;>simp[gr,e1,e2]
noncomputable def Ϸ(ta:TE):TE:=λσ H Q=>ta σ H λx H1=>Q (.bl<|decide (x=.aE)) H1
def RelV.qc2(r:RelV x v):(v == Value.none)=decide (x=.aE):=by
 cases x with
 |aE=>cases r;rfl
 |bl _=>cases r;rfl
 |int _=>obtain⟨t,rfl⟩:=r;rfl
 |str _=>obtain⟨t,rfl⟩:=r;rfl
 |l6 _=>obtain⟨t,rfl⟩:=r;rfl
 |B2 _=>obtain⟨t,rfl⟩:=r;rfl
 |ref _=>cases r;rfl
 |ty _=>cases r;rfl
def Za{j pos'}(ha:PE X a ta):PC X .Is a (.Constant .none j pos') (Ϸ ta):=by
 intro pZ s σ H Q I h;refine aQ (ha pZ s σ H _ I h) λv s1 ⟨x,H1,I1,r1,q1⟩=>?_
 exact Constant_none<|is_none_gen ⟨.bl _,H1,I1,by rw[r1.qc2];rfl,q1⟩
noncomputable def tB(t:TE):TT:=λσ H Q=>t σ H λx H1=>∃c,x=.bl c/\Q c H1
def O1(h:PC X op a b t)(h1:gr op b=false:=by first|exact YF _ (by decide) (by decide)|rfl):PE X (.Compare a [op] [b] pos) t:=λpZ s σ H Q I hw=>wpAny_Compare1 (h pZ s σ H Q I hw) h1
def O8(h:PC X op a b t)(h1:gr op b=false:=by first|exact YF _ (by decide) (by decide)|rfl):PT X (.Compare a [op] [b] pos) (tB t):=by
 intro pZ s σ H Q I hw;refine zx (aQ (h pZ s σ H _ I hw) λv s1 h1=>aQ h1 λu s2 h2=>aQ h2 λc s3 ⟨x,H1,I1,r1,q1⟩=>?_) h1;obtain⟨d,rfl,q⟩:=q1;cases r1;exact kq ⟨H1,I1,q⟩
def Zp(h:PE X e t)(he:∀whole,isTrue e X.env whole=(do let v <- whole;standAt e.pos;holding [v] (truthy v)):=by intro _;rfl):PT X e (tB t):=by
 intro pZ s σ H Q I hw;refine isTrue_plain (aQ (h pZ s σ H _ I hw) λv s1 ⟨x,H1,I1,r1,q1⟩=>?_)<|he _;obtain⟨d,rfl,q⟩:=q1;cases r1;exact kq ⟨H1,I1,q⟩
variable{qT:List Expr}
noncomputable def qa1(t u:TT):TT:=λσ H Q=>t σ H λc H1=>if c=true then u σ H1 Q else Q false H1
noncomputable def ϴ(t u:TT):TT:=λσ H Q=>t σ H λc H1=>if c=true then Q true H1 else u σ H1 Q
noncomputable def ϵ(t:TT):TT:=λσ H Q=>t σ H λc H1=>Q (!c) H1
def PX(ha:PT X a tA):PW X (.BoolOp .And [a] pos) tA:=by
 intro wh pZ s σ H Q I h;refine isTrue_and<|aQ (ha pZ s σ H Q I h) λc s1 e=>?_;cases c with
 |true=>exact isTrue_and_nil e
 |false=>exact e
def Zq(ha:PT X a tA):PW X (.BoolOp .Or [a] pos) tA:=by
 intro wh pZ s σ H Q I h;refine isTrue_or<|aQ (ha pZ s σ H Q I h) λc s1 e=>?_;cases c with
 |false=>exact isTrue_or_nil e
 |true=>exact e
def O_(ha:PT X a tA)(hb:PW X (.BoolOp .And (b::qT) pos) Ku):PW X (.BoolOp .And (a::b::qT) pos) (qa1 tA Ku):=by
 intro wh pZ s σ H Q I h;refine isTrue_and<|aQ (ha pZ s σ H _ I h) λc s1 ⟨H1,I1,q1⟩=>?_;cases c with
 |true=>exact hb wh pZ s1 σ H1 Q I1 q1
 |false=>exact⟨H1,I1,q1⟩
def VH(ha:PT X a tA)(hb:PW X (.BoolOp .Or (b::qT) pos) Ku):PW X (.BoolOp .Or (a::b::qT) pos) (ϴ tA Ku):=by
 intro wh pZ s σ H Q I h;refine isTrue_or<|aQ (ha pZ s σ H _ I h) λc s1 ⟨H1,I1,q1⟩=>?_;cases c with
 |true=>exact⟨H1,I1,q1⟩
 |false=>exact hb wh pZ s1 σ H1 Q I1 q1
def Ó(ha:PT X a tA):PT X (.UnaryOp .Not a pos) (ϵ tA):=by
 intro pZ s σ H Q I h;exact isTrue_not<|ha pZ s σ H (λc H1=>Q (!c) H1) I h
noncomputable def VN(ta tb:TE):TE:=λσ H Q=>ta σ H λx H1=>∃c,x=.bl c/\if c=true then tb σ H1 Q else Q (.bl false) H1
noncomputable def V6(ta:TE):TE:=λσ H Q=>ta σ H λx H1=>∃c,x=.bl c/\Q (.bl<|!c) H1
def Zd{op}(h:PE X a t):PE X (.BoolOp op [a] pos) t:=λpZ s σ H Q I hw=>BoolOp_one<|h pZ s σ H Q I hw
def Zb(ha:PE X a ta)(hb:PE X (.BoolOp .And (b::qT) pos) tb):PE X (.BoolOp .And (a::b::qT) pos) (VN ta tb):=by
 intro pZ s σ H Q I h;refine BoolOp_and<|aQ (ha pZ s σ H _ I h) λv s1 ⟨x,H1,I1,r1,q1⟩=>?_;obtain⟨c,rfl,q1⟩:=q1;cases r1;refine kq ?_;cases c with
 |true=>exact hb pZ s1 σ H1 Q I1 q1
 |false=>exact⟨.bl false,H1,I1,rfl,q1⟩
def Zc(ha:PE X a ta):PE X (.UnaryOp .Not a pos) (V6 ta):=by
 intro pZ s σ H Q I h;refine UnaryOp_<|aQ (ha pZ s σ H _ I h) λv s1 ⟨x,H1,I1,r1,q1⟩=>?_;obtain⟨c,rfl,q1⟩:=q1;cases r1;exact not_of<|kq ⟨.bl<|!c,H1,I1,rfl,q1⟩
noncomputable def Ϲ(t:TT)(ta tb:TE):TE:=λσ H Q=>t σ H λc H1=>if c=true then ta σ H1 Q else tb σ H1 Q
def Τ(hc:PT X c tA)(ha:PE X a ta)(hb:PE X b tb):PE X (.IfExp c a b pos) (Ϲ tA ta tb):=by
 intro pZ s σ H Q I h;refine wpAny_IfExp<|aQ (hc pZ s σ H _ I h) λd s1 ⟨H1,I1,q1⟩=>?_;cases d with
 |true=>exact ha pZ s1 σ H1 Q I1 q1
 |false=>exact hb pZ s1 σ H1 Q I1 q1
end
def aX(K:Fg)(H:Hp)(a:Addr)(xs:List V):Prop:=
 Rd H a (.lst xs) \/
  ∃(o:Obj) (its:Array Value) (n:Nat),K.lookup a=aA o/\o.cls=.type "list" /\ o.dict=aD/\o.data=.seq its n/\its.size<=ae/\Vals xs its.toList
def d_(K:Fg)(H:Hp)(a:Addr)(xs:List V):Prop:=
 Rd H a (.tup xs) \/
  ∃(o:Obj) (its:Array Value) (n:Nat),K.lookup a=aA o/\o.cls=.type "tuple" /\ o.data=.seq its n/\its.size<=ae/\Vals xs its.toList
noncomputable def qi9:Value->Option V
 |.none=>aA .aE
 |.bool b=>aA<|.bl b
 |.int i _=>aA<|.int i
 |.str x _=>aA<|.str x
 |.bytes b _=>aA<|.l6 b
 |.float b _=>aA<|.B2 b
 |.ref a=>aA<|.ref a
 |.type n=>aA<|.ty n
 |_=>aD
def RelV.abs(r:RelV x u):qi9 u=aA x:=by
 cases x with
 |aE=>cases r;rfl
 |bl _=>cases r;rfl
 |int _=>obtain⟨t,rfl⟩:=r;rfl
 |str _=>obtain⟨t,rfl⟩:=r;rfl
 |l6 _=>obtain⟨t,rfl⟩:=r;rfl
 |B2 _=>obtain⟨t,rfl⟩:=r;rfl
 |ref _=>cases r;rfl
 |ty _=>cases r;rfl
def RelV.inj(r:RelV x u)(q:RelV y u):x=y:=bu<|r.abs.symm.trans q.abs
def Vals.inj:∀{xs ys:List V} {us:List Value},Vals xs us->Vals ys us->xs=ys
 |_,_,_,.nil,.nil=>rfl
 |_,_,_,.cons r t,.cons r' t'=>by rw[r.inj r',Vals.inj t t']
def aX.of{K:Fg}(h:H a=aA (.lst xs)):aX K H a xs:=.inl<|.inl h
def d_.of{K:Fg}(h:H a=aA (.tup xs)):d_ K H a xs:=.inl<|.inl h
def Inv.list(I:Inv X pZ σ H s)(h:aX X.K H a xs):∃its:List Value,Vals xs its/\PlainL s.heap a its.toArray/\xs.length<=ae:=by
 rcases h with h|⟨o,its,n,hk,hc,hd,hs,hz,r⟩
 .obtain⟨z,its,n,r,e⟩:=h.ok I.aT;exact⟨its,r,⟨_,n,e,rfl,rfl,rfl⟩,z⟩
 .refine⟨its.toList,r,⟨o,n,I.fE a o hk,hc,hd,by simpa using hs⟩,?_⟩;have e:=r.length;simp only[gy] at e;omega
def Inv.tuple(I:Inv X pZ σ H s)(h:d_ X.K H a xs):∃its:List Value,Vals xs its/\IsTup s.heap a its.toArray/\xs.length<=ae:=by
 rcases h with h|⟨o,its,n,hk,hc,hs,hz,r⟩
 .obtain⟨z,its,r,p⟩:=h.ok I.aT;exact⟨its,r,p,z⟩
 .refine⟨its.toList,r,⟨o,I.fE a o hk,hc,n,by simpa using hs⟩,?_⟩;have e:=r.length;simp only[gy] at e;omega
def Inv.Hm(I:Inv X pZ σ H s)(h:aX X.K H a xs)(h':aX X.K H a ys):xs=ys:=by
 obtain⟨its,r,⟨o,n,e,_,_,d⟩,_⟩:=I.list h;obtain⟨its',r',⟨o',n',e',_,_,d'⟩,_⟩:=I.list h';rw[e] at e';cases e';rw[d] at d'
 injection d' with d1 _
 have:its=its':=by simpa using congrArg Array.toList d1
 subst this;exact r.inj r'
def Inv.Kr(I:Inv X pZ σ H s)(h:d_ X.K H a xs)(h':d_ X.K H a ys):xs=ys:=by
 obtain⟨its,r,⟨o,e,_,n,d⟩,_⟩:=I.tuple h;obtain⟨its',r',⟨o',e',_,n',d'⟩,_⟩:=I.tuple h';rw[e] at e';cases e';rw[d] at d'
 injection d' with d1 _
 have:its=its':=by simpa using congrArg Array.toList d1
 subst this;exact r.inj r'
noncomputable abbrev Cx.AI(X:Cx)(E:Value->Shared->Prop):Cx:={ X with xe:=E }
abbrev Cx.AQ(X:Cx):Cx:=X.AI λ_ _=>False
def Cx.Ok.AI{X:Cx}(ok:X.Ok)(E:Value->Shared->Prop):(X.AI E).Ok:=
 ⟨ok.mod,ok.kind,ok.glob,ok.blt,ok.above,ok.inj,ok.has,ok.FC,ok.hd,ok.frames,ok.aO,ok.LU,ok.bs,ok.A0,ok.Df,ok.Fw,ok.u_,ok.CM⟩
def Cx.Ok.Bx{X:Cx}{E:Value->Shared->Prop}(ok:(X.AI E).Ok):X.Ok:=
 ⟨ok.mod,ok.kind,ok.glob,ok.blt,ok.above,ok.inj,ok.has,ok.FC,ok.hd,ok.frames,ok.aO,ok.LU,ok.bs,ok.A0,ok.Df,ok.Fw,ok.u_,ok.CM⟩
def Inv.AI(I:Inv X pZ σ H s)(E:Value->Shared->Prop):Inv (X.AI E) pZ σ H s:=⟨I.ok.AI E,I.os,I.bare,I.base,I.loc,I.cell,I.free,I.AX,I.pin,I.aT,I.len⟩
def Inv.Bx(I:Inv (X.AI E) pZ σ H s):Inv X pZ σ H s:=⟨I.ok.Bx,I.os,I.bare,I.base,I.loc,I.cell,I.free,I.AX,I.pin,I.aT,I.len⟩
def SP.Bx{D:Ends}(h:SP (X.AI E) pZ D f s'):SP X pZ D f s':=by
 cases f with
 |next=>obtain⟨σ',H',I,q⟩:=h;exact⟨σ',H',I.Bx,q⟩
 |brk=>obtain⟨σ',H',I,q⟩:=h;exact⟨σ',H',I.Bx,q⟩
 |cont=>obtain⟨σ',H',I,q⟩:=h;exact⟨σ',H',I.Bx,q⟩
 |ret u=>obtain⟨v,σ',H',I,r,q⟩:=h;exact⟨v,σ',H',I.Bx,r,q⟩
def iE.AQ{st:List Stmt}(h:iE X.AQ st t):iE X st t:=λpZ s σ H D I hw=>
 jp (h pZ s σ H D (I.AI _) hw) (λ_ _ q=>q.Bx) λ_ _ z=>jk z
section
variable{st:Stmt}{qT:List Stmt}
noncomputable def V5:TS:=λD σ H=>D.nx σ H
noncomputable def CZ(t u:TS):TS:=λD σ H=>t { D with nx:=u D } σ H
def PR:iE X [] V5:=λ_ _ σ H _ I h=>ud ⟨σ,H,I,h⟩
def j6(h1:PS X st t)(h2:iE X qT u):iE X (st::qT) (CZ t u):=by
 intro pZ s σ H D I h;refine wpAny_execs_cons<|aQ (h1 pZ s σ H { D with nx:=u D } I h) λf s1 q=>?_;cases f with
 |next=>
  obtain⟨σ',H',I',q⟩:=q;exact h2 pZ s1 σ' H' D I' q
 |ret v=>exact q
 |brk=>exact q
 |cont=>exact q
def oG(h1:PS X st t):iE X [st] t:=by
 intro pZ s σ H D I h;refine wpAny_execs_cons<|aQ (h1 pZ s σ H D I h) λf s1 q=>?_;cases f with
 |next=>exact ud q
 |ret v=>exact q
 |brk=>exact q
 |cont=>exact q
def Inv.quiet(I:Inv X pZ σ H s):interactive X.env=false:=by simp[interactive,I.ok.kind]
noncomputable def NS(te:TE):TS:=λD σ H=>te σ H λ_ H1=>D.nx σ H1
def Z7(he:PE X e te)(hs:js e aD pos.line X.env=pure false:=by rfl):PS X (.Expr e pos) (NS te):=by
 intro pZ s σ H D I h;exact wpAny_Expr_any (aQ (he pZ s σ H _ I h) λv s1 ⟨x,H1,I1,r1,q1⟩=>⟨σ,H1,I1,q1⟩) I.quiet hs
noncomputable def ϳ(te:TE):TS:=λD σ H=>te σ H D.rt
def WN(he:PE X e te):PS X (.Return (aA e) pos) (ϳ te):=by
 intro pZ s σ H D I h;exact wpAny_Return_some<|aQ (he pZ s σ H _ I h) λv s1 ⟨x,H1,I1,r1,q1⟩=>⟨x,σ,H1,I1,r1,q1⟩
noncomputable def ϸ(c:TT)(t u:TS):TS:=λD σ H=>c σ H λb H1=>if b=true then t D σ H1 else u D σ H1
def NM(hc:PT X c tc)(ha:iE X a t)(hb:iE X b u):PS X (.If c a b pos) (ϸ tc t u):=by
 intro pZ s σ H D I h;refine wpAny_If<|aQ (hc pZ s σ H _ I h) λd s1 ⟨H1,I1,q1⟩=>?_;cases d with
 |true=>exact ha pZ s1 σ H1 D I1 q1
 |false=>exact hb pZ s1 σ H1 D I1 q1
end
abbrev TG:=V->St->Hp->(St->Hp->Prop)->Prop
abbrev CO:=List V->St->Hp->(St->Hp->Prop)->Prop
def PG(X:Cx)(target:Expr)(t:TG):Prop:=
 ∀pZ s σ H (v:V) (u:Value) (Q:St->Hp->Prop),Inv X pZ σ H s->RelV v u->t v σ H Q ->
  wpAny (model X.prog X.w) X.A (assign target X.env u) (λ_ s'=>∃σ' H',Inv X pZ σ' H' s'/\Q σ' H') X.xe s
def Au(X:Cx)(ts:List Expr)(t:CO):Prop:=
 ∀pZ s σ H (vs:List V) (us:List Value) (Q:St->Hp->Prop),Inv X pZ σ H s->Vals vs us->t vs σ H Q ->
  wpAny (model X.prog X.w) X.A (assignInOrder ((jw ts X.env).map (·.2)) us) (λ_ s'=>∃σ' H',Inv X pZ σ' H' s'/\Q σ' H') X.xe s
abbrev Me:=V->V->Hp->VK->Prop
def UR(X:Cx)(op:Operator)(t:Me):Prop:=
 ∀pZ s σ H (x y:V) (v u:Value) (Q:VK),Inv X pZ σ H s->RelV x v->RelV y u->t x y H Q ->
  wpAny (model X.prog X.w) X.A (inplaceOp op v u) (EP X pZ σ Q) X.xe s
noncomputable def QW(i:Nat):TG:=λv σ H Q=>Q (σ.set i<|some v) H
def YA(hN:X.N.Nodup)(hi:X.N[i]?=aA x)(hx:Loc X.env.scope x)(hf:m_ X x:=by first|exact .inl rfl|exact .inr rfl|assumption):PG X (.Name x pos) (QW i):=by
 intro pZ s σ H v u Q I r h;exact wpAny_assign_Name<|mX I hN hi hx r (λs' I'=>⟨_,H,I',h⟩) hf
noncomputable def qg8:CO:=λvs σ H Q=>vs=[]/\Q σ H
noncomputable def Vp(t:TG)(u:CO):CO:=λvs σ H Q=>∃v r,vs=v::r/\t v σ H λσ' H'=>u r σ' H' Q
def Ĳ:Au X [] qg8:=by
 intro pZ s σ H vs us Q I r h;obtain⟨e,h⟩:=h;subst e;cases r;exact assignInOrder_nil ⟨σ,H,I,h⟩
def Χ(h1:PG X e t)(h2:Au X es u)(hs:(jw (e::es) X.env).map (·.2)=assign e X.env::(jw es X.env).map (·.2):=by rfl):Au X (e::es) (Vp t u):=by
 intro pZ s σ H vs us Q I r h;obtain⟨v,vr,e1,h⟩:=h;subst e1;cases r with
 |cons r rr=>
  rw[hs];refine assignInOrder_cons<|aQ (h1 pZ s σ H _ _ _ I r h) λ_ s1 ⟨σ1,H1,I1,q1⟩=>?_;exact h2 pZ s1 σ1 H1 _ _ Q I1 rr q1
def qg7(K:Fg)(n:Nat)(t:CO):TG:=λv σ H Q=>∃a xs,v=.ref a/\d_ K H a xs/\xs.length=n/\t xs σ H Q
def Ë(hc:X.calm=true)(h:Au X es t)(hn:(jw es X.env).length=n:=by rfl)(iN:(jw es X.env).findIdx? (·.1)=aD:=by rfl):PG X (.Tuple es k pos) (qg7 X.K n t):=by
 intro pZ s σ H v u Q I r hw;obtain⟨a,xs,e1,hq,hl,hw⟩:=hw;subst e1;cases r;obtain⟨its,rv,ht,hz⟩:=I.tuple hq;refine assign_Tuple_tuple (I.ok.hd hc) ht (by simp[hn,<-hl,rv.length]) iN λh' hx=>?_
 have I1:Inv X pZ σ H { s with heap:=h' }:=I.kept (t':=s.toks) λb o e=>hx b o (bf<|al e) e
 exact h pZ _ σ H xs _ Q I1 (by simpa using rv) hw
noncomputable def IN(te:TE)(g:TG):TS:=λD σ H=>te σ H λx H1=>g x σ H1 D.nx
def Ñ(he:PE X e te)(hg:PG X tg g)(hs:swapsWithSole [tg] e pos.line X.env=pure false:=by rfl)(hw:swappedStores [tg] e X.env=pure aD:=by rfl)(h1:(jw [tg] X.env).map (·.2)=[assign tg X.env]:=by rfl):PS X (.Assign [tg] e pos) (IN te g):=by
 intro pZ s σ H D I h;refine wpAny_Assign_stores (aQ (he pZ s σ H _ I h) λv s1 ⟨x,H1,I1,r1,q1⟩=>?_) hs hw;rw[h1];exact aQ (hg pZ s1 σ H1 x v _ I1 r1 q1) λ_ s2 q=>q
def oH(hN:X.N.Nodup)(hi:X.N[i]?=aA x)(hx:Loc X.env.scope x)(he:PE X e te)(hs:js e (aA<|.Name x pos') pos.line X.env=pure false:=by rfl)(hf:m_ X x:=by first|exact .inl rfl|exact .inr rfl|assumption):PS X (.Assign [.Name x pos'] e pos) (IN te<|QW i):=by
 intro pZ s σ H D I h;refine wpAny_Assign_Name (aQ (he pZ s σ H _ I h) λv s1 ⟨y,H1,I1,r1,q1⟩=>?_) hs;exact mX I1 hN hi hx r1 (λs2 I2=>⟨_,H1,I2,q1⟩) hf
noncomputable def qa0(i:Nat)(te:TE)(ti:Me):TS:=λD σ H=>∃x,σ[i]?=aA (aA x)/\te σ H λy H1=>ti x y H1 λz H2=>D.nx (σ.set i<|some z) H2
def Ò(hN:X.N.Nodup)(hi:X.N[i]?=aA x)(hx:Loc X.env.scope x)(he:PE X e te)(ho:UR X op ti)(hf:m_ X x:=by first|exact .inl rfl|exact .inr rfl|assumption):PS X (.AugAssign (.Name x pos') op e pos) (qa0 i te ti):=by
 intro pZ s σ H D I h;obtain⟨v,e1,h⟩:=h;obtain⟨m,hn,hl⟩:=I.loc;have Ϧ:FD X.env.scope x:=by rcases hx with k|k;exact .inl k;exact .inr<|.inl k
 obtain⟨u,r,l⟩:=hl i x v hi e1 Ϧ;refine wpAny_AugAssign_Name ?_;have go:wpAny (model X.prog X.w) X.A (eval e X.env) (λw s₂=>wpAny (model X.prog X.w) X.A (inplaceOp op u w) (λr s₃=>wpAny (model X.prog X.w) X.A (storeName X.env x r) (λ_=>SP X pZ D .next) X.xe s₃) X.xe s₂) X.xe s:=by
  refine aQ (he pZ s σ H _ I h) λw s1 ⟨y,H1,I1,r1,q1⟩=>?_
  refine aQ (ho pZ s1 σ H1 v y u w _ I1 r r1 q1) λz s2 ⟨zv,H2,I2,r2,q2⟩=>?_
  exact mX I2 hN hi hx r2 (λs3 I3=>⟨_,H2,I3,q2⟩) hf
 rcases l with⟨hk,hm⟩|⟨hk,c,hc,DH⟩
 .exact aah I.ok.kind hk hn hm go
 .rcases hk with hk|hk
  .exact aas I.ok.kind hk hc DH go
  .rcases hx with k|k
   .have:X.env.scope.names.lookup x=aA .free:=hk
    rw[k] at this;cases this
   .have:X.env.scope.names.lookup x=aA .free:=hk
    rw[k] at this;cases this
noncomputable def ipI(f:Int->Int->Int):Me:=λx y H Q=>∃i j,x=.int i/\y=.int j/\Q (.int<|f i j) H
def Yg:UR X .Add (ipI λi j=>i+j):=by
 intro pZ s σ H x y v u Q I r1 r2 h;obtain⟨i,j,e1,e2,q⟩:=h;subst e1;subst e2;obtain⟨t,rfl⟩:=r1;obtain⟨t',rfl⟩:=r2;exact iadd_int ⟨.int _,H,I.tok _,⟨_,rfl⟩,q⟩
def Á(c:TT)(tb:TS):TS:=λD σ H=>∃W:Nat->St->Hp->Prop,(∃m,W m σ H)/\∀m σ H,W m σ H ->
 c σ H λb H1=>if b=true then ∃N:St->Hp->Prop,(∀σ' H',N σ' H'->∃m',m'<m/\W m' σ' H')/\tb { D with nx:=N,ct:=N,bk:=D.nx } σ H1 else D.nx σ H1
def Z6(hp:PassesOwn (model X.prog X.w) X.A X.env X.xe)(hc:PT X c tc)(hb:iE X body tb):PS X (.While c body [] pos) (Á tc tb):=by
 intro pZ s σ H D I h;obtain⟨W,⟨m0,w0⟩,turn⟩:=h;refine wpAny_While<|codeAny_whileLoop (λn s'=>∃σ' H',Inv X pZ σ' H' s'/\W n σ' H') ?_ m0 ⟨σ,H,I,w0⟩;rintro n s1 ⟨σ1,H1,I1,w1⟩;refine mh hp<|aQ (hc pZ s1 σ1 H1 _ I1<|turn n σ1 H1 w1) λb s2 ⟨H2,I2,q2⟩=>?_;cases b with
 |true=>
  obtain⟨N,hN,q2⟩:=q2;rw[if_pos rfl];refine mh hp<|aQ (hb pZ s2 σ1 H2 _ I2 q2) λf s3 q3=>?_;cases f with
  |next=>
   obtain⟨σ3,H3,I3,n3⟩:=q3;obtain⟨m',hm,w3⟩:=hN σ3 H3 n3;exact⟨m',hm,σ3,H3,I3,w3⟩
  |cont=>
   obtain⟨σ3,H3,I3,n3⟩:=q3;obtain⟨m',hm,w3⟩:=hN σ3 H3 n3;exact⟨m',hm,σ3,H3,I3,w3⟩
  |brk=>exact q3
  |ret v=>exact q3
 |false=>
  rw[if_neg av];exact ud ⟨σ1,H2,I2,q2⟩
structure It where
 go:Nat->Hp->Prop
 EM:Nat->Hp->V->Hp->Prop
 stop:Nat->Hp->Prop
def rC(X:Cx)(pZ:List (Addr×Obj))(H:Hp)(b:Addr):Prop:=
 H b=aD/\b≠X.env.locals/\b∉X.fs/\(b∈X.ex\/X.s₀.heap.objs.size<=b)/\(∀x c,X.env.cells.lookup x=aA c->c≠b)/\∀p∈X.pn++pZ,p.1≠b
def Inv.B1(I:Inv X pZ σ H s)(hb:s.heap.objs.size<=b)(hn:H' b=aD):rC X pZ H' b:=by
 refine⟨hn,ib<|bb I.lt hb,I.qc3 hb,.inr<|cg I.sz hb,λx c e z=>?_,λp hp z=>?_⟩
 .obtain⟨v,q⟩:=I.cell x c e;exact absurd (bb q.lt (by rw[z];exact hb))<|iw _
 .exact absurd (bb (al (I.pin p hp).1) (by rw[z];exact hb))<|iw _
structure Turn(P:Program)(w:World)(K:Fg)(tg:Expr)(J:It)(fp:List Addr)(it:Addr)(tn:Nat->Heap->Prop):Prop where
 mem:it∈fp
 obj:∀i h,tn i h->∀b∈fp,∃o,h.get? b=aA o/\∀v,o.data≠.cell v
 keep:∀i h h',tn i h->(∀b∈fp,∀o,h.get? b=aA o->h'.get? b=aA o)->tn i h'
 item:∀(X:Cx),X.prog=P->X.w=w->X.K=K->X.calm=true->∀(i:Nat) (pZ:List (Addr×Obj)) (s:Shared) (σ:St) (H:Hp) (E:Value->Shared->Prop),Inv X pZ σ H s->(∀b∈fp,rC X pZ H b)->tn i s.heap->J.go i H ->
  wpAny (model P w) X.A (pyNext<|.ref it) (λr s1=>∃u,r=aA u /\
   wpAny (model P w) X.A (letOwnedTupleGo tg (.ref it) u) (λ_ s2=>∃x H',Inv X pZ σ H' s2/\RelV x u/\J.EM i H x H'/\tn (i+1) s2.heap/\∀b∈fp,H' b=aD) E s1) E s
 done:∀(X:Cx),X.prog=P->X.w=w->X.K=K->X.calm=true->∀(i:Nat) (pZ:List (Addr×Obj)) (s:Shared) (σ:St) (H:Hp) (E:Value->Shared->Prop),Inv X pZ σ H s->(∀b∈fp,rC X pZ H b)->tn i s.heap->J.stop i H ->
  wpAny (model P w) X.A (pyNext<|.ref it) (λr s1=>r=aD/\Inv X pZ σ H s1) E s
 self:∀(A:Around) (i:Nat) (s:Shared) (Q:Value->Shared->Prop) (E:Value->Shared->Prop),tn i s.heap->Q (.ref it) s->wpAny (model P w) A (pyIter<|.ref it) Q E s
abbrev TI:=St->Hp->(It->Hp->Prop)->Prop
def US(X:Cx)(pZ:List (Addr×Obj))(σ:St)(tg:Expr)(R:It->Hp->Prop)(Hx:Value)(s2:Shared):Prop:=
 ∃(it:Addr) (fp:List Addr) (tn:Nat->Heap->Prop) (J:It) (H':Hp),Hx=.ref it/\Inv X pZ σ H' s2/\Turn X.prog X.w X.K tg J fp it tn/\tn 0 s2.heap/\(∀b∈fp,rC X pZ H' b)/\R J H'
def PI(X:Cx)(tg iter:Expr)(wi:TI):Prop:=
 ∀pZ s σ H (R:It->Hp->Prop),Inv X pZ σ H s->wi σ H R ->
  wpAny (model X.prog X.w) X.A (eval iter X.env) (λv s1=>wpAny (model X.prog X.w) X.A (pyIter v) (US X pZ σ tg R) X.xe s1) X.xe s
def EF(ho:s.heap.get? it=aA o)(hc:o.cls=.type n)(hd:o.data=.fields vs)(hn:["enumerate", "zip", "dict_itemiterator", "dict_reverseitemiterator", "odict_iterator", "itertools.zip_longest", "itertools.pairwise"].contains n=false)(hQ:Q () s):wpAny M A (letOwnedTupleGo tg (.ref it) u) Q E s:=by
 unfold letOwnedTupleGo;cases tg<;>first
  |exact af hQ
  |(cases u<;>first
    |exact af hQ
    |(refine ac (wpAny_load ho ?_)
      rw[hc,hd];show wpAny M A (if (["enumerate", "zip", "dict_itemiterator", "dict_reverseitemiterator", "odict_iterator", "itertools.zip_longest", "itertools.pairwise"].contains n && vs[0]? == aA (rawInt _))=true then _ else _) Q E s;rw[if_neg (by intro h;rw[hn,Bool.false_and] at h;cases h)];exact af hQ))
def Nh(K:Fg)(a:Addr):It:=
 ⟨λi H=>∃xs x,aX K H a xs/\xs[i]?=aA x,λi H x H'=>H'=H/\∀xs,aX K H a xs->xs[i]?=aA x,λi H=>∃xs,aX K H a xs/\xs.length<=i⟩
def Ng(K:Fg)(a:Addr):It:=
 ⟨λi H=>∃xs x,d_ K H a xs/\xs[i]?=aA x,λi H x H'=>H'=H/\∀xs,d_ K H a xs->xs[i]?=aA x,λi H=>∃xs,d_ K H a xs/\xs.length<=i⟩
noncomputable def Iv(lo:Int)(n:Nat):It:=⟨λi _=>i<n,λi H x H'=>H'=H/\x=.int (lo+i),λi _=>n<=i⟩
def X7{K:Fg}(a it:Addr):Turn P w K tg (Nh K a) [it] it (λi h=>h.IsListIter it a i) where
 mem:=by simp
 obj:=λi h st b hb=>by
  have e:b=it:=by simpa using hb
  subst e;obtain⟨o,e,c,d⟩:=st;exact⟨o,e,λv z=>by rw[d] at z;cases z⟩
 keep:=λi h h' st k=>st.at λo e=>k it (by simp) o e
 item:=by
  intro X hP hw hK hc i pZ s σ H E I hf st hg;subst hP hw hK;obtain⟨xs,x,hq,hx⟩:=hg;obtain⟨its,rv,p,hz⟩:=I.list hq;obtain⟨u,hu,ru⟩:=rv.get hx;obtain⟨f0,f1,f2,f3,f4,f5⟩:=hf it (by simp);refine tq st p.isList (x:=u) (by simpa using hu) λh' aS sb=>?_
  have I1:Inv X pZ σ H { s with heap:=h' }:=I.turned (t':=s.toks) (λb o hb e=>(sb.2 b hb).trans e) f0 f1 f3 f4 f5;obtain⟨o,e,c,d⟩:=id aS;exact⟨u,rfl,EF (s:={ s with heap:=h' }) e c d (by decide) ⟨x,H,I1,ru,⟨rfl,λys hy=>by rw[I.Hm hy hq];exact hx⟩,aS,λb hb=>(hf b hb).1⟩⟩
 done:=by
  intro X hP hw hK hc i pZ s σ H E I hf st hg;subst hP hw hK;obtain⟨xs,hq,hx⟩:=hg;obtain⟨its,rv,p,hz⟩:=I.list hq;obtain⟨f0,f1,f2,f3,f4,f5⟩:=hf it (by simp);have hl:=rv.length;exact uf (I.ok.hd hc) st p.isList (by simp;omega) λh' eb=>⟨rfl,I.turned (t':=s.toks) (λb o hb e=>eb b o hb e) f0 f1 f3 f4 f5⟩
 self:=λ_ _ _ _ _ st h=>wpAny_pyIter_listiter st h
def rQ{K:Fg}(a it:Addr):Turn P w K tg (Ng K a) [it] it (λi h=>h.IsTupleIter it a i) where
 mem:=by simp
 obj:=λi h st b hb=>by
  have e:b=it:=by simpa using hb
  subst e;obtain⟨o,e,c,d⟩:=st;exact⟨o,e,λv z=>by rw[d] at z;cases z⟩
 keep:=λi h h' st k=>st.at λo e=>k it (by simp) o e
 item:=by
  intro X hP hw hK hc i pZ s σ H E I hf st hg;subst hP hw hK;obtain⟨xs,x,hq,hx⟩:=hg;obtain⟨its,rv,p,hz⟩:=I.tuple hq;obtain⟨u,hu,ru⟩:=rv.get hx;obtain⟨f0,f1,f2,f3,f4,f5⟩:=hf it (by simp);refine wpAny_pyNext_tuple_item st (show s.heap.IsTuple a its.toArray from p) (x:=u) (by simpa using hu) λh' aS sb=>?_
  have I1:Inv X pZ σ H { s with heap:=h' }:=I.turned (t':=s.toks) (λb o hb e=>(sb.2 b hb).trans e) f0 f1 f3 f4 f5;obtain⟨o,e,c,d⟩:=id aS;exact⟨u,rfl,EF (s:={ s with heap:=h' }) e c d (by decide) ⟨x,H,I1,ru,⟨rfl,λys hy=>by rw[I.Kr hy hq];exact hx⟩,aS,λb hb=>(hf b hb).1⟩⟩
 done:=by
  intro X hP hw hK hc i pZ s σ H E I hf st hg;subst hP hw hK;obtain⟨xs,hq,hx⟩:=hg;obtain⟨its,rv,p,hz⟩:=I.tuple hq;obtain⟨f0,f1,f2,f3,f4,f5⟩:=hf it (by simp);have hl:=rv.length;exact wpAny_pyNext_tuple_end (I.ok.hd hc) st (show s.heap.IsTuple a its.toArray from p) (by simp;omega) λh' eb=>⟨rfl,I.turned (t':=s.toks) (λb o hb e=>eb b o hb e) f0 f1 f3 f4 f5⟩
 self:=λ_ _ _ _ _ st h=>wpAny_pyIter_tupleiter st h
def rR{K:Fg}(it:Addr)(lo:Int)(n:Nat):Turn P w K tg (Iv lo n) [it] it (λi h=>IsRangeIter h it (lo+(i:Nat)*1) ((n:Int)-(i:Nat)) 1) where
 mem:=by simp
 obj:=λi h st b hb=>by
  have e:b=it:=by simpa using hb
  subst e;exact⟨_,st,λv z=>by
   have z':Data.fields _=Data.cell v:=z;cases z'⟩
 keep:=λi h h' st k=>k it (by simp) _ st
 item:=by
  intro X hP hw hK hc i pZ s σ H E I hf st hg;subst hP hw hK;obtain⟨f0,f1,f2,f3,f4,f5⟩:=hf it (by simp);have W:=Walks.range (prog:=X.prog) (w:=X.w) (I.ok.hd hc) it lo 1 n;refine W.item i s _ _ hg st λv h' tk hv aS kk=>?_
  obtain⟨t,rfl⟩:=hv;have I1:Inv X pZ σ H { s with heap:=h',toks:=tk }:=I.turned (λb o hb e=>kk b o (by simpa using hb) e) f0 f1 f3 f4 f5;refine⟨_,rfl,EF (s:={ s with heap:=h',toks:=tk }) (n:="range_iterator") aS rfl rfl (by decide) ⟨.int<|lo+i,H,I1,⟨t,?_⟩,⟨rfl,rfl⟩,aS,λb hb=>(hf b hb).1⟩⟩;rw[Int.mul_one]
 done:=by
  intro X hP hw hK hc i pZ s σ H E I hf st hg;subst hP hw hK;obtain⟨f0,f1,f2,f3,f4,f5⟩:=hf it (by simp);exact wpAny_pyNext_range_end (I.ok.hd hc) st (by have:n<=i:=hg;omega) λh' eb=>⟨rfl,I.turned (t':=s.toks) (λb o hb e=>eb b o hb e) f0 f1 f3 f4 f5⟩
 self:=λ_ _ _ _ _ st h=>wpAny_pyIter_rangeiter st h
def ζ{R:It->Hp->Prop}{lo:Int}(I:Inv X pZ σ H s)(h1 : -(2 ^ 62)<=lo)(h2:lo<2 ^ 62)(h3 : -(2 ^ 62)<=hi)(h4:hi<2 ^ 62)(q:R (Iv lo (hi-lo).toNat) H):wpAny (model X.prog X.w) X.A (pyIter<|.ref s.heap.objs.size) (US X pZ σ tg R) E { s with heap:=s.heap.push { cls:=.type "range",data:=.fields #[.int lo t,.int hi u,.int 1 v] },toks:=tk }:=by
 refine wpAny_pyIter_range (IsRange.new ..) (small_one h1 h2 h3 h4) ?_;have I1:Inv X pZ σ H { s with heap:=s.heap.push { cls:=.type "range",data:=.fields #[.int lo t,.int hi u,.int 1 v] },toks:=tk }:=I.kept λb o e=>ad _ e
 refine⟨(s.heap.push { cls:=.type "range",data:=.fields #[.int lo t,.int hi u,.int 1 v] }).objs.size,[(s.heap.push { cls:=.type "range",data:=.fields #[.int lo t,.int hi u,.int 1 v] }).objs.size],_,_,H,rfl,
  I1.kept (t':=tk) λb o e=>ad _ e,rR _ lo (hi-lo).toNat,?_,λb hb=>?_,q⟩
 .have e1:lo+((0:Nat):Int)*1=lo:=by simp
  have e2:(((hi-lo).toNat:Nat):Int)-((0:Nat):Int)=Builtin.Range.rangeSize lo hi 1:=by rw[rangeSize_one];split<;>omega
  show IsRangeIter _ _ (lo+((0:Nat):Int)*1) ((((hi-lo).toNat:Nat):Int)-((0:Nat):Int)) 1;rw[e1,e2];exact ay _ rfl
 .have e:b=(s.heap.push { cls:=.type "range",data:=.fields #[.int lo t,.int hi u,.int 1 v] }).objs.size:=by simpa using hb
  subst e;exact I1.B1 (ah _)<|I1.aT.fresh<|ah _
def Vr(ta:TA):TI:=λσ H R=>ta σ H λvs H1=>∃j:Int,vs=[.int j]/\-(2 ^ 62)<=j/\j<2 ^ 62/\R (Iv 0 j.toNat) H1
def WT(hg:Gl X "range")(hm:X.mg "range" = aD)(ha:PA X [a] ta)(hs:ar [a] X.env=[(false,eval a X.env)]:=by rfl):PI X tg (.Call (.Name "range" p) [a] [] pos) (Vr ta):=by
 intro pZ s σ H R I h;refine Call_<|uB I hg hm boot_range<|fq (aQ (ha pos pZ s σ H _ I h) λus s1 ⟨vs,H1,I1,r1,q1⟩=>?_) hs rfl;obtain⟨j,e,q1,q2,q⟩:=q1;subst e;cases r1 with
 |cons r rr=>
  cases rr;obtain⟨t,rfl⟩:=r;exact call_range_1 (ζ I1 (by omega) (by omega) q1 q2<|by simpa using q)
def Ϻ(wi:TI)(g:TG)(tb:TS):TS:=λD σ H=>wi σ H λJ H1=>∃W:Nat->Nat->St->Hp->Prop,(∃m,W 0 m σ H1)/\∀i m σ H,W i m σ H ->
 (J.stop i H/\D.nx σ H)\/(J.go i H/\∃N:St->Hp->Prop,(∀σ' H',N σ' H'->∃m',m'<m/\W (i+1) m' σ' H')/\∀x H',J.EM i H x H'->g x σ H' λσ2 H2=>tb { D with nx:=N,ct:=N,bk:=D.nx } σ2 H2)
noncomputable def oJ(fp:List Addr)(h:Heap):List (Addr×Obj):=fp.filterMap λb=>(h.get? b).map λo=>(b,o)
def vE(hb:b∈fp)(e:h.get? b=aA o):(b,o)∈oJ fp h:=vo.mpr ⟨b,hb,by rw[e];rfl⟩
def W5(hp:p∈oJ fp h):p.1∈fp/\h.get? p.1=aA p.2:=by
 obtain⟨b,hb,e⟩:=vo.mp hp;cases q:h.get? b with
 |none=>rw[q] at e;cases e
 |some o=>
  rw[q] at e;have e':(b,o)=p:=bu e;subst e';exact⟨hb,q⟩
def Inv.pinned(I:Inv X pZ σ H s)(hf:∀b∈fp,rC X pZ H b)(ho:∀b∈fp,∃o,s.heap.get? b=aA o/\∀v,o.data≠.cell v):Inv X (pZ++oJ fp s.heap) σ H s:=
 I.RJ λp hp=>(ja.mp hp).elim (λz=>I.pin p<|ft _ z) λz=>by
  obtain⟨hb,e⟩:=W5 z;obtain⟨f0,f1,f2,_⟩:=hf p.1 hb;obtain⟨o,e',d⟩:=ho p.1 hb;rw[e] at e';cases e';exact⟨e,f0,f1,f2,d⟩
def Inv.GW{pl:List (Addr×Obj)}(I:Inv X (pZ++pl) σ H s):Inv X pZ σ H s:=I.RJ λp hp=>I.pin p<|ft _<|qp _ hp
def OW(hp:PassesOwn (model X.prog X.w) X.A X.env X.xe)(hc:X.calm=true)(hi:PI X tg iter wi)(hg:PG X tg g)(hb:iE X body tb)(hs:∀x,iq iter X.env x=pure x:=by intro _;rfl):PS X (.For tg iter body [] pos) (Ϻ wi g tb):=by
 intro pZ s σ H D I h;refine wpAny_For (aQ (hi pZ s σ H _ I h) λv s1 h1=>aQ h1 λHx s2 h2=>?_) hs;obtain⟨it,fp,tn,J,H2,e,I2,T,fU,f2,W,⟨m0,w0⟩,turn⟩:=h2;subst e;have Kx:∀{H':Hp},(∀b∈fp,H' b=aD)->∀b∈fp,rC X pZ H' b:=λhn b hb=>⟨hn b hb,(f2 b hb).2⟩
 refine codeAny_forLoop_any (λn s'=>∃i σ' H',Inv X pZ σ' H' s'/\tn i s'.heap/\(∀b∈fp,H' b=aD)/\W i n σ' H') ?_ m0 ⟨0,σ,H2,I2,fU,λb hb=>(f2 b hb).1,w0⟩;rintro n s3 ⟨i,σ3,H3,I3,iR,Tk,w3⟩;rcases turn i n σ3 H3 w3 with⟨stop,qn⟩|⟨go,N,hN,step⟩
 .refine mh hp<|aQ (T.done X rfl rfl rfl hc i pZ s3 σ3 H3 X.xe I3 (Kx Tk) iR stop) λr s4 ⟨hr,I4⟩=>?_;subst hr;exact ud ⟨σ3,H3,I4,qn⟩
 .refine mh hp<|aQ (T.item X rfl rfl rfl hc i pZ s3 σ3 H3 X.xe I3 (Kx Tk) iR go) λr s4 ⟨u,hr,h4⟩=>?_;subst hr;refine mh hp<|aQ h4 λ_ s5 ⟨x,H5,I5,r5,y5,C',HK⟩=>?_;have I5':=I5.pinned (Kx HK)<|T.obj _ _ C';refine mh hp<|aQ (hg _ s5 σ3 H5 x u _ I5' r5<|step x H5 y5) λ_ s6 ⟨σ6,H6,I6,q6⟩=>?_;refine mh hp<|aQ (hb _ s6 σ6 H6 _ I6 q6) λf s7 q7=>?_;have again:∀{σ7:St} {H7:Hp},Inv X (pZ++oJ fp s5.heap) σ7 H7 s7->N σ7 H7->∃m,m<n/\∃i σ' H',Inv X pZ σ' H' s7/\tn i s7.heap/\(∀b∈fp,H' b=aD)/\W i m σ' H':=λ{σ7 H7} I7 n7=>by
   obtain⟨m',hm,w7⟩:=hN σ7 H7 n7;refine⟨m',hm,i+1,σ7,H7,I7.GW,T.keep _ _ _ C' λb hb o e=>(I7.pin (b,o)<|ft _<|ft _<|vE hb e).1,λb hb=>?_,w7⟩;obtain⟨o,e,d⟩:=T.obj _ _ C' b hb;exact(I7.pin (b,o)<|ft _<|ft _<|vE hb e).2.1
  cases f with
  |next=>obtain⟨σ7,H7,I7,n7⟩:=q7;exact again I7 n7
  |cont=>obtain⟨σ7,H7,I7,n7⟩:=q7;exact again I7 n7
  |brk=>obtain⟨σ7,H7,I7,q7⟩:=q7;exact⟨σ7,H7,I7.GW,q7⟩
  |ret v=>obtain⟨x7,σ7,H7,I7,r7,q7⟩:=q7;exact⟨x7,σ7,H7,I7.GW,r7,q7⟩
abbrev R2:=V->V->Hp->VK->Prop
def eY(X:Cx)(f:Value->Value->Sem Value)(r:R2):Prop:=
 ∀pZ s σ H (x y:V) (v u:Value) (Q:VK),Inv X pZ σ H s->RelV x v->RelV y u->r x y H Q ->
  wpAny (model X.prog X.w) X.A (f v u) (EP X pZ σ Q) X.xe s
def HU(X:Cx)(f:Value->Sem Value)(r:V->Hp->VK->Prop):Prop:=
 ∀pZ s σ H (x:V) (v:Value) (Q:VK),Inv X pZ σ H s->RelV x v->r x H Q ->
  wpAny (model X.prog X.w) X.A (f v) (EP X pZ σ Q) X.xe s
def iW(X:Cx)(f:Value)(r:List V->Hp->VK->Prop):Prop:=
 ∀pZ s σ H (xs:List V) (us:List Value) (Q:VK),Inv X pZ σ H s->Vals xs us->r xs H Q ->
  wpAny (model X.prog X.w) X.A (call f us) (EP X pZ σ Q) X.xe s
def qj1(X:Cx)(r:V->Hp->(Bool->Hp->Prop)->Prop):Prop:=
 ∀pZ s σ H (x:V) (v:Value) (Q:Bool->Hp->Prop),Inv X pZ σ H s->RelV x v->r x H Q ->
  wpAny (model X.prog X.w) X.A (truthy v) (TP X pZ σ Q) X.xe s
noncomputable def EQ(r:R2)(ta tb:TE):TE:=λσ H Q=>ta σ H λx H1=>tb σ H1 λy H2=>r x y H2 Q
def Qu(r:V->Hp->VK->Prop)(ta:TE):TE:=λσ H Q=>ta σ H λx H1=>r x H1 Q
noncomputable def rI(C:Int->Int->Prop)(g:Int->Int->V):R2:=λx y H Q=>∃i j,x=.int i/\y=.int j/\C i j/\Q (g i j) H
noncomputable def sK(g:Int->Int->V):R2:=λx y H Q=>∃i j,x=.int i/\y=.int j/\Q (g i j) H
def rU(g:Int->V):V->Hp->VK->Prop:=λx H Q=>∃i,x=.int i/\Q (g i) H
def L6(ha:PE X a ta)(hb:PE X b tb){pZ:List (Addr×Obj)}{s:Shared}{σ:St}{H:Hp}{R:V->V->Hp->Prop}(I:Inv X pZ σ H s)(h:ta σ H λx H1=>tb σ H1 λy H2=>R x y H2){Q:Value->Shared->Prop}{f:Value->Value->Sem Value}(hf:∀v u s2 x y H2,Inv X pZ σ H2 s2->RelV x v->RelV y u->R x y H2->wpAny (model X.prog X.w) X.A (f v u) Q X.xe s2):wpAny (model X.prog X.w) X.A (eval a X.env) (λv s₁=>wpAny (model X.prog X.w) X.A (eval b X.env) (λu s₂=>wpAny (model X.prog X.w) X.A (f v u) Q X.xe s₂) X.xe s₁) X.xe s:=by
 refine aQ (ha pZ s σ H _ I h) λv s1 ⟨x,H1,I1,r1,q1⟩=>?_
 refine aQ (hb pZ s1 σ H1 _ I1 q1) λu s2 ⟨y,H2,I2,r2,q2⟩=>?_
 exact hf v u s2 x y H2 I2 r1 r2 q2
def NH{op:Operator}{r:R2}(ho:eY X (binaryOp op) r)(ha:PE X a ta)(hb:PE X b tb):PE X (.BinOp a op b pos) (EQ r ta tb):=by
 intro pZ s σ H Q I h;exact wpAny_BinOp<|L6 ha hb I h λv u s2 x y H2 I2 rx ry q=>ho pZ s2 σ H2 x y v u Q I2 rx ry q
def NI(ho:HU X (unaryOp op) r)(ha:PE X a ta):PE X (.UnaryOp op a pos) (Qu r ta):=by
 intro pZ s σ H Q I h;exact UnaryOp_<|aQ (ha pZ s σ H _ I h) λv s1 ⟨x,H1,I1,r1,q1⟩=>ho pZ s1 σ H1 x v Q I1 r1 q1
def Hc{f:Value->Value->Sem Value}{C:Int->Int->Prop}{g:Int->Int->Int}(rule:∀(i j:Int) (t u:Tok) (s:Shared) (Q:Value->Shared->Prop) (E:Value->Shared->Prop),C i j->Q (.int (g i j) s.toks) { s with toks:=s.toks+1 }->wpAny (model X.prog X.w) X.A (f (.int i t)<|.int j u) Q E s):eY X f (rI C λi j=>.int<|g i j):=by
 intro pZ s σ H x y v u Q I rx ry h;obtain⟨i,j,rfl,rfl,hc,q⟩:=h;obtain⟨t,rfl⟩:=rx;obtain⟨t',rfl⟩:=ry;exact rule i j t t' s _ _ hc ⟨.int<|g i j,H,I.tok _,⟨_,rfl⟩,q⟩
def RM{f:Value->Value->Sem Value}{g:Int->Int->Int}(rule:∀(i j:Int) (t u:Tok) (s:Shared) (Q:Value->Shared->Prop) (E:Value->Shared->Prop),Q (.int (g i j) s.toks) { s with toks:=s.toks+1 }->wpAny (model X.prog X.w) X.A (f (.int i t)<|.int j u) Q E s):eY X f (sK λi j=>.int<|g i j):=by
 intro pZ s σ H x y v u Q I rx ry h;obtain⟨i,j,rfl,rfl,q⟩:=h;obtain⟨t,rfl⟩:=rx;obtain⟨t',rfl⟩:=ry;exact rule i j t t' s _ _ ⟨.int<|g i j,H,I.tok _,⟨_,rfl⟩,q⟩
def ID{f:Value->Value->Sem Value}{g:Int->Int->Bool}(rule:∀(i j:Int) (t u:Tok) (s:Shared) (Q:Value->Shared->Prop) (E:Value->Shared->Prop),Q (.bool<|g i j) s->wpAny (model X.prog X.w) X.A (f (.int i t)<|.int j u) Q E s):eY X f (sK λi j=>.bl<|g i j):=by
 intro pZ s σ H x y v u Q I rx ry h;obtain⟨i,j,rfl,rfl,q⟩:=h;obtain⟨t,rfl⟩:=rx;obtain⟨t',rfl⟩:=ry;exact rule i j t t' s _ _ ⟨.bl<|g i j,H,I,rfl,q⟩
def UZ(i j:Int):Prop:=0<j/\j<1073741824
def UX(i j:Int):Prop:=0<=j/\j<=1000000/\i.natAbs<2 ^ 64
def IA(i j:Int):Prop:=(-(2 ^ 64)<i/\i<2 ^ 64)\/(-(2 ^ 64)<j/\j<2 ^ 64)
def IA.ok(h:IA i j):IntMulOk i j:=by
 rcases h with⟨h1,h2⟩|⟨h1,h2⟩
 .exact .of_left<|intBits_le_64 h1 h2
 .exact .of_right<|intBits_le_64 h1 h2
def qc0:eY X (binaryOp .Add) (sK λi j=>.int<|i+j):=RM λ_ _ _ _ _ _ _ q=>add_int q
def Y':eY X (binaryOp .Sub) (sK λi j=>.int<|i-j):=RM λ_ _ _ _ _ _ _ q=>sub_int q
def Yw:eY X (binaryOp .Mult) (rI IA λi j=>.int<|i*j):=Hc λ_ _ _ _ _ _ _ hc q=>mul_int q hc.ok
def Ī:eY X (binaryOp .FloorDiv) (rI UZ λi j=>.int<|i / j):=Hc λi j _ _ _ _ _ hc q=>by
 have h1:(0:Int)<j:=hc.1;have h2:j<1073741824:=hc.2;exact floordiv_int (by omega) (by rw[Int.fdiv_eq_ediv_of_nonneg i<|by omega];exact q) (.inl<|PyProof.noPylong_small<|by omega)
def Yv:eY X (binaryOp .Mod) (rI (λ_ j=>0<j) λi j=>.int<|i % j):=Hc λi j _ _ _ _ _ hc q=>by
 have h1:(0:Int)<j:=hc;exact mod_int' (by omega) (by rw[Int.fmod_eq_emod_of_nonneg i<|by omega];exact q)
def Y_:eY X (binaryOp .Pow) (rI UX λi j=>.int<|i ^ j.toNat):=Hc λ_ _ _ _ _ _ _ hc q=>pow_int_small hc.1 hc.2.1 hc.2.2 q
def ϧ{f:Value->Sem Value}{g:Int->Int}(rule:∀(i:Int) (t:Tok) (s:Shared) (Q:Value->Shared->Prop) (E:Value->Shared->Prop),Q (.int (g i) s.toks) { s with toks:=s.toks+1 }->wpAny (model X.prog X.w) X.A (f<|.int i t) Q E s):HU X f (rU λi=>.int<|g i):=by
 intro pZ s σ H x v Q I rx h;obtain⟨i,rfl,q⟩:=h;obtain⟨t,rfl⟩:=rx;exact rule i t s _ _ ⟨.int<|g i,H,I.tok _,⟨_,rfl⟩,q⟩
def Ph:HU X (unaryOp .USub) (rU λi=>.int<|-i):=ϧ λ_ _ _ _ _ q=>neg_int q
noncomputable def II:V->V->Bool
 |.aE,.aE=>true | .aE,.int _=>true | .int _,.aE=>true | .aE,.bl _=>true | .bl _,.aE=>true | .aE,.str _=>true | .str _,.aE=>true
 |.int _,.int _=>true | .bl _,.bl _=>true | .str _,.str _=>true | .l6 _,.l6 _=>true
 |.int _,.str _=>true | .str _,.int _=>true | .bl _,.str _=>true | .str _,.bl _=>true
 |_,_=>false
def KJ:R2:=λx y H Q=>II x y=true/\Q (.bl<|decide (x=y)) H
def KI:R2:=λx y H Q=>II x y=true/\Q (.bl<|!decide (x=y)) H
def P4:decide (V.int i=V.int j)=(i == j):=by
 rw[qt];simp
def Ob:decide (V.bl i=V.bl j)=(i == j):=by
 rw[qt];simp
def P5:decide (V.str i=V.str j)=(i == j):=by
 rw[qt];simp
def P2:decide (V.l6 i=V.l6 j)=(i.toList == j.toList):=by
 rw[qt];cases i;cases j;simp
def xC(I:Inv X pZ σ H s)(q:Q (.bl k) H)(e:k=k'):EP X pZ σ Q (.bool k') s:=by
 subst e;exact⟨.bl k,H,I,rfl,q⟩
def VA:eY X (gq .Eq) KJ:=by
 intro pZ s σ H x y v u Q I rx ry h;obtain⟨hs,q⟩:=h;cases x with
 |aE=>
  cases rx;cases y with
  |aE=>cases ry;exact PySem.EqNone.eq_none_none (xC I q<|by simp)
  |bl j=>cases ry;exact PySem.EqNone.eq_none_bool (xC I q<|by simp)
  |int j=>obtain⟨t',rfl⟩:=ry;exact PySem.EqNone.eq_none_int (xC I q<|by simp)
  |str j=>obtain⟨t',rfl⟩:=ry;exact PySem.EqNone.eq_none_str (xC I q<|by simp)
  |_=>exact absurd (show false=true from hs) av
 |bl i=>
  cases rx;cases y with
  |aE=>cases ry;exact PySem.EqNone.eq_bool_none (xC I q<|by simp)
  |bl j=>cases ry;exact eq_bool<|xC I q Ob
  |str j=>obtain⟨t',rfl⟩:=ry;exact PySem.EqMixed.eq_bool_str (xC I q<|by simp)
  |_=>exact absurd (show false=true from hs) av
 |int i=>
  obtain⟨t,rfl⟩:=rx;cases y with
  |aE=>cases ry;exact PySem.EqNone.eq_int_none (xC I q<|by simp)
  |int j=>obtain⟨t',rfl⟩:=ry;exact eq_int<|xC I q P4
  |str j=>obtain⟨t',rfl⟩:=ry;exact PySem.EqMixed.eq_int_str (xC I q<|by simp)
  |_=>exact absurd (show false=true from hs) av
 |str i=>
  obtain⟨t,rfl⟩:=rx;cases y with
  |aE=>cases ry;exact PySem.EqNone.eq_str_none (xC I q<|by simp)
  |bl j=>cases ry;exact PySem.EqMixed.eq_str_bool (xC I q<|by simp)
  |int j=>obtain⟨t',rfl⟩:=ry;exact PySem.EqMixed.eq_str_int (xC I q<|by simp)
  |str j=>obtain⟨t',rfl⟩:=ry;exact eq_str<|xC I q P5
  |_=>exact absurd (show false=true from hs) av
 |l6 i=>
  obtain⟨t,rfl⟩:=rx;cases y with
  |l6 j=>obtain⟨t',rfl⟩:=ry;exact PySem.W.eq_bytes<|xC I q P2
  |_=>exact absurd (show false=true from hs) av
 |_=>cases y<;>exact absurd (show false=true from hs) av
def VC:eY X (gq .NotEq) KI:=by
 intro pZ s σ H x y v u Q I rx ry h;obtain⟨hs,q⟩:=h;cases x with
 |aE=>
  cases rx;cases y with
  |aE=>cases ry;exact PySem.EqNone.ne_none_none (xC I q<|by simp)
  |bl j=>cases ry;exact PySem.EqNone.ne_none_bool (xC I q<|by simp)
  |int j=>obtain⟨t',rfl⟩:=ry;exact PySem.EqNone.ne_none_int (xC I q<|by simp)
  |str j=>obtain⟨t',rfl⟩:=ry;exact PySem.EqNone.ne_none_str (xC I q<|by simp)
  |_=>exact absurd (show false=true from hs) av
 |bl i=>
  cases rx;cases y with
  |aE=>cases ry;exact PySem.EqNone.ne_bool_none (xC I q<|by simp)
  |bl j=>cases ry;exact ne_bool<|xC I q<|congrArg not Ob
  |str j=>obtain⟨t',rfl⟩:=ry;exact PySem.EqMixed.ne_bool_str (xC I q<|by simp)
  |_=>exact absurd (show false=true from hs) av
 |int i=>
  obtain⟨t,rfl⟩:=rx;cases y with
  |aE=>cases ry;exact PySem.EqNone.ne_int_none (xC I q<|by simp)
  |int j=>obtain⟨t',rfl⟩:=ry;exact ne_int<|xC I q<|congrArg not P4
  |str j=>obtain⟨t',rfl⟩:=ry;exact PySem.EqMixed.ne_int_str (xC I q<|by simp)
  |_=>exact absurd (show false=true from hs) av
 |str i=>
  obtain⟨t,rfl⟩:=rx;cases y with
  |aE=>cases ry;exact PySem.EqNone.ne_str_none (xC I q<|by simp)
  |bl j=>cases ry;exact PySem.EqMixed.ne_str_bool (xC I q<|by simp)
  |int j=>obtain⟨t',rfl⟩:=ry;exact PySem.EqMixed.ne_str_int (xC I q<|by simp)
  |str j=>obtain⟨t',rfl⟩:=ry;exact ne_str<|xC I q<|congrArg not P5
  |_=>exact absurd (show false=true from hs) av
 |l6 i=>
  obtain⟨t,rfl⟩:=rx;cases y with
  |l6 j=>obtain⟨t',rfl⟩:=ry;exact PySem.W.ne_bytes<|xC I q<|congrArg not P2
  |_=>exact absurd (show false=true from hs) av
 |_=>cases y<;>exact absurd (show false=true from hs) av
def qb8:eY X (gq .Lt) (sK λi j=>.bl<|decide (i<j)):=ID λ_ _ _ _ _ _ _ q=>lt_int q
def VB:eY X (gq .Gt) (sK λi j=>.bl<|decide (j<i)):=ID λ_ _ _ _ _ _ _ q=>gt_int q
def NF:eY X (gq .GtE) (sK λi j=>.bl<|decide (j<=i)):=ID λ_ _ _ _ _ _ _ q=>ge_int q
def Ys:eY X (gq .Is) (λx y H Q=>y=.aE/\Q (.bl<|decide (x=.aE)) H):=by
 intro pZ s σ H x y v u Q I rx ry h;obtain⟨rfl,q⟩:=h;cases ry;refine is_none_gen<|xC I q ?_;cases x<;>first
  |(cases rx;rfl)
  |(obtain⟨t,rfl⟩:=rx;rfl)
def ī:eY X (gq .IsNot) (λx y H Q=>y=.aE/\Q (.bl<|!decide (x=.aE)) H):=by
 intro pZ s σ H x y v u Q I rx ry h;obtain⟨rfl,q⟩:=h;cases ry;refine isnot_none_gen<|xC I q ?_;cases x<;>first
  |(cases rx;rfl)
  |(obtain⟨t,rfl⟩:=rx;rfl)
def eY.or(h:eY X f r)(h':eY X f r'):eY X f (λx y H Q=>r x y H Q\/r' x y H Q):=by
 intro pZ s σ H x y v u Q I rx ry q;rcases q with q|q
 .exact h pZ s σ H x y v u Q I rx ry q
 .exact h' pZ s σ H x y v u Q I rx ry q
def Xv(b:Expr)(h:op≠.In:=by decide)(h2:op≠.NotIn:=by decide):gr op b=false:=by
 have e1:(op == CmpOp.In)=false:=by cases op<;>first|rfl|exact absurd rfl h
 have e2:(op == CmpOp.NotIn)=false:=by cases op<;>first|rfl|exact absurd rfl h2
 cases b<;>simp[gr,e1,e2]
def Ŀ{op:CmpOp}{r:R2}(ho:eY X (gq op) r)(ha:PE X a ta)(hb:PE X b tb)(hm:gr op b=false):PE X (.Compare a [op] [b] pos) (EQ r ta tb):=by
 intro pZ s σ H Q I h;exact wpAny_Compare1 (L6 ha hb I h λv u s2 x y H2 I2 rx ry q=>ho pZ s2 σ H2 x y v u Q I2 rx ry q) hm
noncomputable def V8(t:TE):TT:=λσ H Q=>t σ H λx H'=>∃k,x=.bl k/\Q k H'
def PU(ho:eY X (gq op) r)(ha:PE X a ta)(hb:PE X b tb)(hm:gr op b=false):PT X (.Compare a [op] [b] pos) (V8<|EQ r ta tb):=by
 intro pZ s σ H Q I h;refine zx (aQ (ha pZ s σ H _ I h) λv s1 ⟨x,H1,I1,r1,q1⟩=>aQ (hb pZ s1 σ H1 _ I1 q1) λu s2 ⟨y,H2,I2,r2,q2⟩=>
  aQ (ho pZ s2 σ H2 x y v u _ I2 r1 r2 q2) λc s3 ⟨z,H3,I3,r3,k,e,q3⟩=>?_) hm
 subst e;cases r3;exact kq ⟨H3,I3,q3⟩
def Md(K:Fg)(x:V)(H:Hp)(k:Bool):Prop:=
 match x with
 |.aE=>k=false
 |.bl b=>k=b
 |.int i=>k=(i != 0)
 |.str y=>y.length<=ae/\k=((y.length:Int) != 0)
 |.l6 y=>y.size<=ae/\k=((y.size:Int) != 0)
 |.ref p=>(∃xs,aX K H p xs/\k = !xs.isEmpty)\/(∃xs,d_ K H p xs/\k = !xs.isEmpty)\/∃kvs,H p=aA (.dK kvs)/\k = !kvs.isEmpty
 |_=>False
def tT(r:KV kvs vs):(!vs.isEmpty) = !kvs.isEmpty:=by
 cases r<;>rfl
def gO(r:Vals xs its):(!its.toArray.isEmpty) = !xs.isEmpty:=by
 cases r<;>simp
def o9:(ae:Nat)<2 ^ 63:=by rw[rj];decide
def Æ:qj1 X (λx H Q=>∃k,Md X.K x H k/\Q k H):=by
 intro pZ s σ H x v Q I rx h;obtain⟨k,e,q⟩:=h;have hl:=o9;have hs:ae=16777216:=rj;cases x with
 |aE=>
  cases rx;have e':k=false:=e;subst e';exact truthy_none ⟨H,I,q⟩
 |bl b=>
  cases rx;have e':k=b:=e;subst e';exact kq ⟨H,I,q⟩
 |int i=>
  obtain⟨t,rfl⟩:=rx;have e':k=(i != 0):=e;subst e';exact PySem.P.truthy_int ⟨H,I,q⟩
 |str y=>
  obtain⟨t,rfl⟩:=rx;obtain⟨hy,e'⟩:y.length<=ae/\k=((y.length:Int) != 0):=e;subst e';exact PySem.P.truthy_str (by omega) ⟨H,I.tok _,q⟩
 |l6 y=>
  obtain⟨t,rfl⟩:=rx;obtain⟨hy,e'⟩:y.size<=ae/\k=((y.size:Int) != 0):=e;subst e';exact PySem.W.truthy_bytes (by omega) ⟨H,I.tok _,q⟩
 |ref p=>
  cases rx;have e':(∃xs,aX X.K H p xs/\k = !xs.isEmpty)\/(∃xs,d_ X.K H p xs/\k = !xs.isEmpty)\/∃kvs,H p=aA (.dK kvs)/\k = !kvs.isEmpty:=e;rcases e' with⟨xs,hx,e'⟩|⟨xs,hx,e'⟩|⟨kvs,hx,e'⟩
  .subst e';obtain⟨its,r,pl,hz⟩:=I.list hx;have hlen:=r.length;exact wpAny_truthy_list pl.isList (by simp only[ak];omega) ⟨H,I.tok _,by rw[gO r];exact q⟩
  .subst e';obtain⟨its,r,pl,hz⟩:=I.tuple hx;have hlen:=r.length;exact truthy_tuple pl (by simp only[ak];omega) ⟨H,I.tok _,by rw[gO r];exact q⟩
  .subst e';obtain⟨hz,hS,vs,r,m⟩:kvs.length<=ae/\(p == jv)=false/\∃vs,KV kvs vs/\s.heap.DictOf (yS X.prog X.w) p vs:=I.aT p _ hx;have hlen:kvs.length=vs.length:=vk r;exact wpAny_truthy_dict hS m (by omega) ⟨H,I.tok _,by rw[tT r];exact q⟩
 |_=>exact(show False from e).elim
def m4(ha:PE X a ta)(he:∀whole,isTrue a X.env whole=(do let v <- whole;standAt a.pos;holding [v] (truthy v))):PT X a (λσ H Q=>ta σ H λx H'=>∃k,Md X.K x H' k/\Q k H'):=by
 intro pZ s σ H Q I h;exact isTrue_plain (aQ (ha pZ s σ H _ I h) λv s1 ⟨x,H1,I1,r1,q1⟩=>Æ pZ s1 σ H1 x v Q I1 r1 q1)<|he _
def qb9:eY X (binaryOp .Add) (λx y H Q=>∃i j,x=.str i/\y=.str j/\i.length+j.length<=ae/\Q (.str<|i++j) H):=by
 intro pZ s σ H x y v u Q I rx ry h;obtain⟨i,j,rfl,rfl,hz,q⟩:=h;obtain⟨t,rfl⟩:=rx;obtain⟨t',rfl⟩:=ry;exact add_str (λt' tk=>⟨.str<|i++j,H,I.tok _,⟨_,rfl⟩,q⟩) hz
def J5(r:Vals [x] us):∃u,us=[u]/\RelV x u:=by
 cases r with
 |cons r1 r2=>cases r2;exact⟨_,rfl,r1⟩
def VW(r:Vals [x,y] us):∃u w',us=[u,w']/\RelV x u/\RelV y w':=by
 cases r with
 |cons r1 r2=>
  cases r2 with
  |cons r3 r4=>cases r4;exact⟨_,_,rfl,r1,r3⟩
def JJ(hc:X.calm=true):iW X (.builtin "max") (λxs H Q=>∃i j,xs=[.int i,.int j]/\Q (.int (if j > i then j else i)) H):=by
 intro pZ s σ H xs us Q I r h;obtain⟨i,j,rfl,q⟩:=h;obtain⟨u,w',rfl,⟨t,rfl⟩,⟨t',rfl⟩⟩:=VW r;refine max_two_ints (I.ok.hd hc) λh' tk k=>⟨_,H,I.kept k,?_,q⟩
 by_cases hj:j > i
 .rw[if_pos hj,if_pos hj];exact⟨_,rfl⟩
 .rw[if_neg hj,if_neg hj];exact⟨_,rfl⟩
structure CU(h:Heap)(x dx C:Addr)(mA:Str->Option Value):Prop where
 obj:h.get? x=aA (km C dx)
 ns:h.Ns1 dx mA
 ne:dx≠x
def QI{h:Heap}{dx:Addr}{mA:Str->Option Value}(n:h.Ns1 dx mA):∃od,h.get? dx=aA od/\∀name,uq name od=aA (mA name):=by
 obtain⟨o,es,ep,ho,hd,hk,_,hm⟩:=n;refine⟨o,ho,λname=>?_⟩;have e:=hm name;unfold nsFind findBy at e;rw[<-Array.find?_toList] at e;unfold uq;rw[hd];dsimp only;split
 .rename_i y q;rw[q] at e;exact congrArg aA e
 .rename_i q;rw[q] at e;have a:es.toList.any (·.refKey)=false:=by
   rw[List.any_eq_false];intro y hy;obtain⟨z,t,qf2⟩:=hk y<|Array.mem_toList_iff.mp hy;simp[DictEntry.refKey,qf2]
  have a':¬es.toList.any (·.refKey)=true:=by rw[a];exact av
  rw[if_neg a'];exact congrArg aA e
def CU.look(I:CU h x dx C mA):∃od,PySem.W.InstAt h x (km C dx) C (aA od)/\∀name,uq name od=aA (mA name):=
 let ⟨od,ho,hl⟩:=QI I.ns
 ⟨od,⟨I.obj,rfl,rfl,ho⟩,hl⟩
section
variable{K:Fg}
def Đ(X:K.In s.heap)(I:CU s.heap x dx C mA)(hg:qg K C name=true)(hh:rl K C=true)(ha:cj K (.ref C) name=aA aD)(hv:mA name=aA v)(hv':wv v=true)(h:Q v { s with toks:=s.toks+1 }):wpAny (model prog w) A (getAttr (.ref x) name expr) Q E s:=by
 obtain⟨od,J,hl⟩:=I.look;exact PySem.W.get_value X J (va hg).1 (PySem.W.findObj_own hh ha rfl<|by rw[hl,hv]) hv' h
def ŷ{pl:Sem Bool}(X:K.In s.heap)(I:CU s.heap x dx C mA)(hg:qg K C name=true)(hf:cj K (.ref C) name=aA (aA<|.ref f))(ht:jq K (.ref f)=true)(hv:mA name=aD)(h:Q (.ref f,[.ref x]) s):wpAny (model prog w) A (getMethod (.ref x) name pl) Q E s:=by
 obtain⟨od,J,hl⟩:=I.look;exact PySem.W.method_fn X J (va hg).1 (va hg).2 hf (beq_iff_eq.mp ht) (by show(uq name od).map (·.isSome)=aA false;rw[hl,hv];rfl) h
def ŉ(X:K.In s.heap)(I:CU s.heap x dx C mA)(hs:cj K (.ref C) "__setattr__" = aA (aA<|.builtin "object.__setattr__"))(hp:we K C=true)(ht:xb K C name=aA aD)(hh:rl K C=true)(hw:vz mA ns)(hsz:ns.length<=ae)(h:∀h',CU h' x dx C (λy=>if y=name then aA v else mA y)->gm dx s.heap h'->Q () { s with heap:=h',toks:=s.toks+2 }):wpAny (model prog w) A (setAttr (.ref x) name v) Q E s:=by
 obtain⟨od,J,hl⟩:=I.look;refine PySem.W.set_plain X J hs<|PySem.W.osa_open (s:={ s with toks:=s.toks+1 }) (r:=aD) X J hp ht λb=>?_;obtain⟨cd,hc,CG⟩:=PySem.W.any_some hh;have hx:s.heap.get? x=aA ⟨.ref C,aA dx,.plain,#[]⟩:=I.obj;refine ac<|af<|ac<|ac<|wpAny_loadPart hx<|ac<|PySem.W.Looks.here (s:={ s with toks:=s.toks+1 }) (PySem.W.looks_clsIn X hc) ?_;rw[CG];refine af (a:=aA dx)<|ac<|af<|ac ?_;refine wpAny_nsSet1 (s:={ s with toks:=s.toks+1 }) I.ns λh' Dy f7=>?_
 obtain⟨oD,esD,epD,hoD,hdD,hcD⟩:=Dy.count<|vz.cons name v hw;refine ac<|wpAny_lookBehind hoD (by rw[hdD];exact pastItsLine_dict<|cg hcD (by rw[am];omega)) ?_;exact af<|h _ ⟨(f7.2 _<|ki I.ne).trans I.obj,Dy,I.ne⟩ f7
def ſ{R:Result->Shared->Prop}(X:K.In s.heap)(hm:xf K C=true)(hi:cj K (.ref C) "__init__" = aA (aA<|.ref f))(hf:PySem.W.typeIn K (.ref f)=aA (.type "function"))(h:codeAny (model prog w) (A.under<|.builtin "type.__call__" ⟨.ref C::vs,kw⟩) (.call (.ref f) ⟨.ref (s.heap.objs.size+1)::vs,kw⟩) (PySem.W.InitBack (s.heap.objs.size+1) R)
   { s with heap:=(s.heap.push jj).push (km C s.heap.objs.size) }):codeAny (model prog w) A (.call (.ref C) ⟨vs,kw⟩) R s:=by
 obtain⟨hh,g,d,t,os⟩:=s;exact PySem.W.make_core (PySem.W.makes_of X hm) (PySem.W.looks_findIn X hi) (λself=>PySem.W.bind_fn X self hf) (.inl rfl) h
end
noncomputable def XR(f:Str)(v:V):List (Str×V)->List (Str×V)
 |[]=>[(f,v)]
 |(g,x)::r=>if g=f then (g,v)::r else (g,x)::XR f v r
theorem cJ(f g:Str)(v:V):∀fs:List (Str×V),(XR f v fs).lookup g=if g=f then aA v else fs.lookup g
 |[]=>by
  show lh g [(f,v)]=_;by_cases h:g=f
  .have hb:(g == f)=true:=beq_iff_eq.mpr h;simp only[lh,hb,if_pos h]
  .have hb:(g == f)=false:=beq_eq_false_iff_ne.mpr h;simp only[lh,hb,if_neg h]
 |(k,x)::r=>by
  have ih:=cJ f g v r;rw[show XR f v ((k,x)::r)=(if k=f then (k,v)::r else (k,x)::XR f v r) from rfl];by_cases hk:k=f
  .rw[if_pos hk];by_cases h:g=k
   .have hb:(g == k)=true:=beq_iff_eq.mpr h;simp only[lh,hb,if_pos<|h.trans hk]
   .have hb:(g == k)=false:=beq_eq_false_iff_ne.mpr h;simp only[lh,hb,if_neg λe:g=f=>h<|e.trans hk.symm]
  .rw[if_neg hk];by_cases h:g=k
   .have hb:(g == k)=true:=beq_iff_eq.mpr h;simp only[lh,hb,if_neg λe:g=f=>hk<|h.symm.trans e]
   .have hb:(g == k)=false:=beq_eq_false_iff_ne.mpr h;simp only[lh,hb];exact ih
theorem dH(f:Str)(v:V):∀fs:List (Str×V),f∈(XR f v fs).map (·.1)/\∀g,g∈fs.map (·.1)->g∈(XR f v fs).map (·.1)
 |[]=>⟨by simp[XR],λg h=>by simp at h⟩
 |(k,x)::r=>by
  obtain⟨i1,i2⟩:=dH f v r;rw[show XR f v ((k,x)::r)=(if k=f then (k,v)::r else (k,x)::XR f v r) from rfl];by_cases hk:k=f
  .rw[if_pos hk];subst hk;exact⟨by simp,λg h=>by simpa using h⟩
  .rw[if_neg hk];refine⟨?_,λg h=>?_⟩
   .rw[au];exact bh _ i1
   .rw[au] at h ⊢;rcases bq.mp h with e|e
    .exact bq.mpr<|.inl e
    .exact bh _<|i2 g e
theorem cK(f:Str)(v:V):∀fs:List (Str×V),(XR f v fs).length<=fs.length+1
 |[]=>by simp[XR]
 |(k,x)::r=>by
  have ih:=cK f v r;rw[show XR f v ((k,x)::r)=(if k=f then (k,v)::r else (k,x)::XR f v r) from rfl];by_cases hk:k=f
  .rw[if_pos hk,am,am];omega
  .rw[if_neg hk,am,am];omega
def jS(r:sT (aA v) o):∃u,o=aA u/\RelV v u:=by
 cases o with
 |none=>exact(show False from r).elim
 |some u=>exact⟨u,rfl,r⟩
def sT.none_of(r:sT aD o):o=aD:=by
 cases o with
 |none=>rfl
 |some u=>exact(show False from r).elim
def QU(r:RelV v u):wv u=true:=by
 cases v with
 |aE=>cases (show u=Value.none from r);rfl
 |bl b=>cases (show u=Value.bool b from r);rfl
 |int i=>obtain⟨t,e⟩:=(show ∃t,u=Value.int i t from r);cases e;rfl
 |str x=>obtain⟨t,e⟩:=(show ∃t,u=Value.str x t from r);cases e;rfl
 |l6 b=>obtain⟨t,e⟩:=(show ∃t,u=Value.bytes b t from r);cases e;rfl
 |B2 b=>obtain⟨t,e⟩:=(show ∃t,u=Value.float b t from r);cases e;rfl
 |ref a=>cases (show u=Value.ref a from r);rfl
 |ty n=>cases (show u=Value.type n from r);rfl
def pJ(aT:fL P w H h)(e:H a=aA (.ins C dx fs)):∃mA,CU h a dx C mA/\(∀f,sT (fs.lookup f)<|mA f)/\vz mA (fs.map (·.1))/\fs.length<=1000/\H dx=aA (.own a):=by
 obtain⟨d,z,ne,ob,mA,n,r,q⟩:=(show fS P w H h a (.ins C dx fs) from aT a _ e);exact⟨mA,⟨ob,n,ne⟩,r,q,z,d⟩
structure f9(K:Fg)(C:Addr):Prop where
 pg:qg K C Str.empty=true
 hd:rl K C=true
 po:we K C=true
 sa:cj K (.ref C) "__setattr__" = aA (aA<|.builtin "object.__setattr__")
def f9.get{K:Fg}(c:f9 K C)(f:Str):qg K C f=true:=c.pg
def fP(K:Fg)(C:Addr)(f:Str):Prop:=cj K (.ref C) f=aA aD
def fP.ϯ{K:Fg}(n:fP K C f):xb K C f=aA aD:=by
 unfold xb;rw[show cj K (.ref C) f=aA aD from n];rfl
structure Meth(K:Fg)(C:Addr)(m:Str)(f:Addr):Prop where
 at_:cj K (.ref C) m=aA (aA<|.ref f)
 fn:jq K (.ref f)=true
 kp:dw K (.ref f)=true
def gQ(I:Inv X pZ σ H s)(e:H a=aA (.ins C dx fs))(c:f9 X.K C)(n:fP X.K C f)(l:fs.lookup f=aA v)(h:∀u s',Inv X pZ σ H s'->RelV v u->Q u s'):wpAny (model X.prog X.w) A (getAttr (.ref a) f b) Q E s:=by
 obtain⟨mA,O,r,_,_,_⟩:=pJ I.aT e;obtain⟨u,hu,ru⟩:=jS (v:=v) (o:=mA f) (by rw[<-l];exact r f);exact Đ I.fE O (c.get f) c.hd n hu (QU ru)<|h u _ (I.tok _) ru
def gP{pl:Sem Bool}(I:Inv X pZ σ H s)(e:H a=aA (.ins C dx fs))(c:f9 X.K C)(k:Meth X.K C m g)(l:fs.lookup m=aD)(h:Q (.ref g,[.ref a]) s):wpAny (model X.prog X.w) A (getMethod (.ref a) m pl) Q E s:=by
 obtain⟨mA,O,r,_,_,_⟩:=pJ I.aT e;have hn:mA m=aD:=sT.none_of (by rw[<-l];exact r m);exact ŷ I.fE O (c.get m) k.at_ k.fn hn h
def gD(I:Inv X pZ σ H s)(e:H a=aA (.ins C dx fs))(c:f9 X.K C)(n:fP X.K C f)(hl:fs.length<1000)(ry:RelV y u)(h:∀s',Inv X pZ σ (upd H a<|.ins C dx<|XR f y fs) s'->Q () s'):wpAny (model X.prog X.w) A (setAttr (.ref a) f u) Q E s:=by
 obtain⟨mA,O,r,wi,_,ho⟩:=pJ I.aT e;have hz:(fs.map (·.1)).length<=ae:=by rw[ag,rj];omega
 refine ŉ I.fE O c.sa c.po n.ϯ c.hd wi hz λh' O' sb=>h _ ?_
 have hd:∃o,h'.get? dx=aA o:=let ⟨o,_,_,e',_⟩:=O'.ns;⟨o,e'⟩
 refine I.write (x:=a) (e:=dx) (by rw[e];exact True.intro) (.inr ho) (λb q hb z=>(sb.2 b hb).trans z) hd ?_;refine⟨by rw[zI O.ne];exact ho,?_,O.ne,O'.obj,_,O'.ns,λg=>?_,λg hg=>?_⟩
 .have:=cK f y fs;omega
 .show sT ((XR f y fs).lookup g) (if g=f then aA u else mA g);rw[cJ];by_cases q:g=f
  .rw[if_pos q,if_pos q];exact ry
  .rw[if_neg q,if_neg q];exact r g
 .by_cases q:g=f
  .rw[q];exact(dH f y fs).1
  .refine(dH f y fs).2 g (wi g λz=>hg ?_);show(if g=f then aA u else mA g)=aD;rw[if_neg q];exact z
def Inv.made(I:Inv X pZ σ H s):Inv X pZ σ (upd (upd H s.heap.objs.size<|.own<|s.heap.objs.size+1) (s.heap.objs.size+1)<|.ins C s.heap.objs.size [])
  { s with heap:=(s.heap.push jj).push (km C s.heap.objs.size) }:=by
 have e1:(s.heap.push jj).get? s.heap.objs.size=aA jj:=ay s.heap rfl;have e2:((s.heap.push jj).push<|km C s.heap.objs.size).get? (s.heap.objs.size+1)=aA (km C s.heap.objs.size):=by
  have:=ay (s.heap.push jj) (o:=km C s.heap.objs.size) rfl
  rwa [kh] at this
 have e3:(s.heap.push jj).Ns s.heap.objs.size (λ_=>aD):=⟨jj,#[],_,e1,rfl,(λe he=>absurd he<|by simp),λ_=>rfl⟩;have I1:=I.laid (a:=s.heap.objs.size) (o:=.own<|s.heap.objs.size+1) (h':=s.heap.push jj) (t':=s.toks) (λb u q=>ad _ q) (ah _) ⟨_,e1⟩;refine I1.laid (a:=s.heap.objs.size+1) (o:=.ins C s.heap.objs.size []) (t':=s.toks) (λb u q=>ad _ q) (uc<|kh _ _) ?_;have ne:s.heap.objs.size≠s.heap.objs.size+1:=bf<|qh _;refine⟨by rw[zI ne,zJ],fg _,ne,e2,λ_=>aD,(Heap.Ns1.of_empty e3).at λo q=>ad _ q,λ_=>True.intro,λy hy=>absurd rfl hy⟩
def ï(hb:cn e f env (eval e env)=eval e env)(h:wpAny (model prog w) A (eval e env) (λo s₁=>wpAny (model prog w) A (getAttr o f true) Q E s₁) E s):wpAny (model prog w) A (eval (.Attribute e f pos) env) Q E s:=
 Attribute_any_ h (by rw[arm_eval_Attribute,hb])
def Qv(K:Fg)(ta:TE)(f:Str):TE:=λσ H Q=>ta σ H λx H1=>∃a C dx fs v,x=.ref a/\H1 a=aA (.ins C dx fs)/\f9 K C/\fP K C f/\fs.lookup f=aA v/\Q v H1
def Ci(K:Fg)(ta tv:TE)(f:Str):TS:=λD σ H=>tv σ H λy H1=>ta σ H1 λx H2=>∃a C dx fs,x=.ref a/\H2 a=aA (.ins C dx fs)/\f9 K C/\fP K C f/\fs.length<1000 /\
 D.nx σ (upd H2 a<|.ins C dx<|XR f y fs)
def UU(X:Cx)(op:Operator)(rd:V->V->Hp->VK->Prop):Prop:=
 ∀pZ s σ H (x y:V) (u v:Value) (Q:VK),Inv X pZ σ H s->RelV x u->RelV y v->rd x y H Q->wpAny (model X.prog X.w) X.A (inplaceOp op u v) (EP X pZ σ Q) X.xe s
def Ř(K:Fg)(ta tv:TE)(rd:V->V->Hp->VK->Prop)(f:Str):TS:=λD σ H=>ta σ H λx H1=>∃a C dx fs v,x=.ref a/\H1 a=aA (.ins C dx fs)/\f9 K C/\fP K C f/\fs.lookup f=aA v /\
 tv σ H1 λy H2=>rd v y H2 λz H3=>∃L0 HI,H3 a=aA (.ins C L0 HI)/\HI.length<1000/\D.nx σ (upd H3 a<|.ins C L0<|XR f z HI)
def cY(he:PE X e ta)(hb:cn e f X.env (eval e X.env)=eval e X.env):PE X (.Attribute e f pos) (Qv X.K ta f):=by
 intro pZ s σ H Q I h;refine ï hb<|aQ (he pZ s σ H _ I h) λu s1 ⟨x,H1,I1,rx,a,C,dx,fs,v,ex,ea,c,n,l,q⟩=>?_;subst ex;obtain rfl:u=Value.ref a:=rx;exact gQ I1 ea c n l λu' s2 I2 ru=>⟨v,H1,I2,ru,q⟩
def hJ(ha:PE X o ta)(hv:PE X value tv)(hs:js value (aA<|.Attribute o f pos') pos.line X.env=pure false):PS X (.Assign [.Attribute o f pos'] value pos) (Ci X.K ta tv f):=by
 intro pZ s σ H D I h;refine plainObj_wpAny_Assign_Attribute (aQ (hv pZ s σ H _ I h) λu s1 ⟨y,H1,I1,ry,q⟩=>aQ (ha pZ s1 σ H1 _ I1 q) λov s2 ⟨x,H2,I2,rx,a,C,dx,fs,ex,ea,c,n,l,q2⟩=>?_) hs;subst ex;obtain rfl:ov=Value.ref a:=rx;exact gD I2 ea c n l ry λs3 I3=>⟨σ,_,I3,q2⟩
def WO(ha:PE X o ta)(hv:PE X value tv)(hop:UU X op rd):PS X (.AugAssign (.Attribute o f EO) op value pos) (Ř X.K ta tv rd f):=by
 intro pZ s σ H D I h;refine wpAny_AugAssign_AttributeAny<|aQ (ha pZ s σ H _ I h) λov s1 ⟨x,H1,I1,rx,a,C,dx,fs,v,ex,ea,c,n,l,q⟩=>?_;subst ex;obtain rfl:ov=Value.ref a:=rx;refine gQ I1 ea c n l λu s2 I2 ru=>aQ (hv pZ s2 σ H1 _ I2 q) λw3 s3 ⟨y,H2,I3,ry,q3⟩=>aQ (hop pZ s3 σ H2 v y u w3 _ I3 ru ry q3) λw4 s4 ⟨z,H3,I4,rz,L0,HI,ea',l',q4⟩=>?_
 exact gD I4 ea' c n l' rz λs5 I5=>⟨σ,_,I5,q4⟩
def qb3:V->V->Hp->VK->Prop:=λx y H Q=>∃i j,x=.int i/\y=.int j/\Q (.int<|i+j) H
def Ye:UU X .Add qb3:=by
 rintro pZ s σ H x y u v Q I rx ry ⟨i,j,rfl,rfl,q⟩;obtain⟨t,rfl⟩:=(show ∃t,u=Value.int i t from rx);obtain⟨t',rfl⟩:=(show ∃t',v=Value.int j t' from ry);exact PyProof.Rows.iadd_int ⟨.int<|i+j,H,I.tok _,⟨_,rfl⟩,q⟩
inductive x_ (K:Fg) (H:Hp):V->Value->Prop where
 |aE:x_ K H .aE (.type "NoneType")
 |bl (x:Bool):x_ K H (.bl x) (.type "bool")
 |int (i:Int):x_ K H (.int i) (.type "int")
 |str (x:Str):x_ K H (.str x) (.type "str")
 |B2 (x:UInt64):x_ K H (.B2 x) (.type "float")
 |lst {a:Addr} {xs:List V} (e:H a=aA (.lst xs)):x_ K H (.ref a) (.type "list")
 |i6 {a:Addr} {o:Obj} {xs:List V} (e:H a=aA (.i6 o<|.lst xs)):x_ K H (.ref a) (.type "list")
 |tup {a:Addr} {xs:List V} (e:H a=aA (.tup xs)):x_ K H (.ref a) (.type "tuple")
 |dK {a:Addr} {kvs:List (Key×V)} (e:H a=aA (.dK kvs)):x_ K H (.ref a) (.type "dict")
 |dT {a:Addr} {kvs:List (List Key×V)} (e:H a=aA (.dT kvs)):x_ K H (.ref a) (.type "dict")
 |ins {a C dx:Addr} {fs:List (Str×V)} (e:H a=aA (.ins C dx fs)) (cl:f9 K C) (ha:cj K (.ref C) "__class__" = aA (aA<|.builtin "object.__class__"))
   (hn:PySem.W.specialIn K (.builtin "object.__class__") "__get__" = aA (aA<|.builtin "getset_descriptor.__get__")) (SU:PySem.W.takesIn K (.builtin "object.__class__")=aA true)
   (hm:PySem.W.mroIn K C (.type "object")=aA true):x_ K H (.ref a) (.ref C)
def uW(I:Inv X pZ σ H s)(rx:RelV x u)(ty:x_ X.K H x t)(e:ur X.K t c=aA b)(h:∀tk,Q (.bool b) { s with toks:=tk }):wpAny (model X.prog X.w) A (call (.builtin "isinstance") [u,c]) Q E s:=by
 cases ty with
 |aE=>cases (show u=Value.none from rx);exact gp PySem.W.kitx_none I.fE True.intro e (λz=>nomatch z) h
 |bl y=>cases (show u=Value.bool y from rx);exact gp PySem.W.kitx_bool I.fE True.intro e (λz=>nomatch z) h
 |int i=>obtain⟨t,q⟩:=(show ∃t,u=Value.int i t from rx);cases q;exact gp PySem.W.kitx_int I.fE True.intro e (λz=>nomatch z) h
 |str y=>obtain⟨t,q⟩:=(show ∃t,u=Value.str y t from rx);cases q;exact gp PySem.W.kitx_str I.fE True.intro e (λz=>nomatch z) h
 |B2 y=>obtain⟨t,q⟩:=(show ∃t,u=Value.float y t from rx);cases q;exact gp PySem.W.kitx_float I.fE True.intro e (λz=>nomatch z) h
 |@lst a xs ea=>
  cases (show u=Value.ref a from rx);obtain⟨_,_,n,_,h1⟩:=(show fS X.prog X.w H s.heap a (.lst xs) from I.aT a _ ea);exact gp wg I.fE ⟨_,h1,rfl⟩ e (λz=>nomatch z) h
 |@i6 a ob xs ea=>
  cases (show u=Value.ref a from rx);obtain⟨_,_,_,n,_,h1⟩:=(show fS X.prog X.w H s.heap a (.i6 ob<|.lst xs) from I.aT a _ ea);exact gp wg I.fE ⟨_,h1,rfl⟩ e (λz=>nomatch z) h
 |@tup a xs ea=>
  cases (show u=Value.ref a from rx);obtain⟨_,_,_,p⟩:=(show fS X.prog X.w H s.heap a (.tup xs) from I.aT a _ ea);obtain⟨o,h1,h2,_⟩:=p;exact gp PySem.W.kitx_tuple I.fE ⟨o,h1,h2⟩ e (λz=>nomatch z) h
 |@dK a kvs ea=>
  cases (show u=Value.ref a from rx);obtain⟨_,_,vs,_,p⟩:=(show fS X.prog X.w H s.heap a (.dK kvs) from I.aT a _ ea);obtain⟨o,es,ep,h1,h2,_⟩:=p;exact gp PySem.W.kitx_dict I.fE ⟨o,h1,h2.1⟩ e (λz=>nomatch z) h
 |@dT a kvs ea=>
  cases (show u=Value.ref a from rx);obtain⟨_,_,xs,_,o,es,ep,h1,h2,_⟩:=(show fS X.prog X.w H s.heap a (.dT kvs) from I.aT a _ ea);exact gp PySem.W.kitx_dict I.fE ⟨o,h1,h2.1⟩ e (λz=>nomatch z) h
 |@ins a C dx fs ea cl ha hn SU hm=>
  cases (show u=Value.ref a from rx);obtain⟨mA,O,_⟩:=pJ I.aT ea;obtain⟨od,J,_⟩:=O.look;exact gp (PySem.W.kitx_own (cl.get _) cl.hd ha hn SU hm) I.fE J e (λz=>nomatch z) h
structure eS(k:Nat)(A:Around):Prop where
 hd:A.handled=aD
 dp:A.depth+3*k+5<recursionLimit
 un:A.units+16*k+200<cLine
 gd:A.guards=aA []
def eS.mono(r:eS k A)(h:j<=k):eS j A:=⟨r.hd,by have:=r.dp;omega,by have:=r.un;omega,r.gd⟩
def eS.deeper(r:eS (k+1) A)(env:Env):eS k (A.deeper env):=
 ⟨r.hd,by have:=r.dp;show A.depth+1+3*k+5<_;omega,by have:=r.un;show A.units+3+16*k+200<_;omega,r.gd⟩
def tO{A:Around}{C:Addr}{us:List Value}{kw:List (Str×Value)}:(A.under<|.builtin "type.__call__" ⟨.ref C::us,kw⟩).depth=A.depth+1:=by
 first|rfl|simp[zw,Code.weight,Code.isCreation,Code.isGuard,Code.isCaller,Code.frames,zt,guardIds]
def tN{A:Around}{C:Addr}{us:List Value}{kw:List (Str×Value)}:(A.under<|.builtin "type.__call__" ⟨.ref C::us,kw⟩).units=A.units+1:=by
 first|rfl|simp[zw,Code.cUnits,Code.frames,zt]
def eS.make(r:eS (k+1) A)(C:Addr)(us:List Value)(kw:List (Str×Value)):eS k (A.under<|.builtin "type.__call__" ⟨.ref C::us,kw⟩):=
 ⟨r.hd,by have:=r.dp;rw[tO];omega,by have:=r.un;rw[tN];omega,by first|exact r.gd|(show PySem.pushGuards _ A.guards=_;rw[r.gd];rfl)⟩
def eS.depth(r:eS k A):A.depth<recursionLimit:=by have:=r.dp;omega
def eS.Qe(r:eS k A):A.units<cLine:=by have:=r.un;omega
noncomputable def Ag:TA:=λ_ H Q=>Q [] H
noncomputable def mM(ta:TE)(tr:TA):TA:=λσ H Q=>ta σ H λx H1=>tr σ H1 λxs H2=>Q (x::xs) H2
def xH:PA X [] Ag:=λ_ _ _ _ H Q I h=>rq ⟨[],H,I,.nil,h⟩
def yK(ha:PE X e te)(hr:PA X es t)(hs:i_ X e es:=by rfl):PA X (e::es) (mM te t):=by
 intro pos pZ s σ H Q I h;rw[hs];show wpAny _ _ (spliced ((false,eval e X.env)::lm pos (ar es X.env))) _ _ s;refine ox<|aQ (ha pZ s σ H _ I h) λu s1 ⟨x,H1,I1,r1,q1⟩=>?_;exact aQ (hr pos pZ s1 σ H1 _ I1 q1) λus s2 ⟨xs,H2,I2,r2,q2⟩=>⟨x::xs,H2,I2,.cons r1 r2,q2⟩
def ϰ(t:TA):TE:=λσ H Q=>t σ H λxs H1=>xs.length<=ae/\∀p,H1 p=aD->Q (.ref p) (upd H1 p<|.tup xs)
def IP(t:TA):TE:=λσ H Q=>t σ H λxs H1=>xs.length<=ae/\∀p,H1 p=aD->Q (.ref p) (upd H1 p<|.lst xs)
def OM{x1}(h:PA X es t):PE X (.Tuple es x1 pos) (ϰ t):=by
 intro pZ s σ H Q I hq;refine wpAny_Tuple_spliced<|aQ (h pos pZ s σ H _ I hq) λus s1 ⟨xs,H1,I1,r,z,q⟩=>⟨by rw[<-r.length];exact z,?_⟩;have hf:H1 s1.heap.objs.size=aD:=I1.aT.fresh<|ah _;refine⟨.ref s1.heap.objs.size,upd H1 s1.heap.objs.size<|.tup xs,I1.laid (t':=s1.toks) (λb u e=>ad _ e) (ah _) ?_,rfl,q _ hf⟩;exact⟨z,us,r,⟨_,ay _ rfl,rfl,_,rfl⟩⟩
def Ka(h:PA X es t):PE X (.List es pos) (IP t):=by
 intro pZ s σ H Q I hq;refine wpAny_List_spliced<|aQ (h pos pZ s σ H _ I hq) λus s1 ⟨xs,H1,I1,r,z,q⟩=>⟨by rw[<-r.length];exact z,?_⟩;have hf:H1 s1.heap.objs.size=aD:=I1.aT.fresh<|ah _;refine⟨.ref s1.heap.objs.size,upd H1 s1.heap.objs.size<|.lst xs,I1.laid (t':=s1.toks) (λb u e=>ad _ e) (ah _) ?_,rfl,q _ hf⟩;exact⟨z,us,0,r,ay _ rfl⟩
abbrev Sp:=List V->Hp->VK->XK->Prop
abbrev CW:=List Env->Hp->Shared->XK->Value->Shared->Prop
structure CV(P:Program)(w:World)(K:Fg)(mg:Str->Option Value)(base:Heap)(A:Around)(outer:List Env)(s:Shared)(H:Hp):Prop where
 frames:A.frames=aA outer
 mod:Mod K mg base
 bs:∀b o,base.get? b=aA o->s.heap.get? b=aA o/\H b=aD
 A0:base.objs.size<=s.heap.objs.size
 u_:s.heap.FunFrames base outer
 CM:UV K outer H
 aT:fL P w H s.heap
 bare:AllBare s.gens
def CE(outer:List Env)(P:Program)(w:World)(H:Hp)(s:Shared)(Q:VK)(u:Value)(s':Shared):Prop:=
 ∃v H',s'.os=s.os/\AllBare s'.gens/\Un (sS outer) [] H H' s.heap s'.heap/\fL P w H' s'.heap/\RelV v u/\Q v H'
def CR(CX:CW)(outer:List Env)(P:Program)(w:World)(H:Hp)(s:Shared)(Q:VK)(E:XK)(r:Result)(s':Shared):Prop:=
 match r with
 |.ok (.ret u)=>CE outer P w H s Q u s'
 |.ok _=>False
 |.error e=>CX outer H s E e s'
structure eA(P:Program)(w:World)(K:Fg)(mg:Str->Option Value)(base:Heap)(CX:CW)(k:Nat)(f:Addr)(fd:FuncData)(ps:List Str)(sp:Sp):Prop where
 len:∀vs H Q E,sp vs H Q E->vs.length=ps.length
 run:∀(A:Around) (outer:List Env) (s:Shared) (H:Hp) (args:Args) (us:List Value) (vs:List V) (Q:VK) (E:XK),eS k A->CV P w K mg base A outer s H->BindsTo s fd args (ps.zip us)->Vals vs us->sp vs H Q E ->
  codeAny (model P w) A (.call (.ref f) args) (CR CX outer P w H s Q E) s
def eA.imp{K:Fg}(F:eA P w K mg base CX k f fd ps sp)(h:∀vs H Q E,sp' vs H Q E->sp vs H Q E):eA P w K mg base CX k f fd ps sp':=
 ⟨λvs H Q E q=>F.len vs H Q E<|h _ _ _ _ q,λA outer s H args us vs Q E hr he hb hv hs=>F.run A outer s H args us vs Q E hr he hb hv<|h _ _ _ _ hs⟩
def CV.make{K:Fg}(e:CV P w K mg base A outer s H)(C:Addr)(us:List Value)(kw:List (Str×Value)):CV P w K mg base (A.under<|.builtin "type.__call__" ⟨.ref C::us,kw⟩) outer s H:=⟨by first|exact e.frames|(simpa [zw,Code.envs,zt,pushEnvs] using e.frames),e.mod,e.bs,e.A0,e.u_,e.CM,e.aT,e.bare⟩
def Inv.Tq(I:Inv X pZ σ H s):CV X.prog X.w X.K X.mg X.base X.A X.stack s H:=
 ⟨I.ok.frames,I.ok.mod,I.bs,cg I.ok.A0 I.sz,I.stack,⟨I.Qy,I.tabIn⟩,I.aT,I.bare⟩
def Inv.after(I:Inv X pZ σ H s)(h:CE X.stack X.prog X.w H s Q u s'):EP X pZ σ Q u s':=by
 obtain⟨v,H',os,bare,un,aT,r,q⟩:=h;obtain⟨hh,g,d,t,os'⟩:=s';obtain rfl:os'=s.os:=os;exact⟨v,H',I.call (h':=hh) (g':=g) (d':=d) (t':=t) (ch:=[]) un aT bare λb z=>absurd z<|by simp,r,q⟩
noncomputable def Jg(sp:Sp)(dvs:List V)(E:XK)(t:TA):TE:=λσ H Q=>t σ H λvs H1=>sp (vs++dvs) H1 Q E
def NT(C:Addr)(m:Str)(sp:Sp)(dvs:List V)(E:XK)(ta:TE)(t:TA):TE:=λσ H Q=>ta σ H λx H1=>∃a dx fs,x=.ref a/\H1 a=aA (.ins C dx fs)/\fs.lookup m=aD /\
 t σ H1 λvs H2=>sp (x::(vs++dvs)) H2 Q E
def V4(C:Addr)(sp:Sp)(dvs:List V)(E:XK)(t:TA):TE:=λσ H Q=>t σ H λvs H1=>∀x dx,H1 x=aD->H1 dx=aD->dx≠x ->
 sp (.ref x::(vs++dvs)) (upd (upd H1 dx<|.own x) x<|.ins C dx []) (λv H2=>v=.aE/\Q (.ref x) H2) E
def Binds(K:Fg)(fd:FuncData)(ps:List Str)(ds:List Value):Prop:=
 ∀(s:Shared) (us:List Value),K.In s.heap->(us++ds).length=ps.length->BindsTo s fd ⟨us,[]⟩ (ps.zip<|us++ds)
def Binds.all{K:Fg}(h:∀us:List Value,us.length=ps.length->bindArgs fd ⟨us,[]⟩=pure (ps.zip us)):Binds K fd ps []:=λs us _ hl=>by
 rw[ie] at hl ⊢;exact .of_eq<|h us hl
def dX(CX:CW)(X:Cx)(E:XK):Prop:=∀(pZ:List (Addr×Obj)) (σ:St) (H:Hp) (s:Shared) (e:Value) (s':Shared),Inv X pZ σ H s->CX X.stack H s E e s'->X.xe e s'
def rY(F:eA X.prog X.w X.K X.mg X.base CX k f fd ps sp)(hr:eS k X.A)(hb:Binds X.K fd ps ds)(hd:Vals dvs ds)(hx:dX CX X E)(I:Inv X pZ σ H s)(r:Vals vs us)(h:sp (vs++dvs) H Q E):wpAny (model X.prog X.w) X.A (call (.ref f) us) (EP X pZ σ Q) X.xe s:=by
 have r2:Vals (vs++dvs) (us++ds):=r.append hd;have hl:(us++ds).length=ps.length:=by rw[<-r2.length];exact F.len _ _ _ _ h
 refine wpAny_call<|vw (F.run X.A X.stack s H ⟨us,[]⟩ (us++ds) (vs++dvs) Q E hr I.Tq (hb s us I.fE hl) r2 h) λr s' hq=>?_;cases r with
 |error e=>exact hx pZ σ H s e s' I hq
 |ok fl=>
  cases fl with
  |ret u=>exact I.after hq
  |next=>exact jk hq
  |brk=>exact jk hq
  |cont=>exact jk hq
def gG(F:eA X.prog X.w X.K X.mg X.base CX k f fd ps sp)(hr:eS k X.A)(hg:Gl X x)(hm:X.mg x=aA (.ref f))(hk:dw X.K (.ref f)=true)(hb:Binds X.K fd ps ds)(hd:Vals dvs ds)(hx:dX CX X E)(ha:PA X (e::es) t)(iK:iH x:=by decide)(he:i_ X e es:=by rfl)(hpl:JV X es pos:=by rfl):PE X (.Call (.Name x p) (e::es) [] pos) (Jg sp dvs E t):=by
 intro pZ s σ H Q I h;refine oq<|pB I hg hm ?_ iK;refine ou (h₀:=X.base) I.ok.mod.Bf hk (aQ (ha pos pZ s σ H _ I h) λus s1 ⟨vs,H1,I1,r,q⟩=>⟨I1.fE,?_⟩) he hpl;exact rY F hr hb hd hx I1 r q
def ł{pl:Sem Bool}(he:PE X o ta)(c:f9 X.K C)(hm:Meth X.K C m f)(F:eA X.prog X.w X.K X.mg X.base CX k f fd ps sp)(hr:eS k X.A)(hb:Binds X.K fd ps ds)(hd:Vals dvs ds)(hx:dX CX X E)(ha:PA X (e::es) t)(iN:i_ X e es:=by rfl)(hpl:JV X es pos:=by rfl)(ht:eval (.Call (.Attribute o m apos) (e::es) [] pos) X.env=(do
   let ov <- eval o X.env
   standAt apos.atName
   let (f,first) <- holding [ov] (getMethod ov m pl)
   callWith pos f first (lm pos<|ar (e::es) X.env) (nr pos<|ke [] X.env)):=by rfl):PE X (.Call (.Attribute o m apos) (e::es) [] pos) (NT C m sp dvs E ta t):=by
 intro pZ s σ H Q I h;refine ug (pl:=pl) (aQ (he pZ s σ H _ I h) λu s1 ⟨x,H1,I1,rx,a,dx,fs,ex,ea,l,q⟩=>?_) ht;subst ex;obtain rfl:u=Value.ref a:=rx;refine gP I1 ea c hm l ?_;refine ou (first:=[.ref a]) (h₀:=X.base) I.ok.mod.Bf hm.kp (aQ (ha pos pZ s1 σ H1 _ I1 q) λus s2 ⟨vs,H2,I2,r,q2⟩=>⟨I2.fE,?_⟩) iN hpl;exact rY (us:=.ref a::us) (vs:=.ref a::vs) F hr hb hd hx I2 (.cons rfl r) q2
def Υ{pl:Sem Bool}(he:PE X o ta)(c:f9 X.K C)(hm:Meth X.K C m f)(F:eA X.prog X.w X.K X.mg X.base CX k f fd ps sp)(hr:eS k X.A)(hb:Binds X.K fd ps ds)(hd:Vals dvs ds)(hx:dX CX X E)(ht:eval (.Call (.Attribute o m apos) [] [] pos) X.env=(do
   let ov <- eval o X.env
   standAt apos.atName
   let (f,first) <- holding [ov] (getMethod ov m pl)
   callWith pos f first (lm pos<|ar [] X.env) (nr pos<|ke [] X.env)):=by rfl):PE X (.Call (.Attribute o m apos) [] [] pos) (NT C m sp dvs E ta Ag):=by
 intro pZ s σ H Q I h;refine ug (pl:=pl) (aQ (he pZ s σ H _ I h) λu s1 ⟨x,H1,I1,rx,a,dx,fs,ex,ea,l,q⟩=>?_) ht;subst ex;obtain rfl:u=Value.ref a:=rx;refine gP I1 ea c hm l ?_;exact PySem.W.callWith_K0 (first:=[.ref a]) I1.fE hm.kp<|rY (us:=[.ref a]) (vs:=[.ref a]) F hr hb hd hx I1 (.cons rfl .nil) q
structure Mk(K:Fg)(C f:Addr):Prop where
 makes:xf K C=true
 init:cj K (.ref C) "__init__" = aA (aA<|.ref f)
 fn:jq K (.ref f)=true
 kp:dw K (.ref C)=true
def ξ(M:Mk X.K C f)(F:eA X.prog X.w X.K X.mg X.base CX k f fd ps sp)(hr:eS (k+1) X.A)(hb:Binds X.K fd ps ds)(hd:Vals dvs ds)(hx:dX CX X E)(I:Inv X pZ σ H s)(r:Vals vs us)(h:∀x dx,H x=aD->H dx=aD->dx≠x->sp (.ref x::(vs++dvs)) (upd (upd H dx<|.own x) x<|.ins C dx []) (λv H2=>v=.aE/\Q (.ref x) H2) E):wpAny (model X.prog X.w) X.A (call (.ref C) us) (EP X pZ σ Q) X.xe s:=by
 have hq:=h (s.heap.objs.size+1) s.heap.objs.size (I.aT.fresh<|Nat.le_succ _) (I.aT.fresh<|ah _)<|bf<|qh _;have I2:=Inv.made (C:=C) I;have r2:Vals (V.ref (s.heap.objs.size+1)::(vs++dvs)) (Value.ref (s.heap.objs.size+1)::(us++ds)):=.cons rfl<|r.append hd;have hl:(Value.ref (s.heap.objs.size+1)::us++ds).length=ps.length:=by
  have e:=r2.length;rw[F.len _ _ _ _ hq] at e;exact e.symm
 refine wpAny_call (ſ (f:=f) I.fE M.makes M.init (beq_iff_eq.mp M.fn) (vw (F.run _ X.stack _ _ ⟨Value.ref (s.heap.objs.size+1)::us,[]⟩ (Value.ref (s.heap.objs.size+1)::(us++ds)) _ _ E (hr.make C us [])
  (I2.Tq.make C us []) (hb _ (Value.ref (s.heap.objs.size+1)::us) I2.fE hl) r2 hq) λr s' Fc=>?_))
 cases r with
 |error e=>exact hx pZ σ _ _ e s' I2 Fc
 |ok fl=>
  cases fl with
  |ret u=>
   obtain⟨v,H',I3,rv,ev,q3⟩:=I2.after Fc;subst ev;exact⟨rv,⟨V.ref<|s.heap.objs.size+1,H',I3,rfl,q3⟩⟩
  |next=>exact jk Fc
  |brk=>exact jk Fc
  |cont=>exact jk Fc
def Ł(M:Mk X.K C f)(F:eA X.prog X.w X.K X.mg X.base CX k f fd ps sp)(hr:eS (k+1) X.A)(hg:Gl X x)(hm:X.mg x=aA (.ref C))(hb:Binds X.K fd ps ds)(hd:Vals dvs ds)(hx:dX CX X E)(ha:PA X (e::es) t)(iK:iH x:=by decide)(he:i_ X e es:=by rfl)(hpl:JV X es pos:=by rfl):PE X (.Call (.Name x p) (e::es) [] pos) (V4 C sp dvs E t):=by
 intro pZ s σ H Q I h;refine oq<|pB I hg hm ?_ iK;refine ou (h₀:=X.base) I.ok.mod.Bf M.kp (aQ (ha pos pZ s σ H _ I h) λus s1 ⟨vs,H1,I1,r,q⟩=>⟨I1.fE,?_⟩) he hpl;exact ξ M F hr hb hd hx I1 r q
def PK(X:Cx)(Ho:List Keyword)(t:TA):Prop:=
 ∀(pos:Pos) (pZ:List (Addr×Obj)) (s:Shared) (σ:St) (H:Hp) (Q:List V->Hp->Prop),Inv X pZ σ H s->t σ H Q->wpAny (model X.prog X.w) X.A (evalAll<|(nr pos<|ke Ho X.env).map (·.2)) (AP X pZ σ Q) X.xe s
def Ì:PK X [] Ag:=λ_ _ _ _ H Q I h=>wpAny_evalAll_nil ⟨[],H,I,.nil,h⟩
def Ķ(ha:PE X e te)(hr:PK X Ho t):PK X (⟨nm,e,Hq⟩::Ho) (mM te t):=by
 intro pos pZ s σ H Q I h;show wpAny _ _ (evalAll ((do let v <- eval e X.env;standAt pos;pure v)::(nr pos<|ke Ho X.env).map (·.2))) _ _ s;refine wpAny_evalAll_cons<|ac<|aQ (ha pZ s σ H _ I h) λu s1 ⟨x,H1,I1,r1,q1⟩=>ac<|vf<|af ?_;exact aQ (hr pos pZ s1 σ H1 _ I1 q1) λus s2 ⟨xs,H2,I2,r2,q2⟩=>⟨x::xs,H2,I2,.cons r1 r2,q2⟩
structure sU(N P:List Str)(sc:Scope):Prop where
 kind:sc.kind=.function
 co:sc.isCoroutine=false
 gen:sc.isGenerator=false
 nd:N.Nodup
 pre:N.take P.length=P
 par:∀x∈P,sc.names.lookup x=aA .local\/sc.names.lookup x=aA .cell
 qc4:∀y∈sc.names,y.2≠.free
theorem p5{kindOf:Str->Option NameKind}:∀{binds:List (Str×Value)} {m:Str->Option Value},(∀v,(x,v)∉binds)->bindL kindOf binds m x=m x
 |[],_,_=>rfl
 |(n,v)::r,m,h=>by
  unfold bindL;rw[p5 λw hw=>h w<|bh _ hw];split
  .have:x≠n:=by rintro rfl;exact h v dz
   simp[this]
  .rfl
theorem p7{kindOf:Str->Option NameKind}:∀{binds:List (Str×Value)} {m:Str->Option Value},(∀v,(x,v)∉binds)->bindC kindOf binds m x=m x
 |[],_,_=>rfl
 |(n,v)::r,m,h=>by
  unfold bindC;rw[p7 λw hw=>h w<|bh _ hw];split
  .rfl
  .have:x≠n:=by rintro rfl;exact h v dz
   simp[this]
theorem p6{kindOf:Str->Option NameKind}:∀{P:List Str} {vs:List Value} {i:Nat} {m:Str->Option Value},P.Nodup->P[i]?=aA x->vs[i]?=aA v->kindOf x=aA .local ->
  bindL kindOf (P.zip vs) m x=aA v
 |[],_,_,_,_,h,_,_=>by simp at h
 |_::_,[],_,_,_,_,h,_=>by simp at h
 |p::P,w::vs,0,m,nd,h1,h2,hk=>by
  simp at h1 h2;subst h1;subst h2;show bindL kindOf ((p,w)::P.zip vs) m p=_;unfold bindL;rw[p5 λv hv=>(dm.mp nd).1 (xh hv).1,if_pos hk];simp
 |p::P,w::vs,i+1,m,nd,h1,h2,hk=>by
  show bindL kindOf ((p,w)::P.zip vs) m x=_;unfold bindL;exact p6 (i:=i) (dm.mp nd).2 (by simpa using h1) (by simpa using h2) hk
theorem p9{kindOf:Str->Option NameKind}:∀{P:List Str} {vs:List Value} {i:Nat} {m:Str->Option Value},P.Nodup->P[i]?=aA x->vs[i]?=aA v->kindOf x≠aA .local ->
  bindC kindOf (P.zip vs) m x=aA v
 |[],_,_,_,_,h,_,_=>by simp at h
 |_::_,[],_,_,_,_,h,_=>by simp at h
 |p::P,w::vs,0,m,nd,h1,h2,hk=>by
  simp at h1 h2;subst h1;subst h2;show bindC kindOf ((p,w)::P.zip vs) m p=_;unfold bindC;rw[p7 λv hv=>(dm.mp nd).1 (xh hv).1,if_neg hk];simp
 |p::P,w::vs,i+1,m,nd,h1,h2,hk=>by
  show bindC kindOf ((p,w)::P.zip vs) m x=_;unfold bindC;exact p9 (i:=i) (dm.mp nd).2 (by simpa using h1) (by simpa using h2) hk
noncomputable def start(N:List Str)(vs:List V):St:=vs.map aA++bg (N.length-vs.length) aD
noncomputable def Ae(CX:CW)(P:Program)(w:World)(K:Fg)(mg:Str->Option Value)(base:Heap)(N:List Str)(qual:Str)(scope:Scope)(f:Addr)(cd:Value)(A:Around)(outer:List Env)(s:Shared)(H:Hp)(E:XK):Cx where
 prog:=P
 w:=w
 K:=K
 mg:=mg
 base:=base
 A:=A.deeper<|envOfC qual scope s.heap.objs.size f cd
 N:=N
 s₀:=s
 H₀:=H
 env:=envOfC qual scope s.heap.objs.size f cd
 outer:=outer
 stack:=envOfC qual scope s.heap.objs.size f cd::outer
 ex:=[]
 calm:=true
 fn:=λ_=>true
 pn:=[]
 xe:=λe s'=>wpAny (model P w) (A.deeper<|envOfC qual scope s.heap.objs.size f cd) (leaving (envOfC qual scope s.heap.objs.size f cd) e) (λ_ KE=>CX outer H s E e KE) (λe' KE=>CX outer H s E e' KE) s'
def XF{sc:Scope}{n:Nat}{x:Str}(h:sc.names.lookup x=aA .cell):∃c,(cellsFrom n sc.names []).lookup x=aA c:=by
 have q:=zk sc.names n []<|.inl h;exact Option.isSome_iff_exists.mp q
def QS{K:Fg}(S:sU N ps scope)(hd:A.handled=aD)(e0:CV P w K mg base A outer s H)(hl:vs.length=ps.length)(r:Vals vs us)(x:InCallC s s.heap.objs.size (bindL (envOfC qual scope s.heap.objs.size f cd).kindOf (ps.zip us) λ_=>aD) (cellsFrom (s.heap.objs.size+1) scope.names []) (bindC (envOfC qual scope s.heap.objs.size f cd).kindOf (ps.zip us) λ_=>aD) s1):Inv (Ae CX P w K mg base N qual scope f cd A outer s H E) [] (start N vs) H s1:=by
 have hpl:ps.length<=N.length:=by have:=congrArg jg S.pre;rw[ii] at this;omega
 obtain⟨h1,tk,rfl,hk⟩:=x.done;have EX:∀b:Addr,b∉(Ae CX P w K mg base N qual scope f cd A outer s H E).ex:=λb z=>absurd (show b∈([]:List Addr) from z) (by simp)
 refine⟨⟨e0.mod,S.kind,rfl,rfl,ah _,λy z c h1 h2=>?_,λy hy=>?_,λy c _ h=>?_,λ_=>hd,Around.frames_deeper e0.frames,.inr ⟨rfl,rfl⟩,λb z=>absurd z<|EX b,e0.bs,e0.A0,λb _ _=>EX b,λb z=>absurd z<|EX b,e0.u_,e0.CM⟩,
  rfl,e0.bare,Un.kept hk,⟨_,x.toInCall.ns,λi y v h1 h2 h3=>?_⟩,λy c h=>⟨_,x.cell y c h⟩,e0.aT.fresh (ah _),λy c h=>?_,λp hp=>absurd (show p∈([]:List (Addr×Obj)) from hp)<|by simp,e0.aT.kept hk,?_⟩
 .exact name_of_addr x.apart (ik h1)<|ik h2
 .have hy:scope.names.lookup y=aA .cell\/scope.names.lookup y=aA .free:=hy;rcases hy with hy|hy
  .exact XF hy
  .exact absurd rfl<|S.qc4 _<|ik hy
 .exact lu<|x.above y c<|ik h
 .have hi:i<vs.length:=by
   unfold start at h2;by_cases hi:i<vs.length
   .exact hi
   .rw[dk<|by simpa using hi] at h2;rw[cw] at h2;split at h2<;>cases h2
  have ha:vs[i]?=aA v:=by
   unfold start at h2;rw[be<|by simpa using hi,bw] at h2;cases e:vs[i]? with
   |none=>rw[e] at h2;cases h2
   |some a=>rw[e] at h2;cases h2;rfl
  obtain⟨u,hu,rv⟩:=r.get ha;have hp:ps[i]?=aA y:=by
   rw[<-S.pre,sf<|by omega];exact h1
  have RY:ps.Nodup:=by rw[<-S.pre];exact S.nd.sublist<|List.take_sublist _ _
  refine⟨u,rv,?_⟩;rcases S.par y (qo hp) with k|k
  .exact .inl ⟨k,p6 RY hp hu k⟩
  .obtain⟨c,e⟩:=XF (n:=s.heap.objs.size+1) k;refine .inr ⟨.inl k,c,e,?_⟩;have q:=x.cell y c e;rw[p9 RY hp hu (by show scope.names.lookup y≠_;rw[k];decide)] at q;exact q
 .exact e0.aT.fresh<|lu<|x.above y c<|ik h
 .unfold start;show _=N.length;rw[bc,ag,aae];omega
def N0{K:Fg}{kV:Value}(lk:K.lookup f=aA ⟨oc,od,.func<|kr name qual params body scope dV kV doc pm an eI ct,Cr⟩)(sQ:my K eI qual=true)(S:sU N ps scope)(len:∀vs H Q E,sp vs H Q E->vs.length=ps.length)(LG:∀(A:Around) (outer:List Env) (s:Shared) (H:Hp) (vs:List V) (Q:VK) (E:XK),eS k (A.deeper<|envOfC qual scope s.heap.objs.size f eI)->sp vs H Q E ->
   ∃t,iE (Ae CX P w K mg base N qual scope f eI A outer s H E) body t/\t { nx:=λ_ H'=>Q .aE H',rt:=Q } (start N vs) H):eA P w K mg base CX (k+1) f (kr name qual params body scope dV kV doc pm an eI ct) ps sp:=by
 refine⟨len,λA outer s H args us vs Q E hr e0 hb r AT=>?_⟩;have hl:=len _ _ _ _ AT;have KX:K.In s.heap:=e0.mod.Bf.keeps λb o e=>(e0.bs b o e).1
 have lim:s.heap.NoLimit:=e0.mod.nolimit.keeps λb o e=>(e0.bs b o e).1
 have qf0:∀y∈ps.zip us,scope.names.lookup y.1=aA .local\/(scope.names.lookup y.1=aA .cell/\((cellsFrom (s.heap.objs.size+1) scope.names []).lookup y.1).isSome=true):=λ⟨n,v⟩ hy=>by
  rcases S.par n (xh hy).1 with q|q
  .exact .inl q
  .exact .inr ⟨q,zk _ _ _<|.inl q⟩
 refine codeAny_call_function hr.depth (KX _ _ lk) rfl S.co S.gen rfl (PySem.W.codeRec_of KX sQ)<|hb _ _ _ _ ?_;refine wpAny_newFunctionEnv_cells S.kind qf0 λenv he s1 x=>?_
 subst he;refine⟨lim.keeps x.toInCall.keep,codeAny_func ?_⟩;obtain⟨t,ht,hq⟩:=LG A outer s H vs Q E (hr.deeper _) AT;have I:Inv (Ae CX P w K mg base N qual scope f eI A outer s H E) [] (start N vs) H s1:=QS S hr.hd e0 hl r x;refine jp (ht [] s1 (start N vs) H _ I hq) (λfl s' hs=>?_) λe s' hs=>hs
 have fin:∀{σ':St} {H':Hp} {v:V} {u:Value},Inv (Ae CX P w K mg base N qual scope f eI A outer s H E) [] σ' H' s'->RelV v u->Q v H'->CE outer P w H s Q u s':=
  λ{σ' H' v u} J rv q=>⟨v,H',J.os,J.bare,J.base,J.aT,rv,q⟩
 cases fl with
 |ret u=>
  obtain⟨v,σ',H',J,rv,q⟩:=hs;exact fin J rv q
 |next=>
  obtain⟨σ',H',J,q⟩:=hs;exact fin (v:=V.aE) (u:=Value.none) J rfl q
 |brk=>
  obtain⟨_,_,_,q⟩:=hs;exact jk q
 |cont=>
  obtain⟨_,_,_,q⟩:=hs;exact jk q
section
variable{id:String}
def Qw(r:List V->Hp->VK->Prop)(t:TA):TE:=λσ H Q=>t σ H λvs H1=>r vs H1 Q
def kX(hc:iW X (.builtin id) r)(hg:Gl X x)(hm:X.mg x=aD)(hv:bootBuiltins x=aA (.builtin id))(ha:PA X (e::es) t)(hn:x ≠ "__name__" := by decide)(iK:iH x:=by decide)(he:i_ X e es:=by rfl)(hpl:JV X es pos:=by rfl):PE X (.Call (.Name x p) (e::es) [] pos) (Qw r t):=by
 intro pZ s σ H Q I h;refine oq<|uB I hg hm hv ?_ hn iK;exact PyProof.Rows.callWith_builtin1 (aQ (ha pos pZ s σ H _ I h) λus s1 ⟨vs,H1,I1,r1,q1⟩=>hc pZ s1 σ H1 vs us Q I1 r1 q1) he hpl
def uM(hc:iW X (.type T) r)(hg:Gl X x)(hm:X.mg x=aD)(hv:bootBuiltins x=aA (.type T))(ha:PA X (e::es) t)(hn:x ≠ "__name__" := by decide)(iK:iH x:=by decide)(he:i_ X e es:=by rfl)(hpl:JV X es pos:=by rfl):PE X (.Call (.Name x p) (e::es) [] pos) (Qw r t):=by
 intro pZ s σ H Q I h;refine oq<|uB I hg hm hv ?_ hn iK;exact fq (aQ (ha pos pZ s σ H _ I h) λus s1 ⟨vs,H1,I1,r1,q1⟩=>hc pZ s1 σ H1 vs us Q I1 r1 q1) he hpl
end
end L2
namespace HT
open PySem PyProof.Rows
section
open PySem.SeqAt
open PySem.AutoSeq1 (wpAny_loadPart')
open PySem.MeetsSeq PySem.MeetsSeq2 PySem.MeetsSeq3
end
section
variable{prog:Program}{w:World}{A:Around}{E:Value->Shared->Prop}{s:Shared}
def qi4(ht:IsTup s.heap t vs.toArray)(hb:IsTup s.heap b ws.toArray)(hv:vs≠[])(h1:ws=[]->Q (.ref t) s)(h2:ws≠[]->Q (.ref s.heap.objs.size) { s with heap:=s.heap.push { cls:=.type "tuple",data:=.seq (vs++ws).toArray } })(hsz:vs.length+ws.length<=ae):wpAny (model prog w) A (binaryOp .Add (.ref t)<|.ref b) Q E s:=by
 obtain⟨⟨cls,dd,data,sl⟩,ho,hc,n,hd⟩:=id ht;obtain⟨⟨TD,HP,data2,Db⟩,HE,HH,n2,hd2⟩:=id hb;simp only at hc hd HH hd2;subst hc hd HH hd2;have e:vs.toArray++ws.toArray=(vs++ws).toArray:=by simp
 by_cases hw:ws=[]
 .exact zj ⟨_,ho,rfl⟩ ⟨_,HE,rfl⟩ noFill_tuple_add seq_tuple_add zm zc (yt _ _)
   (tuple_addW1 t b vs.toArray ws.toArray n n2 dd HP sl Db (by simpa using hv)<|by simp[hw]) ⟨ho,HE,h1 hw⟩
 .refine zj ⟨_,ho,rfl⟩ ⟨_,HE,rfl⟩ noFill_tuple_add seq_tuple_add zm zc (yt _ _)
   (tuple_addW2 t b vs.toArray ws.toArray n n2 dd HP sl Db (by simpa using hv) (by simpa using hw) (by rw[ak,ak];exact hsz)) ⟨ho,HE,?_⟩
  rw[e];exact h2 hw
noncomputable def aV(n d:Nat):Option Int->Nat
 |none=>d
 |some v=>if v<0 then (v+(n:Int)).toNat else min v.toNat n
def G4(n d:Nat):aV n d aD=d:=rfl
def G5(n d k:Nat):aV n d (aA (k:Int))=min k n:=by
 show(if (k:Int)<0 then ((k:Int)+(n:Int)).toNat else min (k:Int).toNat n)=min k n;rw[if_neg<|by omega,qc]
def Rm(n d:Nat)(hd:d<=n)(o:Option Int):aV n d o<=n:=by
 cases o with
 |none=>exact hd
 |some v=>
  show(if v<0 then (v+(n:Int)).toNat else min v.toNat n)<=n;by_cases hv:v<0
  .rw[if_pos hv];omega
  .rw[if_neg hv];exact Nat.min_le_right _ _
def Pk(v:Int)(n d:Nat):(if v<0 then max (v+(n:Int)) 0 else min v (n:Int))=((aV n d (aA v):Nat):Int):=by
 show(if v<0 then max (v+(n:Int)) 0 else min v (n:Int))=(((if v<0 then (v+(n:Int)).toNat else min v.toNat n):Nat):Int);by_cases hv:v<0
 .simp only[if_pos hv];omega
 .simp only[if_neg hv];omega
def ZF(lo hi:Option Int)(n:Nat):jm lo hi 1 (n:Int)=(((aV n 0 lo:Nat):Int),((aV n n hi:Nat):Int)):=by
 have h1:¬((1:Int)<0):=by omega
 unfold jm;simp only[h1,if_false];refine Prod.ext ?_ ?_
 .cases lo with
  |none=>rfl
  |some v=>exact Pk v n 0
 .cases hi with
  |none=>rfl
  |some v=>exact Pk v n n
def rZ(i j:Nat):gf (i:Int) (j:Int) 1=j-i:=by
 unfold gf;have h1:(1:Int) > 0:=by omega
 simp only[h1,if_true,Int.ediv_one]
 split<;>omega
def gC(p:IsPart v o)(h:Q o s):wpAny (model prog w) A (Builtin.Slice.slicePartIndex v) Q E s:=by
 cases p with
 |none=>exact uo h
 |int i t=>exact slicePart_int h
def v8{sl:Addr}{vl vu:Value}{lo hi:Option Int}{n:Nat}{Q:Int×Int×Nat->Shared->Prop}(hs:s.heap.IsSliceOf sl vl vu .none)(pl:IsPart vl lo)(pu:IsPart vu hi)(h:Q (((aV n 0 lo:Nat):Int),1,aV n n hi-aV n 0 lo) s):wpAny (model prog w) A (nh (.ref sl)<|pure (n:Int)) Q E s:=by
 obtain⟨os,Fe,Fn,Bh⟩:=id hs;unfold nh yi;refine ac<|ac<|cu Fe Bh (x:=vl) rfl<|ac<|cu Fe Bh (x:=vu) rfl<|ac<|cu Fe Bh (x:=.none) rfl<|af ?_;refine ac<|uo ?_;show wpAny _ _ (if ((1:Int) == 0)=true then _ else _) _ _ s;rw[if_neg<|by decide];refine ac<|gC pl<|ac<|gC pu<|ac<|af ?_;show wpAny _ _ (match jm lo hi 1 (n:Int) with|(lo,hi)=>pure (lo,(1:Int),gf lo hi 1)) _ _ s;rw[ZF lo hi n];show wpAny _ _ (pure (((aV n 0 lo:Nat):Int),(1:Int),gf ((aV n 0 lo:Nat):Int) ((aV n n hi:Nat):Int) 1)) _ _ s;rw[rZ];exact af h
def Ψ(xs:Array Value)(i k:Nat):((ku k).filterMap λ(m:Nat)=>xs[((i:Int)+(m:Int)*1).toNat]?).toArray=((xs.toList.drop i).take k).toArray:=by
 have e:(λ(m:Nat)=>xs[((i:Int)+(m:Int)*1).toNat]?)=λm=>xs[i+m]?:=by
  funext m
  have:((i:Int)+(m:Int)*1).toNat=i+m:=by omega
  rw[this]
 rw[e]
 have:=pick_run xs i k
 rw[List.filterMap_map] at this;have e2:((λx=>xs[x]?) ∘ λx=>i+x)=λm=>xs[i+m]?:=rfl
 rw[e2] at this;rw[this]
def qg6{lo:Option Int}(ht:IsTup s.heap t items)(hs:s.heap.IsSliceOf sl vl vu .none)(pl:IsPart vl lo)(pu:IsPart vu hi)(hw:¬(aV items.size 0 lo=0/\aV items.size items.size hi=items.size))(h:Q (.ref s.heap.objs.size) { s with heap:=s.heap.push { cls:=.type "tuple",data:=.seq ((items.toList.drop<|aV items.size 0 lo).take<|aV items.size items.size hi-aV items.size 0 lo).toArray } })(hsz:items.size<=ae):wpAny (model prog w) A (getItem (.ref t)<|.ref sl) Q E s:=by
 have HA:sizeOk (.seq ((items.toList.drop<|aV items.size 0 lo).take<|aV items.size items.size hi-aV items.size 0 lo).toArray):=by
  show((items.toList.drop<|aV items.size 0 lo).take<|aV items.size items.size hi-aV items.size 0 lo).toArray.size<=ae;rw[ak,ii,jf,gy];omega
 have hj:aV items.size items.size hi<=items.size:=Rm _ _ (ah _) hi;obtain⟨os,Fe,Fn,Bh⟩:=id hs;have CK:s.TypeIs (.ref sl) "slice" := ⟨os,Fe,Fn⟩;unfold getItem
 try with_reducible refine fi ?_
 first|refine ac (af ?_)|skip
 refine ac<|wpAny_sequenceKey ht.typeIs (by decide) ?_;refine ac (ee (name:=ia "__getitem__") ht.typeIs ic
  (fu ic ht.typeIs aat ?_<|args_tuple_getitem _ _))
 show wpAny _ _ (ye (.ref t) >>= _) _ _ s;refine ac<|tupleItemsOf_ ht ?_;refine ac<|qv CK ?_;rw[if_pos<|by decide];refine ac<|v8 hs pl pu ?_;have Fh:¬((((aV items.size 0 lo:Nat):Int) == 0 && (1:Int) == 1 && (aV items.size items.size hi-aV items.size 0 lo) == items.size)=true):=by
  intro q;rw[dl,dl] at q;have q1:((aV items.size 0 lo:Nat):Int)=0:=eq_of_beq q.1.1;have q2:aV items.size items.size hi-aV items.size 0 lo=items.size:=eq_of_beq q.2;exact hw ⟨by omega,by omega⟩
 show wpAny _ _ (if (((aV items.size 0 lo:Nat):Int) == 0 && (1:Int) == 1 && (aV items.size items.size hi-aV items.size 0 lo) == items.size)=true then _ else _) _ _ s;rw[if_neg Fh,Ψ]
 first
  |exact ac (m:=fo _)<|cz (af ⟨_,rfl,af h⟩) HA
  |exact ac (m:=fo _)<|cz (ac<|af<|af ⟨_,rfl,af h⟩) HA
  |exact ac<|ac (m:=fo _)<|cz (af<|af ⟨_,rfl,af h⟩) HA
  |exact ac<|ac (m:=fo _)<|cz (af ⟨_,rfl,af h⟩) HA
end
end HT
namespace L2
open PySem PySem.Spec PyProof.Rows
abbrev TO:=St->Hp->(Option Int->Hp->Prop)->Prop
def PO(X:Cx)(e:Option Expr)(t:TO):Prop:=
 ∀pZ s σ H (Q:Option Int->Hp->Prop),Inv X pZ σ H s->t σ H Q ->
  wpAny (model X.prog X.w) X.A (evalPart e X.env) (λu s'=>∃o H',Inv X pZ σ H' s'/\IsPart u o/\Q o H') X.xe s
noncomputable def Ő:TO:=λ_ H Q=>Q aD H
noncomputable def V7(t:TE):TO:=λσ H Q=>t σ H λx H1=>∃i,x=.int i/\Q (aA i) H1
def bL:∀{us:List Value},Vals (ns.map V.int) us->IntsAre us ns:=by
 induction ns with
 |nil=>intro us r;rw[oz] at r;cases r;exact .nil
 |cons n ns ih=>
  intro us r;rw[au] at r;cases r with
  |cons r1 r2=>
   obtain⟨t,e⟩:=r1;subst e;exact .cons n t<|ih r2
section
variable{X:Cx}{e:Expr}{te:TE}{lo hi:Option Expr}{tl th:TO}{pos p2:Pos}
def ķ:PO X aD Ő:=by
 intro pZ s σ H Q I h;rw[yq];exact af ⟨aD,H,I,.none,h⟩
def ĸ(h:PE X e te):PO X (aA e) (V7 te):=by
 intro pZ s σ H Q I hw;rw[evalPart_some];refine aQ (h pZ s σ H _ I hw) λu s1 ⟨x,H1,I1,r1,q1⟩=>?_
 obtain⟨i,rfl,q⟩:=q1;obtain⟨t,rfl⟩:=r1;exact⟨aA i,H1,I1,.int i t,q⟩
def B5(X:Cx)(r:V->Option Int->Option Int->Hp->VK->Prop):Prop:=
 ∀pZ s σ H (x:V) (v vl vu:Value) (lo hi:Option Int) (sl:Addr) (Q:VK),Inv X pZ σ H s->RelV x v->s.heap.IsSliceOf sl vl vu .none->IsPart vl lo->IsPart vu hi->r x lo hi H Q ->
  ∃T id,typeLookup (.type T) "__getitem__" = pure (aA<|.builtin id)/\s.TypeIs v T/\wpAny (model X.prog X.w) X.A (getItem v<|.ref sl) (EP X pZ σ Q) X.xe s
def B5.or(h:B5 X r)(h':B5 X r'):B5 X (λx lo hi H Q=>r x lo hi H Q\/r' x lo hi H Q):=by
 intro pZ s σ H x v vl vu lo hi sl Q I rx hs pl pu q;rcases q with q|q
 .exact h pZ s σ H x v vl vu lo hi sl Q I rx hs pl pu q
 .exact h' pZ s σ H x v vl vu lo hi sl Q I rx hs pl pu q
def ϱ(r:V->Option Int->Option Int->Hp->VK->Prop)(te:TE)(tl th:TO):TE:=λσ H Q=>te σ H λx H1=>tl σ H1 λl H2=>th σ H2 λu H3=>r x l u H3 Q
def Φ(hr:B5 X r)(he:PE X e te)(hl:PO X lo tl)(hu:PO X hi th):PE X (.Subscript e (.Slice lo hi aD p2) pos) (ϱ r te tl th):=by
 intro pZ s σ H Q I h;refine xr<|aQ (he pZ s σ H _ I h) λv s1 ⟨x,H1,I1,r1,q1⟩=>?_;refine wpAny_Slice<|aQ (hl pZ s1 σ H1 _ I1 q1) λvl s2 ⟨l,H2,I2,pl,q2⟩=>aQ (hu pZ s2 σ H2 _ I2 q2) λvu s3 ⟨u,H3,I3,pu,q3⟩=>?_;rw[yq];refine af ?_;have I4:Inv X pZ σ H3 { s3 with heap:=s3.heap.push { cls:=.type "slice",data:=.fields #[vl,vu,.none] } }:=I3.kept (t':=s3.toks) λb ob q=>ad _ q
 obtain⟨T,id,hT,ht,hg⟩:=hr pZ { s3 with heap:=s3.heap.push { cls:=.type "slice",data:=.fields #[vl,vu,.none] } } σ H3 x v vl vu l u s3.heap.objs.size Q I4 r1 (Heap.IsSliceOf.new ..) pl pu q3;show wpAny (model X.prog X.w) X.A (subscriptTail e (.Slice lo hi aD p2) v<|.ref s3.heap.objs.size) (EP X pZ σ Q) X.xe { s3 with heap:=s3.heap.push { cls:=.type "slice",data:=.fields #[vl,vu,.none] } };exact tail_any (ops:=[.ref s3.heap.objs.size,v]) ht hT hg (by with_unfolding_all rfl)
def Br(xs:List V)(lo hi:Option Int):List V:=(xs.drop<|HT.aV xs.length 0 lo).take<|HT.aV xs.length xs.length hi-HT.aV xs.length 0 lo
def cM(xs:List V)(lo hi:Option Int):(Br xs lo hi).length<=xs.length:=by
 unfold Br;rw[ii,jf];omega
def Rn(K:Fg):V->Option Int->Option Int->Hp->VK->Prop:=λx lo hi H Q=>∃a xs,x=.ref a/\d_ K H a xs /\
 ¬(HT.aV xs.length 0 lo=0/\HT.aV xs.length xs.length hi=xs.length)/\∀p,H p=aD->Q (.ref p) (upd H p<|.tup<|Br xs lo hi)
def qa4:B5 X (Rn X.K):=by
 intro pZ s σ H x v vl vu lo hi sl Q I rx hs pl pu h;obtain⟨a,xs,rfl,hx,hw,q⟩:=h;cases rx;obtain⟨its,r,ht,hz⟩:=I.tuple hx;have hlen:its.toArray.size=xs.length:=by rw[ak];exact r.length.symm
 refine⟨"tuple",_,ic.lookup,ht.typeIs,?_⟩;refine HT.qg6 ht hs pl pu (by rw[hlen];exact hw) ?_ (by rw[hlen];exact hz);rw[hlen];refine⟨.ref s.heap.objs.size,_,I.laid (t':=s.toks) (o:=.tup<|Br xs lo hi) (λb ob q=>ad _ q) (ah _) ?_,rfl,q _<|I.aT.fresh<|ah _⟩;exact⟨cg (cM xs lo hi) hz,_,(r.drop<|HT.aV xs.length 0 lo).take<|HT.aV xs.length xs.length hi-HT.aV xs.length 0 lo,zf _ _⟩
def NO(K:Fg):R2:=λx y H Q=>∃a b xs ys,x=.ref a/\y=.ref b/\d_ K H a xs/\d_ K H b ys/\xs≠[]/\xs.length+ys.length<=ae /\
 (ys=[]->Q (.ref a) H)/\(ys≠[]->∀p,H p=aD->Q (.ref p) (upd H p<|.tup<|xs++ys))
def Vals.KQ(r:Vals xs us):us=[]↔xs=[]:=by
 cases r with
 |nil=>simp
 |cons _ _=>simp
def ĩ:eY X (binaryOp .Add) (NO X.K):=by
 intro pZ s σ H x y v u Q I rx ry h;obtain⟨a,b,xs,ys,rfl,rfl,ha,hb,hx,hz,q1,q2⟩:=h;cases rx;cases ry;obtain⟨its,r1,p1,_⟩:=I.tuple ha;obtain⟨fC,r2,p2,_⟩:=I.tuple hb;refine HT.qi4 p1 p2 (λz=>hx<|r1.KQ.mp z) (λz=>⟨.ref a,H,I,rfl,q1<|r2.KQ.mp z⟩) (λz=>?_) (by rw[<-r1.length,<-r2.length];exact hz);refine⟨.ref s.heap.objs.size,_,I.laid (t':=s.toks) (o:=.tup<|xs++ys) (λb ob q=>ad _ q) (ah _) ?_,rfl,q2 (λw=>z<|r2.KQ.mpr w) _<|I.aT.fresh<|ah _⟩;exact⟨by rw[bc];exact hz,_,r1.append r2,zf _ _⟩
end
noncomputable def Bg(n:Nat)(i:Int):Option Nat:=if 0<=i then (if i<n then aA i.toNat else aD) else if -(n:Int)<=i then aA (i+n).toNat else aD
def iC(xs:List α)(i:Int):Option α:=(Bg xs.length i).bind λj=>xs[j]?
def ć(h:Bg n i=aA j):seqIndex? i n=aA j/\j<n/\-(n:Int)<=i/\i<n:=by
 unfold Bg at h;by_cases h0:0<=i
 .rw[if_pos h0] at h;by_cases h1:i<n
  .rw[if_pos h1] at h;have e:i.toNat=j:=bu h;exact⟨by rw[seqIndex_of h0 h1,e],by omega,by omega,h1⟩
  .rw[if_neg h1] at h;cases h
 .rw[if_neg h0] at h;by_cases h1 : -(n:Int)<=i
  .rw[if_pos h1] at h;have e:(i+n).toNat=j:=bu h;exact⟨by rw[seqIndex_neg (by omega) h1,e],by omega,h1,by omega⟩
  .rw[if_neg h1] at h;cases h
def XJ(h:iC xs i=aA v):∃j,seqIndex? i xs.length=aA j/\xs[j]?=aA v/\j<xs.length/\-(xs.length:Int)<=i/\i<xs.length:=by
 unfold iC at h;cases e:Bg xs.length i with
 |none=>rw[e] at h;cases h
 |some j=>
  rw[e] at h;obtain⟨h1,h2,h3,h4⟩:=ć e;exact⟨j,h1,h,h2,h3,h4⟩
def gY{α:Type}{xs:List α}{j:Nat}{v:α}(h:xs[j]?=aA v):iC xs (j:Int)=aA v:=by
 have hj:j<xs.length:=(aq.mp h).1;have e:Bg xs.length (j:Int)=aA j:=by
  unfold Bg;rw[if_pos<|by omega,if_pos<|by omega];simp
 unfold iC;rw[e];exact h
def XI(xs:List α)(v:α):iC (xs++[v]) (-1)=aA v:=by
 have hl:(xs++[v]).length=xs.length+1:=by simp
 have e:Bg (xs++[v]).length (-1)=aA xs.length:=by
  unfold Bg;rw[hl,if_neg<|by decide,if_pos<|by omega]
  congr 1
  omega
 unfold iC;rw[e];show(xs++[v])[xs.length]?=aA v;simp
def cO(b:Expr):Prop:=∀o i,subscripted b false o i=operate [o,i] (getItem o i)
def A6(X:Cx)(r:R2):Prop:=
 ∀(value slice:Expr) (pZ:List (Addr×Obj)) (s:Shared) (σ:St) (H:Hp) (x y:V) (v u:Value) (Q:VK),Inv X pZ σ H s->RelV x v->RelV y u->r x y H Q ->
  subscripted slice false v u=operate [v,u] (getItem v u)->wpAny (model X.prog X.w) X.A (subscriptTail value slice v u) (EP X pZ σ Q) X.xe s
def Iu(X:Cx)(id:String)(r:V->List V->Hp->VK->Prop):Prop:=
 ∀pZ s σ H (x:V) (xs:List V) (v:Value) (us:List Value) (Q:VK),Inv X pZ σ H s->RelV x v->Vals xs us->r x xs H Q ->
  wpAny (model X.prog X.w) X.A (call (.builtin id) (v::us)) (EP X pZ σ Q) X.xe s
section
variable{X:Cx}{a b:Expr}{ta tb:TE}{pos:Pos}
def A6.or(h:A6 X r)(h':A6 X r'):A6 X (λx y H Q=>r x y H Q\/r' x y H Q):=by
 intro value slice pZ s σ H x y v u Q I rx ry q hs;rcases q with q|q
 .exact h value slice pZ s σ H x y v u Q I rx ry q hs
 .exact h' value slice pZ s σ H x y v u Q I rx ry q hs
def GK(hr:A6 X r)(ha:PE X a ta)(hb:PE X b tb)(hs:cO b):PE X (.Subscript a b pos) (EQ r ta tb):=by
 intro pZ s σ H Q I h;exact xr<|L6 ha hb I h λv u s2 x y H2 I2 rx ry q=>hr a b pZ s2 σ H2 x y v u Q I2 rx ry q<|hs _ _
def RA(K:Fg):R2:=λx y H Q=>∃p xs i v,x=.ref p/\y=.int i/\aX K H p xs/\iC xs i=aA v/\Q v H
def Rw(K:Fg):R2:=λx y H Q=>∃p xs i v,x=.ref p/\y=.int i/\d_ K H p xs/\iC xs i=aA v/\Q v H
def Rx:R2:=λx y H Q=>∃z i c,x=.str z/\y=.int i/\z.length<=ae/\iC z.cps.toList i=aA c/\Q (.str ⟨#[c]⟩) H
def SQ:A6 X (RA X.K):=by
 intro value slice pZ s σ H x y v u Q I rx ry h hs;obtain⟨p,xs,i,z,rfl,rfl,hq,he,q⟩:=h;cases rx;obtain⟨t,rfl⟩:=ry;obtain⟨its,r,pl,hz⟩:=I.list hq;obtain⟨j,h1,h2,h3,h4,h5⟩:=XJ he;obtain⟨w,ew,k_⟩:=r.get h2;have hl:=r.length;have hn:=o9;have fin:EP X pZ σ Q w s:=⟨z,H,I,k_,q⟩;by_cases h0:0<=i
 .have hj:i.toNat=j:=by
   rw[seqIndex_of h0 h5] at h1;exact bu h1
  exact item_listR pl.isList h0 (by omega) (by rw[hj];simpa using ew) fin hs
 .have hj:(i+(its.toArray.size:Int)).toNat=j:=by
   rw[seqIndex_neg (by omega) h4] at h1;rw[ak,<-hl];exact bu h1
  exact tt (x:=w) pl.isList.typeIs vt.lookup
   (wpAny_getItem_list_neg (Q:=λr s'=>r=w/\EP X pZ σ Q r s') pl.isList (by omega) (by rw[ak]<;>omega) (by omega) (by rw[hj];simpa using ew) ⟨rfl,fin⟩) hs
def qd6:A6 X (Rw X.K):=by
 intro value slice pZ s σ H x y v u Q I rx ry h hs;obtain⟨p,xs,i,z,rfl,rfl,hq,he,q⟩:=h;cases rx;obtain⟨t,rfl⟩:=ry;obtain⟨its,r,pl,hz⟩:=I.tuple hq;obtain⟨j,h1,h2,h3,h4,h5⟩:=XJ he;obtain⟨w,ew,k_⟩:=r.get h2;have hl:=r.length;have hn:=o9;have fin:EP X pZ σ Q w s:=⟨z,H,I,k_,q⟩;exact tt (x:=w) pl.typeIs slot_tuple_getitem.lookup
  (getItem_tuple (j:=j) (Q:=λr s'=>r=w/\EP X pZ σ Q r s') pl (by omega) (by omega) (by rw[ak,<-hl];exact h1) (by simpa using ew) ⟨rfl,fin⟩) hs
def Xf:A6 X Rx:=by
 intro value slice pZ s σ H x y v u Q I rx ry h hs;obtain⟨z,i,c,rfl,rfl,hz,he,q⟩:=h;obtain⟨t,rfl⟩:=rx;obtain⟨t',rfl⟩:=ry;obtain⟨j,h1,h2,h3,h4,h5⟩:=XJ he;have hl:z.cps.toList.length=z.length:=by simp[tz]
 rw[hl] at h1 h4 h5;have hn:=o9;exact tail_any (typeIs_str s z t) slot_str_getitem.lookup (getItem_str (c:=c) (by
  have e1:decide (i < -(2 ^ 63:Int))=false:=decide_eq_false (by omega);have e2:decide (i ≥ 2 ^ 63)=false:=decide_eq_false (by omega);rw[e1,e2,Bool.or_false]) (by rw[h1];simpa using h2) ⟨.str ⟨#[c]⟩,H,I.tok _,⟨_,rfl⟩,q⟩) hs
def RB(K:Fg):R2:=λx y H Q=>RA K x y H Q\/Rw K x y H Q\/Rx x y H Q
def OA:A6 X (RB X.K):=SQ.or<|qd6.or Xf
def hI(lo hi:Option Int)(n:Nat):(sliceBounds lo hi aD n).1=((HT.aV n 0 lo:Nat):Int)/\(sliceBounds lo hi aD n).2.1=((HT.aV n n hi:Nat):Int)/\(sliceBounds lo hi aD n).2.2=1:=by
 refine⟨?_,?_,rfl⟩
 .cases lo with
  |none=>simp[sliceBounds,HT.aV]
  |some i=>
   simp only[sliceBounds,HT.aV,Option.getD_none,show(1:Int) > 0 by decide,if_true];by_cases h:i<0
   .simp only[h,if_true]<;>omega
   .simp only[h,if_false]<;>omega
 .cases hi with
  |none=>simp[sliceBounds,HT.aV]
  |some i=>
   simp only[sliceBounds,HT.aV,Option.getD_none,show(1:Int) > 0 by decide,if_true];by_cases h:i<0
   .simp only[h,if_true]<;>omega
   .simp only[h,if_false]<;>omega
def cT(its:List Value)(lo hi:Option Int):slicePick its.toArray lo hi aD=((its.drop<|HT.aV its.length 0 lo).take<|HT.aV its.length its.length hi-HT.aV its.length 0 lo).toArray:=by
 obtain⟨h1,h2,h3⟩:=hI lo hi its.toArray.size;unfold slicePick;rw[h1,h2,h3];simp only[sliceRange_one,pick_run,ak]<;>rfl
def Rp(K:Fg):V->Option Int->Option Int->Hp->VK->Prop:=λx lo hi H Q=>∃a xs,x=.ref a/\aX K H a xs/\∀p,H p=aD->Q (.ref p) (upd H p<|.lst<|Br xs lo hi)
def qa5:B5 X (Rp X.K):=by
 intro pZ s σ H x v vl vu lo hi sl Q I rx hs pl pu h;obtain⟨a,xs,rfl,hx,q⟩:=h;cases rx;obtain⟨its,r,ht,hz⟩:=I.list hx;have hlen:=r.length;refine⟨"list",_,vt.lookup,ht.isList.typeIs,?_⟩;refine yj ht.isList hs pl pu .none (by simp) ?_ (by rw[ak]<;>omega);rw[cT,<-hlen];refine⟨.ref s.heap.objs.size,_,I.laid (t':=s.toks) (o:=.lst<|Br xs lo hi) (λb ob q=>ad _ q) (ah _) ?_,rfl,q _<|I.aT.fresh<|ah _⟩;exact⟨cg (cM xs lo hi) hz,_,0,(r.drop<|HT.aV xs.length 0 lo).take<|HT.aV xs.length xs.length hi-HT.aV xs.length 0 lo,ay _ rfl⟩
noncomputable def vK:V->Bool
 |.aE=>true
 |.bl _=>true
 |.int _=>true
 |.str _=>true
 |_=>false
noncomputable def r_:V->V->Bool
 |.aE,.aE=>true
 |.bl a,.bl b=>a == b
 |.bl a,.int b=>(if a then 1 else 0) == b
 |.int a,.bl b=>a == (if b then 1 else 0)
 |.int a,.int b=>a == b
 |.str a,.str b=>a == b
 |_,_=>false
def Ol(ry:RelV y u)(rx:RelV x v)(fy:vK y=true)(fx:vK x=true):dq A s u v (r_ y x):=by
 cases y with
 |aE=>
  cases ry;cases x with
  |aE=>cases rx;exact dq.same _
  |bl b=>cases rx;exact dq.none_bool b
  |int b=>obtain⟨t,rfl⟩:=rx;exact aaw b t
  |str b=>obtain⟨t,rfl⟩:=rx;exact aav b t
  |_=>exact absurd (show false=true from fx) av
 |bl a=>
  cases ry;cases x with
  |aE=>cases rx;exact dq.bool_none a
  |bl b=>cases rx;exact dq.bool_bool a b
  |int b=>obtain⟨t,rfl⟩:=rx;exact dq.bool_int a b t
  |str b=>obtain⟨t,rfl⟩:=rx;exact dq.bool_str a b t
  |_=>exact absurd (show false=true from fx) av
 |int a=>
  obtain⟨t',rfl⟩:=ry;cases x with
  |aE=>cases rx;exact aax a t'
  |bl b=>cases rx;exact dq.int_bool a t' b
  |int b=>obtain⟨t,rfl⟩:=rx;exact dq.int_int a t' b t
  |str b=>obtain⟨t,rfl⟩:=rx;exact dq.int_str a t' b t
  |_=>exact absurd (show false=true from fx) av
 |str a=>
  obtain⟨t',rfl⟩:=ry;cases x with
  |aE=>cases rx;exact aau a t'
  |bl b=>cases rx;exact dq.str_bool a t' b
  |int b=>obtain⟨t,rfl⟩:=rx;exact dq.str_int a t' b t
  |str b=>obtain⟨t,rfl⟩:=rx;exact dq.str_str a t' b t
  |_=>exact absurd (show false=true from fx) av
 |_=>exact absurd (show false=true from fy) av
def Bk(x:V)(u:Value):Bool:=match u with
 |.none=>r_ .aE x
 |.bool b=>r_ (.bl b) x
 |.int i _=>r_ (.int i) x
 |.str z _=>r_ (.str z) x
 |_=>false
def Op(r:RelV y u)(f:vK y=true):Bk x u=r_ y x:=by
 cases y with
 |aE=>cases r;rfl
 |bl b=>cases r;rfl
 |int i=>obtain⟨t,rfl⟩:=r;rfl
 |str z=>obtain⟨t,rfl⟩:=r;rfl
 |_=>exact absurd (show false=true from f) av
theorem XL:∀{xs:List V} {us:List Value},Vals xs us->xs.all vK=true->us.any (Bk x)=xs.any λy=>r_ y x
 |_,_,.nil,_=>rfl
 |y::xs,u::us,.cons r t,f=>by
  rw[mj,dl] at f;rw[on,on,Op r f.1,XL t f.2]
theorem nE(rx:RelV x v)(fx:vK x=true):∀{xs:List V} {us:List Value},Vals xs us->xs.all vK=true->∀u∈us,dq A s u v (Bk x u)
 |_,_,.nil,_=>λu hu=>by cases hu
 |y::xs,u::us,.cons r t,f=>λu' hu=>by
  rw[mj,dl] at f;rcases bq.mp hu with rfl|hu
  .rw[Op r f.1];exact Ol r rx f.1 fx
  .exact nE rx fx t f.2 u' hu
def Hy(x:V)(xs:List V):Bool:=xs.any λy=>r_ y x
def RC(K:Fg)(neg:Bool):R2:=λx y H Q=>∃p xs,y=.ref p/\(aX K H p xs\/d_ K H p xs)/\vK x=true/\xs.all vK=true/\Q (.bl (if neg then !Hy x xs else Hy x xs)) H
def WX:eY X (gq .In) (RC X.K false):=by
 intro pZ s σ H x y v u Q I rx ry h;obtain⟨p,xs,rfl,hq,fx,fs,q⟩:=h;cases ry;rcases hq with hq|hq
 .obtain⟨its,r,pl,hz⟩:=I.list hq;refine SeqAt.in_listAt (Bk x) pl.isList (λw hw=>nE rx fx r fs w<|by simpa using hw) ⟨.bl _,H,I,rfl,?_⟩;rw[show its.toArray.any (Bk x)=its.any (Bk x) by simp,XL r fs];exact q
 .obtain⟨its,r,pl,hz⟩:=I.tuple hq;refine SeqAt.in_tupleAt (Bk x) pl (λw hw=>nE rx fx r fs w<|by simpa using hw) ⟨.bl _,H,I,rfl,?_⟩;rw[show its.toArray.any (Bk x)=its.any (Bk x) by simp,XL r fs];exact q
def qi6:iW X (.builtin "len") (λxs H Q=>∃p ys,xs=[.ref p]/\(aX X.K H p ys\/d_ X.K H p ys)/\Q (.int ys.length) H):=by
 intro pZ s σ H xs us Q I r h;obtain⟨p,ys,rfl,hq,q⟩:=h;obtain⟨u,rfl,rx⟩:=J5 r;cases rx;have hn:=o9;rcases hq with hq|hq
 .obtain⟨its,r',pl,hz⟩:=I.list hq;have hlen:=r'.length;exact Calls.call_len_list pl.isList (by simp only[ak]<;>omega) ⟨.int ys.length,H,I.tok _,⟨s.toks+1,by rw[ak,hlen]⟩,q⟩
 .obtain⟨its,r',pl,hz⟩:=I.tuple hq;have hlen:=r'.length;exact len_tuple pl (by simp only[ak]<;>omega) ⟨.int ys.length,H,I.tok _,⟨s.toks+1,by rw[ak,hlen]⟩,q⟩
def mJ:iW X (.builtin "len") (λxs H Q=>∃z,xs=[.str z]/\z.length<=ae/\Q (.int z.length) H):=by
 intro pZ s σ H xs us Q I r h;obtain⟨z,rfl,hz,q⟩:=h;obtain⟨u,rfl,t,rfl⟩:=J5 r;have hn:=o9;exact len_str (by omega) ⟨.int z.length,H,I.tok _,⟨_,rfl⟩,q⟩
def iW.or(h:iW X f r)(h':iW X f r'):iW X f (λxs H Q=>r xs H Q\/r' xs H Q):=by
 intro pZ s σ H xs us Q I rs q;rcases q with q|q
 .exact h pZ s σ H xs us Q I rs q
 .exact h' pZ s σ H xs us Q I rs q
def dU:iW X (.type "tuple") (λxs H Q=>∃p ys,xs=[.ref p]/\((aX X.K H p ys/\∀l,H l=aD->Q (.ref l) (upd H l<|.tup ys))\/(d_ X.K H p ys/\Q (.ref p) H))):=by
 intro pZ s σ H xs us Q I r h;obtain⟨p,ys,rfl,h⟩:=h;obtain⟨u,rfl,rx⟩:=J5 r;cases rx;rcases h with⟨hq,q⟩|⟨hq,q⟩
 .obtain⟨its,r',pl,hz⟩:=I.list hq;have hlen:=r'.length;refine call_tuple_list pl.isList (λh' kp=>?_) (by simp only[ak]<;>omega);have I1:Inv X pZ σ H { s with heap:=h' }:=I.kept (t':=s.toks) kp;have I2:Inv X pZ σ (upd H h'.objs.size<|.tup ys) { s with heap:=h'.push { cls:=.type "tuple",data:=.seq its.toArray } }:=
   I1.laid (t':=s.toks) (λb o e=>ad _ e) (ah _) (show fS X.prog X.w _ _ _ (.tup ys) from⟨hz,its,r',zf _ _⟩)
  exact⟨.ref h'.objs.size,_,I2,rfl,q _<|I1.aT.fresh<|ah _⟩
 .obtain⟨its,r',pl,hz⟩:=I.tuple hq;exact call_tuple_same pl ⟨.ref p,H,I,rfl,q⟩
def Kq(K:Fg)(T:String)(x:V)(H:Hp):Prop:=match x with
 |.str _=>T = "str"
 |.int _=>T = "int"
 |.ref p=>(T = "list" /\ ∃xs,aX K H p xs)\/(T = "tuple" /\ ∃o,K.lookup p=aA o/\o.cls=.type "tuple" /\ o.dict=aD) \/
   (T = "dict" /\ ((∃kvs,H p=aA (.dK kvs))\/∃kvs,H p=aA (.dT kvs)))\/(T = "set" /\ ∃S n,H p=aA (.set S n))
 |_=>False
def Pe(I:Inv X pZ σ H s)(r:RelV x v)(ty:Kq X.K T x H):s.TypeIs v T/\∀a,v=.ref a->∃ob,s.heap.get? a=aA ob/\ob.dict=aD:=by
 cases x with
 |str z=>
  obtain⟨t,rfl⟩:=r;cases (show T = "str" from ty);exact⟨typeIs_str s z t,λ_ e=>nomatch e⟩
 |int i=>
  obtain⟨t,rfl⟩:=r;cases (show T = "int" from ty);exact⟨typeIs_int s i t,λ_ e=>nomatch e⟩
 |ref p=>
  cases r;rcases ty with⟨rfl,xs,hq⟩|⟨rfl,o,hk,hc,hd⟩|⟨rfl,hk⟩|⟨rfl,S,n,hk⟩
  .obtain⟨its,_,pl,_⟩:=I.list hq;refine⟨pl.isList.typeIs,λa e=>?_⟩;cases e;obtain⟨o,n,e,c,hd,_⟩:=pl;exact⟨o,e,hd⟩
  .refine⟨⟨o,I.fE p o hk,hc⟩,λa e=>?_⟩;cases e;exact⟨o,I.fE _ o hk,hd⟩
  .have z:∃o,s.heap.get? p=aA o/\o.ExactDict:=by
    rcases hk with⟨kvs,hk⟩|⟨kvs,hk⟩
    .obtain⟨_,_,_,_,o,_,_,e,ex,_⟩:=I.aT p _ hk;exact⟨o,e,ex⟩
    .obtain⟨_,_,_,_,o,_,_,e,ex,_⟩:=I.aT p _ hk;exact⟨o,e,ex⟩
   obtain⟨o,e,ex⟩:=z;refine⟨⟨o,e,ex.1⟩,λa e2=>?_⟩;cases e2;exact⟨o,e,ex.2.1⟩
  .obtain⟨o,_,_,_,e,ex,_⟩:=I.aT p _ hk;refine⟨⟨o,e,ex.1⟩,λa e2=>?_⟩;cases e2;exact⟨o,e,ex.2.1⟩
 |_=>exact jk ty
def Qx(K:Fg)(T:String)(r:V->List V->Hp->VK->Prop)(to:TE):TE:=λσ H Q=>to σ H λx H1=>Kq K T x H1/\r x [] H1 Q
def ϻ(K:Fg)(T:String)(r:V->List V->Hp->VK->Prop)(to:TE)(t:TA):TE:=λσ H Q=>to σ H λx H1=>Kq K T x H1/\t σ H1 λxs H2=>r x xs H2 Q
variable{id:String}
def WU(pa:PlainAttrs T)(slot:Slot T name id)(l4:typeOf (.builtin id)=pure (.type "method_descriptor"))(hm:Iu X id r)(ho:PE X o to)(fO:cn o name X.env (eval o X.env)=eval o X.env:=by rfl)(fN:l7 apos eO:=by rfl):PE X (.Call (.Attribute o name apos) [] [] eO) (Qx X.K T r to):=by
 intro pZ s σ H Q I h;refine wpAny_Call_method0_late fO fN<|aQ (ho pZ s σ H _ I h) λv s1 ⟨x,H1,I1,r1,ty,q1⟩=>?_;obtain⟨h1,h2⟩:=Pe I1 r1 ty;exact⟨T,id,pa,slot,l4,h1,h2,qd rfl<|PySem.evalArgs_none<|hm pZ s1 σ H1 x [] v [] Q I1 r1 .nil q1⟩
def WV(pa:PlainAttrs T)(slot:Slot T name id)(l4:typeOf (.builtin id)=pure (.type "method_descriptor"))(hm:Iu X id r)(ho:PE X o to)(ha:PA X (e::es) t)(fO:cn o name X.env (eval o X.env)=eval o X.env:=by rfl)(iU:Ay X (e::es) eO:=by rfl)(fN:l7 apos eO:=by rfl)(hs:i_ X e es:=by rfl)(Fd:JV X es eO:=by rfl):PE X (.Call (.Attribute o name apos) (e::es) [] eO) (ϻ X.K T r to t):=by
 intro pZ s σ H Q I h;refine wpAny_Call_method_late fO iU fN rfl<|aQ (ho pZ s σ H _ I h) λv s1 ⟨x,H1,I1,r1,ty,q1⟩=>?_;obtain⟨h1,h2⟩:=Pe I1 r1 ty;refine⟨T,id,pa,slot,l4,h1,h2,?_⟩;have hA:=ha eO pZ s1 σ H1 _ I1 q1;rw[hs] at hA ⊢;refine qd (by show(false || (lm eO<|ar es X.env).any (·.1))=false;rw[Fd]<;>rfl)<|ux ?_;exact aQ hA λus s2 ⟨vs,H2,I2,r2,q2⟩=>hm pZ s2 σ H2 x vs v us Q I2 r1 r2 q2
end
def Nf(X:Cx)(id:String)(r:V->List V->Hp->VK->Prop):Prop:=
 ∀pZ s σ H (x:V) (xs:List V) (v:Value) (us:List Value) (Q:VK),Inv X pZ σ H s->RelV x v->Vals xs us->r x xs H Q ->
  wpAny (model X.prog X.w) X.A (call (.builtin id) (v::us)) (EP X pZ σ Q) X.xe s
def Vals.one:∀{x:V} {us:List Value},Vals [x] us->∃u,us=[u]/\RelV x u
 |_,_,.cons r .nil=>⟨_,rfl,r⟩
def dW:∀{x y:V} {us:List Value},Vals [x,y] us->∃u v,us=[u,v]/\RelV x u/\RelV y v
 |_,_,_,.cons r (.cons q .nil)=>⟨_,_,rfl,r,q⟩
def Vals.zero:∀{us:List Value},Vals [] us->us=[]
 |_,.nil=>rfl
def Vals.dropLast(h:Vals xs us):Vals xs.dropLast us.dropLast:=by
 induction h with
 |nil=>exact .nil
 |cons r t ih=>
  cases t with
  |nil=>exact .nil
  |cons q t'=>exact .cons r ih
def Vals.eraseIdx:∀{xs:List V} {us:List Value} (i:Nat),Vals xs us->Vals (xs.eraseIdx i) (us.eraseIdx i)
 |_,_,_,.nil=>.nil
 |_,_,0,.cons _ t=>t
 |_,_,i+1,.cons r t=>.cons r<|Vals.eraseIdx i t
def Vals.reverse(h:Vals xs us):Vals xs.reverse us.reverse:=by
 induction h with
 |nil=>exact .nil
 |cons r t ih=>rw[kt,kt];exact Vals.append ih<|.cons r .nil
def tW(l:List α):l.eraseIdx (l.length-1)=l.dropLast:=by
 induction l with
 |nil=>rfl
 |cons a r ih=>
  cases r with
  |nil=>rfl
  |cons b r=>
   have e:(a::b::r).length-1=((b::r).length-1)+1:=by
    have h1:(a::b::r).length=r.length+2:=rfl;have h2:(b::r).length=r.length+1:=rfl;omega
   rw[e,List.eraseIdx_cons_succ,ih]
   all_goals rfl
theorem pA:∀(l:List α) (i:Nat),(l.eraseIdx i).length<=l.length
 |[],_=>ah _
 |_::_,0=>Nat.le_succ _
 |_::r,i+1=>su<|pA r i
section
variable{X:Cx}{pZ:List (Addr×Obj)}{σ:St}{H:Hp}{s:Shared}{l b:Addr}{xs ys zs:List V}
def Inv.Hl{its its':List Value}{n:Nat}{f:Array Value->Array Value}{t':Nat}(I:Inv X pZ σ H s)(hH:H l=aA (.lst xs))(e:s.heap.get? l=aA { cls:=.type "list",data:=.seq its.toArray n })(hf:f its.toArray=its'.toArray)(hv:Vals ys its')(hz:ys.length<=ae):Inv X pZ σ (upd H l<|.lst ys) { s with heap:=s.heap.update l<|lq f,toks:=t' }:=by
 have q:=PySem.IsL.update e f;rw[hf] at q;refine I.write (x:=l) (e:=l) (by rw[hH];exact trivial) (.inl rfl) (λb' u hb hu=>(gj s.heap (lq f)<|ki hb).trans hu) ⟨_,q⟩ ?_;exact⟨hz,its',_,hv,q⟩
def Inv.KR(I:Inv X pZ σ H s)(hv:Vals ys its)(hz:ys.length<=ae):Inv X pZ σ (upd H s.heap.objs.size<|.lst ys) { s with heap:=s.heap.push { cls:=.type "list",data:=.seq its.toArray },toks:=t' }:=
 I.laid (λ_ _ q=>ad _ q) (ah _) ⟨hz,its,0,hv,ay _ rfl⟩
def Inv.fresh(I:Inv X pZ σ H s):H s.heap.objs.size=aD:=I.aT.fresh<|ah _
def Inv.Hk(I:Inv X pZ σ H s)(hH:H l=aA (.lst xs)):xs.length<=ae/\∃(its:List Value) (n:Nat),Vals xs its/\xs.length=its.length/\s.heap.get? l=aA { cls:=.type "list",data:=.seq its.toArray n }:=by
 obtain⟨z,its,n,r,e⟩:=I.aT l _ hH;exact⟨z,its,n,r,r.length,e⟩
def Ε(h:n<=ae):kz n=false:=by
 unfold kz;exact decide_eq_false (by omega)
end
section
variable{X:Cx}
def Ŕ:V->List V->Hp->VK->Prop:=λx vs H Q=>∃l xs y,x=.ref l/\vs=[y]/\H l=aA (.lst xs)/\xs.length<ae/\Q .aE (upd H l<|.lst<|xs++[y])
def vD:Nf X "list.append" Ŕ:=by
 intro pZ s σ H x vs v us Q I rx rv h;obtain⟨l,xs,y,rfl,rfl,hH,hz,q⟩:=h;cases rx;obtain⟨u,rfl,ru⟩:=rv.one;obtain⟨z,its,n,r,hl,e⟩:=I.Hk hH;refine tx F.slot_list_append ⟨_,e,rfl⟩ F.entry_list_append (F.args_list_append_2 _ _) (PySem.list_append l its.toArray n u (by rw[ak];omega)) ⟨e,?_⟩;refine⟨.aE,_,I.Hl (its':=its++[u]) hH e (by simp) (r.append<|.cons ru .nil) ?_,rfl,q⟩;rw[bc,aad];omega
def Rq:V->List V->Hp->VK->Prop:=λx vs H Q=>∃l xs y,x=.ref l/\vs=[]/\H l=aA (.lst xs)/\xs[xs.length-1]?=aA y/\Q y (upd H l<|.lst xs.dropLast)
def QD:Nf X "list.pop" Rq:=by
 intro pZ s σ H x vs v us Q I rx rv h;obtain⟨l,xs,y,rfl,rfl,hH,hy,q⟩:=h;cases rx;have hus:=rv.zero;subst hus;obtain⟨z,its,n,r,hl,e⟩:=I.Hk hH;obtain⟨u,hu,ru⟩:=r.get hy;have E':its.toArray[its.toArray.size-1]?=aA u:=by
  show its.toArray[its.length-1]?=aA u;rw[<-jo,<-hl];exact hu
 refine tx F.slot_list_pop ⟨_,e,rfl⟩ F.entry_list_pop (F.args_list_pop_1 _) (MeetsSeq.list_pop_last l its.toArray n u E' (by rw[ak];omega)) ⟨e,?_⟩;refine⟨y,_,I.Hl (its':=its.dropLast) hH e ?_ r.dropLast ?_,ru,q⟩
 .show its.toArray.eraseIdxIfInBounds (its.toArray.size-1)=its.dropLast.toArray;rw[ak,wq,tW]
 .rw[List.length_dropLast];omega
def Zr:V->List V->Hp->VK->Prop:=λx vs H Q=>∃l xs i k y,x=.ref l/\vs=[.int i]/\H l=aA (.lst xs)/\-(2 ^ 63)<=i/\i<2 ^ 63/\seqIndex? i xs.length=aA k/\xs[k]?=aA y/\Q y (upd H l<|.lst<|xs.eraseIdx k)
def Γ:Nf X "list.pop" Zr:=by
 intro pZ s σ H x vs v us Q I rx rv h;obtain⟨l,xs,i,k,y,rfl,rfl,hH,h1,h2,hk,hy,q⟩:=h;cases rx;obtain⟨u,rfl,ru⟩:=rv.one;obtain⟨t,rfl⟩:=ru;obtain⟨z,its,n,r,hl,e⟩:=I.Hk hH;obtain⟨w,hw,k_⟩:=r.get hy;refine tx F.slot_list_pop ⟨_,e,rfl⟩ F.entry_list_pop (F.args_list_pop_2 _ _)
  (MeetsSeq.list_pop_at l its.toArray n i t k w (fitsIndex_both h1 h2) (by rw[ak,<-hl];exact hk) (by rw[<-jo];exact hw) (by rw[ak];omega)) ⟨e,?_⟩
 refine⟨y,_,I.Hl (its':=its.eraseIdx k) hH e ?_ (r.eraseIdx k) ?_,k_,q⟩
 .show its.toArray.eraseIdxIfInBounds k=(its.eraseIdx k).toArray;rw[wq]
 .have:=pA xs k
  omega
end
end L2
namespace U0
open PySem PySem.W PySem.Calls PyProof.Rows
def uY:∀(ns:List Int) (vs:List Value),WellAll P h vs (ns.map WData.int)->IntsAre vs ns:=by
 intro ns
 induction ns with
 |nil=>
  intro vs w;rw[oz] at w;cases w;exact .nil
 |cons n ns ih=>
  intro vs w;rw[au] at w;cases w with
  |cons a b=>
   cases a;exact .cons _ _<|ih _ b
def WK{l:OpenLaw}{n:Nat}(hn:l.most=aA n){P:Params}{h:Heap}{args:List WData}{vals:List Value}(HC:l.row.toRowW.claim.pre args=true)(Li:WellAll P h vals args):∃a vs ns,vals=[Value.ref a]/\args=[WData.list<|ns.map WData.int]/\h.get? a=aA { cls:=.type "list",data:=.seq vs.toArray }/\IntsAre vs ns/\ns.length<=n:=by
 have hsh:WShape.hasAll [] args [.list .int]=true:=(pre_splitW HC).1;have hc:l.pre.holds [] { args:=args } = true:=(pre_splitW HC).2;obtain⟨d,r,rfl,h1,h2⟩:=hasAllW_cons hsh;obtain rfl:=hasAllW_nil h2;obtain⟨xs,rfl,h3⟩:=hasW_list h1;obtain⟨ns,rfl⟩:=items_int h3;have hlen:ns.length<=n:=by
  unfold OpenLaw.pre at hc;have h4:(WTm.not<|.lt (.lit<|.int (n:Int))<|.len<|.arg 0).holds [] { args:=[.list<|ns.map .int] } = true:=by
   have h4:=(holds_andW hc).1;rw[hn] at h4;exact h4
  have h5:=condW_of h4<|w_not<|w_lt w_lit<|w_len_list<|w_arg rfl;rw[ag] at h5;refine qk λq=>?_
  have q':(n:Int)<((ns.length:Nat):Int):=by omega
  first
   |(rw[decide_eq_true q'] at h5;exact absurd h5<|by decide)
   |(simp at h5;omega)
 cases Li with
 |cons w1 w2=>
  cases w2;cases w1 with
  |list ho CJ=>exact⟨_,_,ns,rfl,rfl,ho,uY ns _ CJ,hlen⟩
def WQ(l:OpenLaw)(args:List WData):l.row.toRowW.claim.post args (.bool true) args=true:=
 postW_of (r:=l.row.toRowW) (X:=(true == true))
  (show WShape.has [] (.bool true) .bool=true by first|rfl|decide|simp[WShape.has,WShape.arms,WShape.armsAll])
  (show(WTm.eq .res<|.lit<|.bool true).value [] { args:=args,res:=aA<|.bool true,after:=args } = aA (.bool<|true == true) from w_eq_bool (w_res rfl) w_lit) rfl
def qi8{l:OpenLaw}{n:Nat}{q:Program}{loose:List Str}{XP:(Str->Option Value)->Heap->Prop}{YP:World->Heap->Prop}{d:DefRec}(hn:l.most=aA n)(CF:d.params.defaults=[])(call:∀(w:World) (s₀ s₁:Shared) (mg mb:Str->Option Value) (fa:Addr) (o:Obj) (pm cd doc:Value) (a:Addr) (vs:List Value) (ns:List Int),
   Ground q loose [] XP w s₀ mg mb s₁.heap->YP w s₁.heap ->
   s₁.heap.get? fa=aA o->o.data=.func (docDef d.name d.params d.body d.scope pm cd doc)->s₁.heap.CodeRec cd d.name->mg d.name=aA (.ref fa) ->
   s₁.heap.get? a=aA { cls:=.type "list",data:=.seq vs.toArray }->IntsAre vs ns->ns.length<=n->s₁.gens = #[] ->
   codeAny (model l.prog w) callerA (.call (.ref fa) ⟨[.ref a],[]⟩) (λr s'=>r=.ok (.ret<|.bool true)/\OldK s₁.heap s'.heap/\s'.os=s₁.os/\AllBare s'.gens) s₁):WalkO q loose XP YP l.row.toRowW d [] (λf vs=>xt f vs):=by
 intro w s₀ s₁ mg mb G Y fa o pm cd doc dV kV ho hd sQ hD hmg hg args vals as HC qj5 hrd Li hlo;obtain rfl:dV=.none:=Dflts.none hD CF;obtain rfl:kV=.none:=Dflts.noKw hD;obtain⟨a,vs,ns,rfl,rfl,Lq,hints,hlen⟩:=WK hn HC Li;refine enter_call<|vw (call w s₀ s₁ mg mb fa o pm cd doc a vs ns G Y ho (fd_plain hd) sQ hmg Lq hints hlen hg) λr s' hq=>?_;obtain⟨rfl,h2,h3,h4⟩:=hq;exact⟨.inl ⟨.bool true,.bool true,[],rfl,λ_=>rfl,.bool true,WQ l _,λ_=>⟨List.Pairwise.nil,λ_ hm=>(nomatch hm)⟩⟩,h2,h3,h4⟩
end U0
namespace L2
open PySem PySem.Spec PyProof.Rows
theorem nS:∀{vs:List Value} {ns:List Int},IntsAre vs ns->Vals (ns.map V.int) vs
 |_,_,.nil=>.nil
 |_,_,.cons n t h=>.cons ⟨t,rfl⟩<|nS h
def FZ(H:Hp):Prop:=∀b,H b=aD\/∃o xs,H b=aA (.i6 o<|.lst xs)
def Ž{K:Fg}(KX:K.In s₁.heap)(sM:s₁.heap.Ns ax mg)(hb:s₁.heap.Ns builtinsNs mb)(hbb:∀x:Str,x ≠ "__name__" -> mb x=bootBuiltins x)(qe9:s₁.heap.NoLimit)(hg:s₁.gens = #[])(ha:s₁.heap.get? a=aA { cls:=.type "list",data:=.seq vs.toArray })(hi:IntsAre vs ns)(hl:ns.length<=ae)(hr:eS k callerA)(F:∀base:Heap,K.In base->base.Ns ax mg->eA P w K mg base CX k fa fd [x] sp)(qf6:∀(s:Shared) (u:Value),BindsTo s fd ⟨[u],[]⟩ [(x,u)])(AT:∀H:Hp,FZ H->aX K H a (ns.map V.int)->sp [.ref a] H (λv _=>v=.bl true) λ_ _ _=>False)(Fu:∀H e s',CX [] H s₁ (λ_ _ _=>False) e s'->False):codeAny (model P w) callerA (.call (.ref fa) ⟨[.ref a],[]⟩) (λr s'=>r=.ok (.ret<|.bool true)/\OldK s₁.heap s'.heap/\s'.os=s₁.os/\AllBare s'.gens) s₁:=by
 have rv:=nS hi;have qd0:=hi.length;have core:∀H:Hp,FZ H->aX K H a (ns.map V.int)->fL P w H s₁.heap->(∀b,H b≠aD->b=a)->(H a≠aD->K.lookup a=aD) ->
   codeAny (model P w) callerA (.call (.ref fa) ⟨[.ref a],[]⟩) (λr s'=>r=.ok (.ret<|.bool true)/\OldK s₁.heap s'.heap/\s'.os=s₁.os/\AllBare s'.gens) s₁:=by
  intro H hO hS aT hA hK;have TH:∀{b:Addr} {o:Obj},s₁.heap.get? b=aA o->H b=aD->(A7 s₁.heap H).get? b=aA o:=λe n=>ź e n
  have EX:∀{b:Addr} {o:Obj} {es:Array DictEntry} {ep:Nat},s₁.heap.get? b=aA o->o.data=.dict es ep->H b=aD:=λ{b o es ep} e d=>by
   cases q:H b with
   |none=>rfl
   |some u=>
    have e':b=a:=hA b (by rw[q];simp);subst e';rw[ha] at e;cases e;have d':Data.seq vs.toArray _=Data.dict es ep:=d;cases d'
  have Hf:∀{b:Addr} {m:Str->Option Value},s₁.heap.Ns b m->(A7 s₁.heap H).Ns b m:=λ{b m} ⟨o,es,ep,e,d,r⟩=>⟨o,es,ep,TH e<|EX e d,d,r⟩
  have Tg:K.In (A7 s₁.heap H):=λb o e=>TH (KX b o e) (by
   cases q:H b with
   |none=>rfl
   |some u=>
    have e':b=a:=hA b (by rw[q];simp);subst e';rw[hK (by rw[q];simp)] at e;cases e)
  have hM:Mod K mg (A7 s₁.heap H):=⟨Tg,Hf sM,⟨mb,Hf hb,hbb⟩,let ⟨mc,h1,h2⟩:=qe9;⟨mc,Hf h1,h2⟩⟩;have e0:CV P w K mg (A7 s₁.heap H) callerA [] s₁ H:=⟨rfl,hM,λb o e=>ġ e,uc<|QT _ _,trivial,⟨λb hb=>absurd (show b∈([]:List Addr) from hb)<|by simp,trivial⟩,aT,.of_eq hg⟩;refine vw ((F _ Tg<|Hf sM).run callerA [] s₁ H ⟨[.ref a],[]⟩ [.ref a] [.ref a] _ _ hr e0 (qf6 s₁<|.ref a) (.cons rfl .nil)<|AT H hO hS) λr s' h=>?_
  cases r with
  |error e=>exact(Fu H e s' h).elim
  |ok fl=>
   cases fl with
   |next=>exact jk h
   |brk=>exact jk h
   |cont=>exact jk h
   |ret u=>
    obtain⟨v,H',os,bare,un,qe4,r',q⟩:=h;have q':v=.bl true:=q;subst q';obtain rfl:u=Value.bool true:=r';refine⟨rfl,OldK.of_keep λb o e=>?_,os,bare⟩;cases q:H b with
    |none=>exact un.keep b o e q (by intro z;exact absurd (show b∈([]:List Addr) from z)<|by simp) (by simp)
    |some u=>
     rcases hO b with z|⟨ob,xs,z⟩
     .rw[q] at z;cases z
     .have z2:=un.AW b ob _ z;obtain⟨e1,_⟩:=aT b _ z;obtain⟨e2,_⟩:=qe4 b _ z2;rw[e] at e1;cases e1;exact e2
 cases hk:K.lookup a with
 |some o=>
  have e:=KX a o hk;rw[ha] at e;cases e;refine core (λ_=>aD) (λ_=>.inl rfl) (.inr ⟨_,vs.toArray,_,hk,rfl,rfl,rfl,by rw[ak,qd0];exact hl,by simpa using rv⟩) (λb u z=>by have z':(aD:Option HO)=aA u:=z;cases z') (λb z=>absurd rfl z) λz=>absurd rfl z
 |none=>
  refine core (λb=>if b=a then aA (.i6 { cls:=.type "list",data:=.seq vs.toArray }<|.lst<|ns.map V.int) else aD) (λb=>?_) (.inl<|.inr ⟨{ cls:=.type "list",data:=.seq vs.toArray },if_pos rfl⟩) (λb u z=>?_) (λb z=>?_) λ_=>hk
  .by_cases hb:b=a
   .exact .inr ⟨_,_,if_pos hb⟩
   .exact .inl<|if_neg hb
  .by_cases hb:b=a
   .have z':=(if_pos hb).symm.trans z;cases z';subst hb;exact⟨ha,by rw[ag];exact hl,vs,_,rv,ha⟩
   .have z':=(if_neg hb).symm.trans z;cases z'
  .by_cases hb:b=a
   .exact hb
   .exact absurd (if_neg hb) z
def Ş{l:PySem.W.OpenLaw}{n k:Nat}{q:Program}{loose:List Str}{XP:(Str->Option Value)->Heap->Prop}{YP:World->Heap->Prop}{d:DefRec}{K:Params->Fg}{CX:World->CW}{sp:World->Sp}{x:Str}(hn:l.most=aA n)(Dy:n<=ae)(CF:d.params.defaults=[])(hr:eS k callerA)(hY:∀(w:World) (h:Heap),YP w h->(K w.params).In h)(F:∀(w:World) (mg:Str->Option Value) (fa:Addr) (h:Heap),(K w.params).In h->h.Ns ax mg->mg d.name=aA (.ref fa) ->
   ∃fd:FuncData,(∀(s:Shared) (u:Value),BindsTo s fd ⟨[u],[]⟩ [(x,u)]) /\
    ∀base:Heap,(K w.params).In base->base.Ns ax mg->eA l.prog w (K w.params) mg base (CX w) k fa fd [x] (sp w))(AT:∀(w:World) (H:Hp) (a:Addr) (ns:List Int),ns.length<=n->FZ H->aX (K w.params) H a (ns.map V.int)->sp w [.ref a] H (λv _=>v=.bl true) λ_ _ _=>False)(Fu:∀(w:World) (H:Hp) (s:Shared) (e:Value) (s':Shared),CX w [] H s (λ_ _ _=>False) e s'->False):yr q loose XP YP l.row.toRowW d [] (λf vs=>xt f vs):=by
 refine U0.qi8 hn CF λw s₀ s₁ mg mb fa o pm cd doc a vs ns G Y ho hd sQ hmg Lq hints hlen hg=>?_
 have KX:=hY w _ Y;obtain⟨fd,hb,hF⟩:=F w mg fa _ KX G.T.g hmg;exact Ž KX G.T.g G.T.b G.T.builtins G.T.nolimit hg Lq hints (cg hlen Dy) hr hF hb (λH hO hS=>AT w H a ns hlen hO hS) λH e s'=>Fu w H s₁ e s'
def ϡ{l:PySem.W.OpenLaw}{n k:Nat}{q:Program}{loose:List Str}{XP:(Str->Option Value)->Heap->Prop}{YP:World->Heap->Prop}{d:DefRec}{K:Params->Fg}{CX:CW}{sp:Fg->Sp}{x:Str}(hn:l.most=aA n)(Dy:n<=ae)(CF:d.params.defaults=[])(hr:eS k callerA)(hY:∀(w:World) (h:Heap),YP w h->(K w.params).In h)(F:∀(w:World) (mg:Str->Option Value) (fa:Addr) (h:Heap),(K w.params).In h->h.Ns ax mg->mg d.name=aA (.ref fa) ->
   ∃fd:FuncData,(∀(s:Shared) (u:Value),BindsTo s fd ⟨[u],[]⟩ [(x,u)]) /\
    ∀base:Heap,(K w.params).In base->base.Ns ax mg->eA l.prog w (K w.params) mg base CX k fa fd [x] (sp<|K w.params))(AT:∀(K:Fg) (H:Hp) (a:Addr) (ns:List Int),ns.length<=n->FZ H->aX K H a (ns.map V.int)->sp K [.ref a] H (λv _=>v=.bl true) λ_ _ _=>False)(Fu:∀(H:Hp) (s:Shared) (e:Value) (s':Shared),CX [] H s (λ_ _ _=>False) e s'->False):yr q loose XP YP l.row.toRowW d [] (λf vs=>xt f vs):=
 Ş (K:=K) (CX:=λ_=>CX) (sp:=λw=>sp<|K w.params) hn Dy CF hr hY F (λw H a ns h1 h2 h3=>AT (K w.params) H a ns h1 h2 h3) λ_ H s e s'=>Fu H s e s'
noncomputable def vW(s:Stmt):Arguments:=match s with
 |.FunctionDef _ a _ _ _ _ _ _ _ _=>a
 |_=>{ posonlyargs:=[],args:=[],vararg:=aD,kwonlyargs:=[],kw_defaults:=[],kwarg:=aD,defaults:=[] }
noncomputable def qB(s:Stmt):List Stmt:=match s with
 |.FunctionDef _ _ b _ _ _ _ _ _ _=>b
 |_=>[]
noncomputable def yF(s:Stmt):Scope:=match s with
 |.FunctionDef _ _ _ _ _ _ sc _ _ _=>sc
 |_=>{ kind:=.function,names:=[],isGenerator:=false,isCoroutine:=false }
noncomputable abbrev eJ:CW:=λ_ _ _ _ _ _=>False
noncomputable abbrev E0:XK:=λ_ _ _=>False
def oN:dX eJ X E0:=λ_ _ _ _ _ _ _ h=>h.elim
structure j_(K:Fg)(x qual:Str)(st:Stmt)(f:Addr)(fd:FuncData):Prop where
 ex:∃(oc:Value) (od:Option Addr) (kV doc pm:Value) (an:Option Addr) (eI ct:Value) (Cr:Array (Option Value)),
  fd=kr x qual (vW st) (qB st) (yF st) .none kV doc pm an eI ct/\K.lookup f=aA ⟨oc,od,.func fd,Cr⟩/\my K eI qual=true
 kp:dw K (.ref f)=true
section
variable{K:Fg}
def j_.ok{st:Stmt}(F:j_ K x qual st f fd)(S:sU N ps (yF st))(len:∀vs H Q E,sp vs H Q E->vs.length=ps.length)(LG:∀(eI:Value) (A:Around) (outer:List Env) (s:Shared) (H:Hp) (vs:List V) (Q:VK) (E:XK),eS k (A.deeper<|envOfC qual (yF st) s.heap.objs.size f eI)->sp vs H Q E ->
   ∃t,iE (Ae eJ P w K mg base N qual (yF st) f eI A outer s H E).AQ (qB st) t/\t { nx:=λ_ H'=>Q .aE H',rt:=Q } (start N vs) H):eA P w K mg base eJ (k+1) f fd ps sp:=by
 obtain⟨oc,od,kV,doc,pm,an,eI,ct,Cr,rfl,lk,sQ⟩:=F.ex;refine N0 lk sQ S len λA outer s H vs Q E hr AT=>?_
 obtain⟨t,h,q⟩:=LG eI A outer s H vs Q E hr AT;exact⟨t,h.AQ,q⟩
def j_.binds{st:Stmt}(F:j_ K x qual st f fd)(h:∀(kV doc pm:Value) (an:Option Addr) (eI ct:Value) (us:List Value),us.length=ps.length->bindArgs (kr x qual (vW st) (qB st) (yF st) .none kV doc pm an eI ct) ⟨us,[]⟩=pure (ps.zip us)):Binds K fd ps []:=by
 obtain⟨oc,od,kV,doc,pm,an,eI,ct,Cr,rfl,lk,sQ⟩:=F.ex;exact .all<|h kV doc pm an eI ct
def QX{st:Stmt}{kV:Value}(l:K.lookup f=aA ⟨oc,od,.func<|kr x qual (vW st) (qB st) (yF st) .none kV doc pm an eI ct,Cr⟩)(c:my K eI qual=true)(k:dw K (.ref f)=true):j_ K x qual st f (kr x qual (vW st) (qB st) (yF st) .none kV doc pm an eI ct):=⟨⟨oc,od,kV,doc,pm,an,eI,ct,Cr,rfl,l,c⟩,k⟩
end
section
variable{X:Cx}
def pv(i:Nat)(hN:X.N[i]?=aA x:=by rfl)(hv:FD X.env.scope x:=by first|exact Or.inl rfl|exact Or.inr (Or.inl rfl)|exact Or.inr<|Or.inr rfl)(hd:iH x:=by decide)(sQ:(x == ("__classdict__" : Str))=false:=by decide):PE X (.Name x pos) (v6 i):=Zf hN hv hd sQ
end
def Eg{A B:Prop}(h:B):if false=true then A else B:=by
 rw[if_neg av];exact h
def Eh{A B:Prop}(h:A):if true=true then A else B:=by
 rw[if_pos rfl];exact h
def aH(H H':Hp):Prop:=∀b o,H b=aA o->H' b=aA o
def aH.refl(H:Hp):aH H H:=λ_ _ h=>h
def aH.trans(a:aH H H1)(b:aH H1 H2):aH H H2:=λc o h=>b c o<|a c o h
def aH.free(e:aH H H')(h:H' l=Option.none):H l=Option.none:=by
 cases q:H l with
 |none=>rfl
 |some o=>
  rw[e l o q] at h;cases h
def aH.seq{K:Fg}(e:aH H H')(h:aX K H a xs):aX K H' a xs:=by
 rcases h with(h|⟨o,h⟩)|h
 .exact .inl<|.inl<|e _ _ h
 .exact .inl<|.inr ⟨o,e _ _ h⟩
 .exact .inr h
end L2
namespace DD
open PySem PySem.Spec PyProof.Rows L2
abbrev St:=L2.St
inductive D where
 |aE|bl (b:Bool)|int (i:Int)|str (s:List Nat)|tup (l:List D)|lst (l:List D)|ty (n:String)|ref (a:Addr)|aI (ks:List Key) (l:List D)
def FU(K:Fg)(O:Addr->Prop)(H:Hp)(a:Addr)(xs:List V):Prop:=
 (¬O a/\Rd H a (.lst xs))\/∃(o:Obj) (its:Array Value) (n:Nat),K.lookup a=aA o/\o.cls=.type "list" /\ o.dict=aD/\o.data=.seq its n/\its.size<=ae/\Vals xs its.toList
def FU.sq{K:Fg}(h:FU K O H a xs):aX K H a xs:=h.imp (·.2) id
mutual
def Is(K:Fg)(O:Addr->Prop)(H:Hp):D->V->Prop
 |.aE,v=>v=.aE
 |.bl b,v=>v=.bl b
 |.int i,v=>v=.int i
 |.str s,v=>v=.str ⟨s.toArray⟩
 |.ty n,v=>v=.ty n
 |.ref a,v=>v=.ref a
 |.tup l,v=>∃a xs,v=.ref a/\d_ K H a xs/\IsL K O H l xs
 |.lst l,v=>∃a xs,v=.ref a/\FU K O H a xs/\IsL K O H l xs
 |.aI ks l,v=>∃a kvs,v=.ref a/\¬O a/\Rd H a (.dK kvs)/\kvs.map (·.1)=ks/\IsL K O H l (kvs.map (·.2))
def IsL(K:Fg)(O:Addr->Prop)(H:Hp):List D->List V->Prop
 |[],vs=>vs=[]
 |d::l,vs=>∃v r,vs=v::r/\Is K O H d v/\IsL K O H l r
end
def Mb:HO->Prop
 |.lst _=>True
 |.dK _=>True
 |.i6 _ (.dK _)=>True
 |.ins _ _ _=>True
 |_=>False
def kT(O:Addr->Prop)(H:Hp):Prop:=∀a,O a->∃o,H a=aA o/\Mb o
def dZ(O:Addr->Prop)(H H':Hp):Prop:=∀b o,H b=aA o->¬O b->H' b=aA o
def Rd.some(h:Rd H a u):∃o,H a=aA o:=by
 rcases h with h|⟨o,h⟩
 .exact⟨_,h⟩
 .exact⟨_,h⟩
def d_.keep{K:Fg}(k:dZ O H H')(o:kT O H)(h:d_ K H a xs):d_ K H' a xs:=by
 rcases h with(h|⟨ob,h⟩)|h
 .exact .inl<|.inl (k _ _ h λz=>by obtain⟨ys,q,m⟩:=o a z;rw[h] at q;cases q;exact m)
 .exact .inl<|.inr ⟨ob,k _ _ h λz=>by obtain⟨ys,q,m⟩:=o a z;rw[h] at q;cases q;exact m⟩
 .exact .inr h
def Rd.keep(k:dZ O H H')(n:¬O a)(h:Rd H a u):Rd H' a u:=by
 rcases h with h|⟨ob,h⟩
 .exact .inl<|k _ _ h n
 .exact .inr ⟨ob,k _ _ h n⟩
mutual
theorem Is.mono{K:Fg}(k:dZ O H H')(ol:kT O H)(oo:∀a,O' a->H a≠aD->O a):∀(d:D) (v:V),Is K O H d v->Is K O' H' d v
 |.aE,v,h=>by unfold Is at h ⊢;exact h
 |.bl b,v,h=>by unfold Is at h ⊢;exact h
 |.int i,v,h=>by unfold Is at h ⊢;exact h
 |.str s,v,h=>by unfold Is at h ⊢;exact h
 |.ty n,v,h=>by unfold Is at h ⊢;exact h
 |.ref a,v,h=>by unfold Is at h ⊢;exact h
 |.tup l,v,h=>by
  unfold Is at h ⊢;obtain⟨a,xs,e,q,r⟩:=h;exact⟨a,xs,e,d_.keep k ol q,IsL.mono k ol oo l xs r⟩
 |.lst l,v,h=>by
  unfold Is at h ⊢;obtain⟨a,xs,e,nq,r⟩:=h;refine⟨a,xs,e,?_,IsL.mono k ol oo l xs r⟩;rcases nq with⟨n,q⟩|q
  .exact .inl ⟨λz=>n<|oo a z (by obtain⟨o,q⟩:=Rd.some q;rw[q];simp),Rd.keep k n q⟩
  .exact .inr q
 |.aI ks l,v,h=>by
  unfold Is at h ⊢;obtain⟨a,kvs,e,n,q,e2,r⟩:=h;exact⟨a,kvs,e,λz=>n<|oo a z (by obtain⟨o,q⟩:=Rd.some q;rw[q];simp),Rd.keep k n q,e2,IsL.mono k ol oo l _ r⟩
theorem IsL.mono{K:Fg}(k:dZ O H H')(ol:kT O H)(oo:∀a,O' a->H a≠aD->O a):∀(l:List D) (vs:List V),IsL K O H l vs->IsL K O' H' l vs
 |[],vs,h=>by unfold IsL at h ⊢;exact h
 |d::l,vs,h=>by
  unfold IsL at h ⊢;obtain⟨v,r,e,h1,h2⟩:=h;exact⟨v,r,e,Is.mono k ol oo d v h1,IsL.mono k ol oo l r h2⟩
end
def aH.kp(s:aH H H')(O:Addr->Prop):dZ O H H':=λb o e _=>s b o e
def Is.same{K:Fg}(s:aH H H')(ol:kT O H)(h:Is K O H d v):Is K O H' d v:=Is.mono (aH.kp s O) ol (λ_ z _=>z) d v h
def IsL.same{K:Fg}(s:aH H H')(ol:kT O H)(h:IsL K O H l vs):IsL K O H' l vs:=IsL.mono (aH.kp s O) ol (λ_ z _=>z) l vs h
section
variable{K:Fg}
def IsL.length:∀{l:List D} {vs:List V},IsL K O H l vs->l.length=vs.length
 |[],vs,h=>by unfold IsL at h;subst h;rfl
 |d::l,vs,h=>by unfold IsL at h;obtain⟨v,r,rfl,_,h2⟩:=h;simp[IsL.length h2]
def IsL.get:∀{l:List D} {vs:List V} {i:Nat} {d:D},IsL K O H l vs->l[i]?=aA d->∃v,vs[i]?=aA v/\Is K O H d v
 |[],_,_,_,_,e=>by simp at e
 |d::l,vs,0,d',h,e=>by
  unfold IsL at h;obtain⟨v,r,rfl,h1,h2⟩:=h;simp at e;subst e;exact⟨v,rfl,h1⟩
 |d::l,vs,i+1,d',h,e=>by
  unfold IsL at h;obtain⟨v,r,rfl,h1,h2⟩:=h;obtain⟨u,q1,q2⟩:=IsL.get (i:=i) h2 (by simpa using e);exact⟨u,by simpa using q1,q2⟩
def IsL.nil:IsL K O H [] []:=by unfold IsL;rfl
def IsL.cons(h:Is K O H d v)(t:IsL K O H l vs):IsL K O H (d::l) (v::vs):=by unfold IsL;exact⟨v,vs,rfl,h,t⟩
def IsL.append:∀{l m:List D} {vs us:List V},IsL K O H l vs->IsL K O H m us->IsL K O H (l++m) (vs++us)
 |[],_,_,_,h,t=>by unfold IsL at h;subst h;exact t
 |d::l,m,vs,us,h,t=>by unfold IsL at h;obtain⟨v,r,rfl,h1,h2⟩:=h;exact .cons h1<|IsL.append h2 t
def IsL.take:∀{l:List D} {vs:List V} (n:Nat),IsL K O H l vs->IsL K O H (l.take n) (vs.take n)
 |_,_,0,_=>by simpa using IsL.nil
 |[],_,_+1,h=>by unfold IsL at h;subst h;simpa using IsL.nil
 |d::l,vs,n+1,h=>by unfold IsL at h;obtain⟨v,r,rfl,h1,h2⟩:=h;exact .cons h1<|IsL.take n h2
def IsL.drop:∀{l:List D} {vs:List V} (n:Nat),IsL K O H l vs->IsL K O H (l.drop n) (vs.drop n)
 |_,_,0,h=>h
 |[],_,_+1,h=>by unfold IsL at h;subst h;simpa using IsL.nil
 |d::l,vs,n+1,h=>by unfold IsL at h;obtain⟨v,r,rfl,h1,h2⟩:=h;exact IsL.drop n h2
def IsL.reverse:∀{l:List D} {vs:List V},IsL K O H l vs->IsL K O H l.reverse vs.reverse
 |[],_,h=>by unfold IsL at h;subst h;exact IsL.nil
 |d::l,vs,h=>by
  unfold IsL at h;obtain⟨v,r,rfl,h1,h2⟩:=h;rw[kt,kt];exact(IsL.reverse h2).append (.cons h1 .nil)
def IsL.inv1(h:IsL K O H [d] vs):∃v,vs=[v]/\Is K O H d v:=by
 unfold IsL at h;obtain⟨v,r,rfl,h1,h2⟩:=h;unfold IsL at h2;subst h2;exact⟨v,rfl,h1⟩
def IsL.inv2(h:IsL K O H [d,e] vs):∃v u,vs=[v,u]/\Is K O H d v/\Is K O H e u:=by
 unfold IsL at h;obtain⟨v,r,rfl,h1,h2⟩:=h;obtain⟨u,rfl,h3⟩:=h2.inv1;exact⟨v,u,rfl,h1,h3⟩
def IsL.qd8(h:IsL K O H [d,e,f] vs):∃v u w,vs=[v,u,w]/\Is K O H d v/\Is K O H e u/\Is K O H f w:=by
 unfold IsL at h;obtain⟨v,r,rfl,h1,h2⟩:=h;obtain⟨u,w,rfl,h3,h4⟩:=h2.inv2;exact⟨v,u,w,rfl,h1,h3,h4⟩
def zG:Is K O H (.int i) v↔v=.int i:=by unfold Is;exact ql
def zZ:Is K O H (.bl b) v↔v=.bl b:=by unfold Is;exact ql
def zU:Is K O H (.str s) v↔v=.str ⟨s.toArray⟩:=by unfold Is;exact ql
def yQ:Is K O H .aE v↔v=.aE:=by unfold Is;exact ql
def Is.ϫ:Is K O H (.ty n) v↔v=.ty n:=by unfold Is;exact ql
def qJ:Is K O H (.ref a) v↔v=.ref a:=by unfold Is;exact ql
def zR:Is K O H (.tup l) v↔∃a xs,v=.ref a/\d_ K H a xs/\IsL K O H l xs:=by unfold Is;exact ql
def zS:Is K O H (.lst l) v↔∃a xs,v=.ref a/\FU K O H a xs/\IsL K O H l xs:=by unfold Is;exact ql
def wW:Is K O H (.aI ks l) v↔∃a kvs,v=.ref a/\¬O a/\Rd H a (.dK kvs)/\kvs.map (·.1)=ks/\IsL K O H l (kvs.map (·.2)):=by unfold Is;exact ql
end
inductive Sl where
 |un|v (d:D)|o (l:List D)|p (l:List D)|z (l:List D)|d (b:Bool) (ks:List Key) (l:List D)
noncomputable abbrev En:=List Sl
noncomputable def Sl.own:Sl->Option (List D)
 |.o l=>aA l
 |.p l=>aA l
 |.z l=>aA l
 |.d _ _ l=>aA l
 |_=>aD
noncomputable def Sl.mt:Sl->Option (List D)
 |.o l=>aA l
 |.p l=>aA l
 |.d _ _ l=>aA l
 |_=>aD
noncomputable def Sl.ls:Sl->Option (List D)
 |.o l=>aA l
 |.p l=>aA l
 |.z l=>aA l
 |_=>aD
noncomputable def Sl.ml:Sl->Option (List D)
 |.o l=>aA l
 |.p l=>aA l
 |_=>aD
def GH{x:Sl}{l:List D}(h:x.ml=aA l):x.mt=aA l/\x.ls=aA l:=by
 cases x<;>first|(cases h;exact⟨rfl,rfl⟩)|cases h
def Xp{x:Option Sl}{l:List D}(h:x.bind Sl.ml=aA l):x.bind Sl.mt=aA l:=by
 cases x with
 |none=>cases h
 |some x=>exact(GH (x:=x) h).1
def Xm{x:Sl}{l:List D}(h:x.ls=aA l):x.own=aA l:=by
 cases x<;>first|(cases h;rfl)|cases h
def vA{x:Option Sl}{l:List D}(h:x.bind Sl.ls=aA l):x.bind Sl.own=aA l:=by
 cases x with
 |none=>cases h
 |some x=>exact Xm (x:=x) h
def OZ(h:x.bind Sl.own=aA l):x.bind Sl.ls=aA l\/∃f ks,x=aA (.d f ks l):=by
 cases x with
 |none=>cases h
 |some x=>cases x<;>first|(cases h;exact .inl rfl)|(cases h;exact .inr ⟨_,_,rfl⟩)|cases h
noncomputable def Sl.pk:Sl->Option Bool
 |.p _=>aA false
 |.d true _ _=>aA true
 |_=>aD
def cW{x:Option Sl}{k:Bool}(h:x.bind Sl.pk=aA k):∃l,x.bind Sl.own=aA l:=by
 cases x with
 |none=>cases h
 |some x=>cases x<;>first|(cases h;done)|exact⟨_,rfl⟩
def IF(h:x.bind Sl.pk=aA false):∃l,x=aA (.p l):=by
 cases x with
 |none=>cases h
 |some x=>cases x with
  |d f ks l=>cases f<;>cases h
  |p l=>exact⟨l,rfl⟩
  |_=>cases h
def qb5(h:x.bind Sl.pk=aA true):∃ks l,x=aA (.d true ks l):=by
 cases x with
 |none=>cases h
 |some x=>cases x with
  |d f ks l=>cases f<;>first|(cases h;done)|exact⟨ks,l,rfl⟩
  |_=>cases h
def Ac(q:Sl->Option (List D))(r:En)(σ:St)(a:Addr):Prop:=∃(i:Nat) (l:List D),(r[i]?).bind q=aA l/\σ[i]?=aA (aA<|.ref a)
abbrev jZ:=Ac Sl.own
abbrev lJ:=Ac Sl.mt
def mI{x:Sl}{l:List D}(h:x.mt=aA l):x.own=aA l:=by
 cases x<;>first|(cases h;rfl)|cases h
def lJ.own(h:lJ r σ a):jZ r σ a:=by
 obtain⟨i,l,e,q⟩:=h;obtain⟨x,e1,e2⟩:=sr.mp e;exact⟨i,l,by rw[e1];exact mI e2,q⟩
def Ow(O0:Addr->Prop)(r:En)(σ:St):Addr->Prop:=λa=>O0 a\/jZ r σ a
structure R(K:Fg)(O0:Addr->Prop)(H:Hp)(r:En)(σ:St):Prop where
 len:r.length=σ.length
 val:∀(i:Nat) (d:D),r[i]?=aA (.v d)->∃v,σ[i]?=aA (aA v)/\Is K (Ow O0 r σ) H d v
 own:∀(i:Nat) (l:List D),(r[i]?).bind Sl.ls=aA l->∃a xs,σ[i]?=aA (aA<|.ref a)/\H a=aA (.lst xs)/\IsL K (Ow O0 r σ) H l xs
 apart:∀(i j:Nat) (a:Addr) (l m:List D),(r[i]?).bind Sl.own=aA l->(r[j]?).bind Sl.own=aA m->σ[i]?=aA (aA<|.ref a)->σ[j]?=aA (aA<|.ref a)->i=j
 o0:kT O0 H
 loc:∀(i:Nat) (l:List D) (a:Addr),(r[i]?=aA (.o l)\/r[i]?=aA (.z l)\/∃ks,r[i]?=aA (.d false ks l))->σ[i]?=aA (aA<|.ref a)->¬O0 a
 par:∀(i:Nat) (k:Bool) (a:Addr),(r[i]?).bind Sl.pk=aA k->σ[i]?=aA (aA<|.ref a)->O0 a
 aI:∀(i:Nat) (f:Bool) (ks:List Key) (l:List D),r[i]?=aA (.d f ks l)->∃a kvs,σ[i]?=aA (aA<|.ref a)/\H a=aA (.dK kvs)/\kvs.map (·.1)=ks/\IsL K (Ow O0 r σ) H l (kvs.map (·.2))
def R.obj{K:Fg}{O0:Addr->Prop}{H:Hp}{r:En}{σ:St}(h:R K O0 H r σ){j:Nat}{m:List D}(e:(r[j]?).bind Sl.own=aA m):∃a o,σ[j]?=aA (aA<|.ref a)/\H a=aA o/\Mb o:=by
 rcases OZ e with e|⟨f,ks,e⟩
 .obtain⟨a,xs,e1,e2,_⟩:=h.own j m e;exact⟨a,_,e1,e2,trivial⟩
 .obtain⟨a,kvs,e1,e2,_⟩:=h.aI j f ks m e;exact⟨a,_,e1,e2,trivial⟩
def R.ol{K:Fg}(h:R K O0 H r σ):kT (Ow O0 r σ) H:=λa z=>by
 rcases z with z|⟨i,l,e,q⟩
 .exact h.o0 a z
 .rcases OZ e with e|⟨f,ks,e⟩
  .obtain⟨b,xs,e1,e2,_⟩:=h.own i l e;rw[q] at e1;cases e1;exact⟨.lst xs,e2,trivial⟩
  .obtain⟨b,kvs,e1,e2,_⟩:=h.aI i f ks l e;rw[q] at e1;cases e1;exact⟨.dK kvs,e2,trivial⟩
def R.AR{K:Fg}(h:R K O0 H r σ)(n:H a=aD):¬Ow O0 r σ a:=λz=>by
 obtain⟨o,e,_⟩:=h.ol a z;rw[n] at e;cases e
def R.same{K:Fg}(h:R K O0 H r σ)(s:aH H H'):R K O0 H' r σ where
 len:=h.len
 val:=λi d e=>by obtain⟨v,e1,q⟩:=h.val i d e;exact⟨v,e1,q.same s h.ol⟩
 own:=λi l e=>by obtain⟨a,xs,e1,e2,q⟩:=h.own i l e;exact⟨a,xs,e1,s _ _ e2,q.same s h.ol⟩
 aI:=λi f ks l e=>by obtain⟨a,kvs,e1,e2,e3,q⟩:=h.aI i f ks l e;exact⟨a,kvs,e1,s _ _ e2,e3,q.same s h.ol⟩
 apart:=h.apart
 o0:=λa z=>by obtain⟨xs,e,m⟩:=h.o0 a z;exact⟨xs,s _ _ e,m⟩
 loc:=h.loc
 par:=h.par
structure Kp(H:Hp)(r:En)(σ:St)(H':Hp)(r':En)(σ':St):Prop where
 keep:dZ (lJ r σ) H H'
 live:∀b,H' b=aD->H b=aD
 lst:∀b o,H b=aA o->Mb o->∃o',H' b=aA o'/\Mb o'
 new:∀b,jZ r' σ' b->jZ r σ b\/H b=aD
 E1:∀b,lJ r' σ' b->lJ r σ b\/H b=aD
 par:∀(i:Nat) (k:Bool),(r[i]?).bind Sl.pk=aA k->(r'[i]?).bind Sl.pk=aA k/\σ'[i]?=σ[i]?
 fz:∀(i:Nat) (l:List D),r[i]?=aA (.z l)->r'[i]?=aA (.z l)/\σ'[i]?=σ[i]?
def Kp.of_same(r:En)(σ:St)(s:aH H H'):Kp H r σ H' r σ:=
 ⟨λb o e _=>s b o e,λb e=>s.free e,λb o e m=>⟨o,s _ _ e,m⟩,λb z=>.inl z,λb z=>.inl z,λi k e=>⟨e,rfl⟩,λi l e=>⟨e,rfl⟩⟩
def Kp.refl(H:Hp)(r:En)(σ:St):Kp H r σ H r σ:=.of_same r σ<|aH.refl H
def Kp.trans(a:Kp H r σ H1 r1 σ1)(b:Kp H1 r1 σ1 H2 r2 σ2):Kp H r σ H2 r2 σ2 where
 keep:=λc o e n=>b.keep c o (a.keep c o e n) λz=>(a.E1 c z).elim n λq=>by rw[e] at q;cases q
 live:=λc e=>a.live c<|b.live c e
 lst:=λc o e m=>by obtain⟨o1,q,m1⟩:=a.lst c o e m;exact b.lst c o1 q m1
 new:=λc z=>(b.new c z).elim (a.new c) λq=>.inr<|a.live c q
 E1:=λc z=>(b.E1 c z).elim (a.E1 c) λq=>.inr<|a.live c q
 par:=λi k e=>by
  obtain⟨e1,q1⟩:=a.par i k e;obtain⟨e2,q2⟩:=b.par i k e1;exact⟨e2,q2.trans q1⟩
 fz:=λi l e=>by
  obtain⟨e1,q1⟩:=a.fz i l e;obtain⟨e2,q2⟩:=b.fz i l e1;exact⟨e2,q2.trans q1⟩
def PE.aM(h:PE X e t)(i:∀σ H Q,t' σ H Q->t σ H Q):PE X e t':=λpZ s σ H Q I q=>h pZ s σ H Q I<|i σ H Q q
def PT.aM(h:PT X e t)(i:∀σ H Q,t' σ H Q->t σ H Q):PT X e t':=λpZ s σ H Q I q=>h pZ s σ H Q I<|i σ H Q q
def PA.aM(h:PA X e t)(i:∀σ H Q,t' σ H Q->t σ H Q):PA X e t':=λpos pZ s σ H Q I q=>h pos pZ s σ H Q I<|i σ H Q q
def PS.aM{st:Stmt}(h:PS X st t)(i:∀D σ H,t' D σ H->t D σ H):PS X st t':=λpZ s σ H D I q=>h pZ s σ H D I<|i D σ H q
def iE.aM{st:List Stmt}(h:iE X st t)(i:∀D σ H,t' D σ H->t D σ H):iE X st t':=λpZ s σ H D I q=>h pZ s σ H D I<|i D σ H q
abbrev ME:=En->Option D
abbrev ML:=En->Option (List D)
abbrev MB:=En->Option Bool
def lE(K:Fg)(f:ME):TE:=λσ H Q=>∃O0 r d,R K O0 H r σ/\f r=aA d/\∀v H',aH H H'->Is K (Ow O0 r σ) H' d v->Q v H'
def lT(K:Fg)(f:MB):TT:=λσ H Q=>∃O0 r b,R K O0 H r σ/\f r=aA b/\∀H',aH H H'->Q b H'
def lA(K:Fg)(f:ML):TA:=λσ H Q=>∃O0 r l,R K O0 H r σ/\f r=aA l/\∀vs H',aH H H'->IsL K (Ow O0 r σ) H' l vs->Q vs H'
def lF(K:Fg)(f:ML):TE:=λσ H Q=>∃O0 r l,R K O0 H r σ/\f r=aA l/\∀a xs H',aH H H'->H a=aD->H' a=aA (.lst xs)->IsL K (λb=>Ow O0 r σ b\/b=a) H' l xs->Q (.ref a) H'
def lB(K:Fg)(f:ML):TE:=λσ H Q=>∃O0 r l,R K O0 H r σ/\f r=aA l/\∀a xs H',aH H H'->aX K H' a xs->IsL K (Ow O0 r σ) H' l xs->Q (.ref a) H'
def lX(K:Fg)(f:En->Option (D×En)):TE:=λσ H Q=>∃O0 r d r',R K O0 H r σ/\f r=aA (d,r')/\∀v H',R K O0 H' r' σ->Kp H r σ H' r' σ->Is K (Ow O0 r' σ) H' d v->Q v H'
def DE(X:Cx)(e:Expr)(f:ME):Prop:=PE X e<|lE X.K f
def DT(X:Cx)(e:Expr)(f:MB):Prop:=PT X e<|lT X.K f
def DA(X:Cx)(es:List Expr)(f:ML):Prop:=PA X es<|lA X.K f
def DF(X:Cx)(e:Expr)(f:ML):Prop:=PE X e<|lF X.K f
def DB(X:Cx)(e:Expr)(f:ML):Prop:=PE X e<|lB X.K f
def DX(X:Cx)(e:Expr)(f:En->Option (D×En)):Prop:=PE X e<|lX X.K f
inductive Fl where
 |nx (r:En)|bk (r:En)|ct (r:En)|rt (d:D) (r:En)|rf (l:List D) (r:En)|rg (ks:List Key) (l:List D) (r:En)
abbrev MS:=En->Option Fl
def Iy(H:Hp)(r:En)(σ:St)(a:Addr):Prop:=H a=aD\/∃(i:Nat) (l:List D),(r[i]?=aA (.o l)\/∃ks,r[i]?=aA (.d false ks l))/\σ[i]?=aA (aA<|.ref a)
def At(K:Fg)(O0:Addr->Prop)(H:Hp)(r:En)(σ:St)(Dn:Ends):Fl->Prop
 |.nx r'=>∀σ' H',R K O0 H' r' σ'->Kp H r σ H' r' σ'->Dn.nx σ' H'
 |.bk r'=>∀σ' H',R K O0 H' r' σ'->Kp H r σ H' r' σ'->Dn.bk σ' H'
 |.ct r'=>∀σ' H',R K O0 H' r' σ'->Kp H r σ H' r' σ'->Dn.ct σ' H'
 |.rt d r'=>∀v σ' H',R K O0 H' r' σ'->Kp H r σ H' r' σ'->Is K O0 H' d v->Dn.rt v H'
 |.rf l r'=>∀a xs σ' H',R K O0 H' r' σ'->Kp H r σ H' r' σ'->Iy H r σ a->¬O0 a->H' a=aA (.lst xs)->IsL K (λb=>O0 b\/b=a) H' l xs->Dn.rt (.ref a) H'
 |.rg ks l r'=>∀a kvs σ' H',R K O0 H' r' σ'->Kp H r σ H' r' σ'->Iy H r σ a->¬O0 a->H' a=aA (.dK kvs)->kvs.map (·.1)=ks->IsL K (λb=>O0 b\/b=a) H' l (kvs.map (·.2))->Dn.rt (.ref a) H'
def lS(K:Fg)(g:MS):TS:=λDn σ H=>∃O0 r fl,R K O0 H r σ/\g r=aA fl/\At K O0 H r σ Dn fl
def DS(X:Cx)(st:Stmt)(g:MS):Prop:=PS X st<|lS X.K g
def sV(X:Cx)(st:List Stmt)(g:MS):Prop:=iE X st<|lS X.K g
def At.before{K:Fg}{O0:Addr->Prop}{H H1:Hp}{r r1:En}{σ σ1:St}{Dn:Ends}{fl:Fl}(R1:R K O0 H1 r1 σ1)(k:Kp H r σ H1 r1 σ1)(h:At K O0 H r σ Dn fl):At K O0 H1 r1 σ1 Dn fl:=by
 have Tj:∀a,Iy H1 r1 σ1 a->Iy H r σ a:=λa z=>by
  rcases z with z|⟨i,l,e,q⟩
  .exact .inl<|k.live a z
  .have eo:(r1[i]?).bind Sl.own=aA l:=by rcases e with e|⟨ks,e⟩<;>rw[e]<;>rfl
   have np:∀k2,(r1[i]?).bind Sl.pk≠aA k2:=λk2 z=>by rcases e with e|⟨ks,e⟩<;>rw[e] at z<;>cases z
   have nz:∀l2,r1[i]?≠aA (.z l2):=λl2 z=>by rcases e with e|⟨ks,e⟩<;>rw[e] at z<;>cases z
   rcases k.new a ⟨i,l,eo,q⟩ with⟨j,m,e2,q2⟩|z
   .cases ej:r[j]? with
    |none=>rw[ej] at e2;cases e2
    |some x=>
     rw[ej] at e2;cases x with
     |un=>cases e2
     |v d=>cases e2
     |o l'=>exact .inr ⟨j,l',.inl ej,q2⟩
     |p l'=>
      obtain⟨e3,q3⟩:=k.par j false (by rw[ej];rfl);obtain⟨l2,e4⟩:=cW e3
      have:=R1.apart i j a l l2 eo e4 q<|q3.trans q2
      subst this;exact absurd e3<|np _
     |z l'=>
      obtain⟨e3,q3⟩:=k.fz j l' ej
      have:=R1.apart i j a l l' eo (by rw[e3];rfl) q<|q3.trans q2
      subst this;exact absurd e3<|nz _
     |d f ks l'=>
      cases f with
      |false=>exact .inr ⟨j,l',.inr ⟨ks,ej⟩,q2⟩
      |true=>
       obtain⟨e3,q3⟩:=k.par j true (by rw[ej];rfl);obtain⟨l2,e4⟩:=cW e3
       have:=R1.apart i j a l l2 eo e4 q<|q3.trans q2
       subst this;exact absurd e3<|np _
   .exact .inl z
 cases fl with
 |nx r'=>exact λσ' H' h1 h2=>h σ' H' h1<|k.trans h2
 |bk r'=>exact λσ' H' h1 h2=>h σ' H' h1<|k.trans h2
 |ct r'=>exact λσ' H' h1 h2=>h σ' H' h1<|k.trans h2
 |rt d r'=>exact λv σ' H' h1 h2 h3=>h v σ' H' h1 (k.trans h2) h3
 |rf l r'=>exact λa xs σ' H' h1 h2 h3 h4 h5 h6=>h a xs σ' H' h1 (k.trans h2) (Tj a h3) h4 h5 h6
 |rg ks l r'=>exact λa xs σ' H' h1 h2 h3 h4 h5 h6 h7=>h a xs σ' H' h1 (k.trans h2) (Tj a h3) h4 h5 h6 h7
def mC(d:D):ME:=λ_=>aA d
noncomputable def zD(i:Nat):ME:=λr=>match r[i]? with
 |some (.v d)=>aA d
 |_=>aD
def JR(i:Nat):ML:=λr=>(r[i]?).bind Sl.ls
noncomputable def zK(m:D->D->Option D)(f g:ME):ME:=λr=>(f r).bind λx=>(g r).bind λy=>m x y
def aU(m:D->Option D)(f:ME):ME:=λr=>(f r).bind m
def zM:ML:=λ_=>aA []
noncomputable def zA(f:ME)(g:ML):ML:=λr=>(f r).bind λx=>(g r).bind λl=>aA (x::l)
noncomputable def wI(f:ML):ME:=λr=>(f r).bind λl=>if l.length<=ae then aA (.tup l) else aD
noncomputable def yL(f:ML):ML:=λr=>(f r).bind λl=>if l.length<=ae then aA l else aD
def xQ(f:ML):ME:=λr=>(f r).map .lst
def AE(f:ME):ML:=λr=>(f r).bind λd=>match d with
 |.lst l=>aA l
 |_=>aD
noncomputable def dG(f g:ME):ME:=λr=>(f r).bind λd=>match d with
 |.bl true=>g r
 |.bl false=>aA<|.bl false
 |_=>aD
noncomputable def RQ:D->Option D
 |.bl b=>aA<|.bl !b
 |_=>aD
def y3(f g:MB):MB:=λr=>(f r).bind λb=>if b=true then g r else aA false
noncomputable def XT(f g:MB):MB:=λr=>(f r).bind λb=>if b=true then aA true else g r
noncomputable def bV(f:MB):MB:=λr=>(f r).map (!·)
noncomputable def E3(c:MB)(f g:ME):ME:=λr=>(c r).bind λb=>if b=true then f r else g r
noncomputable def blD:D->Option Bool
 |.bl b=>aA b
 |_=>aD
def aP(f:ME):MB:=λr=>(f r).bind blD
noncomputable def IQ:D->Option Bool
 |.aE=>aA false
 |.bl b=>aA b
 |.int i=>aA<|i != 0
 |.str s=>if s.length<=ae then aA (!s.isEmpty) else aD
 |.tup l=>aA<|!l.isEmpty
 |.lst l=>aA<|!l.isEmpty
 |_=>aD
noncomputable def YJ(fl:ML):MB:=λr=>(fl r).map λl=>!l.isEmpty
def kY(f:ME):MB:=λr=>(f r).bind IQ
section
variable{X:Cx}{pos:Pos}{a b c:Expr}{f g:ME}
def aG(e:o.bind h=aA y):∃x,o=aA x/\h x=aA y:=by
 cases o with
 |none=>cases e
 |some x=>exact⟨x,rfl,e⟩
def Nr(h:PE X a t)(i:∀O0 σ H r d Q,R X.K O0 H r σ->f r=aA d->(∀v H',aH H H'->Is X.K (Ow O0 r σ) H' d v->Q v H')->t σ H Q):DE X a f:=
 PE.aM h λσ H Q ⟨O0,r,d,hR,e,q⟩=>i O0 σ H r d Q hR e q
def uC(i:Nat)(h:PE X (.Name x pos) (v6 i)):DE X (.Name x pos) (zD i):=
 Nr h λO0 σ H r d Q hR e q=>by
  unfold zD at e;have e':r[i]?=aA (.v d):=by
   split at e
   .rename_i d' h;cases e;exact h
   .cases e
  obtain⟨v,e1,q1⟩:=hR.val i d e';exact⟨v,e1,q v H (aH.refl H) q1⟩
def Xc(i:Nat)(h:PE X (.Name x pos) (v6 i)):DB X (.Name x pos) (JR i):=
 PE.aM h λσ H Q ⟨O0,r,l,hR,e,q⟩=>by
  obtain⟨a,xs,e1,e2,q1⟩:=hR.own i l e;exact⟨.ref a,e1,q a xs H (aH.refl H) (aX.of e2) q1⟩
def pP(h:PE X a (tC v))(hd:∀O H,Is X.K O H d v):DE X a (mC d):=
 Nr h λO0 σ H r d' Q hR e q=>by
  unfold mC at e;cases e;exact q v H (aH.refl H)<|hd _ _
def pO{i j}:DE X (.Constant (.int i) j pos) (mC<|.int i):=pP oM λO H=>by unfold Is;rfl
def Np{i j}:DE X (.Constant (.bool i) j pos) (mC<|.bl i):=pP VD λO H=>by unfold Is;rfl
def Oa{j}:DE X (.Constant .none j pos) (mC .aE):=pP OJ λO H=>by unfold Is;rfl
def ZB{j}(e:x.cps.toList=s:=by rfl):DE X (.Constant (.str x) j pos) (mC<|.str s):=pP Ze λO H=>by
 unfold Is;subst e;simp
def g_(K:Fg)(r2:R2)(m:D->D->Option D):Prop:=∀(O:Addr->Prop) (H:Hp) (dx dy d:D) (vx vy:V) (Q:VK),kT O H->Is K O H dx vx->Is K O H dy vy->m dx dy=aA d->(∀v H',aH H H'->Is K O H' d v->Q v H')->r2 vx vy H Q
def two{ta tb:TE}{r2:R2}{m:D->D->Option D}(hd:g_ X.K r2 m){σ:St}{H:Hp}{Q:VK}(h:lE X.K (zK m f g) σ H Q):EQ r2 (lE X.K f) (lE X.K g) σ H Q:=by
 obtain⟨O0,r,d,hR,e,q⟩:=h;obtain⟨x,e1,e⟩:=aG e;obtain⟨y,e2,e⟩:=aG e;refine⟨O0,r,x,hR,e1,λv1 H1 s1 i1=>⟨O0,r,y,hR.same s1,e2,λv2 H2 s2 i2=>?_⟩⟩;exact hd (Ow O0 r σ) H2 x y d v1 v2 Q (hR.same<|s1.trans s2).ol (i1.same s2 (hR.same s1).ol) i2 e λv H' s' i'=>q v H' ((s1.trans s2).trans s') i'
def Wc{op:Operator}{r2:R2}{m:D->D->Option D}(ho:eY X (binaryOp op) r2)(hd:g_ X.K r2 m)(ha:DE X a f)(hb:DE X b g):DE X (.BinOp a op b pos) (zK m f g):=
 PE.aM (NH ho ha hb) λσ H Q h=>two (ta:=lE X.K f) (tb:=lE X.K g) hd h
def Wd{op:CmpOp}{r2:R2}{m:D->D->Option D}(ho:eY X (gq op) r2)(hd:g_ X.K r2 m)(ha:DE X a f)(hb:DE X b g)(hm:gr op b=false):DE X (.Compare a [op] [b] pos) (zK m f g):=
 PE.aM (Ŀ ho ha hb hm) λσ H Q h=>two (ta:=lE X.K f) (tb:=lE X.K g) hd h
def Wy{op:CmpOp}{r2:R2}{m:D->D->Option D}(ho:eY X (gq op) r2)(hd:g_ X.K r2 m)(ha:DE X a f)(hb:DE X b g)(hm:gr op b=false):DT X (.Compare a [op] [b] pos) (aP<|zK m f g):=by
 refine PT.aM (PU ho ha hb hm) λσ H Q h=>?_
 obtain⟨O0,r,k,hR,e,q⟩:=h;obtain⟨d,e1,e⟩:=aG e;refine two (ta:=lE X.K f) (tb:=lE X.K g) (m:=m) hd ⟨O0,r,d,hR,e1,λv H' s' i'=>?_⟩;cases d<;>first|cases e|skip
 rw[zZ] at i';exact⟨_,i',q H' s'⟩
def Vg(ho:HU X (unaryOp op) r1)(hd:∀(O:Addr->Prop) (H:Hp) (dx d:D) (vx:V) (Q:VK),Is X.K O H dx vx->m dx=aA d->(∀v,Is X.K O H d v->Q v H)->r1 vx H Q)(ha:DE X a f):DE X (.UnaryOp op a pos) (aU m f):=by
 refine PE.aM (NI ho ha) λσ H Q h=>?_
 obtain⟨O0,r,d,hR,e,q⟩:=h;obtain⟨x,e1,e⟩:=aG e;exact⟨O0,r,x,hR,e1,λv1 H1 s1 i1=>hd _ H1 x d v1 Q i1 e λv i=>q v H1 s1 i⟩
def Wk{op}(h:DE X a f):DE X (.BoolOp op [a] pos) f:=Zd h
def Wa{qT:List Expr}(ha:DE X a f)(hb:DE X (.BoolOp .And (b::qT) pos) g):DE X (.BoolOp .And (a::b::qT) pos) (dG f g):=by
 refine PE.aM (Zb ha hb) λσ H Q h=>?_
 obtain⟨O0,r,d,hR,e,q⟩:=h;obtain⟨x,e1,e⟩:=aG e;refine⟨O0,r,x,hR,e1,λv1 H1 s1 i1=>?_⟩;cases x with
 |bl k=>
  rw[zZ] at i1;refine⟨k,i1,?_⟩;cases k with
  |true=>
   rw[if_pos rfl];exact⟨O0,r,d,hR.same s1,e,λv H' s' i'=>q v H' (s1.trans s') i'⟩
  |false=>
   rw[if_neg av];cases e;exact q _ H1 s1 (by rw[zZ])
 |_=>cases e
def Wj(ha:DE X a f):DE X (.UnaryOp .Not a pos) (aU RQ f):=by
 refine PE.aM (Zc ha) λσ H Q h=>?_
 obtain⟨O0,r,d,hR,e,q⟩:=h;obtain⟨x,e1,e⟩:=aG e;refine⟨O0,r,x,hR,e1,λv1 H1 s1 i1=>?_⟩;cases x with
 |bl k=>
  rw[zZ] at i1;cases e;exact⟨k,i1,q _ H1 s1<|by rw[zZ]⟩
 |_=>cases e
def ú(ha:DT X a tf):PW X (.BoolOp .And [a] pos) (lT X.K tf):=PX ha
def X'(ha:DT X a tf):PW X (.BoolOp .Or [a] pos) (lT X.K tf):=Zq ha
def PW.aM(h:PW X e t)(i:∀σ H Q,t' σ H Q->t σ H Q):PW X e t':=λwh pZ s σ H Q I q=>h wh pZ s σ H Q I<|i σ H Q q
def X_{qT:List Expr}(ha:DT X a tf)(hb:PW X (.BoolOp .And (b::qT) pos) (lT X.K tg)):PW X (.BoolOp .And (a::b::qT) pos) (lT X.K<|y3 tf tg):=by
 refine PW.aM (O_ ha hb) λσ H Q h=>?_
 obtain⟨O0,r,d,hR,e,q⟩:=h;obtain⟨x,e1,e⟩:=aG e;refine⟨O0,r,x,hR,e1,λH1 s1=>?_⟩;cases x with
 |true=>
  rw[if_pos rfl];exact⟨O0,r,d,hR.same s1,e,λH' s'=>q H'<|s1.trans s'⟩
 |false=>
  rw[if_neg av];cases e;exact q H1 s1
def Vn{qT:List Expr}(ha:DT X a tf)(hb:PW X (.BoolOp .Or (b::qT) pos) (lT X.K tg)):PW X (.BoolOp .Or (a::b::qT) pos) (lT X.K<|XT tf tg):=by
 refine PW.aM (VH ha hb) λσ H Q h=>?_
 obtain⟨O0,r,d,hR,e,q⟩:=h;obtain⟨x,e1,e⟩:=aG e;refine⟨O0,r,x,hR,e1,λH1 s1=>?_⟩;cases x with
 |true=>
  rw[if_pos rfl];cases e;exact q H1 s1
 |false=>
  rw[if_neg av];exact⟨O0,r,d,hR.same s1,e,λH' s'=>q H'<|s1.trans s'⟩
def qh5(h:PW X a (lT X.K tf)):DT X a tf:=h.pt
def Wz(ha:DT X a tf):DT X (.UnaryOp .Not a pos) (bV tf):=by
 refine PT.aM (Ó ha) λσ H Q h=>?_
 obtain⟨O0,r,d,hR,e,q⟩:=h;unfold bV at e;cases e1:tf r with
 |none=>rw[e1] at e;cases e
 |some k=>
  rw[e1] at e;cases e;exact⟨O0,r,k,hR,e1,λH1 s1=>q H1 s1⟩
def œ{K:Fg}(h:Is K O H d v)(e:IQ d=aA k):Md K v H k:=by
 cases d with
 |aI ks l=>cases e
 |aE=>rw[yQ] at h;subst h;cases e;rfl
 |bl b=>rw[zZ] at h;subst h;cases e;rfl
 |int i=>rw[zG] at h;subst h;cases e;rfl
 |str s=>
  rw[zU] at h;subst h;simp only[IQ] at e;split at e
  .rename_i hl;cases e;refine⟨by simpa [tz] using hl,?_⟩;cases s with
   |nil=>rfl
   |cons c r=>
    have:((r.length:Int)+1)≠0:=by omega
    simpa [tz] using this
  .cases e
 |tup l=>
  rw[zR] at h;obtain⟨a,xs,rfl,hs,hl⟩:=h;cases e;refine .inr<|.inl ⟨xs,hs,?_⟩
  have:=hl.length
  cases l<;>cases xs<;>simp_all
 |lst l=>
  rw[zS] at h;obtain⟨a,xs,rfl,hs,hl⟩:=h;cases e;refine .inl ⟨xs,hs.sq,?_⟩
  have:=hl.length
  cases l<;>cases xs<;>simp_all
 |ty n=>cases e
 |ref a=>cases e
def W_(ha:DE X a f)(he:∀whole,isTrue a X.env whole=(do let v <- whole;standAt a.pos;holding [v] (truthy v)):=by intro _;rfl):DT X a (kY f):=by
 refine PT.aM (m4 ha he) λσ H Q h=>?_
 obtain⟨O0,r,d,hR,e,q⟩:=h;obtain⟨x,e1,e⟩:=aG e;exact⟨O0,r,x,hR,e1,λv1 H1 s1 i1=>⟨d,œ i1 e,q H1 s1⟩⟩
def ö(ha:DB X a fl)(he:∀whole,isTrue a X.env whole=(do let v <- whole;standAt a.pos;holding [v] (truthy v)):=by intro _;rfl):DT X a (YJ fl):=by
 refine PT.aM (m4 ha he) λσ H Q h=>?_
 obtain⟨O0,r,d,hR,e,q⟩:=h;unfold YJ at e;cases e1:fl r with
 |none=>rw[e1] at e;cases e
 |some l=>
  rw[e1] at e;cases e;refine⟨O0,r,l,hR,e1,λa xs H1 s1 i1 i2=>⟨_,.inl ⟨xs,i1,?_⟩,q H1 s1⟩⟩
  have:=i2.length
  cases l<;>cases xs<;>simp_all
def Ve(hc:DT X c tf)(ha:DE X a f)(hb:DE X b g):DE X (.IfExp c a b pos) (E3 tf f g):=by
 refine PE.aM (Τ hc ha hb) λσ H Q h=>?_
 obtain⟨O0,r,d,hR,e,q⟩:=h;obtain⟨x,e1,e⟩:=aG e;refine⟨O0,r,x,hR,e1,λH1 s1=>?_⟩;cases x with
 |true=>rw[if_pos rfl];exact⟨O0,r,d,hR.same s1,e,λv H' s' i'=>q v H' (s1.trans s') i'⟩
 |false=>rw[if_neg av];exact⟨O0,r,d,hR.same s1,e,λv H' s' i'=>q v H' (s1.trans s') i'⟩
def pR:DA X [] zM:=PA.aM xH λσ H Q ⟨O0,r,l,hR,e,q⟩=>by
 unfold zM at e;cases e;exact q [] H (aH.refl H) .nil
def jX(ha:DE X a f)(hr:DA X es fs)(hs:i_ X a es:=by rfl):DA X (a::es) (zA f fs):=by
 refine PA.aM (yK ha hr hs) λσ H Q h=>?_
 obtain⟨O0,r,d,hR,e,q⟩:=h;obtain⟨x,e1,e⟩:=aG e;obtain⟨l,e2,e⟩:=aG e;cases e;exact⟨O0,r,x,hR,e1,λv1 H1 s1 i1=>⟨O0,r,l,hR.same s1,e2,λvs H2 s2 i2=>q _ H2 (s1.trans s2)<|.cons (i1.same s2 (hR.same s1).ol) i2⟩⟩
def yD(n:H p=aD):aH H (upd H p o):=λb u e=>by rw[zI<|xY e n];exact e
def Jr{x1}(h:DA X es fs):DE X (.Tuple es x1 pos) (wI fs):=by
 refine PE.aM (OM h) λσ H Q h=>?_
 obtain⟨O0,r,d,hR,e,q⟩:=h;obtain⟨l,e1,e⟩:=aG e;split at e
 .rename_i hl;cases e;refine⟨O0,r,l,hR,e1,λvs H1 s1 i1=>⟨by rw[<-i1.length];exact hl,λp hp=>q _ _ (s1.trans<|yD hp) ?_⟩⟩;rw[zR];exact⟨p,vs,rfl,d_.of zJ,i1.same (yD hp) (hR.same s1).ol⟩
 .cases e
def Wn(h:DA X es fs):DF X (.List es pos) (yL fs):=by
 refine PE.aM (Ka h) λσ H Q h=>?_
 obtain⟨O0,r,l',hR,e,q⟩:=h;obtain⟨l,e1,e⟩:=aG e;split at e
 .rename_i hl;have e':l=l':=bu e;subst e';refine⟨O0,r,l,hR,e1,λvs H1 s1 i1=>⟨by rw[<-i1.length];exact hl,λp hp=>q _ _ _ (s1.trans<|yD hp) (s1.free hp) zJ ?_⟩⟩;refine IsL.mono (aH.kp (yD hp) _) (hR.same s1).ol (λa z n=>?_) _ vs i1;rcases z with z|z
  .exact z
  .subst z;exact absurd hp n
 .cases e
def qi0(h:DF X a fl):DE X a (xQ fl):=by
 refine PE.aM h λσ H Q h=>?_
 obtain⟨O0,r,d,hR,e,q⟩:=h;unfold xQ at e;cases e1:fl r with
 |none=>rw[e1] at e;cases e
 |some l=>
  rw[e1] at e;cases e;refine⟨O0,r,l,hR,e1,λp xs H1 s1 n1 e2 i1=>q _ H1 s1 ?_⟩;rw[zS];have ol:kT (λb=>Ow O0 r σ b\/b=p) H1:=λb z=>z.elim (λz=>(hR.same s1).ol b z) λz=>by subst z;exact⟨.lst xs,e2,trivial⟩
  exact⟨p,xs,rfl,.inl ⟨hR.AR n1,.inl e2⟩,IsL.mono (aH.kp (aH.refl H1) _) ol (λa z _=>.inl z) l xs i1⟩
def qi2(h:DE X a f):DB X a (AE f):=by
 refine PE.aM h λσ H Q h=>?_
 obtain⟨O0,r,l,hR,e,q⟩:=h;obtain⟨d,e1,e⟩:=aG e;refine⟨O0,r,d,hR,e1,λv H1 s1 i1=>?_⟩;cases d with
 |lst l'=>
  cases e;rw[zS] at i1;obtain⟨p,xs,rfl,rd,il⟩:=i1;exact q p xs H1 s1 rd.sq il
 |_=>cases e
end
def zV:MS:=λr=>aA<|.nx r
noncomputable def yA(g h:MS):MS:=λr=>(g r).bind λfl=>match fl with
 |.nx r'=>h r'
 |x=>aA x
noncomputable def yI(i:Nat)(d:D)(r:En):Option En:=match r[i]? with
 |some (.p _)=>aD
 |some (.z _)=>aD
 |some (.d true _ _)=>aD
 |some _=>aA<|r.set i<|.v d
 |none=>aD
def IK(i:Nat)(l:List D)(r:En):Option En:=match r[i]? with
 |some (.p _)=>aD
 |some (.z _)=>aD
 |some (.d true _ _)=>aD
 |some _=>aA<|r.set i<|.o l
 |none=>aD
def xB(i:Nat)(f:ME):MS:=λr=>(f r).bind λd=>(yI i d r).map .nx
noncomputable def sW(i:Nat)(f:ML):MS:=λr=>(f r).bind λl=>(IK i l r).map .nx
def xE(f:ME):MS:=λr=>(f r).map λd=>.rt d r
noncomputable def gE(i:Nat):MS:=λr=>match r[i]? with
 |some (.o l)=>aA<|.rf l r
 |_=>aD
def aR(c:MB)(g h:MS):MS:=λr=>(c r).bind λb=>if b=true then g r else h r
noncomputable def sX(f:En->Option (D×En)):MS:=λr=>(f r).map λp=>.nx p.2
noncomputable def J9(i:Nat)(f:En->Option (D×En)):MS:=λr=>(f r).bind λp=>(yI i p.1 p.2).map .nx
noncomputable def kK:Nat->MB->MS->MS
 |0,_,_=>λ_=>aD
 |n+1,c,g=>λr=>(c r).bind λb=>if b=true then (g r).bind λfl=>match fl with
   |.nx r'=>kK n c g r'
   |.ct r'=>kK n c g r'
   |.bk r'=>aA<|.nx r'
   |x=>aA x
  else aA<|.nx r
noncomputable def dL(bd:D->En->Option En)(g:MS):List D->MS
 |[],r=>aA<|.nx r
 |d::l,r=>(bd d r).bind λr1=>(g r1).bind λfl=>match fl with
   |.nx r'=>dL bd g l r'
   |.ct r'=>dL bd g l r'
   |.bk r'=>aA<|.nx r'
   |x=>aA x
noncomputable def mP(bd:D->En->Option En)(it:ML)(g:MS):MS:=λr=>(it r).bind λl=>dL bd g l r
def zF{α:Type}{l:List α}{i j:Nat}{x:α}(h:i≠j):(l.set i x)[j]?=l[j]?:=by rw[List.getElem?_set];simp[h]
def zN{α:Type}{l:List α}{i:Nat}{x:α}(h:i<l.length):(l.set i x)[i]?=aA x:=by rw[List.getElem?_set];simp[h]
section
variable{K:Fg}{O0:Addr->Prop}{H H1:Hp}{r:En}{σ:St}{i:Nat}{d:D}{v:V}
def m9{q:Sl->Option (List D)}(hq:∀d,q (.v d)=aD){a:Addr}{x:Option V}(h:Ac q (r.set i<|.v d) (σ.set i x) a):Ac q r σ a:=by
 obtain⟨j,l,e,q'⟩:=h;by_cases hj:i=j
 .subst hj;by_cases hl:i<r.length
  .rw[zN hl] at e;have e':q (.v d)=aA l:=e;rw[hq] at e';cases e'
  .rw[qf<|by simpa using hl] at e;cases e
 .rw[zF hj] at e q';exact⟨j,l,e,q'⟩
def R.Co(h:R K O0 H r σ)(hi:i<r.length)(np:∀l,(r[i]?).bind Sl.pk=aD/\r[i]?≠aA (.z l))(hv:Is K (Ow O0 r σ) H d v):R K O0 H (r.set i<|.v d) (σ.set i<|some v)/\Kp H r σ H (r.set i<|.v d) (σ.set i<|some v):=by
 have BX:i<σ.length:=by rw[<-h.len];exact hi
 have sub:∀a,Ow O0 (r.set i<|.v d) (σ.set i<|some v) a->H a≠aD->Ow O0 r σ a:=λa z _=>z.elim .inl λz=>.inr<|m9 (λ_=>rfl) z
 have ne:∀(j:Nat) (l:List D),((r.set i<|.v d)[j]?).bind Sl.own=aA l->i≠j:=λj l e z=>by subst z;rw[zN hi] at e;cases e
 refine⟨⟨by simp[h.len],λj d' e=>?_,λj l e=>?_,λj k a l m e1 e2 q1 q2=>?_,h.o0,λj l a e q=>?_,λj l a e q=>?_,λj f ks l e=>?_⟩,⟨λb o e _=>e,λb e=>e,λb o e m=>⟨o,e,m⟩,λb z=>.inl<|m9 (λ_=>rfl) z,λb z=>.inl<|m9 (λ_=>rfl) z,λj l e=>?_,λj l e=>?_⟩⟩
 .by_cases hj:i=j
  .subst hj;rw[zN hi] at e;cases e;exact⟨v,zN BX,Is.mono (aH.kp (aH.refl H) _) h.ol sub _ _ hv⟩
  .rw[zF hj] at e;obtain⟨u,e1,q⟩:=h.val j d' e;exact⟨u,by rw[zF hj];exact e1,Is.mono (aH.kp (aH.refl H) _) h.ol sub _ _ q⟩
 .have hj:=ne j l<|vA e;rw[zF hj] at e;obtain⟨a,xs,e1,e2,q⟩:=h.own j l e;exact⟨a,xs,by rw[zF hj];exact e1,e2,IsL.mono (aH.kp (aH.refl H) _) h.ol sub _ _ q⟩
 .have hj:=ne j l e1;have hk:=ne k m e2;rw[zF hj] at e1 q1;rw[zF hk] at e2 q2;exact h.apart j k a l m e1 e2 q1 q2
 .have hj:i≠j:=ne j l (by rcases e with e|e|⟨ks,e⟩<;>rw[e]<;>rfl);rw[zF hj] at e q;exact h.loc j l a e q
 .have hj:i≠j:=ne j _ (cW e).choose_spec;rw[zF hj] at e q;exact h.par j l a e q
 .have hj:=ne j l (by rw[e];rfl);rw[zF hj] at e;obtain⟨a,kvs,e1,e2,e3,q⟩:=h.aI j f ks l e;exact⟨a,kvs,by rw[zF hj];exact e1,e2,e3,IsL.mono (aH.kp (aH.refl H) _) h.ol sub _ _ q⟩
 .have hj:i≠j:=λz=>by subst z;rw[(np []).1] at e;cases e
  exact⟨by rw[zF hj];exact e,zF hj⟩
 .have hj:i≠j:=λz=>by subst z;exact(np l).2 e
  exact⟨by rw[zF hj];exact e,zF hj⟩
def R.setG{y:Sl}{o':HO}{p:Addr}(h:R K O0 H r σ)(s:aH H H1)(n:H p=aD)(e:H1 p=aA o')(mb:Mb o')(yv:∀d,y≠.v d)(yl:∀m,y.ls=aA m->∃xs,o'=.lst xs/\IsL K (λb=>Ow O0 r σ b\/b=p) H1 m xs)(yk:y.pk=aD)(yd:∀f ks m,y=.d f ks m->∃kvs,o'=.dK kvs/\kvs.map (·.1)=ks/\IsL K (λb=>Ow O0 r σ b\/b=p) H1 m (kvs.map (·.2)))(hi:i<r.length)(np:∀l,(r[i]?).bind Sl.pk=aD/\r[i]?≠aA (.z l)):R K O0 H1 (r.set i y) (σ.set i<|some<|.ref p)/\Kp H r σ H1 (r.set i y) (σ.set i<|some<|.ref p):=by
 have BX:i<σ.length:=by rw[<-h.len];exact hi
 have ow:∀{q:Sl->Option (List D)} a,Ac q (r.set i y) (σ.set i<|some<|.ref p) a->Ac q r σ a\/a=p:=λ{q} a z=>by
  obtain⟨j,m,e1,q1⟩:=z;by_cases hj:i=j
  .subst hj;rw[zN BX] at q1;cases q1;exact .inr rfl
  .rw[zF hj] at e1 q1;exact .inl ⟨j,m,e1,q1⟩
 have sub:∀a,Ow O0 (r.set i y) (σ.set i<|some<|.ref p) a->H a≠aD->Ow O0 r σ a:=λa z nn=>z.elim .inl λz=>(ow a z).elim .inr λz=>by subst z;exact absurd n nn
 have Bb:kT (λb=>Ow O0 r σ b\/b=p) H1:=λb z=>z.elim (λz=>(h.same s).ol b z) λz=>by subst z;exact⟨_,e,mb⟩
 have new:∀{m xs},IsL K (λb=>Ow O0 r σ b\/b=p) H1 m xs->IsL K (Ow O0 (r.set i y)<|σ.set i<|some<|.ref p) H1 m xs:=λhl=>IsL.mono (aH.kp (aH.refl H1) _) Bb (λa z _=>z.elim (λz=>.inl<|.inl z) λz=>(ow a z).imp .inr id) _ _ hl
 have par:∀(j:Nat) (k:Bool),(r[j]?).bind Sl.pk=aA k->i≠j:=λj k e1 z=>by subst z;rw[(np []).1] at e1;cases e1
 have par':∀(j:Nat) (k:Bool),((r.set i y)[j]?).bind Sl.pk=aA k->i≠j:=λj k e1 z=>by
  subst z;rw[zN hi] at e1;cases yk.symm.trans e1
 refine⟨⟨by simp[h.len],λj d' e1=>?_,λj m e1=>?_,λj k a l1 m e1 e2 q1 q2=>?_,(h.same s).o0,λj m a e1 q=>?_,λj m a e1 q=>?_,λj f ks m e1=>?_⟩,⟨λb o e1 _=>s b o e1,λb e1=>s.free e1,λb o e1 mb=>⟨o,s _ _ e1,mb⟩,λb z=>(ow b z).imp id λz=>by subst z;exact n,λb z=>(ow b z).imp id λz=>by subst z;exact n,λj m e1=>?_,λj m e1=>?_⟩⟩
 .have hj:i≠j:=λz=>by subst z;rw[zN hi] at e1;exact yv d'<|bu e1
  rw[zF hj] at e1;obtain⟨u,e2,q⟩:=h.val j d' e1;exact⟨u,by rw[zF hj];exact e2,Is.mono (aH.kp s _) h.ol sub _ _ q⟩
 .by_cases hj:i=j
  .subst hj;rw[zN hi] at e1;obtain⟨xs,rfl,hl⟩:=yl m e1;exact⟨p,xs,zN BX,e,new hl⟩
  .rw[zF hj] at e1;obtain⟨a,ys,e2,e3,q⟩:=h.own j m e1;exact⟨a,ys,by rw[zF hj];exact e2,s _ _ e3,IsL.mono (aH.kp s _) h.ol sub _ _ q⟩
 .have out:∀(j:Nat) (m:List D) (a:Addr),i≠j->((r.set i y)[j]?).bind Sl.own=aA m->(σ.set i<|some<|.ref p)[j]?=aA (aA<|.ref a)->a≠p:=λj m a hj e1 q1 z=>by
   rw[zF hj] at e1 q1;obtain⟨b,ys,e2,e3,_⟩:=h.obj e1;rw[q1] at e2;cases e2;subst z;rw[n] at e3;cases e3
  by_cases hj:i=j
  .by_cases hk:i=k
   .exact hj.symm.trans hk
   .subst hj;rw[zN BX] at q1;cases q1;exact absurd rfl<|out k m p hk e2 q2
  .by_cases hk:i=k
   .subst hk;rw[zN BX] at q2;cases q2;exact absurd rfl<|out j l1 p hj e1 q1
   .rw[zF hj] at e1 q1;rw[zF hk] at e2 q2;exact h.apart j k a l1 m e1 e2 q1 q2
 .by_cases hj:i=j
  .subst hj;rw[zN BX] at q;cases q;exact λz=>by obtain⟨ys,e3,_⟩:=h.o0 p z;rw[n] at e3;cases e3
  .rw[zF hj] at e1 q;exact h.loc j m a e1 q
 .have hj:=par' j m e1;rw[zF hj] at e1 q;exact h.par j m a e1 q
 .by_cases hj:i=j
  .subst hj;rw[zN hi] at e1;obtain⟨kvs,rfl,hk,hl⟩:=yd f ks m<|bu e1;exact⟨p,kvs,zN BX,e,hk,new hl⟩
  .rw[zF hj] at e1;obtain⟨a,kvs,e2,e3,e4,q⟩:=h.aI j f ks m e1;exact⟨a,kvs,by rw[zF hj];exact e2,s _ _ e3,e4,IsL.mono (aH.kp s _) h.ol sub _ _ q⟩
 .have hj:=par j m e1;exact⟨by rw[zF hj];exact e1,zF hj⟩
 .have hj:i≠j:=λz=>by subst z;exact(np m).2 e1
  exact⟨by rw[zF hj];exact e1,zF hj⟩
def R.qa6{l:List D}{xs:List V}{p:Addr}(h:R K O0 H r σ)(s:aH H H1)(n:H p=aD)(e:H1 p=aA (.lst xs))(hl:IsL K (λb=>Ow O0 r σ b\/b=p) H1 l xs)(hi:i<r.length)(np:∀l,(r[i]?).bind Sl.pk=aD/\r[i]?≠aA (.z l)):R K O0 H1 (r.set i<|.o l) (σ.set i<|some<|.ref p)/\Kp H r σ H1 (r.set i<|.o l) (σ.set i<|some<|.ref p):=
 h.setG s n e trivial (λ_ z=>by cases z) (λm z=>by cases z;exact⟨_,rfl,hl⟩) rfl (λ_ _ _ z=>by cases z) hi np
def jQ{r':En}(e:yI i d r=aA r'):i<r.length/\(∀l,(r[i]?).bind Sl.pk=aD/\r[i]?≠aA (.z l))/\r'=r.set i (.v d):=by
 unfold yI at e;cases e1:r[i]? with
 |none=>rw[e1] at e;cases e
 |some x=>
  have hi:i<r.length:=(aq.mp e1).1;rw[e1] at e;cases x with
  |p l=>cases e
  |z l=>cases e
  |d f ks l=>cases f<;>first|(cases e;done)|(cases e;exact⟨hi,λl=>⟨rfl,(λz=>by cases z)⟩,rfl⟩)
  |_=>cases e;exact⟨hi,λl=>⟨rfl,(λz=>by cases z)⟩,rfl⟩
def WI{r':En}{l:List D}(e:IK i l r=aA r'):i<r.length/\(∀l,(r[i]?).bind Sl.pk=aD/\r[i]?≠aA (.z l))/\r'=r.set i (.o l):=by
 unfold IK at e;cases e1:r[i]? with
 |none=>rw[e1] at e;cases e
 |some x=>
  have hi:i<r.length:=(aq.mp e1).1;rw[e1] at e;cases x with
  |p l=>cases e
  |z l=>cases e
  |d f ks l=>cases f<;>first|(cases e;done)|(cases e;exact⟨hi,λl=>⟨rfl,(λz=>by cases z)⟩,rfl⟩)
  |_=>cases e;exact⟨hi,λl=>⟨rfl,(λz=>by cases z)⟩,rfl⟩
def aY{α β:Type}{o:Option α}{h:α->β}{y:β}(e:o.map h=aA y):∃x,o=aA x/\h x=y:=by
 cases o with
 |none=>cases e
 |some x=>exact⟨x,rfl,bu e⟩
def Is.less{O:Addr->Prop}(h:R K O0 H r σ)(hi:Is K (Ow O0 r σ) H1 d v)(s:aH H H1):Is K O0 H1 d v:=Is.mono (aH.kp (aH.refl H1) _) (h.same s).ol (λ_ z _=>.inl z) _ _ hi
end
section
variable{X:Cx}{pos:Pos}{e:Expr}{f:ME}{fl:ML}{g h:MS}{st:Stmt}{qT:List Stmt}
def Ws:sV X [] zV:=iE.aM PR λDn σ H ⟨O0,r,f',hR,e,q⟩=>by
 unfold zV at e;cases e;exact q σ H hR<|Kp.refl H r σ
def Ć(h1:DS X st g)(h2:sV X qT h):sV X (st::qT) (yA g h):=by
 refine iE.aM (j6 h1 h2) λDn σ H hq=>?_
 obtain⟨O0,r,fl,hR,e,q⟩:=hq;obtain⟨f1,e1,e2⟩:=aG e;cases f1 with
 |nx r1=>exact⟨O0,r,.nx r1,hR,e1,λσ' H' R' k=>⟨O0,r1,fl,R',e2,q.before R' k⟩⟩
 |bk r1=>cases e2;exact⟨O0,r,_,hR,e1,q⟩
 |ct r1=>cases e2;exact⟨O0,r,_,hR,e1,q⟩
 |rt d r1=>cases e2;exact⟨O0,r,_,hR,e1,q⟩
 |rf l r1=>cases e2;exact⟨O0,r,_,hR,e1,q⟩
 |rg ks l r1=>cases e2;exact⟨O0,r,_,hR,e1,q⟩
def Wt(h1:DS X st g):sV X [st] g:=oG h1
def Wx(i:Nat){x:Str}{pos':Pos}(he:DE X e f)(hN:X.N.Nodup)(hi:X.N[i]?=aA x:=by rfl)(hx:Loc X.env.scope x:=by first|exact Or.inl rfl|exact Or.inr rfl)(hs:js e (aA<|.Name x pos') pos.line X.env=pure false:=by rfl)(hf:m_ X x:=by first|exact .inl rfl|exact .inr rfl):DS X (.Assign [.Name x pos'] e pos) (xB i f):=by
 refine PS.aM (oH hN hi hx he hs hf) λDn σ H hq=>?_
 obtain⟨O0,r,fl,hR,e,q⟩:=hq;obtain⟨d,e1,e2⟩:=aG e;obtain⟨r',e3,rfl⟩:=aY e2;obtain⟨hl,np,rfl⟩:=jQ e3;refine⟨O0,r,d,hR,e1,λv H1 s1 i1=>?_⟩;obtain⟨R1,k1⟩:=(hR.same s1).Co hl np i1;exact q _ H1 R1<|(Kp.of_same r σ s1).trans k1
def Wu(i:Nat){x:Str}{pos':Pos}(he:DF X e fl)(hN:X.N.Nodup)(hi:X.N[i]?=aA x:=by rfl)(hx:Loc X.env.scope x:=by first|exact Or.inl rfl|exact Or.inr rfl)(hs:js e (aA<|.Name x pos') pos.line X.env=pure false:=by rfl)(hf:m_ X x:=by first|exact .inl rfl|exact .inr rfl):DS X (.Assign [.Name x pos'] e pos) (sW i fl):=by
 refine PS.aM (oH hN hi hx he hs hf) λDn σ H hq=>?_
 obtain⟨O0,r,Ao,hR,e,q⟩:=hq;obtain⟨l,e1,e2⟩:=aG e;obtain⟨r',e4,rfl⟩:=aY e2;obtain⟨hl,np,rfl⟩:=WI e4;refine⟨O0,r,l,hR,e1,λp xs H1 s1 n1 e3 i1=>?_⟩;obtain⟨R1,k1⟩:=hR.qa6 s1 n1 e3 i1 hl np;exact q _ H1 R1 k1
def Wv(he:DE X e f):DS X (.Return (aA e) pos) (xE f):=by
 refine PS.aM (WN he) λDn σ H hq=>?_
 obtain⟨O0,r,fl,hR,e,q⟩:=hq;obtain⟨d,e1,rfl⟩:=aY e;exact⟨O0,r,d,hR,e1,λv H1 s1 i1=>q v σ H1 (hR.same s1) (Kp.of_same r σ s1)<|Is.less (O:=O0) hR i1 s1⟩
def Q2(i:Nat){x:Str}{pos':Pos}(h:PE X (.Name x pos') (v6 i)):DS X (.Return (aA<|.Name x pos') pos) (gE i):=by
 refine PS.aM (WN h) λDn σ H hq=>?_
 obtain⟨O0,r,Ao,hR,e,q⟩:=hq;unfold gE at e;have⟨l,e1,e2⟩:∃l,r[i]?=aA (.o l)/\Ao=.rf l r:=by
  split at e
  .rename_i l h;cases e;exact⟨l,h,rfl⟩
  .cases e
 subst e2;obtain⟨a,xs,q1,q2,q3⟩:=hR.own i l (by rw[e1];rfl);refine⟨.ref a,q1,q a xs σ H hR (Kp.refl H r σ) (.inr ⟨i,l,.inl e1,q1⟩) (hR.loc i l a (.inl e1) q1) q2 ?_⟩;exact IsL.mono (aH.kp (aH.refl H) _) hR.ol (λb z _=>z.elim .inl λz=>by subst z;exact .inr ⟨i,l,by rw[e1];rfl,q1⟩) _ _ q3
def Vl{c:Expr}{sa sb:List Stmt}{tc:MB}(hc:DT X c tc)(ha:sV X sa g)(hb:sV X sb h):DS X (.If c sa sb pos) (aR tc g h):=by
 refine PS.aM (NM hc ha hb) λDn σ H hq=>?_
 obtain⟨O0,r,Ao,hR,e,q⟩:=hq;obtain⟨k,e1,e2⟩:=aG e;refine⟨O0,r,k,hR,e1,λH1 s1=>?_⟩;have R1:=hR.same s1;have q1:=At.before R1 (Kp.of_same r σ s1) q;cases k with
 |true=>rw[if_pos rfl] at e2;exact Eh ⟨O0,r,Ao,R1,e2,q1⟩
 |false=>rw[if_neg av] at e2;exact Eg ⟨O0,r,Ao,R1,e2,q1⟩
def qh7{fx:En->Option (D×En)}(he:DX X e fx)(hs:js e aD pos.line X.env=pure false:=by rfl):DS X (.Expr e pos) (sX fx):=by
 refine PS.aM (Z7 he hs) λDn σ H hq=>?_
 obtain⟨O0,r,Ao,hR,e,q⟩:=hq;obtain⟨⟨d,r'⟩,e1,rfl⟩:=aY e;exact⟨O0,r,d,r',hR,e1,λv H1 R1 k1 i1=>q σ H1 R1 k1⟩
def ô(i:Nat){x:Str}{pos':Pos}{fx:En->Option (D×En)}(he:DX X e fx)(hN:X.N.Nodup)(hi:X.N[i]?=aA x:=by rfl)(hx:Loc X.env.scope x:=by first|exact Or.inl rfl|exact Or.inr rfl)(hs:js e (aA<|.Name x pos') pos.line X.env=pure false:=by rfl)(hf:m_ X x:=by first|exact .inl rfl|exact .inr rfl):DS X (.Assign [.Name x pos'] e pos) (J9 i fx):=by
 refine PS.aM (oH hN hi hx he hs hf) λDn σ H hq=>?_
 obtain⟨O0,r,fl,hR,e,q⟩:=hq;obtain⟨⟨d,r1⟩,e1,e2⟩:=aG e;obtain⟨r',e3,rfl⟩:=aY e2;obtain⟨hl,np,rfl⟩:=jQ e3;refine⟨O0,r,d,r1,hR,e1,λv H1 R1 k1 i1=>?_⟩;obtain⟨R2,k2⟩:=R1.Co hl np i1;exact q _ H1 R2<|k1.trans k2
def Μ(n:Nat){c:Expr}{body:List Stmt}{tc:MB}(hp:PassesOwn (model X.prog X.w) X.A X.env X.xe)(hc:DT X c tc)(hb:sV X body g):DS X (.While c body [] pos) (kK n tc g):=by
 refine PS.aM (Z6 hp hc hb) λDn σ H hq=>?_
 obtain⟨O0,r,fl,hR,e,q⟩:=hq;refine⟨λm σ1 H1=>∃r1,R X.K O0 H1 r1 σ1/\Kp H r σ H1 r1 σ1/\kK m tc g r1=aA fl,⟨n,r,hR,Kp.refl H r σ,e⟩,?_⟩;rintro m σ1 H1 ⟨r1,R1,k1,e1⟩;cases m with
 |zero=>cases e1
 |succ m=>
  obtain⟨b,e2,e3⟩:=aG e1;refine⟨O0,r1,b,R1,e2,λH2 s2=>?_⟩;have R2:=R1.same s2;have k2:=k1.trans<|Kp.of_same r1 σ1 s2;cases b with
  |false=>
   rw[if_neg av] at e3;cases e3;exact Eg<|q σ1 H2 R2 k2
  |true=>
   rw[if_pos rfl] at e3;obtain⟨f1,e4,e5⟩:=aG e3;refine Eh ⟨λσ3 H3=>∃r3,R X.K O0 H3 r3 σ3/\Kp H r σ H3 r3 σ3/\kK m tc g r3=aA fl,λσ3 H3 z=>⟨m,qh m,z⟩,O0,r1,f1,R2,e4,?_⟩;cases f1 with
   |nx r3=>exact λσ3 H3 R3 k3=>⟨r3,R3,k2.trans k3,e5⟩
   |ct r3=>exact λσ3 H3 R3 k3=>⟨r3,R3,k2.trans k3,e5⟩
   |bk r3=>cases e5;exact λσ3 H3 R3 k3=>q σ3 H3 R3<|k2.trans k3
   |rt d r3=>cases e5;exact At.before R2 k2 q
   |rf l r3=>cases e5;exact At.before R2 k2 q
   |rg ks l r3=>cases e5;exact At.before R2 k2 q
end
def lG(K:Fg)(bd:D->En->Option En):TG:=λv σ H Q=>∃O0 r d r',R K O0 H r σ/\Is K (Ow O0 r σ) H d v/\bd d r=aA r'/\∀σ',R K O0 H r' σ'->Kp H r σ H r' σ'->Q σ' H
def DG(X:Cx)(tg:Expr)(bd:D->En->Option En):Prop:=PG X tg<|lG X.K bd
def Bw(K:Fg)(O M:Addr->Prop)(H0:Hp)(J:It)(l:List D):Prop:=∀(i:Nat) (H:Hp) (O':Addr->Prop),dZ M H0 H->(∀a,O' a->H0 a≠aD->O a) ->
 (i<l.length->J.go i H/\∀x H',J.EM i H x H'->aH H H'/\∀d,l[i]?=aA d->Is K O' H' d x)/\(i=l.length->J.stop i H)
def lI(K:Fg)(it:ML):TI:=λσ H Rr=>∃O0 r l,R K O0 H r σ/\it r=aA l/\∀J H',aH H H'->Bw K (Ow O0 r σ) (lJ r σ) H' J l->Rr J H'
def DI(X:Cx)(tg iter:Expr)(it:ML):Prop:=PI X tg iter<|lI X.K it
def PG.aM{X:Cx}{e:Expr}{t t':TG}(h:PG X e t)(i:∀v σ H Q,t' v σ H Q->t v σ H Q):PG X e t':=λpZ s σ H v u Q I r q=>h pZ s σ H v u Q I r<|i v σ H Q q
def PI.aM{X:Cx}{tg e:Expr}{t t':TI}(h:PI X tg e t)(i:∀σ H Q,t' σ H Q->t σ H Q):PI X tg e t':=λpZ s σ H Q I q=>h pZ s σ H Q I<|i σ H Q q
def u5{α:Type}{l:List α}{i:Nat}{d:α}(h:l[i]?=aA d):l.drop i=d::l.drop (i+1):=by
 obtain⟨lt,eq⟩:=aq.mp h;rw[<-eq,yh lt]
section
variable{X:Cx}{pos:Pos}{tg iter:Expr}{bd:D->En->Option En}{it:ML}{g:MS}{body:List Stmt}
def Wr(hp:PassesOwn (model X.prog X.w) X.A X.env X.xe)(hc:X.calm=true)(hi:DI X tg iter it)(hg:DG X tg bd)(hb:sV X body g)(hs:∀x,iq iter X.env x=pure x:=by intro _;rfl):DS X (.For tg iter body [] pos) (mP bd it g):=by
 refine PS.aM (OW hp hc hi hg hb hs) λDn σ H hq=>?_
 obtain⟨O0,r,fl,hR,e,q⟩:=hq;obtain⟨l,e1,e2⟩:=aG e;refine⟨O0,r,l,hR,e1,λJ H0 s0 yl=>?_⟩;have R0:=hR.same s0;refine⟨λi m σ1 H1=>m=l.length-i/\i<=l.length/\∃r1,R X.K O0 H1 r1 σ1/\Kp H0 r σ H1 r1 σ1/\dL bd g (l.drop i) r1=aA fl,⟨l.length,by simp,fg _,r,R0,Kp.refl H0 r σ,by simpa using e2⟩,?_⟩;rintro i m σ1 H1 ⟨rfl,Dz,r1,R1,k1,e3⟩;have k0:=(Kp.of_same r σ s0).trans k1;obtain⟨y1,y2⟩:=yl i H1 (Ow O0 r1 σ1) k1.keep λa z n=>z.elim .inl λz=>(k1.new a z).elim .inr λz=>absurd z n
 by_cases fM:i<l.length
 .obtain⟨go,yd⟩:=y1 fM;have hd:l[i]?=aA l[i]:=by simp[fM]
  rw[u5 hd] at e3;obtain⟨r2,e4,e5⟩:=aG e3;obtain⟨f1,e6,e7⟩:=aG e5;refine .inr ⟨go,λσ3 H3=>∃r3,R X.K O0 H3 r3 σ3/\Kp H0 r σ H3 r3 σ3/\dL bd g (l.drop<|i+1) r3=aA fl,λσ3 H3 z=>⟨l.length-(i+1),by omega,rfl,fM,z⟩,λx H2 yx=>?_⟩;obtain⟨s2,ix⟩:=yd x H2 yx;have R2:=R1.same s2;refine⟨O0,r1,l[i],r2,R2,ix _ hd,e4,λσ2 HV k2=>⟨O0,r2,f1,HV,e6,?_⟩⟩;have k3:=(k1.trans<|Kp.of_same r1 σ1 s2).trans k2;have k4:=(k0.trans<|Kp.of_same r1 σ1 s2).trans k2;cases f1 with
  |nx r3=>exact λσ3 H3 R3 kk=>⟨r3,R3,k3.trans kk,e7⟩
  |ct r3=>exact λσ3 H3 R3 kk=>⟨r3,R3,k3.trans kk,e7⟩
  |bk r3=>cases e7;exact λσ3 H3 R3 kk=>q σ3 H3 R3<|k4.trans kk
  |rt d r3=>cases e7;exact At.before HV k4 q
  |rf l' r3=>cases e7;exact At.before HV k4 q
  |rg ks l' r3=>cases e7;exact At.before HV k4 q
 .have hl:l.drop i=[]:=ph (by omega);rw[hl] at e3;cases e3;exact .inl ⟨y2<|by omega,q σ1 H1 R1 k0⟩
def jB(i:Nat){x:Str}(hN:X.N.Nodup)(hi:X.N[i]?=aA x:=by rfl)(hx:Loc X.env.scope x:=by first|exact Or.inl rfl|exact Or.inr rfl)(hf:m_ X x:=by first|exact .inl rfl|exact .inr rfl):DG X (.Name x pos) (yI i):=by
 refine PG.aM (YA hN hi hx hf) λv σ H Q h=>?_
 obtain⟨O0,r,d,r',hR,iv,e,q⟩:=h;obtain⟨hl,np,rfl⟩:=jQ e;obtain⟨R1,k1⟩:=hR.Co hl np iv;exact q _ R1 k1
noncomputable def jY:List D->En->Option En:=λl r=>if l.isEmpty then aA r else aD
noncomputable def yH(b:D->En->Option En)(bs:List D->En->Option En):List D->En->Option En:=λl r=>match l with
 |[]=>aD
 |d::t=>(b d r).bind λr1=>bs t r1
def lGs(K:Fg)(bs:List D->En->Option En):CO:=λvs σ H Q=>∃O0 r l r',R K O0 H r σ/\IsL K (Ow O0 r σ) H l vs/\bs l r=aA r'/\∀σ',R K O0 H r' σ'->Kp H r σ H r' σ'->Q σ' H
def FY(X:Cx)(ts:List Expr)(bs:List D->En->Option En):Prop:=Au X ts<|lGs X.K bs
def Au.aM{e:List Expr}{t t':CO}(h:Au X e t)(i:∀v σ H Q,t' v σ H Q->t v σ H Q):Au X e t':=λpZ s σ H v u Q I r q=>h pZ s σ H v u Q I r<|i v σ H Q q
def P6:FY X [] jY:=by
 refine Au.aM Ĳ λvs σ H Q h=>?_
 obtain⟨O0,r,l,r',hR,il,e,q⟩:=h;unfold jY at e;cases l with
 |nil=>
  unfold IsL at il;cases e;exact⟨il,q σ hR<|Kp.refl H r σ⟩
 |cons d l=>cases e
def nK{e:Expr}{es:List Expr}{bs:List D->En->Option En}(h1:DG X e bd)(h2:FY X es bs)(hs:(jw (e::es) X.env).map (·.2)=assign e X.env::(jw es X.env).map (·.2):=by rfl):FY X (e::es) (yH bd bs):=by
 refine Au.aM (Χ h1 h2 hs) λvs σ H Q h=>?_
 obtain⟨O0,r,l,r',hR,il,e,q⟩:=h;cases l with
 |nil=>cases e
 |cons d t=>
  unfold IsL at il;obtain⟨v,us,rfl,i1,i2⟩:=il;obtain⟨r1,e1,e2⟩:=aG e;refine⟨v,us,rfl,O0,r,d,r1,hR,i1,e1,λσ1 R1 k1=>⟨O0,r1,t,r',R1,?_,e2,λσ2 R2 k2=>q σ2 R2<|k1.trans k2⟩⟩;exact IsL.mono (aH.kp (aH.refl H) _) hR.ol (λa z n=>z.elim .inl λz=>(k1.new a z).elim .inr λz=>absurd z n) _ _ i2
end
inductive Rs where
 |v (d:D)|f (l:List D)|g (ks:List Key) (l:List D)
noncomputable abbrev MF:=List Sl->Option (Rs×List Sl)
structure Ec(K:Fg)(O0:Addr->Prop)(H:Hp)(as:List Sl)(vs:List V)(H':Hp)(f_:List Sl):Prop where
 keep:dZ (lJ as<|vs.map aA) H H'
 live:∀b,H' b=aD->H b=aD
 lst:∀b o,H b=aA o->Mb o->∃o',H' b=aA o'/\Mb o'
 par:∀(i:Nat) (l:List D),as[i]?=aA (.p l)->∃l' a xs,f_[i]?=aA (.p l')/\vs[i]?=aA (.ref a)/\H' a=aA (.lst xs)/\IsL K O0 H' l' xs
 pad:∀(i:Nat) (ks:List Key) (l:List D),as[i]?=aA (.d true ks l)->∃iJ l' a kvs,f_[i]?=aA (.d true iJ l')/\vs[i]?=aA (.ref a)/\H' a=aA (.dK kvs)/\kvs.map (·.1)=iJ/\IsL K O0 H' l' (kvs.map (·.2))
def TN(K:Fg)(O0:Addr->Prop)(H:Hp)(as:List Sl)(vs:List V)(f_:List Sl)(Q:VK):Rs->Prop
 |.v d=>∀v H',Ec K O0 H as vs H' f_->Is K O0 H' d v->Q v H'
 |.f l=>∀a xs H',Ec K O0 H as vs H' f_->H a=aD->H' a=aA (.lst xs)->IsL K (λb=>O0 b\/b=a) H' l xs->Q (.ref a) H'
 |.g ks l=>∀a kvs H',Ec K O0 H as vs H' f_->H a=aD->H' a=aA (.dK kvs)->kvs.map (·.1)=ks->IsL K (λb=>O0 b\/b=a) H' l (kvs.map (·.2))->Q (.ref a) H'
def iY(K:Fg)(n:Nat)(m:MF):Sp:=λvs H Q _=>∃O0 as rs f_,as.length=n/\R K O0 H as (vs.map aA)/\(∀(i:Nat) (l:List D),as[i]?≠aA (.o l)/\as[i]?≠aA (.z l)/\∀ks,as[i]?≠aA (.d false ks l))/\m as=aA (rs,f_)/\TN K O0 H as vs f_ Q rs
noncomputable def eW(n N:Nat)(g:MS):MF:=λas=>(g<|as++bg (N-n) .un).bind λfl=>match fl with
 |.rt d r'=>aA (.v d,r'.take n)
 |.rf l r'=>aA (.f l,r'.take n)
 |.rg ks l r'=>aA (.g ks l,r'.take n)
 |.nx r'=>aA (.v .aE,r'.take n)
 |_=>aD
section
variable{K:Fg}
def oQ{q:Sl->Option (List D)}(hq:q .un=aD){as:List Sl}{vs:List V}{k n:Nat}{a:Addr}(hl:as.length=vs.length):Ac q (as++bg k .un) (vs.map aA++bg n aD) a↔Ac q as (vs.map aA) a:=by
 constructor
 .rintro ⟨i,l,e,q'⟩;by_cases hi:i<as.length
  .rw[be hi] at e;rw[be (by simp;omega)] at q';exact⟨i,l,e,q'⟩
  .rw[dk<|by omega,cw] at e;split at e
   .have e':q .un=aA l:=e;rw[hq] at e';cases e'
   .cases e
 .rintro ⟨i,l,e,q'⟩;have hi:i<as.length:=by
   cases e1:as[i]? with
   |none=>rw[e1] at e;cases e
   |some x=>exact(aq.mp e1).1
  exact⟨i,l,by rw[be hi];exact e,by rw[be (by simp;omega)];exact q'⟩
def R.start{O0:Addr->Prop}{H:Hp}{as:List Sl}{vs:List V}{k:Nat}(h:R K O0 H as (vs.map aA)):R K O0 H (as++bg k .un) (vs.map aA++bg k aD):=by
 have hl:as.length=vs.length:=by simpa using h.len
 have own:∀a,Ow O0 (as++bg k .un) (vs.map aA++bg k aD) a->H a≠aD->Ow O0 as (vs.map aA) a:=λa z _=>z.imp id (oQ rfl hl).mp
 have pre:∀(i:Nat) (x:Sl),(as++bg k .un)[i]?=aA x->x≠.un->as[i]?=aA x/\(vs.map aA++bg k aD)[i]?=(vs.map aA)[i]?:=λi x e n=>by
  by_cases hi:i<as.length
  .rw[be hi] at e;exact⟨e,be (by simp;omega)⟩
  .rw[dk<|by omega,cw] at e;split at e
   .cases e;exact absurd rfl n
   .cases e
 have KL:∀{q:Sl->Option (List D)} (hq:q .un=aD) (i:Nat) (l:List D),((as++bg k .un)[i]?).bind q=aA l->(as[i]?).bind q=aA l/\(vs.map aA++bg k aD)[i]?=(vs.map aA)[i]?:=λ{q} hq i l e=>by
  cases e1:(as++bg k .un)[i]? with
  |none=>rw[e1] at e;cases e
  |some x=>
   obtain⟨q1,q2⟩:=pre i x e1 (by rintro rfl;rw[e1] at e;have e':q .un=aA l:=e;rw[hq] at e';cases e');rw[e1] at e;exact⟨by rw[q1];exact e,q2⟩
 refine⟨by simp[hl],λi d e=>?_,λi l e=>?_,λi j a l m e1 e2 q1 q2=>?_,h.o0,λi l a e q=>?_,λi l a e q=>?_,λi f ks l e=>?_⟩
 .obtain⟨q1,q2⟩:=pre i _ e (by intro z;cases z);obtain⟨v,e3,q3⟩:=h.val i d q1;exact⟨v,q2.trans e3,Is.mono (aH.kp (aH.refl H) _) h.ol own _ _ q3⟩
 .obtain⟨q1,q2⟩:=KL (q:=Sl.ls) rfl i l e;obtain⟨a,xs,e3,e4,q3⟩:=h.own i l q1;exact⟨a,xs,q2.trans e3,e4,IsL.mono (aH.kp (aH.refl H) _) h.ol own _ _ q3⟩
 .obtain⟨p1,p2⟩:=KL (q:=Sl.own) rfl i l e1;obtain⟨p3,p4⟩:=KL (q:=Sl.own) rfl j m e2;exact h.apart i j a l m p1 p3 (p2 ▸ q1)<|p4 ▸ q2
 .rcases e with e|e|⟨ks,e⟩
  .obtain⟨p1,p2⟩:=pre i _ e (by intro z;cases z);exact h.loc i l a (.inl p1)<|p2 ▸ q
  .obtain⟨p1,p2⟩:=pre i _ e (by intro z;cases z);exact h.loc i l a (.inr<|.inl p1)<|p2 ▸ q
  .obtain⟨p1,p2⟩:=pre i _ e (by intro z;cases z);exact h.loc i l a (.inr<|.inr ⟨ks,p1⟩)<|p2 ▸ q
 .obtain⟨x,p0,e0⟩:=sr.mp e;obtain⟨p1,p2⟩:=pre i _ p0 (by rintro rfl;cases e0);exact h.par i l a (by rw[p1];exact e0)<|p2 ▸ q
 .obtain⟨p1,p2⟩:=pre i _ e (by intro z;cases z);obtain⟨a,kvs,e3,e4,e5,q3⟩:=h.aI i f ks l p1;exact⟨a,kvs,p2.trans e3,e4,e5,IsL.mono (aH.kp (aH.refl H) _) h.ol own _ _ q3⟩
def Vo{st:Stmt}(F:j_ K x qual st f fd)(S:sU N ps (yF st))(n:Nat)(nN:Nat)(hn:ps.length=n:=by rfl)(hN:N.length=nN:=by rfl)(hb:∀(eI:Value),fd.code=eI->∀(A:Around) (outer:List Env) (s:Shared) (H:Hp) (E:XK),eS k (A.deeper<|envOfC qual (yF st) s.heap.objs.size f eI) ->
   sV (Ae eJ P w K mg base N qual (yF st) f eI A outer s H E).AQ (qB st) g):eA P w K mg base eJ (k+1) f fd ps (iY K n<|eW n nN g):=by
 subst hn hN;obtain⟨oc,od,kV,doc,pm,an,eI,ct,Cr,rfl,lk,sQ⟩:=F.ex;refine N0 lk sQ S (λvs H Q E h=>?_) λA outer s H vs Q E hr h=>?_
 .obtain⟨O0,as,rs,f_,hl,hR,_⟩:=h
  have:=hR.len
  simp at this;omega
 .obtain⟨O0,as,rs,f_,hl,hR,no,e,q⟩:=h;have S6:as.length=vs.length:=by simpa using hR.len
  refine⟨_,iE.AQ<|hb eI rfl A outer s H E hr,?_⟩;obtain⟨fl,e1,e2⟩:=aG e;have iN:L2.start N vs=vs.map aA++bg (N.length-ps.length) aD:=by unfold L2.start;rw[<-S6,hl]
  rw[iN];have R0:=R.start (k:=N.length-ps.length) hR;have fin:∀(σ':St) (H':Hp) (r':En),R K O0 H' r' σ'->Kp H (as++bg (N.length-ps.length) .un) (vs.map aA++bg (N.length-ps.length) aD) H' r' σ'->Ec K O0 H as vs H' (r'.take ps.length):=λσ' H' r' R' k'=>by
   refine⟨λb o eb nb=>k'.keep b o eb λz=>nb<|(oQ rfl S6).mp z,k'.live,k'.lst,λi l ei=>?_,λi ks l ei=>?_⟩
   rotate_left
   .have hi:i<as.length:=(aq.mp ei).1;obtain⟨e3,e4⟩:=k'.par i true (by rw[be hi,ei];rfl);obtain⟨iJ,l',e3⟩:=qb5 e3;rw[be (by simp;omega)] at e4;obtain⟨a,kvs,e5,e6,e7,e8⟩:=R'.aI i true iJ l' e3;rw[e4] at e5;have ev:vs[i]?=aA (.ref a):=by
     rw[bw] at e5;cases e8:vs[i]? with
     |none=>rw[e8] at e5;cases e5
     |some y=>rw[e8] at e5;cases e5;rfl
    exact⟨iJ,l',a,kvs,by rw[sf<|by omega];exact e3,ev,e6,e7,IsL.mono (aH.kp (aH.refl H') _) R'.ol (λ_ z _=>.inl z) _ _ e8⟩
   have hi:i<as.length:=(aq.mp ei).1;obtain⟨e3,e4⟩:=k'.par i false (by rw[be hi,ei];rfl);obtain⟨l',e3⟩:=IF e3;rw[be (by simp;omega)] at e4;obtain⟨a,xs,e5,e6,e7⟩:=R'.own i l' (by rw[e3];rfl);rw[e4] at e5;have ev:vs[i]?=aA (.ref a):=by
    rw[bw] at e5;cases e8:vs[i]? with
    |none=>rw[e8] at e5;cases e5
    |some y=>rw[e8] at e5;cases e5;rfl
   exact⟨l',a,xs,by rw[sf<|by omega];exact e3,ev,e6,IsL.mono (aH.kp (aH.refl H') _) R'.ol (λ_ z _=>.inl z) _ _ e7⟩
  refine⟨O0,_,fl,R0,e1,?_⟩;cases fl with
  |nx r'=>cases e2;exact λσ' H' R' k'=>q .aE H' (fin σ' H' r' R' k') (by rw[yQ])
  |bk r'=>cases e2
  |ct r'=>cases e2
  |rt d r'=>cases e2;exact λv σ' H' R' k' i'=>q v H' (fin σ' H' r' R' k') i'
  |rf l r'=>
   cases e2;refine λa xs σ' H' R' k' fr no0 ea il=>q a xs H' (fin σ' H' r' R' k') ?_ ea il
   rcases fr with z|⟨i,m,ei,_⟩
   .exact z
   .exfalso;by_cases hi:i<as.length
    .rw[be hi] at ei;rcases ei with ei|⟨ks,ei⟩
     .exact(no i m).1 ei
     .exact(no i m).2.2 ks ei
    .rw[dk<|by omega,cw] at ei;rcases ei with ei|⟨ks,ei⟩<;>split at ei<;>cases ei
  |rg ks l r'=>
   cases e2;refine λa kvs σ' H' R' k' fr no0 ea ek il=>q a kvs H' (fin σ' H' r' R' k') ?_ ea ek il
   rcases fr with z|⟨i,m,ei,_⟩
   .exact z
   .exfalso;by_cases hi:i<as.length
    .rw[be hi] at ei;rcases ei with ei|⟨iJ,ei⟩
     .exact(no i m).1 ei
     .exact(no i m).2.2 iJ ei
    .rw[dk<|by omega,cw] at ei;rcases ei with ei|⟨iJ,ei⟩<;>split at ei<;>cases ei
def Tn{st:Stmt}(F:j_ K x qual st f fd)(S:sU N ps (yF st))(n:Nat)(nN:Nat)(hn:ps.length=n:=by rfl)(hN:N.length=nN:=by rfl)(hb:∀(eI:Value) (A:Around) (outer:List Env) (s:Shared) (H:Hp) (E:XK),eS k (A.deeper<|envOfC qual (yF st) s.heap.objs.size f eI) ->
   sV (Ae eJ P w K mg base N qual (yF st) f eI A outer s H E).AQ (qB st) g):eA P w K mg base eJ (k+1) f fd ps (iY K n<|eW n nN g):=Vo F S n nN hn hN λeI _=>hb eI
def To(n:Nat):eA P w K mg base eJ k f fd ps (iY K n λ_=>aD):=
 ⟨(λvs H Q E h=>by obtain⟨_,_,_,_,_,_,_,e,_⟩:=h;cases e),(λA outer s H args us vs Q E _ _ _ _ h=>by obtain⟨_,_,_,_,_,_,_,e,_⟩:=h;cases e)⟩
end
noncomputable def G8:Rs->D
 |.v d=>d
 |.f l=>.lst l
 |.g ks l=>.aI ks l
def zP(n:Nat)(m:MF)(fs:ML):ME:=λr=>(fs r).bind λds=>if ds.length=n then (m<|ds.map .v).map λp=>G8 p.1 else aD
noncomputable def dF(n:Nat)(m:MF)(fs:ML):ML:=λr=>(fs r).bind λds=>if ds.length=n then (m<|ds.map .v).bind λp=>match p.1 with
 |.f l=>aA l
 |_=>aD
 else aD
section
variable{K:Fg}
def Jo(ol:kT O H)(h:IsL K O H ds vs):R K O H (ds.map .v) (vs.map aA):=by
 have no:∀(i:Nat) (l:List D),((ds.map Sl.v)[i]?).bind Sl.own≠aA l:=λi l e=>by
  rw[bw] at e;cases e1:ds[i]? with
  |none=>rw[e1] at e;cases e
  |some x=>rw[e1] at e;cases e
 refine⟨by simp[h.length],λi d e=>?_,λi l e=>absurd (vA e)<|no i l,λi j a l m e1=>absurd e1<|no i l,ol,λi l a e=>absurd (show((ds.map Sl.v)[i]?).bind Sl.own=aA l by rcases e with e|e|⟨_,e⟩<;>rw[e]<;>rfl)<|no i l,λi l a e=>absurd (cW e).choose_spec<|no i _,λi _ ks l e=>absurd (show((ds.map Sl.v)[i]?).bind Sl.own=aA l by rw[e];rfl)<|no i l⟩;rw[bw] at e;cases e1:ds[i]? with
 |none=>rw[e1] at e;cases e
 |some x=>
  rw[e1] at e;cases e;obtain⟨v,e2,q⟩:=h.get e1;exact⟨v,by rw[bw,e2];rfl,Is.mono (aH.kp (aH.refl H) _) ol (λa z _=>z.elim id λ⟨j,l,ej,_⟩=>absurd ej<|no j l) _ _ q⟩
def ϋ{ds:List D}{σ:St}{a:Addr}:¬lJ (ds.map .v) σ a:=λ⟨i,l,e,_⟩=>by
 rw[bw] at e;cases e1:ds[i]? with
 |none=>rw[e1] at e;cases e
 |some x=>rw[e1] at e;cases e
def Ec.same{O0:Addr->Prop}{H H':Hp}{ds:List D}{vs:List V}{f_:List Sl}(h:Ec K O0 H (ds.map .v) vs H' f_):aH H H':=λb o e=>h.keep b o e ϋ
end
section
variable{X:Cx}{k n:Nat}{f:Addr}{fd:FuncData}{ps:List Str}{m:MF}{x:Str}{p pos:Pos}{e:Expr}{es:List Expr}{fs:ML}
def gB{O0:Addr->Prop}{r:En}{σ:St}{H H1:Hp}{ds:List D}{vs:List V}{rs:Rs}{f_:List Sl}{Q:VK}{E:XK}(hR:R X.K O0 H r σ)(s1:aH H H1)(il:IsL X.K (Ow O0 r σ) H1 ds vs)(hl:ds.length=n)(em:m (ds.map .v)=aA (rs,f_))(q:TN X.K (Ow O0 r σ) H1 (ds.map .v) vs f_ Q rs):iY X.K n m (vs++[]) H1 Q E:=by
 rw[ie];refine⟨Ow O0 r σ,ds.map .v,rs,f_,by simpa using hl,Jo (hR.same s1).ol il,λi l=>?_,em,q⟩;rw[bw];cases e1:ds[i]? with
 |none=>exact⟨(λz=>by cases z),(λz=>by cases z),(λ_ z=>by cases z)⟩
 |some y=>exact⟨(λz=>by cases z),(λz=>by cases z),(λ_ z=>by cases z)⟩
def Po(F:eA X.prog X.w X.K X.mg X.base eJ k f fd ps (iY X.K n m))(hr:eS k X.A)(hg:Gl X x)(hm:X.mg x=aA (.ref f))(hk:dw X.K (.ref f)=true)(hb:Binds X.K fd ps [])(ha:DA X (e::es) fs)(iK:iH x:=by decide)(he:i_ X e es:=by rfl)(hpl:JV X es pos:=by rfl):DE X (.Call (.Name x p) (e::es) [] pos) (zP n m fs):=by
 refine PE.aM (gG (E:=λ_ _ _=>False) (dvs:=[]) F hr hg hm hk hb .nil oN ha iK he hpl) λσ H Q h=>?_
 obtain⟨O0,r,d,hR,e,q⟩:=h;obtain⟨ds,e1,e2⟩:=aG e;split at e2
 .rename_i hl;obtain⟨⟨rs,f_⟩,e3,rfl⟩:=aY e2;refine⟨O0,r,ds,hR,e1,λvs H1 s1 il=>gB hR s1 il hl e3 ?_⟩;cases rs with
  |v d=>exact λv H2 pf iv=>q v H2 (s1.trans pf.same) iv
  |f l=>
   refine λa xs H2 pf na ea fZ=>q _ H2 (s1.trans pf.same) ?_
   have R1:=hR.same s1;have Bb:kT (λb=>Ow O0 r σ b\/b=a) H2:=λb z=>z.elim (λz=>(R1.same pf.same).ol b z) λz=>by subst z;exact⟨.lst xs,ea,trivial⟩
   show Is X.K (Ow O0 r σ) H2 (.lst l)<|.ref a;rw[zS];exact⟨a,xs,rfl,.inl ⟨R1.AR na,.inl ea⟩,IsL.mono (aH.kp (aH.refl H2) _) Bb (λ_ z _=>.inl z) _ _ fZ⟩
  |g ks l=>
   refine λa kvs H2 pf na ea ek fZ=>q _ H2 (s1.trans pf.same) ?_
   have Bb:kT (λb=>Ow O0 r σ b\/b=a) H2:=λb z=>z.elim (λz=>((hR.same s1).same pf.same).ol b z) λz=>by subst z;exact⟨.dK kvs,ea,trivial⟩
   show Is X.K (Ow O0 r σ) H2 (.aI ks l)<|.ref a;rw[wW];exact⟨a,kvs,rfl,(hR.same s1).AR na,.inl ea,ek,IsL.mono (aH.kp (aH.refl H2) _) Bb (λ_ z _=>.inl z) _ _ fZ⟩
 .cases e2
def ê(F:eA X.prog X.w X.K X.mg X.base eJ k f fd ps (iY X.K n m))(hr:eS k X.A)(hg:Gl X x)(hm:X.mg x=aA (.ref f))(hk:dw X.K (.ref f)=true)(hb:Binds X.K fd ps [])(ha:DA X (e::es) fs)(iK:iH x:=by decide)(he:i_ X e es:=by rfl)(hpl:JV X es pos:=by rfl):DF X (.Call (.Name x p) (e::es) [] pos) (dF n m fs):=by
 refine PE.aM (gG (E:=λ_ _ _=>False) (dvs:=[]) F hr hg hm hk hb .nil oN ha iK he hpl) λσ H Q h=>?_
 obtain⟨O0,r,l,hR,e,q⟩:=h;obtain⟨ds,e1,e2⟩:=aG e;split at e2
 .rename_i hl;obtain⟨⟨rs,f_⟩,e3,e4⟩:=aG e2;refine⟨O0,r,ds,hR,e1,λvs H1 s1 il=>gB hR s1 il hl e3 ?_⟩;cases rs with
  |v d=>cases e4
  |f l'=>cases e4;exact λa xs H2 pf na ea fZ=>q a xs H2 (s1.trans pf.same) (s1.free na) ea fZ
  |g ks l'=>cases e4
 .cases e2
end
noncomputable def Oz:D->Option (List D)
 |.lst l=>aA l
 |.tup l=>aA l
 |_=>aD
def eG(f:ME):ML:=λr=>(f r).bind Oz
def kP{l:List D}{i:Nat}(h:i<l.length):∃d,l[i]?=aA d:=⟨l[i],by simp[h]⟩
def Š{K:Fg}{O M:Addr->Prop}(mo:∀a,M a->O a){H:Hp}{a:Addr}{xs:List V}{ds:List D}(ol:kT O H)(rd:∀H1,dZ M H H1->aX K H1 a xs)(il:IsL K O H ds xs):Bw K O M H (Nh K a) ds:=by
 intro i H1 O' kp oo;have iZ:dZ O H H1:=λb o e n=>kp b o e λz=>n<|mo b z
 have sJ:aX K H1 a xs:=rd H1 kp;refine⟨λhi=>⟨?_,λx H' y=>?_⟩,λhi=>⟨xs,sJ,by rw[<-il.length];exact uc hi.symm⟩⟩
 .obtain⟨d,e⟩:=kP hi;obtain⟨v,e1,_⟩:=il.get e;exact⟨xs,v,sJ,e1⟩
 .obtain⟨rfl,y⟩:=y;refine⟨aH.refl _,λd e=>?_⟩;obtain⟨v,e1,q⟩:=il.get e
  have:=y xs sJ
  rw[e1] at this;cases this;exact Is.mono iZ ol oo _ _ q
def Pb{K:Fg}{O M:Addr->Prop}(mo:∀a,M a->O a){H:Hp}{a:Addr}{xs:List V}{ds:List D}(ol:kT O H)(rd:d_ K H a xs)(il:IsL K O H ds xs):Bw K O M H (Ng K a) ds:=by
 intro i H1 O' kp oo;have iZ:dZ O H H1:=λb o e n=>kp b o e λz=>n<|mo b z
 have sJ:d_ K H1 a xs:=d_.keep iZ ol rd;refine⟨λhi=>⟨?_,λx H' y=>?_⟩,λhi=>⟨xs,sJ,by rw[<-il.length];exact uc hi.symm⟩⟩
 .obtain⟨d,e⟩:=kP hi;obtain⟨v,e1,_⟩:=il.get e;exact⟨xs,v,sJ,e1⟩
 .obtain⟨rfl,y⟩:=y;refine⟨aH.refl _,λd e=>?_⟩;obtain⟨v,e1,q⟩:=il.get e
  have:=y xs sJ
  rw[e1] at this;cases this;exact Is.mono iZ ol oo _ _ q
def ON(hl:PE X l tl):PI X tg l (λσ H Rr=>tl σ H λx H1=>∃a,x=.ref a/\(((∃xs,aX X.K H1 a xs)/\Rr (Nh X.K a) H1)\/((∃xs,d_ X.K H1 a xs)/\Rr (Ng X.K a) H1))):=by
 intro pZ s σ H R I h;refine aQ (hl pZ s σ H _ I h) λv s1 ⟨x,H1,I1,r1,q1⟩=>?_
 obtain⟨a,e,q⟩:=q1;subst e;cases r1;rcases q with⟨⟨xs,hq⟩,q⟩|⟨⟨xs,hq⟩,q⟩
 .obtain⟨its,rv,p,hz⟩:=I1.list hq;refine vq p.isList ?_;refine⟨s1.heap.objs.size,[s1.heap.objs.size],_,_,H1,rfl,I1.kept (t':=s1.toks) λb o e=>ad _ e,X7 a _,⟨_,ay _ rfl,rfl,rfl⟩,λb hb=>?_,q⟩;have e:b=s1.heap.objs.size:=by simpa using hb
  subst e;exact I1.B1 (ah _)<|I1.aT.fresh<|ah _
 .obtain⟨its,rv,p,hz⟩:=I1.tuple hq;refine vn (show s1.heap.IsTuple a its.toArray from p) ?_;refine⟨s1.heap.objs.size,[s1.heap.objs.size],_,_,H1,rfl,I1.kept (t':=s1.toks) λb o e=>ad _ e,rQ a _,⟨_,ay _ rfl,rfl,rfl⟩,λb hb=>?_,q⟩;have e:b=s1.heap.objs.size:=by simpa using hb
  subst e;exact I1.B1 (ah _)<|I1.aT.fresh<|ah _
def Od(hl:DE X l f):DI X tg l (eG f):=by
 refine PI.aM (ON hl) λσ H Rr h=>?_
 obtain⟨O0,r,ds,hR,e,q⟩:=h;obtain⟨d,e1,e2⟩:=aG e;refine⟨O0,r,d,hR,e1,λv H1 s1 i1=>?_⟩;have ol:=(hR.same s1).ol;cases d with
 |lst l'=>
  cases e2;rw[zS] at i1;obtain⟨a,xs,rfl,rd,il⟩:=i1;exact⟨a,rfl,.inl ⟨⟨xs,rd.sq⟩,q _ H1 s1<|Š (λa z=>.inr z.own) ol (λH2 k2=>rd.imp (λz=>Rd.keep k2 (λy=>z.1<|.inr y.own) z.2) id) il⟩⟩
 |tup l'=>
  cases e2;rw[zR] at i1;obtain⟨a,xs,rfl,rd,il⟩:=i1;exact⟨a,rfl,.inr ⟨⟨xs,rd⟩,q _ H1 s1<|Pb (λa z=>.inr z.own) ol rd il⟩⟩
 |_=>cases e2
noncomputable def CY(lo:Int)(n:Nat):List D:=(ku n).map λi=>.int<|lo+(i:Nat)
def Õ{K:Fg}(lo:Int)(n:Nat):Bw K O M H (Iv lo n) (CY lo n):=by
 intro i H1 O' kp oo;have hl:(CY lo n).length=n:=by simp[CY]
 refine⟨λhi=>⟨by rw[hl] at hi;exact hi,λx H' y=>?_⟩,λhi=>by rw[hl] at hi;exact uc hi.symm⟩;obtain⟨rfl,rfl⟩:=y;refine⟨aH.refl _,λd e=>?_⟩;rw[hl] at hi;unfold CY at e;rw[bw,aba hi] at e;cases e;rw[zG]
noncomputable def intD:D->Option Int
 |.int i=>aA i
 |_=>aD
def C7(f:ME):ML:=λr=>(f r).bind λd=>(intD d).bind λj=>if -(2 ^ 62)<=j/\j<2 ^ 62 then aA (CY 0 j.toNat) else aD
def uZ(e:intD d=aA i):d=.int i:=by
 cases d<;>first|cases e;rfl|cases e
def í(hg:Gl X "range")(hm:X.mg "range" = aD)(ha:DE X l f)(hs:ar [l] X.env=[(false,eval l X.env)]:=by rfl):DI X tg (.Call (.Name "range" p) [l] [] pos) (C7 f):=by
 refine PI.aM (WT hg hm (yK ha xH hs) hs) λσ H Rr h=>?_
 obtain⟨O0,r,ds,hR,e,q⟩:=h;obtain⟨d,e1,e2⟩:=aG e;obtain⟨j,e3,e4⟩:=aG e2;cases uZ e3;split at e4
 .rename_i hj;cases e4;refine⟨O0,r,_,hR,e1,λv H1 s1 i1=>?_⟩;rw[zG] at i1;exact⟨j,by rw[i1],hj.1,hj.2,q _ H1 s1<|Õ 0 _⟩
 .cases e4
noncomputable def JC(env:Env):List (Str×NameKind)->List (Str×Addr)->List (Str×Addr)
 |[],acc=>acc
 |(n,k)::r,acc=>if k=.free then JC env r ((n,(env.cells.lookup n).getD 0)::acc) else JC env r acc
theorem bQ:∀(names:List (Str×NameKind)) (acc:List (Str×Addr)),(∀y∈names,y.2=.free->∃c,env.cells.lookup y.1=aA c) ->
  (forIn names acc (λ(x:Str×NameKind) (cs:List (Str×Addr))=>match x with
   |(name,kind)=>if (kind == NameKind.free)=true then do let a <- cellOf env name;pure (ForInStep.yield ((name,a)::cs)) else pure<|ForInStep.yield cs):Sem (List<|Str×Addr))=pure (JC env names acc)
 |[],acc,_=>rfl
 |(n,k)::r,acc,h=>by
  rw[qr];by_cases hk:k=.free
  .obtain⟨c,hc⟩:=h (n,k) dz hk;have ih:=bQ r ((n,c)::acc) λy hy=>h y<|bh _ hy
   subst hk;show((do let a <- cellOf env n;pure (ForInStep.yield ((n,a)::acc))) >>= _:Sem _)=_;unfold cellOf;rw[hc];unfold JC;rw[if_pos rfl,hc];exact ih
  .have hb:(k == NameKind.free)=false:=by simpa using hk
   have ih:=bQ r acc λy hy=>h y<|bh _ hy
   unfold JC;rw[if_neg hk];simp only[hb];exact ih
def vX(h:∀y∈scope.names,y.2=.free->∃c,env.cells.lookup y.1=aA c):closureFor scope env=pure (JC env scope.names []):=by
 unfold closureFor
 have:=bQ (env:=env) scope.names [] h
 first
  |exact this
  |(simp only[bind_pure];exact this)
  |(rw[<-this];rfl)
theorem nL:∀(names:List (Str×NameKind)) (acc:List (Str×Addr)),(∀y∈names,y.2=.free->∃c,env.cells.lookup y.1=aA c)->(∀c,acc.lookup x=aA c->env.cells.lookup x=aA c) ->
  (JC env names acc).lookup x=aA c->env.cells.lookup x=aA c
 |[],acc,_,ha,e=>ha c e
 |(n,k)::r,acc,h,ha,e=>by
  unfold JC at e;split at e
  .rename_i hk;refine nL r _ (λy hy=>h y<|bh _ hy) (λc' e'=>?_) e;rw[ig] at e';split at e'
   .rename_i hx;have q_:x=n:=by simpa using hx
    subst q_;obtain⟨c2,q⟩:=h (x,k) dz hk;rw[q] at e' ⊢;simpa using e'
   .exact ha c' e'
  .exact nL r _ (λy hy=>h y<|bh _ hy) ha e
theorem nM:∀(names:List (Str×NameKind)) (acc:List (Str×Addr)),(∃c,acc.lookup x=aA c)->∃c,(JC env names acc).lookup x=aA c
 |[],acc,h=>h
 |(n,k)::r,acc,h=>by
  unfold JC;split
  .refine nM r _ ?_;rw[ig];split
   .exact⟨_,rfl⟩
   .exact h
  .exact nM r _ h
theorem dS:∀(names:List (Str×NameKind)) (acc:List (Str×Addr)),(x,NameKind.free)∈names->∃c,(JC env names acc).lookup x=aA c
 |[],_,h=>nomatch h
 |(n,k)::r,acc,h=>by
  unfold JC;rcases bq.mp h with z|z
  .cases z;rw[if_pos rfl];refine nM r _ ?_;rw[ig];simp
  .split
   .exact dS r _ z
   .exact dS r _ z
theorem kL{env:Env}:∀{names:List (Str×NameKind)} {x:Str} {k:NameKind},(names.map λ(n,k)=>if (k == NameKind.free && env.scope.kind == .function && env.kindOf n == aA .cell) then (n,NameKind.cell) else (n,k)).lookup x=aA k ->
  ∃k',names.lookup x=aA k'/\(k=k'\/(k'=.free/\k=.cell))
 |[],_,_,h=>by simp at h
 |(n,k0)::r,x,k,h=>by
  have h':lh x ((if (k0 == NameKind.free && env.scope.kind == .function && env.kindOf n == aA .cell)=true then (n,NameKind.cell) else (n,k0))::(r.map λ(n,k)=>if (k == NameKind.free && env.scope.kind == .function && env.kindOf n == aA .cell) then (n,NameKind.cell) else (n,k)))=aA k:=h;rw[ig];by_cases hc:(k0 == NameKind.free && env.scope.kind == .function && env.kindOf n == aA .cell)=true
  .rw[if_pos hc,ig] at h';split at h'
   .rename_i hx;cases h';refine⟨k0,rfl,.inr ⟨?_,rfl⟩⟩;simp only[dl,beq_iff_eq] at hc;exact hc.1.1
   .rename_i hx;exact kL h'
  .rw[if_neg hc,ig] at h';split at h'
   .rename_i hx;cases h';exact⟨k0,rfl,.inl rfl⟩
   .rename_i hx;exact kL h'
theorem uL{env:Env}:∀{names:List (Str×NameKind)} {x:Str},names.lookup x=aA .free ->
  let l:=(names.map λ(n,k)=>if (k == NameKind.free && env.scope.kind == .function && env.kindOf n == aA .cell) then (n,NameKind.cell) else (n,k));l.lookup x=aA .cell\/l.lookup x=aA .free
 |[],_,h=>by simp at h
 |(n,k0)::r,x,h=>by
  show lh x ((if (k0 == NameKind.free && env.scope.kind == .function && env.kindOf n == aA .cell)=true then (n,NameKind.cell) else (n,k0))::_)=_\/lh x ((if (k0 == NameKind.free && env.scope.kind == .function && env.kindOf n == aA .cell)=true then (n,NameKind.cell) else (n,k0))::_)=_;rw[ig] at h;cases hx:x == n with
  |true=>
   rw[hx] at h;cases h;split
   .left;rw[ig,hx]
   .right;rw[ig,hx]
  |false=>
   rw[hx] at h;have ih:=uL (env:=env) h;split
   .rw[ig,hx];exact ih
   .rw[ig,hx];exact ih
def eX(X:Cx)(N':List Str)(scope:Scope)(C:Addr)(fp:List Addr)(s:Shared)(H:Hp):Cx where
 prog:=X.prog
 w:=X.w
 K:=X.K
 mg:=X.mg
 base:=X.base
 A:=X.A
 N:=N'
 s₀:=s
 H₀:=H
 env:=compEnvC scope (JC X.env scope.names []) C X.env
 outer:=X.stack
 stack:=X.stack
 ex:=fp
 fn:=λ_=>false
 calm:=X.calm
 pn:=[]
 xe:=λ_ _=>False
structure sD(X:Cx)(N':List Str)(cap:List Nat)(scope:Scope):Prop where
 kind:scope.kind=.function
 nc:∀y∈scope.names,y.2≠.cell
 nm:∀y∈scope.names,y.2=.local->scope.names.lookup y.1=aA .local
 fr:∀y∈scope.names,y.2=.free->X.env.kindOf y.1=aA .cell\/X.env.kindOf y.1=aA .free
 HQ:∀(i j:Nat),cap[i]?=aA j->∃x,N'[i]?=aA x/\X.N[j]?=aA x/\scope.names.lookup x=aA .free
 len:cap.length<=N'.length
noncomputable def Af(cap:List Nat)(n:Nat)(σ:St):St:=(cap.map λj=>(σ[j]?).getD aD)++bg (n-cap.length) aD
def sD.LH(o:sD X N' cap scope)(ok:X.Ok):∀y∈scope.names,y.2=.free->∃c,X.env.cells.lookup y.1=aA c:=λy hy e=>ok.has y.1<|o.fr y hy e
def sD.sub(o:sD X N' cap scope)(ok:X.Ok)(e:(JC X.env scope.names []).lookup x=aA c):X.env.cells.lookup x=aA c:=nL scope.names [] (o.LH ok) (λ_ z=>by simp at z) e
def Ż(o:sD X N' cap scope)(I:Inv X pZ σ H s)(sP:∀b∈fp,rC X pZ H b)(fM:∀b∈fp,b<s.heap.objs.size){h':Heap}{t':Nat}(ns:h'.Ns s.heap.objs.size (λ_=>aD))(kp:∀b u,s.heap.get? b=aA u->h'.get? b=aA u):Inv (eX X N' scope s.heap.objs.size fp s H) [] (Af cap N'.length σ) H { s with heap:=h',toks:=t' }:=by
 have hf:H s.heap.objs.size=aD:=I.aT.fresh<|ah _;have qc6:∀b∈fp,b∉sS X.stack:=λb hb z=>by
  obtain⟨f0,f1,f2,f3,f4,f5⟩:=sP b hb;rcases bq.mp (I.Kw b z) with q|q
  .exact f1 q
  .exact f2 q
 have ok':(eX X N' scope s.heap.objs.size fp s H).Ok:=by
  refine⟨I.ok.mod,o.kind,I.ok.glob,I.ok.blt,ah _,λx y c e1 e2=>I.ok.inj x y c (o.sub I.ok e1)<|o.sub I.ok e2,λx hx=>?_,λx c z=>(by cases z),I.ok.hd,I.ok.frames,.inl rfl,λb hb=>⟨bf<|fM b hb,λx c e=>(sP b hb).2.2.2.2.1 x c<|o.sub I.ok e⟩,
   λb ob e=>I.bs b ob e,cg I.ok.A0 I.sz,λb ob e hb=>?_,qc6,I.stack,⟨I.Qy,I.tabIn⟩⟩
  .have key:scope.names.lookup x=aA .free:=by
    rcases hx with hx|hx
    .obtain⟨k',e1,e2⟩:=kL (env:=X.env) (names:=scope.names) (x:=x) (k:=.cell) hx;rcases e2 with e2|e2
     .subst e2;exact absurd rfl<|o.nc _<|ik e1
     .rw[e2.1] at e1;exact e1
    .obtain⟨k',e1,e2⟩:=kL (env:=X.env) (names:=scope.names) (x:=x) (k:=.free) hx;rcases e2 with e2|e2
     .subst e2;exact e1
     .exact absurd e2.2 (by decide)
   exact dS scope.names []<|ik key
  .rcases(sP b hb).2.2.2.1 with z|z
   .exact I.ok.Df b ob e z
   .exact absurd (bb (bb (al e) I.ok.A0) z)<|iw _
 refine⟨ok',rfl,I.bare,Un.kept kp,⟨λ_=>aD,ns,λi x v hN hs hv=>?_⟩,λx c e=>?_,hf,λx c e=>I.AX x c<|o.sub I.ok e,λp hp=>?_,I.aT.kept kp,?_⟩
 .have hN:N'[i]?=aA x:=hN;by_cases hi:i<cap.length
  .unfold Af at hs;rw[be<|by simpa using hi,bw] at hs;obtain⟨j,hj⟩:∃j,cap[i]?=aA j:=⟨cap[i],by simp[hi]⟩;rw[hj] at hs;have BW:σ[j]?=aA (aA v):=by
    have HB:(σ[j]?).getD aD=aA v:=bu hs;cases e:σ[j]? with
    |none=>rw[e] at HB;cases HB
    |some y=>rw[e] at HB;have:y=aA v:=HB;rw[this]
   obtain⟨x',e1,e2,e3⟩:=o.HQ i j hj;rw[hN] at e1;cases e1;have hk:=o.fr (x,.free) (ik e3) rfl;obtain⟨m,hn,hl⟩:=I.loc;have qe0:FD X.env.scope x:=hk.elim (λz=>.inr<|.inl z) λz=>.inr<|.inr z
   obtain⟨u,r,lk⟩:=hl j x v e2 BW qe0;refine⟨u,r,.inr ⟨uL (env:=X.env) e3,?_⟩⟩;rcases lk with⟨z,_⟩|⟨_,c,hc,DH⟩
   .have z':X.env.kindOf x=aA .local:=z;rw[z'] at hk;rcases hk with hk|hk<;>cases hk
   .obtain⟨c',CH⟩:=dS (env:=X.env) scope.names []<|ik e3;have Fo:=o.sub I.ok CH;rw[hc] at Fo;cases Fo;obtain⟨ob,q1,q2⟩:=DH;exact⟨c,CH,ob,kp _ _ q1,q2⟩
  .unfold Af at hs;rw[dk<|by simpa using qk hi,cw] at hs;split at hs<;>cases hs
 .obtain⟨v,ob,q1,q2⟩:=I.cell x c<|o.sub I.ok e;exact⟨v,ob,kp _ _ q1,q2⟩
 .exact absurd (show p∈([]:List (Addr×Obj)) from hp) (by simp)
 .unfold Af;show _=N'.length;rw[bc,ag,aae]
  have:=o.len
  omega
def uX(I:Inv X pZ σ H s)(sP:∀b∈fp,rC X pZ H b)(J:Inv (eX X N' scope s.heap.objs.size fp s H) [] σ2 H2 s2)(sb:gm s.heap.objs.size s2.heap h'):Inv X pZ σ H2 { s2 with heap:=h' }:=by
 have hb:Un (sS X.stack) fp H H2 s.heap s2.heap:=J.base;have ne:∀b o,s.heap.get? b=aA o->b≠s.heap.objs.size:=λb o e=>bf<|al e
 have fr:H2 s.heap.objs.size=aD:=J.free;refine I.qi7 (s':={ s2 with heap:=h' }) (ch:=fp) J.os ?_ ?_ J.bare λb hb=>⟨(sP b hb).2.2.2.1,(sP b hb).2.1,(sP b hb).2.2.2.2.1,(sP b hb).2.2.2.2.2⟩
 .refine⟨λb o e n h1 h2=>?_,λb o e n h1 h2=>?_,λb o e n h2=>hb.free b o e n h2,λb o e h2=>?_,hb.A9,hb.AW,hb.A_⟩
  .exact sb.extBut b o (ne b o e)<|hb.keep b o e n h1 h2
  .obtain⟨sl,q⟩:=hb.slot b o e n h1 h2;exact⟨sl,sb.extBut b _ (ne b o e) q⟩
  .obtain⟨o',q⟩:=hb.there b o e h2;exact⟨o',sb.extBut b _ (ne b o e) q⟩
 .intro b u e;have nb:∀c w,H2 c=aA w->c≠s.heap.objs.size:=λc w q z=>by rw[z,fr] at q;cases q
  refine(J.aT b u e).A' (λc v hc q=>sb.extBut c v ?_ q) (λ_ q=>q) (λ_ _ q=>q) λ_ _ _ q=>q
  rcases hc with z|z
  .rw[z];exact nb b u e
  .exact nb c _ z
def Kj(tc:Option TT)(te:TE)(K1:V->Hp->Prop)(K0:Hp->Prop):St->Hp->Prop:=λσ H=>match tc with
 |none=>te σ H K1
 |some c=>c σ H λb H1=>if b=true then te σ H1 K1 else K0 H1
def GN(cap:List Nat)(n:Nat)(wi:TI)(g:TG)(tc:Option TT)(te:TE):TE:=λσ H Q=>wi σ H λJ H1=>∀p,H1 p=aD->∃W:Nat->Nat->List V->St->Hp->Prop,(∃m,W 0 m [] (Af cap n σ)<|upd H1 p<|.lst [])/\∀i m ys σ2 H2,W i m ys σ2 H2->H2 p=aA (.lst ys)/\ys.length<ae /\
 ((J.stop i H2/\Q (.ref p) H2)\/(J.go i H2/\∀x H3,J.EM i H2 x H3->g x σ2 H3 λσ4 H4=>Kj tc te (λy H5=>H5 p=aA (.lst ys)/\∃m',m'<m/\W (i+1) m' (ys++[y]) σ4 (upd H5 p<|.lst<|ys++[y])) (λH5=>∃m',m'<m/\W (i+1) m' ys σ4 H5) σ4 H4))
def pV(W:Nat->Shared->Prop)(each:∀k t,W k t->wpAny (model prog w) A (pyNext it) (λgot t1=>match got with
   |none=>Z (.ok .next) t1
   |some y=>wpAny (model prog w) A (letOwnedTupleGo Ks it y) (λ_ t2=>wpAny (model prog w) A (assign Ks env y) (λ_ t3=>
     wpAny (model prog w) A (forIn tests true λc b=>if b=true then do let ok <- isTrue c env (eval c env);pure (ForInStep.yield ok) else pure<|ForInStep.yield b) (λgood t4=>
      if good=true then wpAny (model prog w) A (eval elt env) (λx t5=>
       wpAny (model prog w) A (call (.builtin "list.append") [out,x]) (λ_ t6=>∃j,j<k/\W j t6) (λ_ _=>False) t5) (λ_ _=>False) t4
      else ∃j,j<k/\W j t4) (λ_ _=>False) t3) (λ_ _=>False) t2) (λ_ _=>False) t1) (λ_ _=>False) t)(k:Nat)(h0:W k t0):codeAny (model prog w) A (.compLoop (.ListComp elt [⟨Ks,src,tests,0⟩] scope pos) 0 it out env) Z t0:=by
 refine codeAny_loop rfl W (λk t hW=>?_) k h0;show wpAny _ A ((compTurn (.ListComp elt [⟨Ks,src,tests,0⟩] scope pos) 0 it out env).onRaise (λx=>do noteFrame x env;theTreesLotGoes x)) _ _ t;refine wpAny_noted ?_;rw[compTurn_list];refine ac<|vf<|ac<|jp (each k t hW) (λgot t1 g1=>?_) λ_ _ no=>no.elim;cases got with
 |none=>exact af g1
 |some y=>
  refine ac<|jp g1 (λ_ t2 g2=>ac<|jp g2 (λ_ t3 g3=>ac<|jp g3 (λgood t4 g4=>?_) λ_ _ no=>no.elim) λ_ _ no=>no.elim) λ_ _ no=>no.elim;cases good with
  |false=>exact af ⟨rfl,g4⟩
  |true=>
   exact ac<|ac<|jp g4 (λx t5 g5=>ac<|jp g5 (λ_ t6 g6=>af<|af ⟨rfl,g6⟩) λ_ _ no=>no.elim) λ_ _ no=>no.elim
def pU{elt tg iter:Expr}{ifs:List Expr}{pos:Pos}{g:TG}{tc:Option TT}{te:TE}{J:It}{it:Addr}{tn:Nat->Heap->Prop}{Q:VK}{RR:Value->Addr->Result->Shared->Prop}(hc:X.calm=true)(o:sD X N' cap scope)(hg:∀C fp s H,PG (eX X N' scope C fp s H) tg g)(ht:match (generalizing:=false) tc with|none=>ifs=[]|some c=>∃e,ifs=[e]/\∀C fp s H,PT (eX X N' scope C fp s H) e c)(he:∀C fp s H,PE (eX X N' scope C fp s H) elt te)(I:Inv X pZ σ H s)(T:Turn X.prog X.w X.K tg J fp it tn)(st:tn 0 s.heap)(sP:∀b∈fp,rC X pZ H b)(hw:∀p,H p=aD->∃W:Nat->Nat->List V->St->Hp->Prop,(∃m,W 0 m [] (Af cap N'.length σ)<|upd H p<|.lst [])/\∀i m ys σ2 H2,W i m ys σ2 H2->H2 p=aA (.lst ys)/\ys.length<ae /\
   ((J.stop i H2/\Q (.ref p) H2)\/(J.go i H2/\∀x H3,J.EM i H2 x H3->g x σ2 H3 λσ4 H4=>Kj tc te (λy H5=>H5 p=aA (.lst ys)/\∃m',m'<m/\W (i+1) m' (ys++[y]) σ4 (upd H5 p<|.lst<|ys++[y])) (λH5=>∃m',m'<m/\W (i+1) m' ys σ4 H5) σ4 H4)))(hRR:∀(p:Addr) (s3 s':Shared) (H3 H2:Hp) (σ2:St),Inv X pZ σ H3 s3->(∀b∈fp,rC X pZ H3 b)->Inv (eX X N' scope s3.heap.objs.size fp s3 H3) [] σ2 H2 s'->Q (.ref p) H2->RR (.ref p) s3.heap.objs.size (.ok .next) s'):wpAny (model X.prog X.w) X.A (newList []) (λacc s₃=>wpAny (model X.prog X.w) X.A (newFunctionEnv scope X.env.globals (JC X.env scope.names []) [] X.env.qual aD .none<|some X.env) (λTF s₄=>
   codeAny (model X.prog X.w) X.A (.compStart (.ListComp elt [⟨tg,iter,ifs,0⟩] scope pos) 0 (.ref it) acc { TF with scope:=relabel scope X.env }) (RR acc TF.locals) s₄) X.xe s₃) X.xe s:=by
 refine cz ?_;obtain⟨W,⟨m0,w0⟩,turn⟩:=hw s.heap.objs.size<|I.aT.fresh<|ah _;have nfp:∀b∈fp,b<s.heap.objs.size:=λb hb=>by
  obtain⟨ob,e,_⟩:=T.obj 0 _ st b hb;exact al e
 have I3:=I.KR (its:=[]) (ys:=[]) (t':=s.toks) .nil<|fg _;generalize Fb:({ s with heap:=s.heap.push { cls:=.type "list",data:=.seq ([]:List Value).toArray },toks:=s.toks }:Shared)=s3 at I3;have qj4:({ s with heap:=s.heap.push { cls:=.type "list",dict:=aD,data:=.seq ([]:List Value).toArray } }:Shared)=s3:=Fb;have Lz:∀b∈fp,rC X pZ (upd H s.heap.objs.size<|.lst []) b:=λb hb=>⟨by rw[zI<|bf<|nfp b hb];exact(sP b hb).1,(sP b hb).2⟩
 have iR:tn 0 s3.heap:=T.keep 0 _ _ st λb _ ob e=>by rw[<-Fb];exact ad _ e
 have RU:∀b∈fp,b<s3.heap.objs.size:=λb hb=>by
  obtain⟨ob,e,_⟩:=T.obj 0 _ iR b hb;exact al e
 refine wpAny_newFunctionEnv o.nc (by intro y hy;simp at hy) (λh₁ qe6 qe2=>?_) o.kind;have old:∀b ob,s3.heap.get? b=aA ob->h₁.get? b=aA ob:=λb ob e=>qe2.extBut b ob (bf<|al e)<|ad _ e
 have I4:=Ż (t':=s3.toks+([]:List (Str×Value)).length) o I3 Lz RU (by simpa using qe6) old;have Ra:tn 0 h₁:=T.keep 0 _ _ iR λb _ ob e=>old b ob e
 have LS:∀H',(∀b∈fp,H' b=aD)->∀b∈fp,rC (eX X N' scope s3.heap.objs.size fp s3<|upd H s.heap.objs.size<|.lst []) [] H' b:=λH' hn b hb=>by
  refine⟨hn b hb,bf<|RU b hb,I4.ok.Fw b hb,.inl hb,(I4.ok.LU b hb).2,λp hp=>absurd (show p∈([]:List (Addr×Obj)) from hp)<|by simp⟩
 have loop:codeAny (model X.prog X.w) X.A (.compLoop (.ListComp elt [⟨tg,iter,ifs,0⟩] scope pos) 0 (.ref it) (.ref s.heap.objs.size)<|compEnvC scope (JC X.env scope.names []) s3.heap.objs.size X.env) (RR (.ref s.heap.objs.size) s3.heap.objs.size) { s3 with heap:=h₁,toks:=s3.toks+([]:List (Str×Value)).length }:=by
  refine pV (λn s'=>∃i ys σ' H',Inv (eX X N' scope s3.heap.objs.size fp s3<|upd H s.heap.objs.size<|.lst []) [] σ' H' s'/\tn i s'.heap/\(∀b∈fp,H' b=aD)/\W i n ys σ' H') ?_ m0 ⟨0,[],_,_,I4,Ra,λb hb=>(Lz b hb).1,w0⟩;rintro n s5 ⟨i,ys,σ5,H5,I5,C',HK,w5⟩;obtain⟨hp5,hz5,br⟩:=turn i n ys σ5 H5 w5;rcases br with⟨stop,q⟩|⟨go,step⟩
  .refine aQ (T.done (eX X N' scope s3.heap.objs.size fp s3<|upd H s.heap.objs.size<|.lst []) rfl rfl rfl hc i [] s5 _ H5 (λ_ _=>False) I5 (LS H5 HK) C' stop) λr s6 ⟨hr,I6⟩=>?_
   subst hr;exact hRR _ s3 s6 _ H5 _ I3 Lz I6 q
  .refine aQ (T.item (eX X N' scope s3.heap.objs.size fp s3<|upd H s.heap.objs.size<|.lst []) rfl rfl rfl hc i [] s5 _ H5 (λ_ _=>False) I5 (LS H5 HK) C' go) λr s6 ⟨u,hr,h6⟩=>?_
   subst hr;refine aQ h6 λ_ s7 ⟨x,H7,I7,r7,y7,Ky,fr7⟩=>?_
   have I7':=I7.pinned (LS H7 fr7)<|T.obj _ _ Ky;refine aQ (hg _ _ _ _ _ s7 _ H7 x u _ I7' r7<|step x H7 y7) λ_ s8 ⟨σ8,H8,I8,q8⟩=>?_
   have again:∀{H9:Hp} {σ9:St} {s9:Shared} {GR:List V},Inv (eX X N' scope s3.heap.objs.size fp s3<|upd H s.heap.objs.size<|.lst []) ([]++oJ fp s7.heap) σ9 H9 s9->(∃m',m'<n/\W (i+1) m' GR σ9 H9) ->
     ∃m,m<n/\∃i ys σ' H',Inv (eX X N' scope s3.heap.objs.size fp s3<|upd H s.heap.objs.size<|.lst []) [] σ' H' s9/\tn i s9.heap/\(∀b∈fp,H' b=aD)/\W i m ys σ' H':=λ{H9 σ9 s9 GR} I9 z=>by
    obtain⟨m',hm,w9⟩:=z;refine⟨m',hm,i+1,GR,σ9,H9,I9.GW,T.keep _ _ _ Ky λb hb ob e=>(I9.pin (b,ob)<|ft _<|ft _<|vE hb e).1,λb hb=>?_,w9⟩;obtain⟨ob,e,d⟩:=T.obj _ _ Ky b hb;exact(I9.pin (b,ob)<|ft _<|ft _<|vE hb e).2.1
   have app:∀{s9:Shared} {H9:Hp} {y:V} {u9:Value},Inv (eX X N' scope s3.heap.objs.size fp s3<|upd H s.heap.objs.size<|.lst []) ([]++oJ fp s7.heap) σ8 H9 s9->RelV y u9->(H9 s.heap.objs.size=aA (.lst ys)/\∃m',m'<n/\W (i+1) m' (ys++[y]) σ8 (upd H9 s.heap.objs.size<|.lst<|ys++[y])) ->
     wpAny (model X.prog X.w) X.A (call (.builtin "list.append") [.ref s.heap.objs.size,u9]) (λ_ s₅=>∃m,m<n/\∃i ys σ' H',Inv (eX X N' scope s3.heap.objs.size fp s3<|upd H s.heap.objs.size<|.lst []) [] σ' H' s₅/\tn i s₅.heap/\(∀b∈fp,H' b=aD)/\W i m ys σ' H') (λ_ _=>False) s9:=λ{s9 H9 y u9} I9 r9 z9=>by
    refine aQ (vD (X:=eX X N' scope s3.heap.objs.size fp s3<|upd H s.heap.objs.size<|.lst []) _ s9 σ8 H9 (.ref s.heap.objs.size) [y] (.ref s.heap.objs.size) [u9] (λ_ H'=>∃m',m'<n/\W (i+1) m' (ys++[y]) σ8 H') I9 rfl (.cons r9 .nil) ⟨_,ys,y,rfl,rfl,z9.1,hz5,z9.2⟩) λ_ s10 ⟨_,H10,Nj,_,Kl⟩=>?_
    exact again Nj Kl
   cases tc with
   |none=>
    have hi:ifs=[]:=ht;subst hi;refine wpAny_tests_nil ?_;rw[if_pos rfl];exact aQ (he _ _ _ _ _ s8 σ8 H8 _ I8 q8) λu9 s9 ⟨y,H9,I9,r9,z9⟩=>app I9 r9 z9
   |some c=>
    obtain⟨e,he1,hce⟩:=ht;subst he1;refine wpAny_tests_one<|aQ (hce _ _ _ _ _ s8 σ8 H8 _ I8 q8) λb s9 ⟨H9,I9,q9⟩=>?_;cases b with
    |false=>
     rw[if_neg av] at q9 ⊢;exact again I9 q9
    |true=>
     rw[if_pos rfl] at q9 ⊢;exact aQ (he _ _ _ _ _ s9 σ8 H9 _ I9 q9) λu10 s10 ⟨y,H10,Nj,r10,Kl⟩=>app Nj r10 Kl
 exact codeAny_compStart_list loop<|T.self X.A 0 _ _ _ Ra loop
def cX(hc:X.calm=true)(o:sD X N' cap scope)(hi:PI X tg iter wi)(hg:∀C fp s H,PG (eX X N' scope C fp s H) tg g)(ht:match (generalizing:=false) tc with|none=>ifs=[]|some c=>∃e,ifs=[e]/\∀C fp s H,PT (eX X N' scope C fp s H) e c)(he:∀C fp s H,PE (eX X N' scope C fp s H) elt te)(hs:∀x,iq iter X.env x=pure x:=by intro _;rfl):PE X (.ListComp elt [⟨tg,iter,ifs,0⟩] scope pos) (GN cap N'.length wi g tc te):=by
 intro pZ s σ H Q I h;rw[eval_ListComp];refine yn (use:=aD) rfl hs (vX<|o.LH I.ok) o.kind o.nm<|aQ (hi pZ s σ H _ I h) λxv s1 h1=>aQ h1 λHx s2 h2=>?_;obtain⟨it,fp,tn,J,H2,rfl,I2,T,fU,f2,hw⟩:=h2;refine pU (Q:=Q) hc o hg ht he I2 T fU f2 hw ?_;intro p s3 s' H3 H4 σ4 I3 f3 J4 q;obtain⟨m,hn,_⟩:=J4.loc;exact⟨m,hn,λh' sb=>⟨.ref p,H4,uX I3 f3 J4 sb,rfl,q⟩⟩
def δ(hc:X.calm=true)(o:sD X N' cap scope)(hi:PI X tg iter wi)(hg:∀C fp s H,PG (eX X N' scope C fp s H) tg g)(ht:match (generalizing:=false) tc with|none=>ifs=[]|some c=>∃e,ifs=[e]/\∀C fp s H,PT (eX X N' scope C fp s H) e c)(he:∀C fp s H,PE (eX X N' scope C fp s H) elt te)(hN:X.N.Nodup)(hy:X.N[i]?=aA y)(hx:Loc X.env.scope y)(hf:m_ X y)(Ll:js (.ListComp elt [⟨tg,iter,ifs,0⟩] scope pos) (aA<|.Name y py) KA.line X.env=pure true)(hs:∀x,iq iter X.env x=pure x:=by intro _;rfl):PS X (.Assign [.Name y py] (.ListComp elt [⟨tg,iter,ifs,0⟩] scope pos) KA) (IN (GN cap N'.length wi g tc te)<|QW i):=by
 intro pZ s σ H D I h;rw[exec_Assign_Name_used _ _ _ _ Ll];refine ac<|vf<|ac ?_;show wpAny _ X.A (do let _ <- comprehension (.ListComp elt [⟨tg,iter,ifs,0⟩] scope pos) scope X.env _ (newList []) false (eval iter X.env) (aA<|assign (.Name y py) X.env)) _ _ s;refine ac (jp (yn (use:=aA<|assign (.Name y py) X.env) (Q:=λ_ s'=>SP X pZ D .next s') rfl hs (vX<|o.LH I.ok) o.kind o.nm
  (aQ (hi pZ s σ H _ I h) λxv s1 h1=>aQ h1 λHx s2 h2=>?_)) (λ_ s' hq=>af<|af hq) λ_ _ e=>e)
 obtain⟨it,fp,tn,J,H2,rfl,I2,T,fU,f2,hw⟩:=h2;refine pU (Q:=λv H1=>QW i v σ H1 D.nx) hc o hg ht he I2 T fU f2 hw ?_;intro p s3 s' H3 H4 σ4 I3 f3 J4 q;obtain⟨m,hn,_⟩:=J4.loc;have I5:Inv X pZ σ H4 s':=uX I3 f3 J4<|wp _ _;have fc:rC X pZ H4 s3.heap.objs.size:=I3.B1 (ah _) J4.free;show wpAny _ X.A (assign (.Name y py) X.env<|.ref p) _ _ _;refine wpAny_assign_Name<|nX (v:=.ref p) I5 hN hy hx rfl (λs6 I6 ⟨a,sb,ha⟩=>?_) hf;have h_:s3.heap.objs.size≠a:=by
  rcases ha with ha|ha
  .rw[ha];exact fc.2.1
  .exact λz=>fc.2.2.2.2.1 y a ha z.symm
 refine⟨m,hn.sameBut sb h_,λh' sb'=>⟨_,H4,?_,q⟩⟩;exact I6.turned (t':=s6.toks) (it:=s3.heap.objs.size) (λb ob hb e=>sb'.extBut b ob hb e) fc.1 fc.2.1 fc.2.2.2.1 fc.2.2.2.2.1 fc.2.2.2.2.2
noncomputable def kR:D->D->Option D
 |.int i,.int j=>aA<|.int<|i+j
 |.str s,.str t=>if s.length+t.length<=ae then aA (.str<|s++t) else aD
 |.lst l,.lst m=>if l.length+m.length<=ae then aA (.lst<|l++m) else aD
 |.tup l,.tup m=>if l.length+m.length<=ae/\l.isEmpty=false/\m.isEmpty=false then aA (.tup<|l++m) else aD
 |_,_=>aD
noncomputable def Gd:D->D->Option D
 |.int i,.int j=>aA<|.int<|i-j
 |_,_=>aD
noncomputable def Bt:D->D->Option D
 |.int i,.int j=>if (-(2 ^ 64)<i/\i<2 ^ 64)\/(-(2 ^ 64)<j/\j<2 ^ 64) then aA (.int<|i*j) else aD
 |_,_=>aD
noncomputable def gV:D->D->Option D
 |.int i,.int j=>if 0<j/\j<1073741824 then aA (.int<|i / j) else aD
 |_,_=>aD
noncomputable def bT:D->D->Option D
 |.int i,.int j=>if 0<j then aA (.int<|i % j) else aD
 |_,_=>aD
noncomputable def IG:D->D->Option D
 |.int i,.int j=>if 0<=j/\j<=1000000/\i.natAbs<2 ^ 64 then aA (.int<|i ^ j.toNat) else aD
 |_,_=>aD
noncomputable def XS:D->Option D
 |.int i=>aA<|.int<|-i
 |_=>aD
noncomputable def B0:D->D->Option D
 |.int i,.int j=>aA<|.bl<|decide (j<i)
 |_,_=>aD
noncomputable def LR:D->D->Option D
 |.int i,.int j=>aA<|.bl<|decide (j<=i)
 |_,_=>aD
noncomputable def Fx:D->D->Option Bool
 |.int i,.int j=>aA<|decide (i=j)
 |.str s,.str t=>aA<|decide (s=t)
 |.bl a,.bl b=>aA<|decide (a=b)
 |.aE,.aE=>aA true
 |.aE,.int _=>aA false
 |.int _,.aE=>aA false
 |.aE,.str _=>aA false
 |.str _,.aE=>aA false
 |.int _,.str _=>aA false
 |.str _,.int _=>aA false
 |_,_=>aD
def Tp(x y:D):Option D:=(Fx x y).map .bl
def RX(x y:D):Option D:=(Fx x y).map λb=>.bl !b
noncomputable def Bs(x y:D):Option D:=match y with
 |.aE=>match x with
  |.aE=>aA<|.bl true
  |_=>aA<|.bl false
 |_=>aD
noncomputable def C8(x y:D):Option D:=match y with
 |.aE=>match x with
  |.aE=>aA<|.bl false
  |_=>aA<|.bl true
 |_=>aD
def NN(K:Fg):R2:=λx y H Q=>∃l b xs zs,x=.ref l/\y=.ref b/\aX K H l xs/\aX K H b zs/\xs.length+zs.length<=ae/\∀p,H p=aD->Q (.ref p) (upd H p<|.lst<|xs++zs)
def RL:eY X (binaryOp .Add) (NN X.K):=by
 intro pZ s σ H x y v u Q I rx ry h;obtain⟨l,b,xs,zs,rfl,rfl,hH,hB,hz,q⟩:=h;cases rx;cases ry;obtain⟨its,r,⟨⟨cls,dd,data,sl⟩,n,e,hc,hd0,hd⟩,z⟩:=I.list hH;obtain⟨fC,r2,⟨⟨TD,HP,data2,Db⟩,n2,e2,HH,qf4,hd2⟩,z2⟩:=I.list hB;have hl:=r.length;have HF:=r2.length;cases (show cls=_ from hc);cases (show dd=_ from hd0);cases (show data=_ from hd);cases (show TD=_ from HH);cases (show HP=_ from qf4);cases (show data2=_ from hd2);refine zj ⟨_,e,rfl⟩ ⟨_,e2,rfl⟩ noFill_list_add seq_list_add PySem.F.slot_list_add PySem.F.entry_list_add (PySem.F.args_list_add_2 _ _) (list_addW l b its.toArray fC.toArray n n2 aD aD sl Db (by rw[ak,ak];omega)) ⟨e,e2,?_⟩;have ea:its.toArray++fC.toArray=(its++fC).toArray:=by simp
 rw[ea];exact⟨.ref _,_,I.KR (t':=s.toks) (r.append r2) (by rw[bc];omega),rfl,q _ I.fresh⟩
def NP(K:Fg):R2:=λx y H Q=>sK (λi j=>.int<|i+j) x y H Q\/(∃i j,x=.str i/\y=.str j/\i.length+j.length<=ae/\Q (.str<|i++j) H)\/NN K x y H Q\/NO K x y H Q
def Ľ:eY X (binaryOp .Add) (NP X.K):=qc0.or<|qb9.or<|RL.or ĩ
def ZO(s t:List Nat):((⟨s.toArray⟩:Str)++(⟨t.toArray⟩:Str))=(⟨(s++t).toArray⟩:Str):=by
 show(⟨s.toArray++t.toArray⟩:Str)=_;simp
def k7(s:List Nat):(⟨s.toArray⟩:Str).length=s.length:=by simp[tz]
def Ġ{K:Fg}:g_ K (NP K) kR:=by
 intro O H dx dy d vx vy Q ol ix iy e q;unfold kR at e;split at e
 .have e:=bu e;subst e;rw[zG] at ix iy;exact .inl ⟨_,_,ix,iy,q _ H (aH.refl H)<|by rw[zG]⟩
 .rename_i s t;split at e
  .rename_i hl;cases e;rw[zU] at ix iy;refine .inr<|.inl ⟨_,_,ix,iy,by rw[k7,k7];exact hl,q _ H (aH.refl H) ?_⟩;rw[zU,ZO]
  .cases e
 .rename_i l m;split at e
  .rename_i hl;cases e;rw[zS] at ix iy;obtain⟨a,xs,rfl,hs,il⟩:=ix;obtain⟨b,ys,rfl,f7,fZ⟩:=iy;have e1:=il.length;have e2:=fZ.length;refine .inr<|.inr<|.inl ⟨a,b,xs,ys,rfl,rfl,hs.sq,f7.sq,by omega,λp hp=>q _ _ (yD hp) ?_⟩;rw[zS];refine⟨p,_,rfl,.inl ⟨λz=>?_,.inl zJ⟩,(il.append fZ).same (yD hp) ol⟩;obtain⟨zs,ez,_⟩:=ol p z;rw[hp] at ez;cases ez
  .cases e
 .rename_i l m;split at e
  .rename_i hl;cases e;rw[zR] at ix iy;obtain⟨a,xs,rfl,hs,il⟩:=ix;obtain⟨b,ys,rfl,f7,fZ⟩:=iy;have e1:=il.length;have e2:=fZ.length;refine .inr<|.inr<|.inr ⟨a,b,xs,ys,rfl,rfl,hs,f7,?_,by omega,λz=>?_,λ_ p hp=>q _ _ (yD hp) ?_⟩
   .rintro rfl
    have:l=[]:=by simpa using e1
    subst this;simp at hl
   .subst z
    have:m=[]:=by simpa using e2
    subst this;simp at hl
   .rw[zR];exact⟨p,_,rfl,d_.of zJ,(il.append fZ).same (yD hp) ol⟩
  .cases e
 .cases e
def F_{K:Fg}(h:∀dx dy d,m dx dy=aA d->∃i j,dx=.int i/\dy=.int j/\C i j/\∀O H,Is K O H d<|g i j):g_ K (rI C g) m:=by
 intro O H dx dy d vx vy Q ol ix iy e q;obtain⟨i,j,rfl,rfl,hc,hd⟩:=h dx dy d e;rw[zG] at ix iy;exact⟨i,j,ix,iy,hc,q _ H (aH.refl H)<|hd O H⟩
def Jc{K:Fg}(h:∀dx dy d,m dx dy=aA d->∃i j,dx=.int i/\dy=.int j/\∀O H,Is K O H d<|g i j):g_ K (sK g) m:=by
 intro O H dx dy d vx vy Q ol ix iy e q;obtain⟨i,j,rfl,rfl,hd⟩:=h dx dy d e;rw[zG] at ix iy;exact⟨i,j,ix,iy,q _ H (aH.refl H)<|hd O H⟩
def Zm{K:Fg}:g_ K (sK λi j=>.int<|i-j) Gd:=Jc λdx dy d e=>by
 unfold Gd at e;split at e
 .cases e;exact⟨_,_,rfl,rfl,λO H=>by rw[zG]⟩
 .cases e
def Zi{K:Fg}:g_ K (rI IA λi j=>.int<|i*j) Bt:=F_ λdx dy d e=>by
 unfold Bt at e;split at e
 .split at e
  .rename_i hc;cases e;exact⟨_,_,rfl,rfl,hc,λO H=>by rw[zG]⟩
  .cases e
 .cases e
def Ğ{K:Fg}:g_ K (rI UZ λi j=>.int<|i / j) gV:=F_ λdx dy d e=>by
 unfold gV at e;split at e
 .split at e
  .rename_i hc;cases e;exact⟨_,_,rfl,rfl,hc,λO H=>by rw[zG]⟩
  .cases e
 .cases e
def Zh{K:Fg}:g_ K (rI (λ_ j=>0<j) λi j=>.int<|i % j) bT:=F_ λdx dy d e=>by
 unfold bT at e;split at e
 .split at e
  .rename_i hc;cases e;exact⟨_,_,rfl,rfl,hc,λO H=>by rw[zG]⟩
  .cases e
 .cases e
def Zl{K:Fg}:g_ K (rI UX λi j=>.int<|i ^ j.toNat) IG:=F_ λdx dy d e=>by
 unfold IG at e;split at e
 .split at e
  .rename_i hc;cases e;exact⟨_,_,rfl,rfl,hc,λO H=>by rw[zG]⟩
  .cases e
 .cases e
def Vv{K:Fg}:g_ K (sK λi j=>.bl<|decide (j<i)) B0:=Jc λdx dy d e=>by
 unfold B0 at e;split at e
 .cases e;exact⟨_,_,rfl,rfl,λO H=>by rw[zZ]⟩
 .cases e
def Vu{K:Fg}:g_ K (sK λi j=>.bl<|decide (j<=i)) LR:=Jc λdx dy d e=>by
 unfold LR at e;split at e
 .cases e;exact⟨_,_,rfl,rfl,λO H=>by rw[zZ]⟩
 .cases e
def Oo{K:Fg}(ix:Is K O H dx vx)(iy:Is K O H dy vy)(e:Fx dx dy=aA b):II vx vy=true/\decide (vx=vy)=b:=by
 cases dx<;>cases dy<;>first|(simp only[Fx,reduceCtorEq] at e;done)|skip
 all_goals simp only[Fx,fw] at e
 all_goals subst e
 all_goals first|rw[zG] at ix|rw[zU] at ix|rw[zZ] at ix|rw[yQ] at ix
 all_goals first|rw[zG] at iy|rw[zU] at iy|rw[zZ] at iy|rw[yQ] at iy
 all_goals subst ix iy
 all_goals refine⟨rfl,?_⟩
 all_goals simp
def Vt{K:Fg}:g_ K KJ Tp:=by
 intro O H dx dy d vx vy Q ol ix iy e q;obtain⟨b,e1,rfl⟩:=aY e;obtain⟨h1,h2⟩:=Oo ix iy e1;exact⟨h1,q _ H (aH.refl H)<|by rw[zZ,h2]⟩
def Vx{K:Fg}:g_ K KI RX:=by
 intro O H dx dy d vx vy Q ol ix iy e q;obtain⟨b,e1,rfl⟩:=aY e;obtain⟨h1,h2⟩:=Oo ix iy e1;exact⟨h1,q _ H (aH.refl H)<|by rw[zZ,h2]⟩
def Is.RS{K:Fg}(h:Is K O H d v):decide (v=.aE)=(match d with | .aE=>true|_=>false):=by
 cases d with
 |aI ks l=>rw[wW] at h;obtain⟨a,kvs,rfl,_⟩:=h;rfl
 |aE=>rw[yQ] at h;subst h;rfl
 |bl b=>rw[zZ] at h;subst h;rfl
 |int i=>rw[zG] at h;subst h;rfl
 |str s=>rw[zU] at h;subst h;rfl
 |ty n=>rw[Is.ϫ] at h;subst h;rfl
 |ref a=>rw[qJ] at h;subst h;rfl
 |tup l=>rw[zR] at h;obtain⟨a,xs,rfl,_⟩:=h;rfl
 |lst l=>rw[zS] at h;obtain⟨a,xs,rfl,_⟩:=h;rfl
def Xz{K:Fg}:g_ K (λx y H Q=>y=.aE/\Q (.bl<|decide (x=.aE)) H) Bs:=by
 intro O H dx dy d vx vy Q ol ix iy e q;unfold Bs at e;cases dy<;>first|(cases e;done)|skip
 rw[yQ] at iy;refine⟨iy,q _ H (aH.refl H) ?_⟩;have h:=ix.RS;cases dx<;>cases e<;>rw[zZ,h]
def ğ{K:Fg}:g_ K (λx y H Q=>y=.aE/\Q (.bl<|!decide (x=.aE)) H) C8:=by
 intro O H dx dy d vx vy Q ol ix iy e q;unfold C8 at e;cases dy<;>first|(cases e;done)|skip
 rw[yQ] at iy;refine⟨iy,q _ H (aH.refl H) ?_⟩;have h:=ix.RS;cases dx<;>cases e<;>rw[zZ,h]<;>rfl
noncomputable def vV:D->Bool
 |.int _=>true
 |.str _=>true
 |_=>false
noncomputable def Bl:D->D->Bool
 |.int i,.int j=>decide (i=j)
 |.str s,.str t=>decide (s=t)
 |_,_=>false
def inD(neg:Bool)(x y:D):Option D:=match y with
 |.lst l=>if vV x=true/\l.all vV=true then aA (.bl (if neg then !(l.any λz=>Bl z x) else l.any λz=>Bl z x)) else aD
 |.tup l=>if vV x=true/\l.all vV=true then aA (.bl (if neg then !(l.any λz=>Bl z x) else l.any λz=>Bl z x)) else aD
 |_=>aD
def pK{K:Fg}(h:Is K O H d v)(f:vV d=true):vK v=true:=by
 cases d<;>first|(cases f;done)|skip
 .rw[zG] at h;subst h;rfl
 .rw[zU] at h;subst h;rfl
def Om{K:Fg}(h:Is K O H d v)(f:vV d=true)(h':Is K O H e u)(f':vV e=true):r_ v u=Bl d e:=by
 cases d<;>first|(cases f;done)|skip
 all_goals cases e<;>first|(cases f';done)|skip
 all_goals first|rw[zG] at h|rw[zU] at h
 all_goals first|rw[zG] at h'|rw[zU] at h'
 all_goals subst h h'
 .simp[r_,Bl];rw[Bool.beq_eq_decide_eq]
 .rfl
 .rfl
 .rename_i s t;simp only[r_,Bl];by_cases z:s=t
  .subst z;simp
  .rw[decide_eq_false z,beq_eq_false_iff_ne];intro z'
   have:s.toArray=t.toArray:=by injection z'
   exact z (by simpa using this)
theorem I0{K:Fg}(h:Is K O H d v)(f:vV d=true):∀{l:List D} {xs:List V},IsL K O H l xs->l.all vV=true->xs.all vK=true/\Hy v xs=l.any λz=>Bl z d
 |[],xs,il,_=>by unfold IsL at il;subst il;exact⟨rfl,rfl⟩
 |e::l,xs,il,fa=>by
  unfold IsL at il;obtain⟨u,r,rfl,i1,i2⟩:=il;rw[mj,dl] at fa;obtain⟨q1,q2⟩:=I0 h f i2 fa.2;refine⟨by rw[mj,pK i1 fa.1,q1];rfl,?_⟩;unfold Hy at q2 ⊢;rw[on,on,q2,Om i1 fa.1 h f]
def Vw{K:Fg}(neg:Bool):g_ K (RC K neg) (inD neg):=by
 intro O H dx dy d vx vy Q ol ix iy e q;unfold inD at e;cases dy<;>first|(cases e;done)|skip
 .rename_i l;simp only at e;split at e
  .rename_i hl;cases e;rw[zR] at iy;obtain⟨a,xs,rfl,hs,il⟩:=iy;obtain⟨q1,q2⟩:=I0 ix hl.1 il hl.2;exact⟨a,xs,rfl,.inr hs,pK ix hl.1,q1,q _ H (aH.refl H)<|by rw[zZ,q2]⟩
  .cases e
 .rename_i l;simp only at e;split at e
  .rename_i hl;cases e;rw[zS] at iy;obtain⟨a,xs,rfl,hs,il⟩:=iy;obtain⟨q1,q2⟩:=I0 ix hl.1 il hl.2;exact⟨a,xs,rfl,.inl hs.sq,pK ix hl.1,q1,q _ H (aH.refl H)<|by rw[zZ,q2]⟩
  .cases e
def aL:D->D->Option D
 |.lst l,.int i=>iC l i
 |.tup l,.int i=>iC l i
 |.str s,.int i=>if s.length<=ae then (iC s i).map λc=>.str [c] else aD
 |_,_=>aD
def XH(hl:l.length=m.length)(e:iC l i=aA x):∃j:Nat,l[j]?=aA x/\∀y,m[j]?=aA y->iC m i=aA y:=by
 unfold iC at e ⊢;obtain⟨j,e1,e2⟩:=aG e;exact⟨j,e2,λy ey=>by rw[<-hl,e1];exact ey⟩
def Ce(fl:ML)(g:ME):ME:=λr=>(fl r).bind λl=>(g r).bind λd=>(intD d).bind λi=>iC l i
noncomputable def I_(fl:ML):ME:=λr=>(fl r).map λl=>.int l.length
def NC{K:Fg}:g_ K (RB K) aL:=by
 intro O H dx dy d vx vy Q ol ix iy e q;unfold aL at e;split at e
 .rename_i l i;rw[zS] at ix;rw[zG] at iy;obtain⟨p,xs,rfl,hs,il⟩:=ix;obtain⟨j,e1,e2⟩:=XH il.length e;obtain⟨v,e3,iv⟩:=il.get e1;exact .inl ⟨p,xs,i,v,rfl,iy,hs.sq,e2 v e3,q _ H (aH.refl H) iv⟩
 .rename_i l i;rw[zR] at ix;rw[zG] at iy;obtain⟨p,xs,rfl,hs,il⟩:=ix;obtain⟨j,e1,e2⟩:=XH il.length e;obtain⟨v,e3,iv⟩:=il.get e1;exact .inr<|.inl ⟨p,xs,i,v,rfl,iy,hs,e2 v e3,q _ H (aH.refl H) iv⟩
 .rename_i s i;split at e
  .rename_i hl;obtain⟨c,e1,rfl⟩:=aY e;rw[zU] at ix;rw[zG] at iy;exact .inr<|.inr ⟨_,i,c,ix,iy,by rw[k7];exact hl,by simpa using e1,q _ H (aH.refl H)<|by rw[zU]⟩
  .cases e
 .cases e
def Nq(ha:DE X a f)(hb:DE X b g)(hs:cO b:=by intro _ _;rfl):DE X (.Subscript a b pos) (zK aL f g):=
 PE.aM (GK OA ha hb hs) λσ H Q h=>two (ta:=lE X.K f) (tb:=lE X.K g) NC h
def Wf(ha:DB X a fl)(hb:DE X b g)(hs:cO b:=by intro _ _;rfl):DE X (.Subscript a b pos) (Ce fl g):=by
 refine PE.aM (GK SQ ha hb hs) λσ H Q h=>?_
 obtain⟨O0,r,d,hR,e,q⟩:=h;obtain⟨l,e1,e⟩:=aG e;obtain⟨d',e2,e⟩:=aG e;obtain⟨i,e3,e⟩:=aG e;cases uZ e3;refine⟨O0,r,l,hR,e1,λp xs H1 s1 rd il=>⟨O0,r,_,hR.same s1,e2,λv2 H2 s2 i2=>?_⟩⟩;rw[zG] at i2;obtain⟨j,e4,e5⟩:=XH il.length e;obtain⟨v,e6,iv⟩:=il.get e4;exact⟨p,xs,i,v,rfl,i2,s2.seq rd,e5 v e6,q v H2 (s1.trans s2)<|iv.same s2 (hR.same s1).ol⟩
noncomputable def tS:D->Option D
 |.lst l=>aA<|.int l.length
 |.tup l=>aA<|.int l.length
 |.str s=>if s.length<=ae then aA (.int s.length) else aD
 |_=>aD
def pW:iW X (.builtin "len") (λxs H Q=>(∃p ys,xs=[.ref p]/\(aX X.K H p ys\/d_ X.K H p ys)/\Q (.int ys.length) H)\/(∃z,xs=[.str z]/\z.length<=ae/\Q (.int z.length) H)):=qi6.or mJ
def Ċ{K:Fg}{O:Addr->Prop}{H:Hp}{x d:D}{v:V}{Q:VK}(i1:Is K O H x v)(e:tS x=aA d)(q:∀v,Is K O H d v->Q v H):(∃p ys,[v]=[.ref p]/\(aX K H p ys\/d_ K H p ys)/\Q (.int ys.length) H)\/(∃z,[v]=[.str z]/\z.length<=ae/\Q (.int z.length) H):=by
 cases x<;>first|(simp only[tS,reduceCtorEq] at e;done)|skip
 .simp only[tS] at e;split at e
  .rename_i hl;cases e;rw[zU] at i1;subst i1;exact .inr ⟨_,rfl,by rw[k7];exact hl,q _<|by rw[zG,k7]⟩
  .cases e
 .simp only[tS,fw] at e;subst e;rw[zR] at i1;obtain⟨p,ys,rfl,hs,il⟩:=i1;exact .inl ⟨p,ys,rfl,.inr hs,q _<|by rw[zG,il.length]⟩
 .simp only[tS,fw] at e;subst e;rw[zS] at i1;obtain⟨p,ys,rfl,hs,il⟩:=i1;exact .inl ⟨p,ys,rfl,.inl hs.sq,q _<|by rw[zG,il.length]⟩
def Wg(hg:Gl X "len")(hm:X.mg "len" = aD)(ha:DE X a f)(hs:ar [a] X.env=(false,eval a X.env)::ar [] X.env:=by rfl):DE X (.Call (.Name "len" p') [a] [] pos) (aU tS f):=by
 refine PE.aM (kX pW hg hm PySem.boot_len (yK ha xH hs) (he:=hs)) λσ H Q h=>?_
 obtain⟨O0,r,d,hR,e,q⟩:=h;obtain⟨x,e1,e2⟩:=aG e;exact⟨O0,r,x,hR,e1,λv H1 s1 i1=>Ċ i1 e2 λv' iv=>q v' H1 s1 iv⟩
def ç(hg:Gl X "len")(hm:X.mg "len" = aD)(ha:DB X a fl)(hs:ar [a] X.env=(false,eval a X.env)::ar [] X.env:=by rfl):DE X (.Call (.Name "len" p') [a] [] pos) (I_ fl):=by
 refine PE.aM (kX pW hg hm PySem.boot_len (yK ha xH hs) (he:=hs)) λσ H Q h=>?_
 obtain⟨O0,r,d,hR,e,q⟩:=h;obtain⟨l,e1,rfl⟩:=aY e;exact⟨O0,r,l,hR,e1,λp xs H1 s1 rd il=>.inl ⟨p,xs,rfl,.inl rd,q _ H1 s1<|by rw[zG,il.length]⟩⟩
noncomputable def GY:D->Option String
 |.aE=>aA "NoneType"
 |.bl _=>aA "bool"
 |.int _=>aA "int"
 |.str _=>aA "str"
 |.tup _=>aA "tuple"
 |.lst _=>aA "list"
 |_=>aD
noncomputable def Kv:List (String×String×Bool):=[("bool", "int",true),("NoneType", "int",false),("NoneType", "str",false),("NoneType", "bool",false),("NoneType", "tuple",false),("NoneType", "list",false),
 ("bool", "str",false),("bool", "tuple",false),("bool", "list",false),("int", "bool",false),("int", "str",false),("int", "tuple",false),("int", "list",false),
 ("str", "int",false),("str", "bool",false),("str", "tuple",false),("str", "list",false),("tuple", "int",false),("tuple", "bool",false),("tuple", "str",false),("tuple", "list",false),
 ("list", "int",false),("list", "bool",false),("list", "str",false),("list", "tuple",false)]
def GD(t T:String):Option Bool:=if t=T then aA true else (Kv.find? λx=>x.1 == t && x.2.1 == T).map (·.2.2)
def j7(T:String)(d:D):Option D:=(GY d).bind λt=>(GD t T).map .bl
def ŏ(K:Fg):∀p∈Kv,ur K (.type p.1) (.type p.2.1)=aA p.2.2:=by
 unfold Kv
 repeat (first|exact abb _|refine aam.mpr ⟨rfl,?_⟩)
def Xk(K:Fg)(e:GD t T=aA b):ur K (.type t) (.type T)=aA b:=by
 unfold GD at e;split at e
 .rename_i h;subst h;cases e;unfold ur;rw[if_pos<|by simp]
 .obtain⟨⟨x,y,c⟩,e1,e2⟩:=aY e;have hm:=yf e1;have hp:=List.find?_some e1;simp only[dl,beq_iff_eq] at hp;obtain⟨rfl,rfl⟩:=hp;subst e2;exact(ŏ K _ hm).trans rfl
def TM(K:Fg)(H:Hp)(x:V)(t:String):Prop:=match x with
 |.aE=>t = "NoneType"
 |.bl _=>t = "bool"
 |.int _=>t = "int"
 |.str _=>t = "str"
 |.ref a=>(t = "list" /\ ∃xs,aX K H a xs)\/(t = "tuple" /\ ∃xs,d_ K H a xs)
 |_=>False
def pX:iW X (.builtin "isinstance") (λxs H Q=>∃x t T b,xs=[x,.ty T]/\TM X.K H x t/\GD t T=aA b/\Q (.bl b) H):=by
 intro pZ s σ H xs us Q I r h;obtain⟨x,t,T,b,rfl,ht,e,q⟩:=h;obtain⟨u,v,rfl,r1,r2⟩:=dW r;cases (show v=Value.type T from r2);have e':=Xk X.K e;have fin:∀tk,EP X pZ σ Q (.bool b) { s with toks:=tk }:=λtk=>⟨.bl b,H,I.tok tk,rfl,q⟩
 cases x with
 |aE=>cases (show t=_ from ht);exact uW I r1 (.aE) e' fin
 |bl y=>cases (show t=_ from ht);exact uW I r1 (.bl y) e' fin
 |int i=>cases (show t=_ from ht);exact uW I r1 (.int i) e' fin
 |str y=>cases (show t=_ from ht);exact uW I r1 (.str y) e' fin
 |ref a=>
  cases (show u=Value.ref a from r1);rcases(show(t = "list" /\ ∃xs,aX X.K H a xs)\/(t = "tuple" /\ ∃xs,d_ X.K H a xs) from ht) with⟨rfl,xs,hs⟩|⟨rfl,xs,hs⟩
  .obtain⟨its,_,⟨o,n,h1,h2,_⟩,_⟩:=I.list hs;exact gp wg I.fE ⟨o,h1,h2⟩ e' (λz=>nomatch z) fin
  .obtain⟨its,_,⟨o,h1,h2,_⟩,_⟩:=I.tuple hs;exact gp PySem.W.kitx_tuple I.fE ⟨o,h1,h2⟩ e' (λz=>nomatch z) fin
 |_=>exact jk ht
def È{K:Fg}(h:Is K O H d v)(e:GY d=aA t):TM K H v t:=by
 cases d<;>first|(simp only[GY,reduceCtorEq] at e;done)|skip
 all_goals simp only[GY,fw] at e
 all_goals subst e
 .rw[yQ] at h;subst h;rfl
 .rw[zZ] at h;subst h;rfl
 .rw[zG] at h;subst h;rfl
 .rw[zU] at h;subst h;rfl
 .rw[zR] at h;obtain⟨a,xs,rfl,hs,_⟩:=h;exact .inr ⟨rfl,xs,hs⟩
 .rw[zS] at h;obtain⟨a,xs,rfl,hs,_⟩:=h;exact .inl ⟨rfl,xs,hs.sq⟩
def Q7(hg:Gl X "isinstance")(hm:X.mg "isinstance" = aD)(ha:DE X a f)(hT:PE X (.Name x pt) (tC<|.ty T))(hs:ar [a,.Name x pt] X.env=(false,eval a X.env)::ar [.Name x pt] X.env:=by rfl)(f7:ar [.Name x pt] X.env=(false,eval (.Name x pt) X.env)::ar [] X.env:=by rfl):DE X (.Call (.Name "isinstance" p') [a,.Name x pt] [] pos) (aU (j7 T) f):=by
 refine PE.aM (kX pX hg hm PyProof.Rows.boot_isinstance (yK ha (yK hT xH f7) hs) (he:=hs)) λσ H Q h=>?_
 obtain⟨O0,r,d,hR,e,q⟩:=h;obtain⟨x,e1,e2⟩:=aG e;obtain⟨t,e3,e4⟩:=aG e2;obtain⟨b,e5,rfl⟩:=aY e4;exact⟨O0,r,x,hR,e1,λv H1 s1 i1=>⟨v,t,T,b,rfl,È i1 e3,e5,q _ H1 s1<|by rw[zZ]⟩⟩
def AF(r:En)(i:Nat):Option (List D):=(r[i]?).bind Sl.ml
noncomputable def o_(i:Nat)(l:List D)(r:En):Option En:=match r[i]? with
 |some (.o _)=>aA<|r.set i<|.o l
 |some (.p _)=>aA<|r.set i<|.p l
 |_=>aD
section
variable{K:Fg}
def oF(e:o_ i l' r=aA r'):∃x y,r[i]?=aA x/\r'=r.set i y/\y.own=aA l'/\y.mt=aA l'/\(∃l,x.mt=aA l)/\True:=by
 unfold o_ at e;cases e1:r[i]? with
 |none=>rw[e1] at e;cases e
 |some x=>rw[e1] at e;cases x<;>cases e<;>exact⟨_,_,rfl,rfl,rfl,rfl,⟨_,rfl⟩,trivial⟩
def R.RI{x y:Sl}{o':HO}(h:R K O0 H r σ)(ex:r[i]?=aA x)(xm:x.mt=aA l0)(ha:σ[i]?=aA (aA<|.ref a))(kp:∀b o,b≠a->H b=aA o->H' b=aA o)(lv:∀b,b≠a->H' b=aD->H b=aD)(e':H' a=aA o')(mb':Mb o')(yv:∀d,y≠.v d)(yl:∀m,y.ls=aA m->∃xs,o'=.lst xs/\IsL K (Ow O0 r σ) H' m xs)(yc:∀m,(aA y=aA (.o m)\/aA y=aA (.z m)\/∃ks,aA y=aA (.d false ks m))->∃n,(aA x=aA (.o n)\/aA x=aA (.z n)\/∃ks,aA x=aA (.d false ks n)))(yk:y.pk=x.pk)(yd:∀f ks m,y=.d f ks m->∃kvs,o'=.dK kvs/\kvs.map (·.1)=ks/\IsL K (Ow O0 r σ) H' m (kvs.map (·.2))):R K O0 H' (r.set i y) σ/\Kp H r σ H' (r.set i y) σ:=by
 have hi:i<r.length:=(aq.mp ex).1;have xo:(r[i]?).bind Sl.own=aA l0:=by rw[ex];exact mI xm
 have KN:jZ r σ a:=⟨i,l0,xo,ha⟩;have RZ:lJ r σ a:=⟨i,l0,by rw[ex];exact xm,ha⟩;have L9:∀{q:Sl->Option (List D)},Ac q r σ a->∀b,Ac q (r.set i y) σ b->Ac q r σ b:=λz b ⟨j,m,e1,q1⟩=>by
  by_cases hj:i=j
  .subst hj;rw[ha] at q1;cases q1;exact z
  .rw[zF hj] at e1;exact⟨j,m,e1,q1⟩
 have sub:∀{H2:Hp} b,Ow O0 (r.set i y) σ b->H2 b≠aD->Ow O0 r σ b:=λb z _=>z.imp id<|L9 KN b
 have keep:dZ (Ow O0 r σ) H H':=λb o e1 n=>kp b o (λz=>n (by subst z;exact .inr KN)) e1
 have lst:∀b o,H b=aA o->Mb o->∃o',H' b=aA o'/\Mb o':=λb o e1 mb=>by
  by_cases hb:b=a
  .subst hb;exact⟨_,e',mb'⟩
  .exact⟨o,kp b _ hb e1,mb⟩
 have KO:kT (Ow O0 r σ) H':=λb z=>by obtain⟨o,q,mb⟩:=h.ol b z;exact lst b o q mb
 have RK:∀{j:Nat} {m:List D} {b:Addr},i≠j->(r[j]?).bind Sl.own=aA m->σ[j]?=aA (aA<|.ref b)->b≠a:=λhj e1 q1 z=>by
  subst z;exact hj<|h.apart i _ _ l0 _ xo e1 ha q1
 have get:∀(j:Nat) (m:List D),((r.set i y)[j]?).bind Sl.own=aA m->∃m',(r[j]?).bind Sl.own=aA m':=λj m e1=>by
  by_cases hj:i=j
  .subst hj;exact⟨l0,xo⟩
  .rw[zF hj] at e1;exact⟨m,e1⟩
 refine⟨⟨by simp[h.len],λj d e1=>?_,λj m e1=>?_,λj k b m n e1 e2 q1 q2=>?_,λb z=>?_,λj m b e1 q1=>?_,λj m b e1 q1=>?_,λj f ks m e1=>?_⟩,⟨λb o e1 n=>kp b o (λz=>n (by subst z;exact RZ)) e1,λb e1=>?_,lst,λb z=>.inl<|L9 KN b z,λb z=>.inl<|L9 RZ b z,λj m e1=>?_,λj m e1=>?_⟩⟩
 .have hj:i≠j:=λz=>by subst z;rw[zN hi] at e1;exact yv d<|bu e1
  rw[zF hj] at e1;obtain⟨v,q1,q2⟩:=h.val j d e1;exact⟨v,q1,Is.mono keep h.ol sub _ _ q2⟩
 .by_cases hj:i=j
  .subst hj;rw[zN hi] at e1;obtain⟨xs,rfl,il⟩:=yl m e1;exact⟨a,xs,ha,e',IsL.mono (aH.kp (aH.refl H') _) KO sub _ _ il⟩
  .rw[zF hj] at e1;obtain⟨b,ys,q1,q2,q3⟩:=h.own j m e1;exact⟨b,ys,q1,kp b _ (RK hj (vA e1) q1) q2,IsL.mono keep h.ol sub _ _ q3⟩
 .obtain⟨m',z1⟩:=get j m e1;obtain⟨n',z2⟩:=get k n e2;exact h.apart j k b m' n' z1 z2 q1 q2
 .obtain⟨o,q,mb⟩:=h.o0 b z;exact lst b o q mb
 .by_cases hj:i=j
  .subst hj;rw[zN hi] at e1;obtain⟨n,z⟩:=yc m e1;exact h.loc i n b (by rw[ex];exact z) q1
  .rw[zF hj] at e1;exact h.loc j m b e1 q1
 .by_cases hj:i=j
  .subst hj;rw[zN hi] at e1;exact h.par i m b (by rw[ex];exact yk.symm.trans e1) q1
  .rw[zF hj] at e1;exact h.par j m b e1 q1
 .by_cases hj:i=j
  .subst hj;rw[zN hi] at e1;obtain⟨kvs,rfl,hk,il⟩:=yd f ks m<|bu e1;exact⟨a,kvs,ha,e',hk,IsL.mono (aH.kp (aH.refl H') _) KO sub _ _ il⟩
  .rw[zF hj] at e1;obtain⟨b,kvs,q1,q2,q4,q3⟩:=h.aI j f ks m e1;exact⟨b,kvs,q1,kp b _ (RK hj (by rw[e1];rfl) q1) q2,q4,IsL.mono keep h.ol sub _ _ q3⟩
 .by_cases hb:b=a
  .subst hb;rw[e'] at e1;cases e1
  .exact lv b hb e1
 .by_cases hj:i=j
  .subst hj;rw[ex] at e1;exact⟨by rw[zN hi];exact yk.trans e1,rfl⟩
  .exact⟨by rw[zF hj];exact e1,rfl⟩
 .have hj:i≠j:=λz=>by subst z;rw[ex] at e1;cases e1;cases xm
  exact⟨by rw[zF hj];exact e1,rfl⟩
def R.put(h:R K O0 H r σ)(e:o_ i l' r=aA r')(ha:σ[i]?=aA (aA<|.ref a))(kp:∀b o,b≠a->H b=aA o->H' b=aA o)(lv:∀b,b≠a->H' b=aD->H b=aD)(e':H' a=aA (.lst xs'))(il:IsL K (Ow O0 r σ) H' l' xs'):R K O0 H' r' σ/\Kp H r σ H' r' σ:=by
 unfold o_ at e;cases e1:r[i]? with
 |none=>rw[e1] at e;cases e
 |some x=>
  rw[e1] at e;cases x<;>cases e<;>exact h.RI e1 rfl ha kp lv e' trivial (λ_ z=>by cases z) (λm z=>by cases z;exact⟨_,rfl,il⟩) (λm z=>by rcases z with z|z|⟨_,z⟩<;>first|(cases z;done)|exact⟨_,.inl rfl⟩) rfl (λ_ _ _ z=>by cases z)
theorem R.upd(h:R K O0 H r σ)(e:o_ i l' r=aA r')(ha:σ[i]?=aA (aA<|.ref a))(hx:H a=aA (.lst xs))(il:IsL K (Ow O0 r σ) H l' xs'):R K O0 (upd H a<|.lst xs') r' σ/\Kp H r σ (upd H a<|.lst xs') r' σ:=by
 have Ak:Ow O0 r σ a:=by
  obtain⟨x,y,ex,_,_,_,⟨l0,xm⟩,_⟩:=oF e;exact .inr ⟨i,l0,by rw[ex];exact mI xm,ha⟩
 refine h.put e ha (λb o hb e1=>by rw[zI hb];exact e1) (λb hb e1=>by rw[zI hb] at e1;exact e1) zJ ?_;exact IsL.mono (λb o e1 n=>by rw[zI λz=>n (by subst z;exact Ak)];exact e1) h.ol (λ_ z _=>z) _ _ il
end
def AD(i:Nat)(f:ME):En->Option (D×En):=λr=>(f r).bind λd=>(AF r i).bind λl=>if l.length<ae then (o_ i (l++[d]) r).map λr'=>(.aE,r') else aD
def mS(i:Nat)(f:En->Option (D×En)):En->Option (D×En):=λr0=>(f r0).bind λp=>(AF r0 i).bind λ_=>(AF p.2 i).bind λl=>if l.length<ae then (o_ i (l++[p.1]) p.2).map λr'=>(.aE,r') else aD
def rJ(i:Nat):En->Option (D×En):=λr=>(AF r i).bind λl=>(l[l.length-1]?).bind λd=>(o_ i l.dropLast r).map λr'=>(d,r')
def Cd(i:Nat)(f:ME):En->Option (D×En):=λr=>(f r).bind λd=>(Oz d).bind λm=>(AF r i).bind λl=>if l.length+m.length<=ae then (o_ i (l++m) r).map λr'=>(.aE,r') else aD
def IsL.dropLast{K:Fg}(h:IsL K O H l vs):IsL K O H l.dropLast vs.dropLast:=by
 rw[mx,mx,h.length];exact h.take _
def QE{K:Fg}(h:R K O0 H r σ)(e:AF r i=aA l):∃a xs,σ[i]?=aA (aA<|.ref a)/\H a=aA (.lst xs)/\IsL K (Ow O0 r σ) H l xs:=by
 obtain⟨y,e1,e2⟩:=aG e;exact h.own i l (by rw[e1];exact(GH e2).2)
def Q0(i:Nat)(h:PE X (.Name x pn) (v6 i))(he:DE X e f)(fN:l7 apos eO:=by rfl)(fO:cn (.Name x pn) "append" X.env (eval (.Name x pn) X.env)=eval (.Name x pn) X.env:=by rfl)(iU:Ay X [e] eO:=by rfl)(hs:ar [e] X.env=(false,eval e X.env)::ar [] X.env:=by rfl):DX X (.Call (.Attribute (.Name x pn) "append" apos) [e] [] eO) (AD i f):=by
 refine PE.aM (WV et om oh vD h (yK he xH hs) fO iU fN hs) λσ H Q hq=>?_
 obtain⟨O0,r,d',r',hR,e,q⟩:=hq;obtain⟨d,e1,e⟩:=aG e;obtain⟨l,e2,e⟩:=aG e;split at e
 .rename_i hl;obtain⟨r2,e3,e4⟩:=aY e;cases e4;obtain⟨a,xs,q1,q2,q3⟩:=QE hR e2;refine⟨.ref a,q1,.inl ⟨rfl,xs,aX.of q2⟩,O0,r,d,hR,e1,λv H1 s1 i1=>?_⟩;have R1:=hR.same s1;obtain⟨R2,k2⟩:=R1.upd (xs':=xs++[v]) e3 q1 (s1 _ _ q2)<|(q3.same s1 hR.ol).append<|.cons i1 .nil;exact⟨a,xs,v,rfl,rfl,s1 _ _ q2,by rw[<-q3.length];exact hl,q _ _ R2 ((Kp.of_same r σ s1).trans k2)<|by rw[yQ]⟩
 .cases e
def tX(i:Nat)(h:PE X (.Name x pn) (v6 i))(he:DX X e fx)(fN:l7 apos eO:=by rfl)(fO:cn (.Name x pn) "append" X.env (eval (.Name x pn) X.env)=eval (.Name x pn) X.env:=by rfl)(iU:Ay X [e] eO:=by rfl)(hs:ar [e] X.env=(false,eval e X.env)::ar [] X.env:=by rfl):DX X (.Call (.Attribute (.Name x pn) "append" apos) [e] [] eO) (mS i fx):=by
 refine PE.aM (WV et om oh vD h (yK he xH hs) fO iU fN hs) λσ H Q hq=>?_
 obtain⟨O0,r,d',r',hR,e,q⟩:=hq;obtain⟨⟨d,r1⟩,e1,e⟩:=aG e;obtain⟨l0,e0,e⟩:=aG e;obtain⟨l,e2,e⟩:=aG e;split at e
 .rename_i hl;obtain⟨r2,e3,e4⟩:=aY e;cases e4;obtain⟨a0,Ϡ,p1,p2,p3⟩:=QE hR e0;refine⟨.ref a0,p1,.inl ⟨rfl,Ϡ,aX.of p2⟩,O0,r,d,r1,hR,e1,λv H1 R1 k1 i1=>?_⟩;obtain⟨a,xs,q1,q2,q3⟩:=QE R1 e2;rw[p1] at q1;cases q1;obtain⟨R2,k2⟩:=R1.upd (xs':=xs++[v]) e3 p1 q2<|q3.append<|.cons i1 .nil;exact⟨_,xs,v,rfl,rfl,q2,by rw[<-q3.length];exact hl,q _ _ R2 (k1.trans k2)<|by rw[yQ]⟩
 .cases e
def Yb(i:Nat)(h:PE X (.Name x pn) (v6 i))(fO:cn (.Name x pn) "pop" X.env (eval (.Name x pn) X.env)=eval (.Name x pn) X.env:=by rfl)(fN:l7 apos eO:=by rfl):DX X (.Call (.Attribute (.Name x pn) "pop" apos) [] [] eO) (rJ i):=by
 refine PE.aM (WU et mw mq QD h fO fN) λσ H Q hq=>?_
 obtain⟨O0,r,d',r',hR,e,q⟩:=hq;obtain⟨l,e2,e⟩:=aG e;obtain⟨d,e1,e⟩:=aG e;obtain⟨r2,e3,e4⟩:=aY e;have e5:d=d':=congrArg wm e4;have e6:r2=r':=congrArg wl e4;subst e5 e6;obtain⟨a,xs,q1,q2,q3⟩:=QE hR e2;obtain⟨v,ev,iv⟩:=q3.get e1;obtain⟨R2,k2⟩:=hR.upd (xs':=xs.dropLast) e3 q1 q2 q3.dropLast;refine⟨.ref a,q1,.inl ⟨rfl,xs,aX.of q2⟩,a,xs,v,rfl,rfl,q2,by rw[<-q3.length];exact ev,q _ _ R2 k2 ?_⟩;have Ak:Ow O0 r σ a:=by
  obtain⟨y,z1,z2⟩:=aG e2;exact .inr ⟨i,l,by rw[z1];exact mI (GH z2).1,q1⟩
 have Cq:∀b,Ow O0 r2 σ b->H b≠aD->Ow O0 r σ b:=λb z n=>z.imp id λz=>(k2.new b z).elim id λz=>absurd z n
 exact Is.mono (λb o e1 n=>by rw[zI λz=>n (by subst z;exact Ak)];exact e1) hR.ol Cq _ _ iv
noncomputable def F3:Option Sl->Sl
 |some (.v d)=>.v d
 |_=>.un
def ZE(cap:List Nat)(n:Nat)(r:En):En:=(cap.map λj=>F3 r[j]?)++bg (n-cap.length) .un
noncomputable def kQ(bd:D->En->Option En)(c:MB)(x:ME):List D->En->Option (List D)
 |[],_=>aA []
 |d::t,r=>(bd d r).bind λr1=>(c r1).bind λb=>if b=true then (x r1).bind λy=>(kQ bd c x t r1).map (y::·) else kQ bd c x t r1
def o7:MB:=λ_=>aA true
def xW(cap:List Nat)(n:Nat)(it:ML)(bd:D->En->Option En)(c:MB)(x:ME):ML:=λr=>(it r).bind λl=>if l.length<ae then kQ bd c x l (ZE cap n r) else aD
def xX(cap:List Nat)(n:Nat)(it:ML)(bd:D->En->Option En)(x:ME):ML:=xW cap n it bd o7 x
theorem R.cap{K:Fg}{O0:Addr->Prop}{H H2:Hp}{r:En}{σ:St}{cap:List Nat}{n:Nat}{p:Addr}{ys:List V}(h:R K O0 H r σ)(s:aH H H2)(hp:H p=aD)(ep:H2 p=aA (.lst ys)):R K (λb=>Ow O0 r σ b\/b=p) H2 (ZE cap n r) (Af cap n σ):=by
 have Dg:∀(i:Nat) (l:List D),((ZE cap n r)[i]?).bind Sl.own≠aA l:=λi l e=>by
  unfold ZE at e;by_cases hi:i<cap.length
  .rw[be<|by simpa using hi,bw] at e;obtain⟨j,hj⟩:∃j,cap[i]?=aA j:=⟨cap[i],by simp[hi]⟩;rw[hj] at e;have e':(F3 r[j]?).own=aA l:=e;cases ej:r[j]? with
   |none=>rw[ej] at e';cases e'
   |some y=>rw[ej] at e';cases y<;>cases e'
  .rw[dk<|by simpa using qk hi,cw] at e;split at e<;>cases e
 have ol:kT (λb=>Ow O0 r σ b\/b=p) H2:=λb z=>z.elim (λz=>(h.same s).ol b z) λz=>by subst z;exact⟨.lst ys,ep,trivial⟩
 refine⟨by simp[ZE,Af],λi d e=>?_,λi l e=>absurd (vA e)<|Dg i l,λi j a l m e1=>absurd e1<|Dg i l,ol,λi l a e=>absurd (show((ZE cap n r)[i]?).bind Sl.own=aA l by rcases e with e|e|⟨_,e⟩<;>rw[e]<;>rfl)<|Dg i l,λi l a e=>absurd (cW e).choose_spec<|Dg i _,λi _ ks l e=>absurd (show((ZE cap n r)[i]?).bind Sl.own=aA l by rw[e];rfl)<|Dg i l⟩;unfold ZE at e;by_cases hi:i<cap.length
 .rw[be<|by simpa using hi,bw] at e;obtain⟨j,hj⟩:∃j,cap[i]?=aA j:=⟨cap[i],by simp[hi]⟩;rw[hj] at e;have e':F3 r[j]?=.v d:=bu e;have ej:r[j]?=aA (.v d):=by
   cases ej:r[j]? with
   |none=>rw[ej] at e';cases e'
   |some y=>rw[ej] at e';cases y<;>cases e';rfl
  obtain⟨v,e1,q⟩:=h.val j d ej;refine⟨v,?_,?_⟩
  .unfold Af;rw[be<|by simpa using hi,bw,hj];show aA ((σ[j]?).getD aD)=_;rw[e1];rfl
  .refine Is.mono (aH.kp s _) h.ol (λa z nn=>?_) _ _ q;rcases z with(z|z)|⟨k,l,ek,_⟩
   .exact z
   .subst z;exact absurd hp nn
   .exact absurd ek<|Dg k l
 .rw[dk<|by simpa using qk hi,cw] at e;split at e<;>cases e
section
variable{X:Cx}{N':List Str}{cap:List Nat}{scope:Scope}{elt tg iter:Expr}{ifs:List Expr}{pos:Pos}{it:ML}{bd:D->En->Option En}{c:MB}{x:ME}
def dP{tc:Option TT}(htc:∀{σ:St} {H:Hp} {K1:V->Hp->Prop} {K0:Hp->Prop} {te:TE},(lT X.K c σ H λb H1=>if b=true then te σ H1 K1 else K0 H1)->Kj tc te K1 K0 σ H)(n:Nat){σ:St}{H:Hp}{Q:VK}(h:lF X.K (xW cap n it bd c x) σ H Q):GN cap n (lI X.K it) (lG X.K bd) tc (lE X.K x) σ H Q:=by
 obtain⟨O0,r,out,hR,e,q⟩:=h;obtain⟨l,e1,e2⟩:=aG e;split at e2
 .rename_i hlen;refine⟨O0,r,l,hR,e1,λJ H1 s1 yl p hp=>?_⟩;have SW:H p=aD:=s1.free hp;refine⟨λi m ys σ2 H2=>m=l.length-i/\i<=l.length/\ys.length<=i/\H2 p=aA (.lst ys)/\aH H1 H2/\∃r2 dn qT,R X.K (λb=>Ow O0 r σ b\/b=p) H2 r2 σ2/\(∀a,¬jZ r2 σ2 a)/\IsL X.K (λb=>Ow O0 r σ b\/b=p) H2 dn ys/\kQ bd c x (l.drop i) r2=aA qT/\dn++qT=out,
   ⟨l.length,by simp,fg _,ah _,zJ,yD hp,ZE cap n r,[],out,?_,?_,.nil,by simpa using e2,rfl⟩,?_⟩
  .exact R.cap hR (s1.trans<|yD hp) SW zJ
  .rintro a ⟨i,l',e',_⟩;unfold ZE at e';by_cases hi:i<cap.length
   .rw[be<|by simpa using hi,bw] at e';obtain⟨j,hj⟩:∃j,cap[i]?=aA j:=⟨cap[i],by simp[hi]⟩;rw[hj] at e';have HN:(F3 r[j]?).own=aA l':=e';cases ej:r[j]? with
    |none=>rw[ej] at HN;cases HN
    |some y=>rw[ej] at HN;cases y<;>cases HN
   .rw[dk<|by simpa using qk hi,cw] at e';split at e'<;>cases e'
  .rintro i m ys σ2 H2 ⟨rfl,Dz,hyl,AU,s2,r2,dn,qT,R2,EY,fZ,e3,eo⟩;refine⟨AU,by omega,?_⟩;obtain⟨y1,y2⟩:=yl i H2 (λb=>Ow O0 r σ b\/b=p) (aH.kp s2 _) λa z nn=>z.elim id λz=>by subst z;exact absurd hp nn
   by_cases fM:i<l.length
   .obtain⟨go,yd⟩:=y1 fM;have hd:l[i]?=aA l[i]:=by simp[fM]
    rw[u5 hd] at e3;obtain⟨r3,e4,e5⟩:=aG e3;obtain⟨b,e6,e7⟩:=aG e5;refine .inr ⟨go,λv H3 yv=>?_⟩;obtain⟨s3,iv⟩:=yd v H3 yv;have R3:=R2.same s3;have Cq:∀a,Ow (λb=>Ow O0 r σ b\/b=p) r2 σ2 a->Ow O0 r σ a\/a=p:=λa z=>z.elim id λz=>absurd z<|EY a
    refine⟨_,r2,l[i],r3,R3,?_,e4,λσ4 R4 k4=>?_⟩
    .exact Is.mono (aH.kp (aH.refl H3) _) R3.o0 (λa z _=>Cq a z) _ _<|iv _ hd
    have BD:∀a,¬jZ r3 σ4 a:=λa z=>by
     rcases k4.new a z with z'|z'
     .exact EY a z'
     .obtain⟨xs,ex,_⟩:=R4.ol a<|.inr z;rw[z'] at ex;cases ex
    have ow4:∀a,Ow (λb=>Ow O0 r σ b\/b=p) r3 σ4 a->Ow O0 r σ a\/a=p:=λa z=>z.elim id λz=>absurd z<|BD a
    refine htc ⟨_,r3,b,R4,e6,λH5 s5=>?_⟩;have R5:=R4.same s5;cases b with
    |false=>
     rw[if_neg av] at e7;refine Eg ⟨l.length-(i+1),by omega,rfl,fM,by omega,(s3.trans s5) _ _ AU,s2.trans<|s3.trans s5,r3,dn,qT,R5,BD,?_,e7,eo⟩;exact fZ.same (s3.trans s5) R2.o0
    |true=>
     rw[if_pos rfl] at e7;obtain⟨y,e8,e9⟩:=aG e7;obtain⟨G9,LZ,LY⟩:=aY e9;refine Eh ⟨_,r3,y,R5,e8,λu H6 s6 iu=>?_⟩;have KD:=s3.trans<|s5.trans s6;have Lp:=KD _ _ AU;have R6:=R5.same s6;have kk:dZ (λb=>Ow O0 r σ b\/b=p) H6 (upd H6 p<|.lst<|ys++[u]):=λb' o e' nn=>by rw[zI λz=>nn<|.inr z];exact e'
     refine⟨Lp,l.length-(i+1),by omega,rfl,fM,by simp;omega,zJ,?_,r3,dn++[y],G9,?_,BD,?_,LZ,?_⟩
     .intro b' o e';have hb:b'≠p:=λz=>by subst z;rw[hp] at e';cases e'
      rw[zI hb];exact KD _ _<|s2 _ _ e'
     .refine⟨R6.len,λj d ej=>?_,λj m ej=>?_,R6.apart,λb' z=>?_,R6.loc,R6.par,λj f ks m ej=>?_⟩
      .obtain⟨w,q1,q2⟩:=R6.val j d ej;exact⟨w,q1,Is.mono (λb' o e' nn=>kk b' o e' λz=>nn<|.inl z) R6.ol (λ_ z _=>z) _ _ q2⟩
      .obtain⟨a',xs',q1,q2,_⟩:=R6.own j m ej;exact absurd ⟨j,m,vA ej,q1⟩<|BD a'
      .rcases z with z|z
       .by_cases hb:b'=p
        .subst hb;exact⟨_,zJ,trivial⟩
        .rw[zI hb];exact R6.o0 b'<|.inl z
       .subst z;exact⟨_,zJ,trivial⟩
      .obtain⟨a',kvs,q1,q2,_⟩:=R6.aI j f ks m ej;exact absurd ⟨j,m,by rw[ej];rfl,q1⟩<|BD a'
     .have i1:=fZ.same KD R2.o0;have i2:Is X.K (λb=>Ow O0 r σ b\/b=p) H6 y u:=Is.mono (aH.kp (aH.refl H6) _) R6.ol (λa z _=>.inl z) _ _ iu;exact IsL.mono kk R6.o0 (λ_ z _=>z) _ _<|i1.append<|.cons i2 .nil
     .rw[<-eo,<-LY];simp
   .have hl:l.drop i=[]:=ph (by omega);rw[hl] at e3;have e3':aA []=aA qT:=e3;cases e3';rw[ie] at eo;subst eo;exact .inl ⟨y2<|by omega,q p ys H2 (s1.trans s2) SW AU fZ⟩
 .cases e2
def cL(hc:X.calm=true)(o:sD X N' cap scope)(hi:DI X tg iter it)(hg:∀C fp s H,DG (eX X N' scope C fp s H) tg bd)(he:∀C fp s H,DE (eX X N' scope C fp s H) elt x)(n:Nat)(hn:N'.length=n:=by rfl)(hs:∀x,iq iter X.env x=pure x:=by intro _;rfl):DF X (.ListComp elt [⟨tg,iter,[],0⟩] scope pos) (xX cap n it bd x):=by
 subst hn;exact PE.aM (cX (g:=lG X.K bd) (te:=lE X.K x) (tc:=aD) hc o hi hg rfl he hs) λσ H Q h=>dP (tc:=aD) (λ{σ H K1 K0 te} z=>by
  obtain⟨O0,r,b,hR,e,q⟩:=z;unfold o7 at e;cases e;have z1:(if true=true then te σ H K1 else K0 H):=q H<|aH.refl H;rw[if_pos rfl] at z1;exact z1) N'.length h
def pM(hc:X.calm=true)(o:sD X N' cap scope)(hi:DI X tg iter it)(hg:∀C fp s H,DG (eX X N' scope C fp s H) tg bd)(ht:∀C fp s H,DT (eX X N' scope C fp s H) ce c)(he:∀C fp s H,DE (eX X N' scope C fp s H) elt x)(n:Nat)(hn:N'.length=n:=by rfl)(hs:∀x,iq iter X.env x=pure x:=by intro _;rfl):DF X (.ListComp elt [⟨tg,iter,[ce],0⟩] scope pos) (xW cap n it bd c x):=by
 subst hn;exact PE.aM (cX (g:=lG X.K bd) (te:=lE X.K x) (tc:=aA<|lT X.K c) hc o hi hg ⟨ce,rfl,ht⟩ he hs) λσ H Q h=>dP (tc:=aA<|lT X.K c) (λz=>z) N'.length h
end
def Cb(X:Cx)(scope:Scope):List Nat->List Str->Prop
 |[],_=>True
 |j::t,x::r=>X.N[j]?=aA x/\scope.names.lookup x=aA .free/\Cb X scope t r
 |_::_,[]=>False
def Cb.get:∀{cap:List Nat} {N':List Str},Cb X scope cap N'->∀(i j:Nat),cap[i]?=aA j->∃x,N'[i]?=aA x/\X.N[j]?=aA x/\scope.names.lookup x=aA .free
 |[],_,_,i,j,e=>by simp at e
 |k::t,[],h,_,_,_=>jk h
 |k::t,x::r,h,0,j,e=>by
  have e':k=j:=by simpa using e
  subst e';exact⟨x,rfl,h.1,h.2.1⟩
 |k::t,x::r,h,i+1,j,e=>by
  obtain⟨y,q1,q2⟩:=Cb.get h.2.2 i j (by simpa using e);exact⟨y,by simpa using q1,q2⟩
def Cb.len:∀{cap:List Nat} {N':List Str},Cb X scope cap N'->cap.length<=N'.length
 |[],_,_=>fg _
 |k::t,[],h=>jk h
 |k::t,x::r,h=>su<|Cb.len h.2.2
def uD(kind:scope.kind=.function:=by rfl)(nc:∀y∈scope.names,y.2≠.cell:=by decide +kernel)(nm:∀y∈scope.names,y.2=.local->scope.names.lookup y.1=aA .local:=by decide +kernel)(fr:∀y∈scope.names,y.2=.free->X.env.kindOf y.1=aA .cell\/X.env.kindOf y.1=aA .free:=by repeat (first|exact abb _|refine aam.mpr ⟨λe=>(by first|exact absurd e (by decide)|exact .inl rfl|exact .inr rfl),?_⟩))(HQ:Cb X scope cap N':=by repeat (first|exact trivial|refine⟨rfl,rfl,?_⟩)):sD X N' cap scope:=⟨kind,nc,nm,fr,HQ.get,HQ.len⟩
end DD
namespace ZZ
open PySem
def V_(h1:s.heap.IsTupleIter ti tu k)(h2:s.heap.IsTuple tu ys)(h3:ys[k]?=aA y)(h4:∀g,g.IsTupleIter ti tu (k+1)->gm ti s.heap g->Q y { s with heap:=g }):wpAny (model prog w) A (cr<|.ref ti) Q E s:=by
 obtain⟨a,ha,ca,da⟩:=id h1;obtain⟨b,hb,_,nb,db⟩:=h2;unfold cr;refine ac<|ee (name:=ia "__next__") h1.typeIs ng<|fu ng h1.typeIs xp ?_<|xn _;show wpAny _ _ (field (.ref ti) 0 >>= _) _ _ s;refine ac<|cu ha da (x:=.ref tu) rfl ?_;show wpAny _ _ (if (Value.ref tu == Value.none)=true then _ else _) _ _ s;rw[if_neg (show ¬((Value.ref tu == Value.none)=true) from av)];show wpAny _ _ (field (.ref ti) 1 >>= _) _ _ s;refine ac<|cu ha da (x:=.int k 0) rfl ?_;show wpAny _ _ (seqItems? (.ref tu) >>= _) _ _ s;refine ac<|gn hb db ?_;simp only[qc,h3];refine ac<|rb ha da (by simp)<|af ⟨y,rfl,af<|h4 _ ?_<|nj ..⟩;refine⟨_,ir _ ha<|ui<|lr da _,(Obj.cls_mapFields ..).trans ca,?_⟩;rw[lr da];simp[rawInt]
def ϭ(hh:A.handled=aD)(h1:s.heap.IsTupleIter ti tu k)(h2:s.heap.IsTuple tu ys)(h3:ys[k]?=aD)(h4:∀g e,aao ti s.heap g->(∃o,g.get? e=aA o/\o.cls=.type "StopIteration")->E (.ref e) { s with heap:=g }):wpAny (model prog w) A (cr<|.ref ti) Q E s:=by
 obtain⟨a,ha,ca,da⟩:=id h1;obtain⟨b,hb,_,nb,db⟩:=h2;unfold cr;refine ac<|ee (name:=ia "__next__") h1.typeIs ng<|fu ng h1.typeIs xp ?_<|xn _;show wpAny _ _ (field (.ref ti) 0 >>= _) _ _ s;refine ac<|cu ha da (x:=.ref tu) rfl ?_;show wpAny _ _ (if (Value.ref tu == Value.none)=true then _ else _) _ _ s;rw[if_neg (show ¬((Value.ref tu == Value.none)=true) from av)];show wpAny _ _ (field (.ref ti) 1 >>= _) _ _ s;refine ac<|cu ha da (x:=.int k 0) rfl ?_;show wpAny _ _ (seqItems? (.ref tu) >>= _) _ _ s;refine ac<|gn hb db ?_;simp only[qc,h3];refine ac<|re<|ac<|rb ha da (by simp) ?_;show wpAny _ _ (newExc (.type "StopIteration") [] >>= _) _ _ _;refine ac ?_;simp only[newExc,newTuple];refine ac (cz ?_<|by size_fits);refine ac (m:=firstArgMember _ _)<|io (a:=Value.none) (by first|rfl|(simp only[firstArgMember];rfl)) ?_;refine cz ?_ (by size_fits);simp only[raiseNew];refine ac<|wpAny_handled ?_;first|rw[show A.in1.handled=aD from hh]|rw[hh]
 refine ac<|af<|wpAny_throw ?_;exact h4 _ _ (((nj ..).extBut.push _).push _) ⟨_,ay _ rfl,rfl⟩
def qh8(hh:A.handled=aD)(ti tu:Addr)(ne:tu≠ti)(ys:Array Value):Draws prog w A ti [ti,tu] ys.size (λi v=>ys[i]?=aA v) (λi h=>h.IsTupleIter ti tu i/\h.IsTuple tu ys) where
 live:=λ_ _ st=>let ⟨o,e,_⟩:=st.1;⟨o,e⟩
 frame:=λ_ _ _ st k=>⟨st.1.at λo e=>k ti (by simp) o e,st.2.at λo e=>k tu (by simp) o e⟩
 item:=λi s Q E hi st q=>V_ st.1 st.2 (y:=ys[i]) (by simp[hi]) λg a b=>q _ g s.toks (by simp[hi]) ⟨a,st.2.at λo e=>b.extBut _ _ ne e⟩ b
 done:=λs Q E st q=>ϭ hh st.1 st.2 (by simp) q
structure Ap(z a b i j:Addr)(f g:List Addr):Prop where
 az:a≠z
 bz:b≠z
 iz:i≠z
 jz:j≠z
 ab:a≠b
 ai:a≠i
 aj:a≠j
 bi:b≠i
 bj:b≠j
 ij:i≠j
 fz:z∉f
 fb:b∉f
 fj:j∉f
 gz:z∉g
 gb:b∉g
 gi:i∉g
section
variable{R:Nat->Value->Prop}
def V1{Q:Value->Shared->Prop}(D:Draws prog w A i f n P S)(C:Draws prog w A j g m R U)(ap:Ap z a b i j f g)(hz:IsZip s.heap z a b .none)(ha:IsPair s.heap a (.ref i) (.ref j))(hb:IsPair s.heap b p q)(hS:S k s.heap)(hU:U k s.heap)(hn:k<n)(hm:k<m)(h:∀x y g' tk,P k x->R k y->IsZip g' z a b (rawInt s.heap.objs.size)->IsPair g' b x y->S (k+1) g'->U (k+1) g'->IsPair g' s.heap.objs.size x y->g'.objs.size=s.heap.objs.size+1 ->
   (∀c o,c≠z->c≠b->c≠i->c≠j->s.heap.get? c=aA o->g'.get? c=aA o)->Q (.ref s.heap.objs.size) { s with heap:=g',toks:=tk }):wpAny (model prog w) A (Builtin.«zip.__next__» ⟨[.ref z],[]⟩) (λr s'=>∃y,r=.done (.ret y)/\Q y s') E s:=by
 show wpAny _ _ (field (.ref z) 2 >>= _) _ _ _;refine ac<|cu hz rfl (x:=.bool false) rfl ?_;show wpAny _ _ (field (.ref z) 3 >>= _) _ _ _;refine ac<|cu hz rfl (x:=.ref a) rfl<|ac<|gn ha rfl ?_;show wpAny _ _ (cy (.ref z) >>= _) _ _ _;refine ac ?_;unfold cy;refine ac<|cu hz rfl (x:=.none) rfl<|af ?_;simp only[if_true];refine ac<|re<|ac<|cu hz rfl (x:=.ref b) rfl ?_;refine ac<|kg hz (by simp) λg1 z1 t1=>?_
 replace z1:IsZip g1 z a b .ellipsis:=z1
 have iT:∀{c:Addr} {o:Obj},c≠z->s.heap.get? c=aA o->g1.get? c=aA o:=λn e=>t1.extBut _ _ n e
 refine ac ?_;simp only[List.zipIdx_cons,List.zipIdx_nil,qr,uw];refine ac<|ac<|vg ?_;show wpAny _ _ (cr (.ref i) >>= _) _ _ _;refine ac<|D.item k _ _ _ hn (D.frame _ _ _ hS λc hc o e=>iT (λw'=>ap.fz<|w' ▸ hc) e) λx g2 Ai Px S2 t2=>af ?_;have b2:IsPair g2 b p q:=t2.extBut _ _ ap.bi<|iT ap.bz hb;refine ac<|gn b2 rfl<|ac<|um b2 λg3 b3 t3=>?_
 replace b3:IsPair g3 b x q:=b3
 refine ac<|qm<|af ?_;refine ac<|ac<|vg ?_;show wpAny _ _ (cr (.ref j) >>= _) _ _ _;have U3:U k g3:=C.frame _ _ _ hU λc hc o e=>t3.extBut _ _ (λw'=>ap.gb<|w' ▸ hc)<|t2.extBut _ _ (λw'=>ap.gi<|w' ▸ hc)<|iT (λw'=>ap.gz<|w' ▸ hc) e
 refine ac<|C.item k _ _ _ hm U3 λy g4 tk4 Ry U4 t4=>af ?_;have b4:IsPair g4 b x q:=t4.extBut _ _ ap.bj b3;refine ac<|gn b4 rfl<|ac<|um b4 λg5 b5 t5=>?_
 replace b5:IsPair g5 b x y:=b5
 refine ac<|qm<|af<|af ?_;refine ac<|gn b5 rfl<|ac<|wpAny_newTuple ?_;have sz:g5.objs.size=s.heap.objs.size:=by rw[t5.1,t4.1,t3.1,t2.1,t1.1]
 have z5:IsZip g5 z a b .ellipsis:=t5.extBut _ _ ap.bz.symm<|t4.extBut _ _ ap.jz.symm<|t3.extBut _ _ ap.bz.symm<|t2.extBut _ _ ap.iz.symm z1;have k5:∀c o,c≠z->c≠b->c≠i->c≠j->s.heap.get? c=aA o->g5.get? c=aA o:=λc o c1 c2 c3 c4 e=>t5.extBut _ _ c2<|t4.extBut _ _ c4<|t3.extBut _ _ c2<|t2.extBut _ _ c3<|iT c1 e
 have S5:S (k+1) g5:=D.frame _ _ _ S2 λc hc o e=>t5.extBut _ _ (λw'=>ap.fb<|w' ▸ hc)<|t4.extBut _ _ (λw'=>ap.fj<|w' ▸ hc)<|t3.extBut _ _ (λw'=>ap.fb<|w' ▸ hc) e
 have U5:U (k+1) g5:=C.frame _ _ _ U4 λc hc o e=>t5.extBut _ _ (λw'=>ap.gb<|w' ▸ hc) e
 have zl:z<g5.objs.size:=al z5;show wpAny _ _ (vc (.ref z) (.ref g5.objs.size) >>= _) _ _ _;refine ac ?_;unfold vc;have z6:IsZip (g5.push { cls:=.type "tuple",data:=.seq #[x,y] }) z a b .ellipsis:=ad _ z5;refine ac<|kg z6 (by simp) λg7 z7 t7=>?_
 replace z7:IsZip g7 z a b (rawInt g5.objs.size):=z7
 refine kg z7 (by simp) λg8 z8 t8=>?_
 replace z8:IsZip g8 z a b (rawInt g5.objs.size):=z8
 have up:∀c o,c≠z->g5.get? c=aA o->g8.get? c=aA o:=λc o c1 e=>t8.extBut _ _ c1<|t7.extBut _ _ c1<|ad _ e
 have p8:IsPair g8 g5.objs.size x y:=t8.extBut _ _ (ib zl)<|t7.extBut _ _ (ib zl)<|ay _ rfl;have s8:g8.objs.size=g5.objs.size+1:=by rw[t8.1,t7.1,kh]
 rw[sz] at z8 p8 s8;refine af ⟨_,rfl,(?_)⟩;show Q (.ref g5.objs.size) _;rw[sz];exact h x y g8 _ Px Ry z8 (up _ _ ap.bz b5) (D.frame _ _ _ S5 λc hc o e=>up c o (λw'=>ap.fz<|w' ▸ hc) e) (C.frame _ _ _ U5 λc hc o e=>up c o (λw'=>ap.gz<|w' ▸ hc) e) p8 s8 λc o c1 c2 c3 c4 e=>up c o c1<|k5 c o c1 c2 c3 c4 e
def U9(D:Draws prog w A i f n P S)(C:Draws prog w A j g m R U)(ap:Ap z a b i j f g)(hz:IsZip s.heap z a b .none)(ha:IsPair s.heap a (.ref i) (.ref j))(hb:IsPair s.heap b p q)(hS:S k s.heap)(hU:U k s.heap)(hk:(k=n)\/(k<n/\k=m))(h:∀g' e,(∀c o,c≠z->c≠b->c≠i->c≠j->s.heap.get? c=aA o->g'.get? c=aA o)->(∃o,g'.get? e=aA o/\o.cls=.type "StopIteration")->∀tk,E (.ref e) { s with heap:=g',toks:=tk }):wpAny (model prog w) A (se.«zip.__next__» ⟨[.ref z],[]⟩) Q E s:=by
 show wpAny _ _ (field (.ref z) 2 >>= _) _ _ _;refine ac<|cu hz rfl (x:=.bool false) rfl ?_;show wpAny _ _ (field (.ref z) 3 >>= _) _ _ _;refine ac<|cu hz rfl (x:=.ref a) rfl<|ac<|gn ha rfl ?_;show wpAny _ _ (cy (.ref z) >>= _) _ _ _;refine ac ?_;unfold cy;refine ac<|cu hz rfl (x:=.none) rfl<|af ?_;simp only[if_true];refine ac<|re<|ac<|cu hz rfl (x:=.ref b) rfl ?_;refine ac<|kg hz (by simp) λg1 z1 t1=>?_
 replace z1:IsZip g1 z a b .ellipsis:=z1
 have iT:∀{c:Addr} {o:Obj},c≠z->s.heap.get? c=aA o->g1.get? c=aA o:=λn e=>t1.extBut _ _ n e
 refine ac ?_;simp only[List.zipIdx_cons,List.zipIdx_nil,qr,uw];refine ac<|ac<|vg ?_;show wpAny _ _ (cr (.ref i) >>= _) _ _ _;have S1:S k g1:=D.frame _ _ _ hS λc hc o e=>iT (λw'=>ap.fz<|w' ▸ hc) e
 rcases hk with hk|⟨hn,hk⟩
 .subst hk;refine ac<|D.done _ _ _ S1 λg2 e t2 he=>?_;obtain⟨oe,ho,ce⟩:=he;have z2:IsZip g2 z a b .ellipsis:=t2 _ _ ap.iz.symm z1;have ez:e≠z:=λx=>by subst x;rw[z2] at ho;cases ho;simp at ce
  exact kg z2 (by simp) λg3 _ t3=>h g3 e (λc o c1 _ c3 _ x=>t3.extBut _ _ c1<|t2 _ _ c3<|iT c1 x) ⟨oe,t3.extBut _ _ ez ho,ce⟩ _
 .subst hk;refine ac<|D.item k _ _ _ hn S1 λx g2 Ai Px S2 t2=>af ?_;have b2:IsPair g2 b p q:=t2.extBut _ _ ap.bi<|iT ap.bz hb;refine ac<|gn b2 rfl<|ac<|um b2 λg3 b3 t3=>?_;refine ac<|qm<|af ?_;refine ac<|ac<|vg ?_;show wpAny _ _ (cr (.ref j) >>= _) _ _ _;have U3:U k g3:=C.frame _ _ _ hU λc hc o e=>t3.extBut _ _ (λw'=>ap.gb<|w' ▸ hc)<|t2.extBut _ _ (λw'=>ap.gi<|w' ▸ hc)<|iT (λw'=>ap.gz<|w' ▸ hc) e
  refine ac<|C.done _ _ _ U3 λg4 e t4 he=>?_;obtain⟨oe,ho,ce⟩:=he;have z4:IsZip g4 z a b .ellipsis:=t4 _ _ ap.jz.symm<|t3.extBut _ _ ap.bz.symm<|t2.extBut _ _ ap.iz.symm z1;have ez:e≠z:=λx=>by subst x;rw[z4] at ho;cases ho;simp at ce
  exact kg z4 (by simp) λg5 _ t5=>h g5 e (λc o c1 c2 c3 c4 x=>t5.extBut _ _ c1<|t4 _ _ c4<|t3.extBut _ _ c2<|t2.extBut _ _ c3<|iT c1 x) ⟨oe,t5.extBut _ _ ez ho,ce⟩ _
end
noncomputable abbrev tI(t:Addr):Obj:={ cls:=.type "tuple_iterator",data:=.fields #[.ref t,.int 0 0] }
noncomputable abbrev tP(u v:Value):Obj:={ cls:=.type "tuple",data:=.seq #[u,v] }
noncomputable abbrev tZ(a b:Addr):Obj:={ cls:=.type "zip",data:=.fields #[.none,.bool false,.bool false,.ref a,.ref b] }
abbrev zH(h:Heap)(t u:Addr):Heap:=((((h.push<|tI t).push<|tI u).push<|tP (.ref h.objs.size)<|.ref (h.push<|tI t).objs.size).push<|tP .none .none).push<|tZ ((h.push<|tI t).push<|tI u).objs.size (((h.push<|tI t).push<|tI u).push<|tP (.ref h.objs.size)<|.ref (h.push<|tI t).objs.size).objs.size
def U6(t u:Addr)(xs ys:Array Value):Meets (Builtin.«zip.__new__» ⟨[.type "zip",.ref t,.ref u],[]⟩) (λ_ R s=>s.heap.IsTuple t xs/\s.heap.IsTuple u ys/\R (.ok<|.ret<|.ref ((((s.heap.push<|tI t).push<|tI u).push<|tP (.ref s.heap.objs.size)<|.ref (s.heap.push<|tI t).objs.size).push<|tP .none .none).objs.size) { s with heap:=zH s.heap t u }):=
 .of_wp λprog w A R s h=>by
  obtain⟨hp,g,d,tk,os⟩:=s;obtain⟨h1,h2,h⟩:=h;have SV:=sub_zip;have L1:Heap.IsTuple (Shared.heap ⟨hp,g,d,tk,os⟩) t xs:=h1;have L2:Heap.IsTuple (Shared.heap ⟨hp.push<|tI t,g,d,tk,os⟩) u ys:=h2.at λo e=>ad _ e
  wp_walk using vn L1,vn L2
  exact⟨_,rfl,h⟩
def U_(h1:s.heap.IsTuple t xs)(h2:s.heap.IsTuple u ys)(h:∀g,IsZip g (s.heap.objs.size+4) (s.heap.objs.size+2) (s.heap.objs.size+3) .none->IsPair g (s.heap.objs.size+2) (.ref s.heap.objs.size) (.ref<|s.heap.objs.size+1)->IsPair g (s.heap.objs.size+3) .none .none ->
   g.IsTupleIter s.heap.objs.size t 0->g.IsTupleIter (s.heap.objs.size+1) u 0->(∀c o,s.heap.get? c=aA o->g.get? c=aA o)->Q (.ref<|s.heap.objs.size+4) { s with heap:=g }):wpAny (model prog w) A (call (.type "zip") [.ref t,.ref u]) Q E s:=by
 refine callType_new F.called_zip (by decide) (F.typeCall_zip_2 _ _) (F.newCall_zip_2 _ _) (λobj=>F.args_object_init_3 obj _ _) F.entry_zip_new (U6 t u xs ys) ⟨h1,h2,?_⟩;have z1:(s.heap.push<|tI t).objs.size=s.heap.objs.size+1:=kh ..;have z2:((s.heap.push<|tI t).push<|tI u).objs.size=s.heap.objs.size+2:=by rw[kh,z1]
 have z3:(((s.heap.push<|tI t).push<|tI u).push<|tP (.ref s.heap.objs.size)<|.ref (s.heap.push<|tI t).objs.size).objs.size=s.heap.objs.size+3:=by rw[kh,z2]
 have z4:((((s.heap.push<|tI t).push<|tI u).push<|tP (.ref s.heap.objs.size)<|.ref (s.heap.push<|tI t).objs.size).push<|tP .none .none).objs.size=s.heap.objs.size+4:=by rw[kh,z3]
 have kp:∀c o,s.heap.get? c=aA o->(zH s.heap t u).get? c=aA o:=λc o x=>ad _<|ad _<|ad _<|ad _<|ad _ x
 have g1:(zH s.heap t u).get? s.heap.objs.size=aA (tI t):=ad _<|ad _<|ad _<|ad _<|ay _ rfl;have g2:(zH s.heap t u).get? (s.heap.push<|tI t).objs.size=aA (tI u):=ad _<|ad _<|ad _<|ay _ rfl;have g3:(zH s.heap t u).get? ((s.heap.push<|tI t).push<|tI u).objs.size=aA (tP (.ref s.heap.objs.size)<|.ref (s.heap.push<|tI t).objs.size):=ad _<|ad _<|ay _ rfl;have g4:(zH s.heap t u).get? (((s.heap.push<|tI t).push<|tI u).push<|tP (.ref s.heap.objs.size)<|.ref (s.heap.push<|tI t).objs.size).objs.size=aA (tP .none .none):=ad _<|ay _ rfl;have g5:(zH s.heap t u).get? ((((s.heap.push<|tI t).push<|tI u).push<|tP (.ref s.heap.objs.size)<|.ref (s.heap.push<|tI t).objs.size).push<|tP .none .none).objs.size=aA (tZ ((s.heap.push<|tI t).push<|tI u).objs.size (((s.heap.push<|tI t).push<|tI u).push<|tP (.ref s.heap.objs.size)<|.ref (s.heap.push<|tI t).objs.size).objs.size):=ay _ rfl;rw[z4] at g5 ⊢;rw[z3] at g4 g5;rw[z2] at g3 g5;rw[z1] at g2 g3;exact⟨⟨_,g5,rfl⟩,h _ g5 g3 g4 ⟨_,g1,rfl,rfl⟩ ⟨_,g2,rfl,rfl⟩ kp⟩
def Nl{R:Nat->Value->Prop}(D:Draws prog w A.in1 i f n P S)(C:Draws prog w A.in1 j g m R U)(ap:Ap z a b i j f g)(hz:IsZip s.heap z a b .none)(ha:IsPair s.heap a (.ref i) (.ref j))(hb:IsPair s.heap b p q)(hS:S k s.heap)(hU:U k s.heap)(hn:k<n)(hm:k<m)(h:∀x y g' tk,P k x->R k y->IsZip g' z a b (rawInt s.heap.objs.size)->IsPair g' b x y->S (k+1) g'->U (k+1) g'->IsPair g' s.heap.objs.size x y->g'.objs.size=s.heap.objs.size+1 ->
   (∀c o,c≠z->c≠b->c≠i->c≠j->s.heap.get? c=aA o->g'.get? c=aA o)->Q (aA<|.ref s.heap.objs.size) { s with heap:=g',toks:=tk }):wpAny (model prog w) A (pyNext<|.ref z) Q E s:=by
 have hT:s.TypeIs (.ref z) "zip" := ⟨_,hz,rfl⟩;unfold pyNext;refine ac<|nk<|ee (name:=ia "__next__") hT ko<|fu ko hT tm ?_<|rp _;refine jp (V1 (Q:=λv s'=>Q (aA v) s') D C ap hz ha hb hS hU hn hm h) (λfin s' hq=>?_) λ_ _ x=>x
 obtain⟨v,e,hq⟩:=hq;exact⟨v,e,af hq⟩
def Nm{R:Nat->Value->Prop}(D:Draws prog w A.in1 i f n P S)(C:Draws prog w A.in1 j g m R U)(ap:Ap z a b i j f g)(hz:IsZip s.heap z a b .none)(ha:IsPair s.heap a (.ref i) (.ref j))(hb:IsPair s.heap b p q)(hS:S k s.heap)(hU:U k s.heap)(hk:(k=n)\/(k<n/\k=m))(h:∀g' tk,(∀c o,c≠z->c≠b->c≠i->c≠j->s.heap.get? c=aA o->g'.get? c=aA o)->Q aD { s with heap:=g',toks:=tk }):wpAny (model prog w) A (pyNext<|.ref z) Q E s:=by
 have hT:s.TypeIs (.ref z) "zip" := ⟨_,hz,rfl⟩;unfold pyNext;refine ac<|nk<|ee (name:=ia "__next__") hT ko<|fu ko hT tm (U9 D C ap hz ha hb hS hU hk λg' e kp he tk=>?_)<|rp _;obtain⟨o,ho,hc⟩:=he;refine ac<|sn (T:="StopIteration") (b:=true) ⟨o,ho,hc⟩ xq ?_;exact af<|h _ _ kp
end ZZ
namespace DD
open PySem PySem.Spec PyProof.Rows L2
def YW{ch:List Addr}(I:Inv X pZ σ H s)(iA:∀b∈ch,rC X pZ H b)(hT:s.heap.objs.size<=T)(kp:∀b o,b∉ch->s.heap.get? b=aA o->h'.get? b=aA o)(hz:vs.length<=ae)(hv:Vals vs its)(ht:IsTup h' T its.toArray):Inv X pZ σ (upd H T<|.tup vs) { s with heap:=h',toks:=t' }:=by
 have hn:H T=aD:=I.aT.fresh hT;have old:∀{b:Addr} {o:Obj},s.heap.get? b=aA o->b≠T:=λe=>bf<|bb (al e) hT
 have tr:∀{b:Addr} {u:HO},H b=aA u->b≠T:=λe=>xY e hn
 have EN:∀{b:Addr} {u:HO},H b=aA u->b∉ch:=λ{b u} e z=>by rw[(iA b z).1] at e;cases e
 refine I.step (g':=s.gens) (d':=s.drawn) (ch:=ch) (λb hb=>⟨(iA b hb).2.2.2.1,(iA b hb).2.1,(iA b hb).2.2.2.2.1,(iA b hb).2.2.2.2.2⟩) (λb o _ _ hc e _=>kp b o hc e) (λb o _ _ hc e _=>⟨o.slots,kp b o hc e⟩)
  (λb o _ e n=>by rw[zI<|old e];exact n) (λb o hc e=>⟨o,kp b o hc e⟩) (λb xs e=>by rw[zI<|tr e];exact e) (λb o u e=>by rw[zI<|tr e];exact e) (λb ps e=>⟨#[],by rw[zI<|tr e,e];simp⟩) (λm hm=>?_) (λb u e=>?_) I.bare
 .obtain⟨o,es,ep,ho,r⟩:=hm;exact⟨o,es,ep,kp _ o (λz=>(iA _ z).2.1 rfl) ho,r⟩
 .by_cases hb:b=T
  .subst hb;rw[zJ] at e;cases e;exact⟨hz,its,hv,ht⟩
  .rw[zI hb] at e;refine(I.aT b u e).A' (λc v hc q=>kp c v ?_ q) (λc q=>by rw[zI<|tr q];exact q) (λc xs q=>by rw[zI<|tr q];exact q) λc o u q=>by rw[zI<|tr q];exact q
   rcases hc with z|z
   .rw[z];exact EN e
   .exact EN z
def pI{ch:List Addr}(I:Inv X pZ σ H s)(iA:∀b∈ch,rC X pZ H b)(kp:∀b o,b∉ch->s.heap.get? b=aA o->h'.get? b=aA o):Inv X pZ σ H { s with heap:=h',toks:=t' }:=by
 have EN:∀{b:Addr} {u:HO},H b=aA u->b∉ch:=λ{b u} e z=>by rw[(iA b z).1] at e;cases e
 refine I.step (g':=s.gens) (d':=s.drawn) (ch:=ch) (λb hb=>⟨(iA b hb).2.2.2.1,(iA b hb).2.1,(iA b hb).2.2.2.2.1,(iA b hb).2.2.2.2.2⟩) (λb o _ _ hc e _=>kp b o hc e) (λb o _ _ hc e _=>⟨o.slots,kp b o hc e⟩)
  (λb o _ e n=>n) (λb o hc e=>⟨o,kp b o hc e⟩) (λb xs e=>e) (λb o u e=>e) (λb ps e=>⟨#[],by rw[e];simp⟩) (λm hm=>?_) (λb u e=>?_) I.bare
 .obtain⟨o,es,ep,ho,r⟩:=hm;exact⟨o,es,ep,kp _ o (λz=>(iA _ z).2.1 rfl) ho,r⟩
 .refine(I.aT b u e).A' (λc v hc q=>kp c v ?_ q) (λ_ q=>q) (λ_ _ q=>q) λ_ _ _ q=>q
  rcases hc with z|z
  .rw[z];exact EN e
  .exact EN z
def JB{h:Heap}{a b:Addr}{o o':Obj}{n m:String}(e:h.get? a=aA o)(c:o.cls=.type n)(e':h.get? b=aA o')(c':o'.cls=.type m)(d:n≠m):a≠b:=by
 rintro rfl;rw[e] at e';cases e';rw[c] at c';injection c' with q;exact d q
def Ni(K:Fg)(a:Addr):It:=
 ⟨λi H=>∃xs x,aX K H a xs/\xs[i]?=aA x,λi H x H'=>∃T y,x=.ref T/\H T=aD/\H'=upd H T (.tup [.int i,y])/\∀xs,aX K H a xs->xs[i]?=aA y,λi H=>∃xs,aX K H a xs/\xs.length=i⟩
def X8{P:Program}{w:World}{K:Fg}{elts:List Expr}{k:Nat}{tp:Pos}(a e it:Addr)(Tb:e≠it):Turn P w K (.Tuple elts k tp) (Ni K a) [e,it] e (λi h=>(∃old,IsEnum h e it i old)/\h.IsListIter it a i) where
 mem:=by simp
 obj:=λi h st b hb=>by
  obtain⟨⟨old,h1⟩,o,h2,h3,h4⟩:=st;have AV:b=e\/b=it:=by simpa using hb
  rcases AV with rfl|rfl
  .exact⟨_,h1,λv z=>by cases z⟩
  .exact⟨o,h2,λv z=>by rw[h4] at z;cases z⟩
 keep:=λi h g st kp=>⟨let ⟨old,h1⟩:=st.1;⟨old,kp e (by simp) _ h1⟩,st.2.at λo q=>kp it (by simp) o q⟩
 item:=by
  intro X hP hw hK hc i pZ s σ H E I hf st hg;subst hP hw hK;obtain⟨xs,x,hq,hx⟩:=hg;obtain⟨its,rv,p,hz⟩:=I.list hq;obtain⟨u,hu,ru⟩:=rv.get hx;obtain⟨oa,na,ea,ca,_⟩:=id p;obtain⟨⟨old,h1⟩,oi,h2,h3,h4⟩:=id st;have LJ:a≠e:=JB ea ca h1 rfl (by decide);have LI:a≠it:=JB ea ca h2 h3 (by decide);have W:=WalksT.enumerate (prog:=X.prog) (w:=X.w) (A:=X.A) (I.ok.hd hc) e it a Tb LJ LI its.toArray;have hi:i<its.toArray.size:=by
   obtain⟨q,_⟩:=aq.mp hu;simpa using q
  refine W.item i s _ _ hi ⟨st.1,st.2,p.isList⟩ λT vals g tk pt hT Le mid kp=>⟨_,rfl,W.go elts k tp i T _ _ _ mid λg2 fU lZ=>?_⟩
  obtain⟨t,y,hy,rfl⟩:=pt;have E':y=u:=by
   have:its[i]?=aA y:=by simpa using hy
   rw[hu] at this;exact(bu this).symm
  subst E';have qd7:IsTup g2 T #[.int i t,y]:=by
   obtain⟨o,q1,q2⟩:=Le;exact⟨o,lZ T o (W.apart i T _ mid) q1,q2⟩
  refine⟨.ref T,upd H T<|.tup [.int i,x],YW (s:=s) (t':=tk) I (its:=[.int i t,y]) (ch:=[e,it]) hf hT (λb o hb q=>lZ b o hb<|kp b o hb q) (by show 2<=ae;decide) (.cons ⟨t,rfl⟩<|.cons ru .nil) qd7,rfl,⟨T,x,rfl,I.aT.fresh hT,rfl,λys hys=>by rw[I.Hm hys hq];exact hx⟩,⟨fU.1,fU.2.1⟩,λb hb=>?_⟩;have hbT:b≠T:=by
   have AV:b=e\/b=it:=by simpa using hb
   rcases AV with rfl|rfl
   .exact bf<|bb (al h1) hT
   .exact bf<|bb (al h2) hT
  rw[zI hbT];exact(hf b hb).1
 done:=by
  intro X hP hw hK hc i pZ s σ H E I hf st hg;subst hP hw hK;obtain⟨xs,hq,hx⟩:=hg;obtain⟨its,rv,p,hz⟩:=I.list hq;obtain⟨oa,na,ea,ca,_⟩:=id p;obtain⟨⟨old,h1⟩,oi,h2,h3,h4⟩:=id st;have LJ:a≠e:=JB ea ca h1 rfl (by decide);have LI:a≠it:=JB ea ca h2 h3 (by decide);have W:=WalksT.enumerate (prog:=X.prog) (w:=X.w) (A:=X.A) (I.ok.hd hc) e it a Tb LJ LI its.toArray;have hl:its.toArray.size=i:=by rw[ak,<-rv.length];exact hx
  exact W.done s _ _ (by rw[hl];exact⟨st.1,st.2,p.isList⟩) λg tk kp=>⟨rfl,pI I hf kp⟩
 self:=λ_ _ _ _ _ st h=>let ⟨⟨_,h1⟩,_⟩:=st;wpAny_pyIter_enum h1 h
def Iw(sq:Hp->Addr->List V->Prop)(a b:Addr):It:=
 ⟨λi H=>∃xs ys x y,sq H a xs/\sq H b ys/\xs[i]?=aA x/\ys[i]?=aA y,λi H x H'=>∃T u v,x=.ref T/\H T=aD/\H'=upd H T (.tup [u,v])/\(∀xs,sq H a xs->xs[i]?=aA u)/\∀ys,sq H b ys->ys[i]?=aA v,λi H=>∃xs ys,sq H a xs/\sq H b ys/\(xs.length=i\/(i<xs.length/\ys.length=i))⟩
def N3(I:Inv X pZ σ H s)(h:X.K.lookup a=aA o)(f:rC X pZ H b):a≠b:=by
 rintro rfl;have e:=I.ok.mod.Bf a o h;rcases f.2.2.2.1 with z|z
 .exact I.ok.Df a o e z
 .exact absurd (bb (bb (al e) I.ok.A0) z)<|iw _
def N4(h:Rd H a u)(f:rC X pZ H b):a≠b:=by
 rintro rfl;obtain⟨o,e⟩:=Rd.some h;rw[f.1] at e;cases e
structure Dw(K:Fg)(sq:Hp->Addr->List V->Prop)(CB:Heap->Addr->Addr->Nat->Prop)(nm:String):Prop where
 get:∀{X:Cx} {pZ σ H s a xs},X.K=K->Inv X pZ σ H s->sq H a xs->∃its:List Value,Vals xs its/\xs.length<=ae/\∃o,s.heap.get? a=aA o/\o.cls=.type nm/\∃n,o.data=.seq its.toArray n
 inj:∀{X:Cx} {pZ σ H s a xs ys},X.K=K->Inv X pZ σ H s->sq H a xs->sq H a ys->xs=ys
 ne:∀{X:Cx} {pZ σ H s a xs b},X.K=K->Inv X pZ σ H s->sq H a xs->rC X pZ H b->a≠b
 it:∀{h i a k},CB h i a k->∃o,h.get? i=aA o/\∃vs,o.data=.fields vs
 at_:∀{h h':Heap} {i a k},CB h i a k->(∀o,h.get? i=aA o->h'.get? i=aA o)->CB h' i a k
 dr:∀{prog w A} (_:A.handled=aD) (i a:Addr) (_:a≠i) (ys:Array Value),Draws prog w A i [i,a] ys.size (λk v=>ys[k]?=aA v) (λk h=>CB h i a k/\∃o,h.get? a=aA o/\o.cls=.type nm/\∃n,o.data=.seq ys n)
def TB(K:Fg):Dw K (aX K) Heap.IsListIter "list" where
 get:=λ{X pZ σ H s a xs} hK I h=>by
  subst hK;obtain⟨its,r,⟨o,n,e,c,_,d⟩,z⟩:=I.list h;exact⟨its,r,z,o,e,c,n,d⟩
 inj:=λ{X pZ σ H s a xs ys} hK I h g=>by subst hK;exact I.Hm h g
 ne:=λ{X pZ σ H s a xs b} hK I h f=>by
  subst hK;rcases h with h|⟨o,_,_,hk,_⟩
  .exact N4 h f
  .exact N3 I hk f
 it:=λ{h i a k} ⟨o,e,c,d⟩=>⟨o,e,_,d⟩
 at_:=λh k=>h.at k
 dr:=λhh i a ne ys=>Draws.list hh i a ne ys
def Ya(K:Fg):Dw K (d_ K) Heap.IsTupleIter "tuple" where
 get:=λ{X pZ σ H s a xs} hK I h=>by
  subst hK;obtain⟨its,r,⟨o,e,c,n,d⟩,z⟩:=I.tuple h;exact⟨its,r,z,o,e,c,n,d⟩
 inj:=λ{X pZ σ H s a xs ys} hK I h g=>by subst hK;exact I.Kr h g
 ne:=λ{X pZ σ H s a xs b} hK I h f=>by
  subst hK;rcases h with h|⟨o,_,_,hk,_⟩
  .exact N4 h f
  .exact N3 I hk f
 it:=λ{h i a k} ⟨o,e,c,d⟩=>⟨o,e,_,d⟩
 at_:=λh k=>h.at k
 dr:=λhh i a ne ys=>ZZ.qh8 hh i a ne ys
structure ZA(z p q i j:Addr):Prop where
 pz:p≠z
 qz:q≠z
 iz:i≠z
 jz:j≠z
 pq:p≠q
 pi:p≠i
 pj:p≠j
 qi:q≠i
 qj:q≠j
 ij:i≠j
def ϟ{K:Fg}(W:Dw K sq CB nm)(a b z p q i j:Addr)(ap:ZA z p q i j):Turn P w K (.Tuple elts k tp) (Iw sq a b) [z,p,q,i,j] z (λn h=>IsZip h z p q .none/\IsPair h p (.ref i) (.ref j)/\(∃u v,IsPair h q u v)/\CB h i a n/\CB h j b n) where
 mem:=by simp
 obj:=λn h st c hc=>by
  obtain⟨h1,h2,⟨u,v,h3⟩,h4,h5⟩:=st;obtain⟨oi,ei,vi,di⟩:=W.it h4;obtain⟨oj,ej,vj,dj⟩:=W.it h5;have CH:c=z\/c=p\/c=q\/c=i\/c=j:=by simpa using hc
  rcases CH with rfl|rfl|rfl|rfl|rfl
  .exact⟨_,h1,λv z=>by cases z⟩
  .exact⟨_,h2,λv z=>by cases z⟩
  .exact⟨_,h3,λv z=>by cases z⟩
  .exact⟨_,ei,λv z=>by rw[di] at z;cases z⟩
  .exact⟨_,ej,λv z=>by rw[dj] at z;cases z⟩
 keep:=λn h g st kp=>by
  obtain⟨h1,h2,⟨u,v,h3⟩,h4,h5⟩:=st;exact⟨kp z (by simp) _ h1,kp p (by simp) _ h2,⟨u,v,kp q (by simp) _ h3⟩,W.at_ h4 λo e=>kp i (by simp) o e,W.at_ h5 λo e=>kp j (by simp) o e⟩
 item:=by
  intro X hP hw hK hc n pZ s σ H E I hf st hg;subst hP hw;obtain⟨xs,ys,x,y,hx,hy,ex,ey⟩:=hg;obtain⟨its,rv,hzx,oa,ea,ca,na,da⟩:=W.get hK I hx;obtain⟨fC,Bz,hzy,ob,eb,cb,nb,db⟩:=W.get hK I hy;obtain⟨u,hu,ru⟩:=rv.get ex;obtain⟨v,hv,k_⟩:=Bz.get ey;obtain⟨h1,h2,⟨u0,v0,h3⟩,h4,h5⟩:=st;have fa:∀c∈[z,p,q,i,j],a≠c:=λc hc=>W.ne hK I hx<|hf c hc
  have fb:∀c∈[z,p,q,i,j],b≠c:=λc hc=>W.ne hK I hy<|hf c hc
  have hn:n<its.toArray.size:=by obtain⟨q',_⟩:=aq.mp hu;simpa using q'
  have hm:n<fC.toArray.size:=by obtain⟨q',_⟩:=aq.mp hv;simpa using q'
  have Ma:ZZ.Ap z p q i j [i,a] [j,b]:=⟨ap.pz,ap.qz,ap.iz,ap.jz,ap.pq,ap.pi,ap.pj,ap.qi,ap.qj,ap.ij,
   by simp;exact⟨ap.iz.symm,(fa z<|by simp).symm⟩,by simp;exact⟨ap.qi,(fa q<|by simp).symm⟩,by simp;exact⟨ap.ij.symm,(fa j<|by simp).symm⟩,by simp;exact⟨ap.jz.symm,(fb z<|by simp).symm⟩,by simp;exact⟨ap.qj,(fb q<|by simp).symm⟩,by simp;exact⟨ap.ij,(fb i<|by simp).symm⟩⟩
  refine ZZ.Nl (W.dr (A:=X.A.in1) (I.ok.hd hc) i a (fa i<|by simp) its.toArray) (W.dr (A:=X.A.in1) (I.ok.hd hc) j b (fb j<|by simp) fC.toArray) Ma h1 h2 h3 ⟨h4,oa,ea,ca,na,da⟩ ⟨h5,ob,eb,cb,nb,db⟩ hn hm λx' y' g tk px py z1 q1 s1 u1 t1 sz kp=>⟨_,rfl,?_⟩
  refine wpAny_letOwnedTupleGo_zip z1 λg2 z2 sb=>?_
  have q_:x'=u:=by
   have:its[n]?=aA x':=by simpa using px
   rw[hu] at this;exact(bu this).symm
  have E':y'=v:=by
   have:fC[n]?=aA y':=by simpa using py
   rw[hv] at this;exact(bu this).symm
  subst q_ E';have zl:z<s.heap.objs.size:=al h1;have lZ:∀c o,c∉[z,q,i,j]->s.heap.get? c=aA o->g2.get? c=aA o:=λc o hc e=>by
   simp at hc;exact sb.extBut _ _ hc.1<|kp c o hc.1 hc.2.1 hc.2.2.1 hc.2.2.2 e
  have Le:IsTup g2 s.heap.objs.size #[x',y']:=⟨_,sb.extBut _ _ (ib zl) t1,rfl,_,rfl⟩;have LA:∀c∈[z,q,i,j],rC X pZ H c:=λc hc=>hf c (by simp at hc ⊢;rcases hc with h|h|h|h<;>simp[h])
  refine⟨.ref s.heap.objs.size,upd H s.heap.objs.size<|.tup [x,y],YW (s:=s) (t':=tk) I (its:=[x',y']) (ch:=[z,q,i,j]) LA (ah _) lZ (by show 2<=ae;decide) (.cons ru<|.cons k_ .nil) Le,rfl,⟨_,x,y,rfl,I.aT.fresh<|ah _,rfl,λzs Lg=>by rw[W.inj hK I Lg hx];exact ex,λzs Lg=>by rw[W.inj hK I Lg hy];exact ey⟩,?_,λc hc=>?_⟩
  .refine⟨z2,sb.extBut _ _ ap.pz<|kp p _ ap.pz ap.pq ap.pi ap.pj h2,⟨_,_,sb.extBut _ _ ap.qz q1⟩,W.at_ s1.1 λo e=>sb.extBut _ _ ap.iz e,W.at_ u1.1 λo e=>sb.extBut _ _ ap.jz e⟩
  .have fM:c<s.heap.objs.size:=by
    obtain⟨oi,ei,_⟩:=W.it h4;obtain⟨oj,ej,_⟩:=W.it h5;simp at hc;rcases hc with rfl|rfl|rfl|rfl|rfl
    .exact zl
    .exact al h2
    .exact al h3
    .exact al ei
    .exact al ej
   rw[zI<|bf fM];exact(hf c hc).1
 done:=by
  intro X hP hw hK hc n pZ s σ H E I hf st hg;subst hP hw;obtain⟨xs,ys,hx,hy,hl⟩:=hg;obtain⟨its,rv,hzx,oa,ea,ca,na,da⟩:=W.get hK I hx;obtain⟨fC,Bz,hzy,ob,eb,cb,nb,db⟩:=W.get hK I hy;obtain⟨h1,h2,⟨u0,v0,h3⟩,h4,h5⟩:=st;have fa:∀c∈[z,p,q,i,j],a≠c:=λc hc=>W.ne hK I hx<|hf c hc
  have fb:∀c∈[z,p,q,i,j],b≠c:=λc hc=>W.ne hK I hy<|hf c hc
  have e1:=rv.length;have e2:=Bz.length;have Ma:ZZ.Ap z p q i j [i,a] [j,b]:=⟨ap.pz,ap.qz,ap.iz,ap.jz,ap.pq,ap.pi,ap.pj,ap.qi,ap.qj,ap.ij,
   by simp;exact⟨ap.iz.symm,(fa z<|by simp).symm⟩,by simp;exact⟨ap.qi,(fa q<|by simp).symm⟩,by simp;exact⟨ap.ij.symm,(fa j<|by simp).symm⟩,by simp;exact⟨ap.jz.symm,(fb z<|by simp).symm⟩,by simp;exact⟨ap.qj,(fb q<|by simp).symm⟩,by simp;exact⟨ap.ij,(fb i<|by simp).symm⟩⟩
  have LA:∀c∈[z,q,i,j],rC X pZ H c:=λc hc=>hf c (by simp at hc ⊢;rcases hc with h|h|h|h<;>simp[h])
  refine ZZ.Nm (W.dr (A:=X.A.in1) (I.ok.hd hc) i a (fa i<|by simp) its.toArray) (W.dr (A:=X.A.in1) (I.ok.hd hc) j b (fb j<|by simp) fC.toArray) Ma h1 h2 h3 ⟨h4,oa,ea,ca,na,da⟩ ⟨h5,ob,eb,cb,nb,db⟩ ?_ λg tk kp=>⟨rfl,pI I LA λc o hc e=>?_⟩
  .simp only[ak];rcases hl with h|⟨h,h'⟩
   .left;omega
   .right;omega
  .simp at hc;exact kp c o hc.1 hc.2.1 hc.2.2.1 hc.2.2.2 e
 self:=λ_ _ _ _ _ st h=>wu st.1 h
section
variable{X:Cx}{pos:Pos}{a b c:Expr}{f g h:ME}
def Wi(ha:DE X a f):DE X (.UnaryOp .USub a pos) (aU XS f):=Vg Ph (λO H dx d vx Q i e q=>by
 cases dx<;>first|(simp only[XS,reduceCtorEq] at e;done)|skip
 simp only[XS,fw] at e;subst e;rw[zG] at i;exact⟨_,i,q _<|by rw[zG]⟩) ha
noncomputable def YX:List D->Option (List Int)
 |[]=>aA []
 |.int i::r=>(YX r).map (i::·)
 |_=>aD
noncomputable def Ek(fs:ML):ME:=λr=>(fs r).bind λl=>match l with
 |[.int i,.int j]=>aA<|.int (if j > i then j else i)
 |[.int i,.int j,.int k]=>aA<|.int (if j > i then (if k > j then k else j) else (if k > i then k else i))
 |_=>aD
def JI(hc:X.calm=true):iW X (.builtin "max") (λxs H Q=>∃i j k,xs=[.int i,.int j,.int k]/\Q (.int (if j > i then (if k > j then k else j) else (if k > i then k else i))) H):=by
 intro pZ s σ H xs us Q I r hq;obtain⟨i,j,k,rfl,q⟩:=hq;cases r with
 |cons r1 r=>
  obtain⟨u2,u3,rfl,⟨t2,rfl⟩,⟨t3,rfl⟩⟩:=dW r;obtain⟨t1,rfl⟩:=r1;refine max_three_ints (I.ok.hd hc) λh' tk kp=>⟨_,H,I.kept kp,?_,q⟩
  split<;>split<;>exact⟨_,rfl⟩
def Wh(hc:X.calm=true)(hg:Gl X "max")(hm:X.mg "max" = aD)(ha:DA X (a::es) fs)(hs:i_ X a es:=by rfl)(hpl:JV X es pos:=by rfl):DE X (.Call (.Name "max" p') (a::es) [] pos) (Ek fs):=by
 refine PE.aM (kX ((JJ hc).or<|JI hc) hg hm uh ha (he:=hs) (hpl:=hpl)) λσ H Q hq=>?_
 obtain⟨O0,r,d,hR,e,q⟩:=hq;obtain⟨l,e1,e2⟩:=aG e;refine⟨O0,r,l,hR,e1,λvs H1 s1 il=>?_⟩;split at e2
 .cases e2;obtain⟨v,u,rfl,i1,i2⟩:=il.inv2;rw[zG] at i1 i2;exact .inl ⟨_,_,by rw[i1,i2],q _ H1 s1<|by rw[zG]⟩
 .cases e2;obtain⟨v,u,w,rfl,i1,i2,i3⟩:=il.qd8;rw[zG] at i1 i2 i3;exact .inr ⟨_,_,_,by rw[i1,i2,i3],q _ H1 s1<|by rw[zG]⟩
 .cases e2
def YK(fl:ML):ME:=λr=>(fl r).bind λl=>(YX l).bind λns=>match ns with
 |[]=>aD
 |i::t=>aA<|.int<|t.foldl max i
theorem dI{K:Fg}:∀{l:List D} {ns:List Int} {vs:List V},YX l=aA ns->IsL K O H l vs->vs=ns.map V.int
 |[],ns,vs,e,il=>by cases e;unfold IsL at il;subst il;rfl
 |d::l,ns,vs,e,il=>by
  unfold IsL at il;obtain⟨v,r,rfl,i1,i2⟩:=il;cases d<;>first|(simp only[YX,reduceCtorEq] at e;done)|skip
  simp only[YX] at e;obtain⟨ms,e1,rfl⟩:=aY e;rw[zG] at i1;rw[i1,dI e1 i2];rfl
theorem dM:∀(t:List Int) (i:Int),t.foldl max i∈i::t/\∀x∈i::t,x<=t.foldl max i
 |[],i=>⟨dz,λx hx=>by simp at hx;rw[hx];exact Int.le_refl _⟩
 |j::t,i=>by
  obtain⟨h1,h2⟩:=dM t<|max i j;refine⟨?_,λx hx=>?_⟩
  .rw[kn];rcases bq.mp h1 with z|z
   .rw[z];rcases Int.le_total i j with y|y
    .rw[Int.max_eq_right y];simp
    .rw[Int.max_eq_left y];simp
   .exact bh _<|bh _ z
  .rw[kn];have hm:=h2 (max i j) dz;rcases bq.mp hx with z|z
   .rw[z];exact Int.le_trans (Int.le_max_left i j) hm
   .rcases bq.mp z with z|z
    .rw[z];exact Int.le_trans (Int.le_max_right i j) hm
    .exact h2 x<|bh _ z
def JG(hc:X.calm=true):iW X (.builtin "max") (λxs H Q=>∃p i ns,xs=[.ref p]/\aX X.K H p ((i::ns).map V.int)/\Q (.int<|ns.foldl max i) H):=by
 intro pZ s σ H xs us Q I r hq;obtain⟨p,i,ns,rfl,hS,q⟩:=hq;obtain⟨u,rfl,ru⟩:=Vals.one r;cases ru;obtain⟨its,rv,pl,hz⟩:=I.list hS;have hi:IntsAre its (i::ns):=bL rv;obtain⟨xs,e⟩:=hi.allInts.items;have sM:(i::ns)=xs.toList.map (·.1):=by rw[<-hi.numsOf,<-yp,<-e]
 have hsz:0<xs.size:=by
  have h3:=congrArg jg sM;have h4:ns.length+1=xs.toList.length:=by simpa using h3
  have h5:xs.toList.length=xs.size:=by simp
  omega
 have BC:=pl.isList;rw[e] at BC;refine max_intList (I.ok.hd hc) BC hsz λv h' tk hv hk=>?_
 obtain⟨t,rfl⟩:=aai hv;obtain⟨h1,h2⟩:=argBest_gt (numAt xs)<|xs.size-1;refine⟨.int<|ns.foldl max i,H,I.kept hk,⟨t,?_⟩,q⟩;obtain⟨m1,m2⟩:=dM ns i
 congr 1
 refine Int.le_antisymm ?_ ?_
 .refine m2 _ ?_;rw[sM,numAt_eq];exact getD_mem (by rw[ag,gy];omega)
 .rw[sM] at m1;obtain⟨k,Lv,ek⟩:=mem_getD m1;rw[<-ek];rw[ag,gy] at Lv;rw[<-numAt_eq];exact h2 k (by omega)
def è(hc:X.calm=true)(hg:Gl X "max")(hm:X.mg "max" = aD)(ha:DB X a fl)(hs:ar [a] X.env=(false,eval a X.env)::ar [] X.env:=by rfl):DE X (.Call (.Name "max" p') [a] [] pos) (YK fl):=by
 refine PE.aM (kX (JG hc) hg hm uh (yK ha xH hs) (he:=hs)) λσ H Q hq=>?_
 obtain⟨O0,r,d,hR,e,q⟩:=hq;obtain⟨l,e1,e2⟩:=aG e;obtain⟨ns,e3,e4⟩:=aG e2;refine⟨O0,r,l,hR,e1,λp xs H1 s1 sq il=>?_⟩;cases ns with
 |nil=>cases e4
 |cons i t=>
  cases e4;have ex:=dI e3 il;subst ex;exact⟨p,i,t,rfl,sq,q _ H1 s1<|by rw[zG]⟩
noncomputable def uS(fl:ML):ME:=λr=>(fl r).map .tup
def t9(hg:Gl X "tuple")(hm:X.mg "tuple" = aD)(ha:DB X a fl)(hs:ar [a] X.env=(false,eval a X.env)::ar [] X.env:=by rfl):DE X (.Call (.Name "tuple" p') [a] [] pos) (uS fl):=by
 refine PE.aM (uM dU hg hm zd (yK ha xH hs) (he:=hs)) λσ H Q hq=>?_
 obtain⟨O0,r,d,hR,e,q⟩:=hq;obtain⟨l,e1,rfl⟩:=aY e;refine⟨O0,r,l,hR,e1,λp xs H1 s1 sq il=>⟨p,xs,rfl,.inl ⟨sq,λt ht=>q _ _ (s1.trans<|yD ht) ?_⟩⟩⟩;rw[zR];exact⟨t,xs,rfl,d_.of zJ,il.same (yD ht) (hR.same s1).ol⟩
def TC(h:DF X a fl):DB X a fl:=by
 refine PE.aM h λσ H Q hq=>?_
 obtain⟨O0,r,l,hR,e,q⟩:=hq;refine⟨O0,r,l,hR,e,λp xs H1 s1 n1 e1 il=>q p xs H1 s1 (aX.of e1) ?_⟩;have ol:kT (λb=>Ow O0 r σ b\/b=p) H1:=λb z=>z.elim (λz=>(hR.same s1).ol b z) λz=>by subst z;exact⟨.lst xs,e1,trivial⟩
 exact IsL.mono (aH.kp (aH.refl H1) _) ol (λa z _=>.inl z) l xs il
end
noncomputable def XQ(f:ME)(bd:D->En->Option En):MS:=λr=>(f r).bind λd=>(bd d r).map .nx
def Wq(he:DE X e f)(hg:DG X tg bd)(hs:swapsWithSole [tg] e pos.line X.env=pure false:=by rfl)(hw:swappedStores [tg] e X.env=pure aD:=by rfl)(h1:(jw [tg] X.env).map (·.2)=[assign tg X.env]:=by rfl):DS X (.Assign [tg] e pos) (XQ f bd):=by
 refine PS.aM (Ñ he hg hs hw h1) λDn σ H hq=>?_
 obtain⟨O0,r,fl,hR,e,q⟩:=hq;obtain⟨d,e1,e2⟩:=aG e;obtain⟨r',e3,rfl⟩:=aY e2;refine⟨O0,r,d,hR,e1,λv H1 s1 i1=>⟨O0,r,d,r',hR.same s1,i1,e3,λσ' R' k'=>q σ' H1 R'<|(Kp.of_same r σ s1).trans k'⟩⟩
open PySem PySem.Spec PyProof.Rows L2 PySem.StrLaws
def mV(xs:List α)(lo hi:Option Int):List α:=(xs.drop<|HT.aV xs.length 0 lo).take<|HT.aV xs.length xs.length hi-HT.aV xs.length 0 lo
def Z0(n d:Nat)(hd:d<=n)(o:Option Int):HT.aV n d o<=n:=HT.Rm n d hd o
def n9(lo hi:Option Int)(n:Nat):qx lo hi 1 n=qx (aA ((HT.aV n 0 lo:Nat):Int)) (aA ((HT.aV n n hi:Nat):Int)) 1 n:=by
 have key:∀(v:Option Int) (d:Nat),d<=n->(match v with|none=>(d:Int)|some i=>max 0<|min (if i<0 then i+(n:Int) else i) (n:Int))=max 0 (min (if ((HT.aV n d v:Nat):Int)<0 then ((HT.aV n d v:Nat):Int)+(n:Int) else ((HT.aV n d v:Nat):Int)) (n:Int)):=by
  intro v d hd;have hle:=Z0 n d hd v;have h0:¬(((HT.aV n d v:Nat):Int)<0):=by omega
  rw[if_neg h0];cases v with
  |none=>
   have e:HT.aV n d aD=d:=rfl;rw[e];show(d:Int)=_;omega
  |some i=>
   have e:HT.aV n d (aA i)=if i<0 then (i+(n:Int)).toNat else min i.toNat n:=rfl
   show max 0 (min (if i<0 then i+(n:Int) else i) (n:Int))=_;rw[e] at hle ⊢
   split<;>split at hle<;>omega
 have e1:(1:Int) > 0:=by omega
 unfold vp;simp only[e1,if_true];have k1:=key lo 0<|fg _;have k2:=key hi n<|ah _;cases lo<;>cases hi<;>simp only at k1 k2 ⊢<;>rw[<-k1,<-k2]<;>rfl
def uK(x:Str)(lo hi:Option Int):sliceText x lo hi=⟨(mV x.cps.toList lo hi).toArray⟩:=by
 have hl:x.cps.toList.length=x.length:=by simp[tz]
 unfold mV;rw[hl];have ha:=Z0 x.length 0 (fg _) lo;have hb:=Z0 x.length x.length (ah _) hi;have e:sliceText x lo hi=sliceText x (aA ((HT.aV x.length 0 lo:Nat):Int)) (aA ((HT.aV x.length x.length hi:Nat):Int)):=by
  unfold sliceText;rw[n9 lo hi x.length]
 rw[e];by_cases hab:HT.aV x.length 0 lo<=HT.aV x.length x.length hi
 .exact sliceText_nat x hab hb
 .have z:HT.aV x.length x.length hi-HT.aV x.length 0 lo=0:=by omega
  rw[z,List.take_zero];have em:qx (aA ((HT.aV x.length 0 lo:Nat):Int)) (aA ((HT.aV x.length x.length hi:Nat):Int)) 1 x.length=[]:=by
   have e1:(1:Int) > 0:=by omega
   unfold vp;simp only[e1,if_true];have h0:¬(((HT.aV x.length 0 lo:Nat):Int)<0):=by omega
   have h1:¬(((HT.aV x.length x.length hi:Nat):Int)<0):=by omega
   rw[if_neg h0,if_neg h1];unfold PySem.sliceRange;simp only[e1,if_true];split
   .omega
   .rfl
  unfold sliceText;rw[em];split
  .rename_i q;have q':x.length=0:=by
                  have:0=x.length:=by simpa using q
                  exact this.symm
   apply Str.ext'
   have:x.cps.size=0:=q'
   exact Array.eq_empty_of_size_eq_zero this
  .rfl
def Ro:V->Option Int->Option Int->Hp->VK->Prop:=λx lo hi H Q=>∃z,x=.str z/\z.length<=ae/\Q (.str ⟨(mV z.cps.toList lo hi).toArray⟩) H
def Ű(xs:List α)(lo hi:Option Int):(mV xs lo hi).length<=xs.length:=by
 unfold mV;rw[ii,jf];omega
def WH:B5 X Ro:=by
 intro pZ s σ H x v vl vu lo hi sl Q I rx hs pl pu hq;obtain⟨z,rfl,hz,q⟩:=hq;obtain⟨t,rfl⟩:=rx;refine⟨"str",_,PySem.F.slot_str_getitem.lookup,typeIs_str _ _ _,?_⟩;have main:∀(l u:Option (Int×Tok)),l.map (·.1)=lo->u.map (·.1)=hi->s.heap.IsSlice sl l u aD->wpAny (model X.prog X.w) X.A (getItem (.str z t)<|.ref sl) (EP X pZ σ Q) X.xe s:=by
  intro l u hl hu BV;refine wpAny_getItem_str_slice BV rfl ?_;have e:∀t' k,EP X pZ σ Q (.str (sliceText z lo hi) t') { s with toks:=k }:=λt' k=>⟨.str _,H,I.tok k,⟨t',rfl⟩,by rw[uK];exact q⟩
  have hle:(sliceText z lo hi).length<=ae:=by
   rw[uK,k7]
   have:=Ű z.cps.toList lo hi
   have h2:z.cps.toList.length=z.length:=by simp[tz]
   omega
  unfold sliceMade slicePicked;rw[hl,hu];exact post_val_or_str ⟨hle,e⟩
 obtain⟨o,h1,h2,h3⟩:=hs;cases pl with
 |none=>cases pu with
  |none=>exact main aD aD rfl rfl ⟨o,h1,h2,h3⟩
  |int j tj=>exact main aD (aA (j,tj)) rfl rfl ⟨o,h1,h2,h3⟩
 |int i ti=>cases pu with
  |none=>exact main (aA (i,ti)) aD rfl rfl ⟨o,h1,h2,h3⟩
  |int j tj=>exact main (aA (i,ti)) (aA (j,tj)) rfl rfl ⟨o,h1,h2,h3⟩
abbrev MO:=En->Option (Option Int)
def kN:MO:=λ_=>aA aD
def wZ(f:ME):MO:=λr=>(f r).bind λd=>(intD d).map aA
def lO(K:Fg)(f:MO):TO:=λσ H Q=>∃O0 r o,R K O0 H r σ/\f r=aA o/\∀H',aH H H'->Q o H'
def DO(X:Cx)(e:Option Expr)(f:MO):Prop:=PO X e<|lO X.K f
def PO.aM(h:PO X e t)(i:∀σ H Q,t' σ H Q->t σ H Q):PO X e t':=λpZ s σ H Q I q=>h pZ s σ H Q I<|i σ H Q q
def Ă:DO X aD kN:=PO.aM ķ λσ H Q ⟨O0,r,o,hR,e,q⟩=>by
 unfold kN at e;cases e;exact q H<|aH.refl H
def ă(ha:DE X a f):DO X (aA a) (wZ f):=PO.aM (ĸ ha) λσ H Q ⟨O0,r,o,hR,e,q⟩=>by
 obtain⟨d,e1,e2⟩:=aG e;obtain⟨i,e3,rfl⟩:=aY e2;cases uZ e3;exact⟨O0,r,_,hR,e1,λv H1 s1 i1=>⟨i,by rw[zG] at i1;exact i1,q H1 s1⟩⟩
def Cn(d:D)(lo hi:Option Int):Option D:=match d with
 |.lst l=>aA<|.lst<|mV l lo hi
 |.tup l=>if HT.aV l.length 0 lo=0/\HT.aV l.length l.length hi=l.length then aD else aA<|.tup<|mV l lo hi
 |.str s=>if s.length<=ae then aA (.str<|mV s lo hi) else aD
 |_=>aD
def fR(f:ME)(lo hi:MO):ME:=λr=>(f r).bind λd=>(lo r).bind λi=>(hi r).bind λj=>Cn d i j
def qb1(K:Fg):V->Option Int->Option Int->Hp->VK->Prop:=λx lo hi H Q=>Rp K x lo hi H Q\/Rn K x lo hi H Q\/Ro x lo hi H Q
def IsL.cut{K:Fg}(h:IsL K O H l xs)(lo hi:Option Int):IsL K O H (mV l lo hi) (Br xs lo hi):=by
 unfold mV Br;rw[h.length];exact(h.drop _).take _
def Vf{lo:Option Expr}(ha:DE X a f)(hl:DO X lo fl)(hh:DO X hi fh):DE X (.Subscript a (.Slice lo hi aD p2) pos) (fR f fl fh):=by
 refine PE.aM (Φ (r:=qb1 X.K) (qa5.or<|qa4.or WH) ha hl hh) λσ H Q hq=>?_
 obtain⟨O0,r,d,hR,e,q⟩:=hq;obtain⟨x,e1,e⟩:=aG e;obtain⟨i,e2,e⟩:=aG e;obtain⟨j,e3,e⟩:=aG e;refine⟨O0,r,x,hR,e1,λv H1 s1 i1=>⟨O0,r,i,hR.same s1,e2,λH2 s2=>⟨O0,r,j,hR.same<|s1.trans s2,e3,λH3 s3=>?_⟩⟩⟩;have G6:=(s1.trans s2).trans s3;have R3:=hR.same G6;have i3:=i1.same (s2.trans s3) (hR.same s1).ol;cases x<;>first|(simp only[Cn,reduceCtorEq] at e;done)|skip
 .simp only[Cn] at e;split at e
  .rename_i hl';cases e;rw[zU] at i3;refine .inr<|.inr ⟨_,i3,by rw[k7];exact hl',q _ H3 G6<|by rw[zU]⟩
  .cases e
 .simp only[Cn] at e;split at e
  .cases e
  .rename_i hw;cases e;rw[zR] at i3;obtain⟨p,xs,rfl,hs,il⟩:=i3;refine .inr<|.inl ⟨p,xs,rfl,hs,by rw[<-il.length];exact hw,λt ht=>q _ _ (G6.trans<|yD ht) ?_⟩;rw[zR];exact⟨t,_,rfl,d_.of zJ,(il.cut i j).same (yD ht) R3.ol⟩
 .simp only[Cn,fw] at e;subst e;rw[zS] at i3;obtain⟨p,xs,rfl,hs,il⟩:=i3;refine .inl ⟨p,xs,rfl,hs.sq,λt ht=>q _ _ (G6.trans<|yD ht) ?_⟩;rw[zS];exact⟨t,_,rfl,.inl ⟨R3.AR ht,.inl zJ⟩,(il.cut i j).same (yD ht) R3.ol⟩
def Zs(n:Nat):jm aD aD (-1) (n:Int)=((n:Int)-1,-1):=by
 unfold jm;simp
def Zu(n:Nat):gf ((n:Int)-1) (-1) (-1)=n:=by
 unfold gf;have h1:¬((-1:Int) > 0):=by omega
 simp only[h1,if_false];split
 .have : -(-1:Int)=1:=by omega
  rw[this,Int.ediv_one];omega
 .omega
def Zt{sl:Addr}{t:Tok}{n:Nat}{Q:Int×Int×Nat->Shared->Prop}(hs:s.heap.IsSliceOf sl .none .none (.int (-1) t))(h:Q ((n:Int)-1,-1,n) s):wpAny (model prog w) A (nh (.ref sl)<|pure (n:Int)) Q E s:=by
 obtain⟨os,ho,hc,hd⟩:=id hs;unfold nh yi;refine ac<|ac<|cu ho hd (x:=.none) rfl<|ac<|cu ho hd (x:=.none) rfl<|ac<|cu ho hd (x:=.int (-1) t) rfl<|af ?_;refine ac<|slicePart_int ?_;show wpAny _ _ (if ((-1:Int) == 0)=true then _ else _) _ _ s;rw[if_neg<|by decide];refine ac<|uo<|ac<|uo<|ac<|af ?_;show wpAny _ _ (match jm aD aD (-1) (n:Int) with|(lo,hi)=>pure (lo,(-1:Int),gf lo hi<|-1)) _ _ s;rw[Zs n];show wpAny _ _ (pure ((n:Int)-1,(-1:Int),gf ((n:Int)-1) (-1)<|-1)) _ _ s;rw[Zu];exact af h
theorem Ou:∀(l:List α),(∀m∈l,F m=aA (G m))->l.filterMap F=l.map G
 |[],_=>rfl
 |a::l,h=>by
  rw[cq,h a dz,au,Ou l λm hm=>h m<|bh _ hm]
def μ(xs:Array Value):((ku xs.size).filterMap λ(m:Nat)=>xs[((xs.size:Int)-1+(m:Int)*(-1)).toNat]?).toArray=xs.toList.reverse.toArray:=by
 congr 1
 apply List.ext_getElem?;intro k;have e:∀m,m<xs.size->xs[((xs.size:Int)-1+(m:Int)*(-1)).toNat]?=aA (xs.toList.reverse.getD m .none):=by
  intro m hm;have h1:((xs.size:Int)-1+(m:Int)*(-1)).toNat=xs.size-1-m:=by omega
  rw[h1,xz,qe<|by simpa using hm];have h2:xs.size-1-m<xs.size:=by omega
  simp[h2]
 have e2:(ku xs.size).filterMap (λ(m:Nat)=>xs[((xs.size:Int)-1+(m:Int)*(-1)).toNat]?)=(ku xs.size).map λm=>xs.toList.reverse.getD m .none:=by
  exact Ou _ λm hm=>e m<|ut.mp hm
 rw[e2,bw];by_cases hk:k<xs.size
 .rw[aba hk,bx<|by simpa using hk];simp[xz,hk]
 .rw[qf<|by simpa using hk,qf<|by simpa using hk];rfl
def ŕ(ht:IsTup s.heap t its)(hs:s.heap.IsSliceOf sl .none .none (.int (-1) tk))(hsz:its.size<=ae)(h:Q (.ref s.heap.objs.size) { s with heap:=s.heap.push { cls:=.type "tuple",data:=.seq its.toList.reverse.toArray } }):wpAny (model prog w) A (getItem (.ref t)<|.ref sl) Q E s:=by
 have hz:sizeOk (.seq its.toList.reverse.toArray):=by show its.toList.reverse.toArray.size<=ae;simpa using hsz
 obtain⟨os,ho,hc,hd⟩:=id hs;have hT:s.TypeIs (.ref sl) "slice" := ⟨os,ho,hc⟩;unfold getItem
 try with_reducible refine fi ?_
 first|refine ac (af ?_)|skip
 refine ac<|wpAny_sequenceKey ht.typeIs (by decide) ?_;refine ac<|ee (name:=ia "__getitem__") ht.typeIs ic<|fu ic ht.typeIs aat ?_<|args_tuple_getitem _ _;show wpAny _ _ (ye (.ref t) >>= _) _ _ s;refine ac<|tupleItemsOf_ ht<|ac<|qv hT ?_;rw[if_pos<|by decide];refine ac<|Zt hs ?_;show wpAny _ _ (if (((its.size:Int)-1) == 0 && (-1:Int) == 1 && its.size == its.size)=true then _ else _) _ _ s;rw[if_neg<|by simp,μ]
 first
  |exact ac (m:=fo _)<|cz (af ⟨_,rfl,af h⟩) hz
  |exact ac (m:=fo _)<|cz (ac<|af<|af ⟨_,rfl,af h⟩) hz
  |exact ac<|ac (m:=fo _)<|cz (af<|af ⟨_,rfl,af h⟩) hz
  |exact ac<|ac (m:=fo _)<|cz (af ⟨_,rfl,af h⟩) hz
def ϲ(K:Fg)(ta:TE):TE:=λσ H Q=>ta σ H λx H1=>(∃p xs,x=.ref p/\aX K H1 p xs/\∀q,H1 q=aD->Q (.ref q) (upd H1 q<|.lst xs.reverse))\/(∃p xs,x=.ref p/\d_ K H1 p xs/\∀q,H1 q=aD->Q (.ref q) (upd H1 q<|.tup xs.reverse))
def OL(he:PE X a ta):PE X (.Subscript a (.Slice aD aD (aA<|.UnaryOp .USub (.Constant (.int 1) j p3) pos) p2) pn) (ϲ X.K ta):=by
 intro pZ s σ H Q I h;refine xr<|aQ (he pZ s σ H _ I h) λv s1 ⟨x,H1,I1,r1,q1⟩=>?_;refine wpAny_Slice ?_;rw[yq];refine af<|af ?_;rw[evalPart_some];have iN:PE X (.UnaryOp .USub (.Constant (.int 1) j p3) pos) (Qu (rU λi=>.int<|-i)<|tC<|.int 1):=NI Ph oM;refine aQ (iN pZ s1 σ H1 (λw H'=>w=.int (-1)/\H'=H1) I1 ⟨1,rfl,rfl,rfl⟩) λu s2 ⟨y,H2,I2,r2,q2,eH⟩=>?_
 subst eH q2;obtain⟨t,rfl⟩:=r2;have I4:Inv X pZ σ H2 { s2 with heap:=s2.heap.push { cls:=.type "slice",data:=.fields #[.none,.none,.int (-1) t] } }:=I2.kept (t':=s2.toks) λb ob q=>ad _ q
 have BV:({ s2 with heap:=s2.heap.push { cls:=.type "slice",data:=.fields #[.none,.none,.int (-1) t] } }:Shared).heap.IsSliceOf s2.heap.objs.size .none .none (.int (-1) t):=Heap.IsSliceOf.new ..;rcases q1 with⟨p,xs,rfl,hx,q⟩|⟨p,xs,rfl,hx,q⟩
 .cases r1;obtain⟨its,r,pl,hz⟩:=I4.list hx;have hlen:=r.length;refine tail_any (ops:=[.ref p,.ref s2.heap.objs.size]) pl.isList.typeIs vt.lookup (yj pl.isList BV .none .none (.int (-1) t) (by simp) ?_ (by simp only[ak];omega)) (by with_unfolding_all rfl);rw[PySem.W.krv_pick];exact⟨.ref _,_,I4.KR (t':=s2.toks) r.reverse (by rw[gx];exact hz),rfl,q _ I4.fresh⟩
 .cases r1;obtain⟨its,r,pl,hz⟩:=I4.tuple hx;have hlen:=r.length;refine tail_any (ops:=[.ref p,.ref s2.heap.objs.size]) pl.typeIs ic.lookup (ŕ pl BV (by simp only[ak];omega) ?_) (by with_unfolding_all rfl);refine⟨.ref _,_,I4.laid (t':=s2.toks) (o:=.tup xs.reverse) (λb ob q=>ad _ q) (ah _) ?_,rfl,q _<|I4.aT.fresh<|ah _⟩;exact⟨by rw[gx];exact hz,_,r.reverse,zf _ _⟩
noncomputable def Bu:D->Option D
 |.lst l=>aA<|.lst l.reverse
 |.tup l=>aA<|.tup l.reverse
 |_=>aD
def Wl(ha:DE X a f):DE X (.Subscript a (.Slice aD aD (aA<|.UnaryOp .USub (.Constant (.int 1) j p3) pos) p2) pn) (aU Bu f):=by
 refine PE.aM (OL ha) λσ H Q hq=>?_
 obtain⟨O0,r,d,hR,e,q⟩:=hq;obtain⟨x,e1,e2⟩:=aG e;refine⟨O0,r,x,hR,e1,λv H1 s1 i1=>?_⟩;have R1:=hR.same s1;cases x<;>first|(simp only[Bu,reduceCtorEq] at e2;done)|skip
 .simp only[Bu,fw] at e2;subst e2;rw[zR] at i1;obtain⟨p,xs,rfl,hs,il⟩:=i1;refine .inr ⟨p,xs,rfl,hs,λt ht=>q _ _ (s1.trans<|yD ht) ?_⟩;rw[zR];exact⟨t,_,rfl,d_.of zJ,il.reverse.same (yD ht) R1.ol⟩
 .simp only[Bu,fw] at e2;subst e2;rw[zS] at i1;obtain⟨p,xs,rfl,hs,il⟩:=i1;refine .inl ⟨p,xs,rfl,hs.sq,λt ht=>q _ _ (s1.trans<|yD ht) ?_⟩;rw[zS];exact⟨t,_,rfl,.inl ⟨R1.AR ht,.inl zJ⟩,il.reverse.same (yD ht) R1.ol⟩
noncomputable def WD:List D->Option (List<|List Nat)
 |[]=>aA []
 |.str s::r=>(WD r).map (s::·)
 |_=>aD
noncomputable def C6(sep:List Nat):List (List Nat)->List Nat
 |[]=>[]
 |[s]=>s
 |s::r=>s++sep++C6 sep r
theorem ZN{K:Fg}:∀{l:List D} {ss:List (List Nat)} {vs:List V},WD l=aA ss->IsL K O H l vs->vs=ss.map λs=>V.str ⟨s.toArray⟩
 |[],ss,vs,e,il=>by cases e;unfold IsL at il;subst il;rfl
 |d::l,ss,vs,e,il=>by
  unfold IsL at il;obtain⟨v,r,rfl,i1,i2⟩:=il;cases d<;>first|(simp only[WD,reduceCtorEq] at e;done)|skip
  simp only[WD] at e;obtain⟨ms,e1,rfl⟩:=aY e;rw[zU] at i1;rw[i1,ZN e1 i2];rfl
theorem gA:∀{ss:List (List Nat)} {us:List Value},Vals (ss.map λs=>V.str ⟨s.toArray⟩) us->StrsAre us (ss.map λs=>(⟨s.toArray⟩:Str))
 |[],us,r=>by rw[oz] at r;cases r;exact .nil
 |s::ss,us,r=>by
  rw[au] at r;cases r with
  |cons r1 r2=>
   obtain⟨t,e⟩:=r1;subst e;exact .cons _ t<|gA r2
theorem Py(sep:List Nat):∀ss:List (List Nat),Str.join (⟨sep.toArray⟩:Str) (ss.map λs=>(⟨s.toArray⟩:Str))=⟨(C6 sep ss).toArray⟩
 |[]=>rfl
 |[s]=>rfl
 |s::t::r=>by
  have ih:=Py sep (t::r);show(⟨s.toArray⟩:Str)++⟨sep.toArray⟩++Str.join _ ((t::r).map λs=>(⟨s.toArray⟩:Str))=_;rw[ih,ZO,ZO];rfl
def VJ(K:Fg):V->List V->Hp->VK->Prop:=λx vs H Q=>∃sep p ss,x=.str ⟨sep.toArray⟩/\vs=[.ref p]/\aX K H p (ss.map λs=>V.str ⟨s.toArray⟩)/\(ss.map jg).sum+ss.length*sep.length<=16777216/\Q (.str ⟨(C6 sep ss).toArray⟩) H
def Ė:Iu X "str.join" (VJ X.K):=by
 intro pZ s σ H x vs v us Q I rx rv hq;obtain⟨sep,p,ss,rfl,rfl,hs,hl,q⟩:=hq;obtain⟨t,rfl⟩:=rx;obtain⟨u,rfl,ru⟩:=Vals.one rv;cases ru;obtain⟨its,r,pl,hz⟩:=I.list hs;refine join_list pl.isList (ys:=ss.map λs=>(⟨s.toArray⟩:Str)) (by simpa using gA r) ?_ λt' k=>⟨.str _,H,I.tok k,⟨t',rfl⟩,?_⟩
 .have e:(ss.map λs=>(⟨s.toArray⟩:Str)).map (·.length)=ss.map jg:=by rw[jx];exact aaz λs _=>k7 s
  rw[e,ag,k7];exact hl
 .show Q (.str<|Txt.join _ _) H;unfold Txt.join;rw[glued_eq_join,Py];exact q
def Gz(f:ME)(fl:ML):ME:=λr=>(f r).bind λd=>match d with
 |.str sep=>(fl r).bind λl=>(WD l).bind λss=>if (ss.map jg).sum+ss.length*sep.length<=16777216 then aA (.str<|C6 sep ss) else aD
 |_=>aD
def æ(ho:DE X a f)(ha:DB X b fl)(fO:cn a "join" X.env (eval a X.env)=eval a X.env:=by rfl)(fN:l7 apos eO:=by rfl)(iU:Ay X [b] eO:=by rfl)(hs:ar [b] X.env=(false,eval b X.env)::ar [] X.env:=by rfl):DE X (.Call (.Attribute a "join" apos) [b] [] eO) (Gz f fl):=by
 refine PE.aM (WV PySem.F.plainAttrs_str PySem.F.slot_str_join PySem.F.type_str_join Ė ho (yK ha xH hs) fO iU fN hs) λσ H Q hq=>?_
 obtain⟨O0,r,d,hR,e,q⟩:=hq;obtain⟨x,e1,e2⟩:=aG e;refine⟨O0,r,x,hR,e1,λv H1 s1 i1=>?_⟩;cases x<;>first|(simp only[reduceCtorEq] at e2;done)|skip
 simp only at e2;obtain⟨l,e3,e4⟩:=aG e2;obtain⟨ss,e5,e6⟩:=aG e4;rw[zU] at i1;subst i1;split at e6
 .rename_i hl;cases e6;refine⟨rfl,O0,r,l,hR.same s1,e3,λp xs H2 s2 sq il=>?_⟩;have ex:=ZN e5 il;subst ex;exact⟨_,p,ss,rfl,rfl,sq,hl,q _ H2 (s1.trans s2)<|by rw[zU]⟩
 .cases e6
open PySem PySem.Spec PyProof.Rows L2 PySem.StrLaws PySem.Builtin.Str
def z2(F:V->V->Hp->Prop):List V->Hp->Prop
 |[x,y],H=>F x y H
 |_,_=>False
def Pc:∀{vs:List V} {H:Hp},z2 F vs H->∃x y,vs=[x,y]/\F x y H
 |[x,y],_,h=>⟨x,y,rfl,h⟩
 |[],_,h=>h.elim
 |[_],_,h=>h.elim
 |_::_::_::_,_,h=>h.elim
def z1(F:V->Hp->Prop):List V->Hp->Prop
 |[x],H=>F x H
 |_,_=>False
def Kg:∀{vs:List V} {H:Hp},z1 F vs H->∃x,vs=[x]/\F x H
 |[x],_,h=>⟨x,rfl,h⟩
 |[],_,h=>h.elim
 |_::_::_,_,h=>h.elim
def DQ(n:Nat)(h:i≠j):@Ne Addr (n+i:Nat) (n+j:Nat):=λe=>h<|aay (show n+i=n+j from e)
def Ee(n:Nat)(h:0≠j):@Ne Addr (n:Nat) (n+j:Nat):=λe=>h<|aay (show n+0=n+j from e)
def U'(n:Nat):ZA (n+4) (n+2) (n+3) n (n+1):=⟨DQ n<|by decide,DQ n<|by decide,Ee n<|by decide,DQ n<|by decide,DQ n<|by decide,(Ee n<|by decide).symm,DQ n<|by decide,(Ee n<|by decide).symm,DQ n<|by decide,Ee n<|by decide⟩
noncomputable def XX(l m:List D):List D:=lw (λx y=>.tup [x,y]) l m
def JY{l m:List D}{i:Nat}{d:D}(h:(XX l m)[i]?=aA d):∃x y,l[i]?=aA x/\m[i]?=aA y/\d=.tup [x,y]:=by
 unfold XX at h;rw[uk] at h;cases e1:l[i]? with
 |none=>rw[e1] at h;cases h
 |some x=>
  cases e2:m[i]? with
  |none=>rw[e1,e2] at h;cases h
  |some y=>rw[e1,e2] at h;cases h;exact⟨x,y,rfl,rfl,rfl⟩
def Ö{K:Fg}{O M:Addr->Prop}{sq:Hp->Addr->List V->Prop}(mo:∀a,M a->O a){H:Hp}{u v:Addr}{xs ys:List V}{l m:List D}(ol:kT O H)(kx:∀H1,dZ M H H1->sq H1 u xs)(ky:∀H1,dZ M H H1->sq H1 v ys)(il:IsL K O H l xs)(im:IsL K O H m ys):Bw K O M H (Iw sq u v) (XX l m):=by
 intro i H1 O' kp oo;have iZ:dZ O H H1:=λb o e n=>kp b o e λz=>n<|mo b z
 have hlen:(XX l m).length=min l.length m.length:=by simp[XX]
 refine⟨λhi=>⟨?_,λx H' y=>?_⟩,λhi=>⟨xs,ys,kx H1 kp,ky H1 kp,?_⟩⟩
 .obtain⟨d,e⟩:=kP hi;obtain⟨dx,dy,e1,e2,_⟩:=JY e;obtain⟨vx,q1,_⟩:=il.get e1;obtain⟨vy,q2,_⟩:=im.get e2;exact⟨xs,ys,vx,vy,kx H1 kp,ky H1 kp,q1,q2⟩
 .obtain⟨T,p,q,rfl,nT,rfl,h1,h2⟩:=y;refine⟨yD nT,λd e=>?_⟩;obtain⟨dx,dy,e1,e2,rfl⟩:=JY e;obtain⟨vx,q1,i1⟩:=il.get e1;obtain⟨vy,q2,i2⟩:=im.get e2;have p1:=h1 xs<|kx H1 kp;have p2:=h2 ys<|ky H1 kp;rw[q1] at p1;rw[q2] at p2;cases p1;cases p2;have kk:dZ O H (upd H1 T<|.tup [p,q]):=λb o e' n=>by
   have:=iZ b o e' n
   rw[zI<|xY this nT];exact this
  rw[zR];exact⟨T,_,rfl,d_.of zJ,.cons (Is.mono kk ol oo _ _ i1)<|.cons (Is.mono kk ol oo _ _ i2) .nil⟩
 .have e1:=il.length;have e2:=im.length;rw[hlen] at hi;omega
def VO{K:Fg}(mo:∀a,M a->O a)(h:FU K O H a xs):∀H1,dZ M H H1->aX K H1 a xs:=λH1 k=>h.imp (λz=>Rd.keep k (λy=>z.1<|mo _ y) z.2) id
def Nx{K:Fg}(mo:∀a,M a->O a)(ol:kT O H)(h:d_ K H a xs):∀H1,dZ M H H1->d_ K H1 a xs:=λH1 k=>d_.keep (λb o e n=>k b o e λz=>n<|mo b z) ol h
def Ĵ(hg:Gl X "enumerate")(hm:X.mg "enumerate" = aD)(ha:PE X a ta)(hs:ar [a] X.env=[(false,eval a X.env)]:=by rfl):PI X (.Tuple elts k tp) (.Call (.Name "enumerate" p) [a] [] pos) (λσ H R=>ta σ H λx H1=>∃u,x=.ref u/\(∃xs,aX X.K H1 u xs)/\R (Ni X.K u) H1):=by
 intro pZ s σ H R I h;have hA:PA X [a] (mM ta Ag):=yK ha xH hs;refine Call_<|uB I hg hm PyProof.Rows.boot_enumerate<|fq (aQ (hA pos pZ s σ H (z1 λx H1=>∃u,x=.ref u/\(∃xs,aX X.K H1 u xs)/\R (Ni X.K u) H1) I h) λus s1 ⟨vs,H1,I1,r1,q1⟩=>?_) hs rfl;obtain⟨_,rfl,u,rfl,⟨xs,hx⟩,q⟩:=Kg q1;obtain⟨uu,rfl,ru⟩:=Vals.one r1;cases ru;obtain⟨its,_,pl,_⟩:=I1.list hx;refine call_enumerate_list pl.isList λh' z1 z2 _ kp=>wpAny_pyIter_enum z1 ?_
 refine⟨_,[s1.heap.objs.size+1,s1.heap.objs.size],_,_,H1,rfl,I1.kept (t':=s1.toks) kp,X8 u _ _ (Ee _<|by decide).symm,⟨⟨_,z1⟩,z2⟩,λb hb=>?_,q⟩;have hle:s1.heap.objs.size<=b:=by
  simp only[sw,bq,or_false] at hb;rcases hb with h|h
  .rw[h];exact lc _ _
  .rw[h];exact ah _
 exact I1.B1 hle<|I1.aT.fresh hle
noncomputable def Ev(l:List D):List D:=l.zipIdx.map λp=>.tup [.int (p.2:Nat),p.1]
def YL(f:ME):ML:=λr=>(f r).bind λd=>match d with
 |.lst l=>aA<|Ev l
 |_=>aD
def Y7{l:List D}{i:Nat}{d:D}(h:(Ev l)[i]?=aA d):∃x,l[i]?=aA x/\d=.tup [.int i,x]:=by
 unfold Ev at h;rw[bw,List.getElem?_zipIdx] at h;cases e1:l[i]? with
 |none=>rw[e1] at h;cases h
 |some x=>rw[e1] at h;simp at h;exact⟨x,rfl,h.symm⟩
def ì(hg:Gl X "enumerate")(hm:X.mg "enumerate" = aD)(ha:DE X a f)(hs:ar [a] X.env=[(false,eval a X.env)]:=by rfl):DI X (.Tuple elts k tp) (.Call (.Name "enumerate" p) [a] [] pos) (YL f):=by
 refine PI.aM (Ĵ hg hm ha hs) λσ H Rr hq=>?_
 obtain⟨O0,r,ds,hR,e,q⟩:=hq;obtain⟨x,e1,e⟩:=aG e;refine⟨O0,r,x,hR,e1,λv1 H1 s1 i1=>?_⟩;have R1:=hR.same s1;cases x<;>first|(simp only[reduceCtorEq] at e;done)|skip
 rename_i l;simp only[fw] at e;subst e;rw[zS] at i1;obtain⟨u,xs,rfl,hx,il⟩:=i1;refine⟨u,rfl,⟨xs,hx.sq⟩,q _ H1 s1 ?_⟩;intro i H2 O' kp oo;have iZ:dZ (Ow O0 r σ) H1 H2:=λb o e n=>kp b o e λz=>n<|.inr z.own
 have Kz:=VO (M:=lJ r σ) (λa z=>.inr z.own) hx H2 kp;have hlen:(Ev l).length=l.length:=by simp[Ev]
 refine⟨λhi=>⟨?_,λy H' yy=>?_⟩,λhi=>⟨xs,Kz,by rw[<-il.length,<-hlen];exact hi.symm⟩⟩
 .obtain⟨d,ed⟩:=kP hi;obtain⟨dx,ex,_⟩:=Y7 ed;obtain⟨vx,q1,_⟩:=il.get ex;exact⟨xs,vx,Kz,q1⟩
 .obtain⟨T,w,rfl,nT,rfl,h1⟩:=yy;refine⟨yD nT,λd ed=>?_⟩;obtain⟨dx,ex,rfl⟩:=Y7 ed;obtain⟨vx,q1,i1⟩:=il.get ex;have p1:=h1 xs Kz;rw[q1] at p1;cases p1;have kk:dZ (Ow O0 r σ) H1 (upd H2 T<|.tup [.int i,w]):=λb o e' n=>by
   have:=iZ b o e' n
   rw[zI<|xY this nT];exact this
  rw[zR];exact⟨T,_,rfl,d_.of zJ,.cons (by rw[zG])<|.cons (Is.mono kk R1.ol oo _ _ i1) .nil⟩
noncomputable def HJ(i:Nat)(r:En):Option En:=match r[i]? with
 |some (.o l)=>aA<|r.set i<|.z l
 |_=>aD
noncomputable def Ck(i:Nat)(r:En):Option En:=match r[i]? with
 |some (.z l)=>aA<|r.set i<|.o l
 |_=>aD
noncomputable def Ϩ(i:Nat):Fl->Option Fl
 |.nx r=>(Ck i r).map .nx
 |.bk r=>(Ck i r).map .bk
 |.ct r=>(Ck i r).map .ct
 |.rt d r=>(Ck i r).map<|.rt d
 |.rf _ _=>aD
 |.rg _ _ _=>aD
noncomputable def sZ(i:Nat)(g:MS):MS:=λr=>(HJ i r).bind λr1=>(g r1).bind<|Ϩ i
def R.swap{K:Fg}(h:R K O0 H r σ)(hy:(r[i]?=aA (.o l)/\y=.z l)\/(r[i]?=aA (.z l)/\y=.o l)):R K O0 H (r.set i y) σ/\∀b,jZ (r.set i y) σ b↔jZ r σ b:=by
 have eo:(r[i]?).bind Sl.own=aA l:=by rcases hy with⟨e,_⟩|⟨e,_⟩<;>rw[e]<;>rfl
 have yo:y.own=aA l:=by rcases hy with⟨_,e⟩|⟨_,e⟩<;>rw[e]<;>rfl
 have hi:i<r.length:=by
  rcases hy with⟨e,_⟩|⟨e,_⟩<;>exact(aq.mp e).1
 have own:∀j,((r.set i y)[j]?).bind Sl.own=(r[j]?).bind Sl.own:=λj=>by
  by_cases hj:i=j
  .subst hj;rw[zN hi,eo];exact yo
  .rw[zF hj]
 have lss:∀j,((r.set i y)[j]?).bind Sl.ls=(r[j]?).bind Sl.ls:=λj=>by
  by_cases hj:i=j
  .subst hj;rw[zN hi];rcases hy with⟨e,e2⟩|⟨e,e2⟩<;>rw[e,e2]<;>rfl
  .rw[zF hj]
 have at_:∀b,jZ (r.set i y) σ b↔jZ r σ b:=λb=>⟨λ⟨j,m,e,q⟩=>⟨j,m,by rw[<-own j];exact e,q⟩,λ⟨j,m,e,q⟩=>⟨j,m,by rw[own j];exact e,q⟩⟩
 have ow:∀b,Ow O0 (r.set i y) σ b->H b≠aD->Ow O0 r σ b:=λb z _=>z.imp id (at_ b).mp
 refine⟨⟨by simp[h.len],λj d ej=>?_,λj m ej=>?_,λj k b m n e4 e5=>?_,h.o0,λj m b ej q=>?_,λj m b ej q=>?_,λj f ks m ej=>?_⟩,at_⟩
 .have hj:i≠j:=λz=>by subst z;rw[zN hi] at ej;cases ej;cases yo
  rw[zF hj] at ej;obtain⟨v,q1,q2⟩:=h.val j d ej;exact⟨v,q1,Is.mono (aH.kp (aH.refl H) _) h.ol ow _ _ q2⟩
 .rw[lss j] at ej;obtain⟨b,ys,q1,q2,q3⟩:=h.own j m ej;exact⟨b,ys,q1,q2,IsL.mono (aH.kp (aH.refl H) _) h.ol ow _ _ q3⟩
 .rw[own j] at e4;rw[own k] at e5;exact h.apart j k b m n e4 e5
 .by_cases hj:i=j
  .subst hj;rcases hy with⟨e,_⟩|⟨e,_⟩
   .exact h.loc i l b (.inl e) q
   .exact h.loc i l b (.inr<|.inl e) q
  .rw[zF hj] at ej;exact h.loc j m b ej q
 .by_cases hj:i=j
  .subst hj;rw[zN hi] at ej;rcases hy with⟨_,e⟩|⟨_,e⟩<;>rw[e] at ej<;>cases ej
  .rw[zF hj] at ej;exact h.par j m b ej q
 .have hj:i≠j:=λz=>by
   subst z;rw[zN hi] at ej;rcases hy with⟨_,e⟩|⟨_,e⟩<;>rw[e] at ej<;>cases ej
  rw[zF hj] at ej;obtain⟨b,kvs,q1,q2,q4,q3⟩:=h.aI j f ks m ej;exact⟨b,kvs,q1,q2,q4,IsL.mono (aH.kp (aH.refl H) _) h.ol ow _ _ q3⟩
def Y2(e:HJ i r=aA r1):∃l,r[i]?=aA (.o l)/\r1=r.set i (.z l):=by
 unfold HJ at e;split at e
 .rename_i l h;cases e;exact⟨l,h,rfl⟩
 .cases e
def ϒ(e:Ck i r=aA r1):∃l,r[i]?=aA (.z l)/\r1=r.set i (.o l):=by
 unfold Ck at e;split at e
 .rename_i l h;cases e;exact⟨l,h,rfl⟩
 .cases e
def dY{K:Fg}(hR:R K O0 H r σ)(e:HJ i r=aA r1)(k:Kp H r1 σ H' r2 σ2)(R2:R K O0 H' r2 σ2)(e':Ck i r2=aA r3):R K O0 H' r3 σ2/\Kp H r σ H' r3 σ2:=by
 obtain⟨l,el,rfl⟩:=Y2 e;obtain⟨l2,Tu,rfl⟩:=ϒ e';have hi:i<r.length:=(aq.mp el).1;have hi2:i<r2.length:=(aq.mp Tu).1;obtain⟨R1,DP⟩:=hR.swap (y:=.z l)<|.inl ⟨el,rfl⟩;obtain⟨R3,at3⟩:=R2.swap (y:=.o l2)<|.inr ⟨Tu,rfl⟩;obtain⟨q1,q2⟩:=k.fz i l<|zN hi;have m1:∀b,lJ (r.set i<|.z l) σ b->lJ r σ b:=λb ⟨j,m,ej,qj⟩=>by
  have hj:i≠j:=λz=>by subst z;rw[zN hi] at ej;cases ej
  rw[zF hj] at ej;exact⟨j,m,ej,qj⟩
 refine⟨R3,⟨λb o eb n=>k.keep b o eb λz=>n<|m1 b z,k.live,k.lst,λb z=>(k.new b<|(at3 b).mp z).imp (DP b).mp id,λb z=>?_,λj m ej=>?_,λj m ej=>?_⟩⟩
 .obtain⟨j,m,ej,qj⟩:=z;by_cases hj:i=j
  .subst hj;exact .inl ⟨i,l,by rw[el];rfl,by rw[<-q2];exact qj⟩
  .rw[zF hj] at ej;exact(k.E1 b ⟨j,m,ej,qj⟩).imp (m1 b) id
 .have hj:i≠j:=λz=>by subst z;rw[el] at ej;cases ej
  obtain⟨e1,e2⟩:=k.par j m (by rw[zF hj];exact ej);exact⟨by rw[zF hj];exact e1,e2⟩
 .have hj:i≠j:=λz=>by subst z;rw[el] at ej;cases ej
  obtain⟨e1,e2⟩:=k.fz j m (by rw[zF hj];exact ej);exact⟨by rw[zF hj];exact e1,e2⟩
def qh6(i:Nat){st:Stmt}(h:DS X st g):DS X st (sZ i g):=by
 refine PS.aM h λDn σ H hq=>?_
 obtain⟨O0,r,fl,hR,e,q⟩:=hq;obtain⟨r1,e1,e2⟩:=aG e;obtain⟨f1,e3,e4⟩:=aG e2;have R1:R X.K O0 H r1 σ:=by
  obtain⟨l,el,rfl⟩:=Y2 e1;exact(hR.swap (y:=.z l)<|.inl ⟨el,rfl⟩).1
 refine⟨O0,r1,f1,R1,e3,?_⟩;cases f1 with
 |nx r2=>
  obtain⟨r3,e5,rfl⟩:=aY e4;exact λσ' H' R' k'=>let ⟨R3,k3⟩:=dY hR e1 k' R' e5;q σ' H' R3 k3
 |bk r2=>
  obtain⟨r3,e5,rfl⟩:=aY e4;exact λσ' H' R' k'=>let ⟨R3,k3⟩:=dY hR e1 k' R' e5;q σ' H' R3 k3
 |ct r2=>
  obtain⟨r3,e5,rfl⟩:=aY e4;exact λσ' H' R' k'=>let ⟨R3,k3⟩:=dY hR e1 k' R' e5;q σ' H' R3 k3
 |rt d r2=>
  obtain⟨r3,e5,rfl⟩:=aY e4;exact λv σ' H' R' k' iv=>let ⟨R3,k3⟩:=dY hR e1 k' R' e5;q v σ' H' R3 k3 iv
 |rf l r2=>cases e4
 |rg ks l r2=>cases e4
def lK(K:Fg)(f:ML):TE:=λσ H Q=>∃O0 r l,R K O0 H r σ/\f r=aA l/\∀u xs H',aH H H'->(∀H1,dZ (lJ r σ) H' H1->aX K H1 u xs)->IsL K (Ow O0 r σ) H' l xs->Q (.ref u) H'
def DK(X:Cx)(e:Expr)(f:ML):Prop:=PE X e<|lK X.K f
noncomputable def E2(i:Nat):ML:=λr=>match r[i]? with
 |some (.z l)=>aA l
 |_=>aD
def qh9(i:Nat)(h:PE X (.Name x pos) (v6 i)):DK X (.Name x pos) (E2 i):=by
 refine PE.aM h λσ H Q hq=>?_
 obtain⟨O0,r,l,hR,e,q⟩:=hq;have e':r[i]?=aA (.z l):=by
  unfold E2 at e;split at e
  .rename_i l' h;cases e;exact h
  .cases e
 obtain⟨u,xs,e1,e2,e3⟩:=hR.own i l (by rw[e'];rfl);refine⟨.ref u,e1,q u xs H (aH.refl H) (λH1 k1=>aX.of<|k1 _ _ e2 λ⟨j,m,ej,qj⟩=>?_) e3⟩;obtain⟨y,ey,ym⟩:=aG ej
 have:=hR.apart i j u l m (by rw[e'];rfl) (by rw[ey];exact mI ym) e1 qj
 subst this;rw[e'] at ey;cases ey;cases ym
def noF:kT (λ_=>False) H:=λ_ z=>z.elim
theorem Nv(h_:l≠it):∀(n i:Nat) (s:Shared) (Q:List Value->Shared->Prop),s.heap.IsListIter it l i->s.heap.IsList l ys->i+n<=ys.size ->
  (∀g,g.IsListIter it l (i+n)->gm it s.heap g->Q ((ys.toList.drop i).take n) { s with heap:=g })->wpAny (model prog w) A (draw (.ref it) n) Q E s
 |0,i,s,Q,h1,_,_,h=>by
  show wpAny _ _ (pure []) Q E s;exact af (by simpa using h s.heap h1 (wp ..))
 |n+1,i,s,Q,h1,h2,h3,h=>by
  have hl:i<ys.size:=by omega
  show wpAny _ _ (pyNext (.ref it) >>= _) Q E s;refine ac<|tq h1 h2 (x:=ys[i]) (by simp[hl]) λg1 k1 t1=>?_;refine ac<|fi<|Nv h_ n (i+1) _ _ k1 (h2.extBut t1.extBut h_) (by omega) λg2 k2 t2=>af ?_;have hd:ys.toList.drop i=ys[i]::ys.toList.drop (i+1):=by simp[yh,hl]
  have:=h g2 (by rw[show i+(n+1)=i+1+n by omega];exact k2)<|t1.trans t2
  rw[hd,List.take_succ_cons] at this;exact this
def Ŧ(hh:A.handled=aD)(h2:s.heap.IsList l ys)(h:∀g,aao s.heap.objs.size s.heap g->Q ys.toList { s with heap:=g }):wpAny (model prog w) A (unpackItems (.ref l) ys.size aD) Q E s:=by
 have fM:l≠s.heap.objs.size:=by obtain⟨o,e,_⟩:=h2;exact bf<|al e
 unfold unpackItems;refine ac ?_;unfold notIterableAtAll;refine ac<|ju h2.typeIs F.slot_list_iter.lookup<|af ?_;simp only[cf,if_false];refine ac<|fi<|vq h2 ?_;refine ac<|fi<|Nv fM ys.size 0 _ _ ⟨_,ay _ rfl,rfl,rfl⟩ (h2.push _) (by omega) λg1 k1 t1=>?_;have ha:List.take ys.size (List.drop 0 ys.toList)=ys.toList:=by rw[ya];exact ma (by simp)
 rw[ha,if_neg<|by simp];refine ac<|fi<|uf hh k1 ((h2.push _).extBut t1.extBut fM) (by simp) λg2 t2=>?_;simp only[Option.isSome_none,cf,if_false];exact af<|h g2 λb o hb e=>t2 b o hb<|t1.extBut b o hb<|ad _ e
def Ê(hc:X.calm=true)(h:Au X es t)(hn:(jw es X.env).length=n:=by rfl)(iN:(jw es X.env).findIdx? (·.1)=aD:=by rfl):PG X (.Tuple es k pos) (λv σ H Q=>∃a xs,v=.ref a/\(d_ X.K H a xs\/aX X.K H a xs)/\xs.length=n/\t xs σ H Q):=by
 intro pZ s σ H v u Q I r hw;obtain⟨a,xs,e1,hq,hl,hw⟩:=hw;subst e1;cases r;rcases hq with hq|hq
 .exact Ë hc h hn iN pZ s σ H (.ref a) (.ref a) Q I rfl ⟨a,xs,rfl,hq,hl,hw⟩
 .obtain⟨its,rv,pl,hz⟩:=I.list hq;rw[assign_Tuple];refine ac<|vf ?_;unfold unpack;rw[iN];have hsz:(jw es X.env).length=its.toArray.size:=by rw[hn,ak,<-rv.length];exact hl.symm
  rw[hsz];refine ac<|fi<|Ŧ (I.ok.hd hc) pl.isList λg hx=>?_;have I1:Inv X pZ σ H { s with heap:=g }:=I.kept (t':=s.toks) λb o e=>hx b o (bf<|al e) e
  exact h pZ _ σ H xs _ Q I1 (by simpa using rv) hw
noncomputable def jE(n:Nat)(bs:List D->En->Option En):D->En->Option En:=λd r=>match d with
 |.tup l=>if l.length=n then bs l r else aD
 |.lst l=>if l.length=n then bs l r else aD
 |_=>aD
def Oc(hc:X.calm=true)(h:FY X es bs)(hn:(jw es X.env).length=n:=by rfl)(iN:(jw es X.env).findIdx? (·.1)=aD:=by rfl):DG X (.Tuple es k pos) (jE n bs):=by
 refine PG.aM (Ê hc h hn iN) λv σ H Q h=>?_
 obtain⟨O0,r,d,r',hR,iv,e,q⟩:=h;cases d<;>first|(simp only[jE,reduceCtorEq] at e;done)|skip
 .rename_i l;rw[zR] at iv;obtain⟨a,xs,rfl,hs,il⟩:=iv;simp only[jE] at e;split at e
  .rename_i hl;exact⟨a,xs,rfl,.inl hs,by rw[<-il.length];exact hl,O0,r,l,r',hR,il,e,q⟩
  .cases e
 .rename_i l;rw[zS] at iv;obtain⟨a,xs,rfl,hs,il⟩:=iv;simp only[jE] at e;split at e
  .rename_i hl;exact⟨a,xs,rfl,.inr hs.sq,by rw[<-il.length];exact hl,O0,r,l,r',hR,il,e,q⟩
  .cases e
set_option maxRecDepth 9000 in
def qh0(l:Addr)(xs:Array Value)(n:Nat)(b:Addr)(cl:Value)(dd:Option Addr)(ys:Array Value)(n2:Nat)(sl:Array (Option Value))(BZ:cl=.type "tuple")(h0:¬(!xs.isEmpty && kz (xs.size+ys.size))=true)(h1:xs.size<=ae)(h2:xs.size+ys.size<=ae+1):Meets (Builtin.«list.extend» ⟨[.ref l,.ref b],[]⟩) (λ_ R s=>s.heap.get? l=aA { cls:=.type "list",dict:=aD,data:=.seq xs n,slots:=#[] }/\s.heap.get? b=aA { cls:=cl,dict:=dd,data:=.seq ys n2,slots:=sl }/\R (.ok<|.ret Value.none) { s with heap:=s.heap.update l<|lq λx=>x++ys,toks:=s.toks }):=
 .of_wp λprog w A R s h=>by
  subst BZ;obtain⟨hp,g,d,tk,os⟩:=s;obtain⟨hl,hb,h⟩:=h;have f1:=AutoSeq1.idx_int;have f2:=yz;have f3:=zu;have f4:=zh;have f5:=zi;have hz:(xs++ys).size<=ae+1:=by rw[Array.size_append];exact h2
  wp_walk using (kl hl rfl (hz:=h1) (_hz':=hz)),wpAny_loadPart' hl,wpAny_loadPart' hb;exact⟨_,rfl,h⟩
set_option maxRecDepth 9000 in
def qh1(l:Addr)(xs:Array Value)(n:Nat)(b:Addr)(cl:Value)(dd:Option Addr)(ys:Array Value)(n2:Nat)(sl:Array (Option Value))(BZ:cl=.type "list")(h0:¬(!xs.isEmpty && kz (xs.size+ys.size))=true)(h1:xs.size<=ae)(h2:xs.size+ys.size<=ae+1):Meets (Builtin.«list.extend» ⟨[.ref l,.ref b],[]⟩) (λ_ R s=>s.heap.get? l=aA { cls:=.type "list",dict:=aD,data:=.seq xs n,slots:=#[] }/\s.heap.get? b=aA { cls:=cl,dict:=dd,data:=.seq ys n2,slots:=sl }/\R (.ok<|.ret Value.none) { s with heap:=s.heap.update l<|lq λx=>x++ys,toks:=s.toks }):=
 .of_wp λprog w A R s h=>by
  subst BZ;obtain⟨hp,g,d,tk,os⟩:=s;obtain⟨hl,hb,h⟩:=h;have f1:=AutoSeq1.idx_int;have f2:=yz;have f3:=zu;have f4:=zh;have f5:=zi;have hz:(xs++ys).size<=ae+1:=by rw[Array.size_append];exact h2
  wp_walk using (kl hl rfl (hz:=h1) (_hz':=hz)),wpAny_loadPart' hl,wpAny_loadPart' hb;exact⟨_,rfl,h⟩
def VI(K:Fg):V->List V->Hp->VK->Prop:=λx vs H Q=>∃l b xs zs,x=.ref l/\vs=[.ref b]/\H l=aA (.lst xs)/\(aX K H b zs\/d_ K H b zs)/\xs.length+zs.length<=ae/\Q .aE (upd H l<|.lst<|xs++zs)
def ĕ:Iu X "list.extend" (VI X.K):=by
 intro pZ s σ H x vs v us Q I rx rv h;obtain⟨l,b,xs,zs,rfl,rfl,hH,hB,hz,q⟩:=h;cases rx;obtain⟨u,rfl,ru⟩:=rv.one;cases ru;obtain⟨z,its,n,r,hl,e⟩:=I.Hk hH;have fin:∀(fC:List Value),Vals zs fC->¬(!its.toArray.isEmpty && kz (its.toArray.size+fC.toArray.size))=true/\its.toArray.size<=ae/\its.toArray.size+fC.toArray.size<=ae+1 /\
   EP X pZ σ Q Value.none { s with heap:=s.heap.update l<|lq λx=>x++fC.toArray,toks:=s.toks }:=λfC r2=>by
  have HF:=r2.length;have hsz:its.toArray.size+fC.toArray.size<=ae:=by rw[ak,ak];omega
  refine⟨by rw[Ε hsz,uy];exact av,by rw[ak];omega,by omega,.aE,_,I.Hl (its':=its++fC) hH e (by simp) (r.append r2) ?_,rfl,q⟩;rw[bc];omega
 rcases hB with hB|hB
 .obtain⟨fC,r2,⟨⟨c2,d2,dt2,Db⟩,n2,g2,hc,hd,hs⟩,z2⟩:=I.list hB;simp only at hc hd hs;subst hs;obtain⟨f1,f2,f3,f4⟩:=fin fC r2;exact tx F.slot_list_extend ⟨_,e,rfl⟩ abc (aar _ _) (qh1 l its.toArray n b _ _ fC.toArray n2 _ hc f1 f2 f3) ⟨e,g2,f4⟩
 .obtain⟨fC,r2,⟨⟨c2,d2,dt2,Db⟩,g2,hc,n2,hs⟩,z2⟩:=I.tuple hB;simp only at hc hs;subst hs;obtain⟨f1,f2,f3,f4⟩:=fin fC r2;exact tx F.slot_list_extend ⟨_,e,rfl⟩ abc (aar _ _) (qh0 l its.toArray n b _ _ fC.toArray n2 _ hc f1 f2 f3) ⟨e,g2,f4⟩
def QZ(i:Nat)(h:PE X (.Name x pn) (v6 i))(he:DE X e f)(fN:l7 apos eO:=by rfl)(fO:cn (.Name x pn) "extend" X.env (eval (.Name x pn) X.env)=eval (.Name x pn) X.env:=by rfl)(iU:Ay X [e] eO:=by rfl)(hs:ar [e] X.env=(false,eval e X.env)::ar [] X.env:=by rfl):DX X (.Call (.Attribute (.Name x pn) "extend" apos) [e] [] eO) (Cd i f):=by
 refine PE.aM (WV et PySem.F.slot_list_extend PySem.F.type_list_extend ĕ h (yK he xH hs) fO iU fN hs) λσ H Q hq=>?_
 obtain⟨O0,r,d',r',hR,e,q⟩:=hq;obtain⟨d,e1,e⟩:=aG e;obtain⟨m,em,e⟩:=aG e;obtain⟨l,e2,e⟩:=aG e;split at e
 .rename_i hl;obtain⟨r2,e3,e4⟩:=aY e;cases e4;obtain⟨a,xs,q1,q2,q3⟩:=QE hR e2;refine⟨.ref a,q1,.inl ⟨rfl,xs,aX.of q2⟩,O0,r,d,hR,e1,λv H1 s1 i1=>?_⟩;have R1:=hR.same s1;have key:∃b zs,v=.ref b/\(aX X.K H1 b zs\/d_ X.K H1 b zs)/\IsL X.K (Ow O0 r σ) H1 m zs:=by
   cases d<;>first|(cases em;done)|skip
   .cases em;rw[zR] at i1;obtain⟨b,zs,rfl,h1,h2⟩:=i1;exact⟨b,zs,rfl,.inr h1,h2⟩
   .cases em;rw[zS] at i1;obtain⟨b,zs,rfl,h1,h2⟩:=i1;exact⟨b,zs,rfl,.inl h1.sq,h2⟩
  obtain⟨b,zs,rfl,hb,il⟩:=key;obtain⟨R2,k2⟩:=R1.upd (xs':=xs++zs) e3 q1 (s1 _ _ q2)<|(q3.same s1 hR.ol).append il;exact⟨a,b,xs,zs,rfl,rfl,s1 _ _ q2,hb,by rw[<-q3.length,<-il.length];exact hl,q _ _ R2 ((Kp.of_same r σ s1).trans k2)<|by rw[yQ]⟩
 .cases e
def AB:List V->List V->Bool
 |[],[]=>true
 |x::xs,y::ys=>r_ x y && AB xs ys
 |_,_=>false
def C0:List D->List D->Bool
 |[],[]=>true
 |x::xs,y::ys=>Bl x y && C0 xs ys
 |_,_=>false
def Gp(xs ys:List V)(j:Nat):Bool:=match xs[j]?,ys[j]? with
 |some x,aA y=>r_ x y
 |_,_=>false
theorem cV:∀(xs ys:List V),xs.length=ys.length->(ku xs.length).all (Gp xs ys)=AB xs ys
 |[],[],_=>rfl
 |x::xs,y::ys,h=>by
  rw[am,List.range_succ_eq_map,mj,List.all_map,AB,<-cV xs ys<|by simpa using h];rfl
 |[],y::ys,h=>by simp at h
 |x::xs,[],h=>by simp at h
theorem nJ:∀(xs ys:List V),xs.length≠ys.length->AB xs ys=false
 |[],[],h=>by simp at h
 |x::xs,y::ys,h=>by rw[AB,nJ xs ys<|by simpa using h,uy]
 |[],y::ys,h=>rfl
 |x::xs,[],h=>rfl
theorem nI{K:Fg}:∀{l:List D} {xs:List V},IsL K O H l xs->l.all vV=true->xs.all vK=true
 |[],xs,h,_=>by unfold IsL at h;subst h;rfl
 |d::l,xs,h,f=>by
  rw[mj,dl] at f;unfold IsL at h;obtain⟨v,r,rfl,h1,h2⟩:=h;rw[mj,pK h1 f.1,nI h2 f.2];rfl
theorem P7{K:Fg}:∀{l m:List D} {xs ys:List V},IsL K O H l xs->IsL K O H m ys->l.all vV=true->m.all vV=true->AB xs ys=C0 l m
 |[],m,xs,ys,h,h',_,_=>by
  unfold IsL at h;subst h;cases m with
  |nil=>unfold IsL at h';subst h';rfl
  |cons e m=>unfold IsL at h';obtain⟨v,r,rfl,_,_⟩:=h';rfl
 |d::l,m,xs,ys,h,h',f,f'=>by
  unfold IsL at h;obtain⟨v,r,rfl,h1,h2⟩:=h;cases m with
  |nil=>unfold IsL at h';subst h';rfl
  |cons e m=>
   rw[mj,dl] at f f';unfold IsL at h';obtain⟨v',r',rfl,Th,h2'⟩:=h';rw[AB,C0,P7 h2 h2' f.2 f'.2,Om h1 f.1 Th f'.1]
def P8{K:Fg}:∀{l m:List D} {xs ys:List V},IsL K O H l xs->IsL K O H m ys->l.all vV=true->m.all vV=true->xs.all vK=true/\ys.all vK=true/\AB xs ys=C0 l m:=λh h' f f'=>⟨nI h f,nI h' f',P7 h h' f f'⟩
def Ga(K:Fg)(neg:Bool):R2:=λx y H Q=>∃p q xs ys,x=.ref p/\y=.ref q/\aX K H p xs/\aX K H q ys/\xs.all vK=true/\ys.all vK=true/\Q (.bl (if neg then !AB xs ys else AB xs ys)) H
def Pj{xs:List V}{j:Nat}{x:V}(h:xs.all vK=true)(e:xs[j]?=aA x):vK x=true:=List.all_eq_true.mp h x<|qo e
def J3(r:Vals xs its)(h:j<its.toArray.size):∃x,xs[j]?=aA x/\RelV x its.toArray[j]:=by
 have hj:j<xs.length:=by rw[r.length];simpa using h
 obtain⟨u,e,q⟩:=r.get (i:=j) (x:=xs[j]) (by simp[hj]);refine⟨xs[j],by simp[hj],?_⟩
 have:its.toArray[j]=u:=by
  have h':j<its.length:=by simpa using h
  simp only[List.getElem_toArray];rw[bx h'] at e;exact bu e
 rw[this];exact q
def YU{A:Around}{s:Shared}{xs ys:List V}{its fC:List Value}(r:Vals xs its)(r2:Vals ys fC)(fx:xs.all vK=true)(fy:ys.all vK=true):∀j (h1:j<its.toArray.size) (h2:j<fC.toArray.size),dq A s its.toArray[j] fC.toArray[j] (Gp xs ys j):=by
 intro j h1 h2;obtain⟨x,e1,q1⟩:=J3 r h1;obtain⟨y,e2,q2⟩:=J3 r2 h2
 have:Gp xs ys j=r_ x y:=by unfold Gp;rw[e1,e2]
 rw[this];exact Ol q1 q2 (Pj fx e1)<|Pj fy e2
def Yq(hu:X.A.units<cLine):eY X (gq .Eq) (Ga X.K false):=by
 intro pZ s σ H x y v u Q I rx ry h;obtain⟨p,q',xs,ys,rfl,rfl,h1,h2,fx,fy,q⟩:=h;cases rx;cases ry;obtain⟨its,r,pl,hz⟩:=I.list h1;obtain⟨fC,r2,Aj,SR⟩:=I.list h2;have n1:=r.length;have n2:=r2.length;by_cases hl:xs.length=ys.length
 .refine SeqAt.eq_listAt pl.isList Aj.isList (by simp only[ak];omega) hu (YU r r2 fx fy)<|xC I q ?_;rw[ak,<-n1,cV xs ys hl];rfl
 .refine SeqAt.eq_list_lengthsAt pl.isList Aj.isList (by simp only[ak,bne_iff_ne];omega) hu<|xC I q ?_;rw[nJ xs ys hl];rfl
def Yy(hu:X.A.units<cLine):eY X (gq .NotEq) (Ga X.K true):=by
 intro pZ s σ H x y v u Q I rx ry h;obtain⟨p,q',xs,ys,rfl,rfl,h1,h2,fx,fy,q⟩:=h;cases rx;cases ry;obtain⟨its,r,pl,hz⟩:=I.list h1;obtain⟨fC,r2,Aj,SR⟩:=I.list h2;have n1:=r.length;have n2:=r2.length;by_cases hl:xs.length=ys.length
 .refine SeqAt.RcNeAt.lists pl.isList Aj.isList (by simp only[ak];omega) hu (YU r r2 fx fy) _ _ _ _<|xC I q ?_;rw[ak,<-n1,cV xs ys hl];rfl
 .refine SeqAt.RcNeAt.lists_lengths pl.isList Aj.isList (by simp only[ak,bne_iff_ne];omega) hu _ _ _ _<|xC I q ?_;rw[nJ xs ys hl];rfl
def c_(x y:D):Option D:=match x,y with
 |.lst l,.lst m=>if l.all vV=true/\m.all vV=true then aA (.bl<|C0 l m) else aD
 |x,y=>Tp x y
def lC(x y:D):Option D:=match x,y with
 |.lst l,.lst m=>if l.all vV=true/\m.all vV=true then aA (.bl<|!C0 l m) else aD
 |x,y=>RX x y
def RD(K:Fg):R2:=λx y H Q=>Ga K false x y H Q\/KJ x y H Q
def Ru(K:Fg):R2:=λx y H Q=>Ga K true x y H Q\/KI x y H Q
def Yp(hu:X.A.units<cLine):eY X (gq .Eq) (RD X.K):=(Yq hu).or VA
def Yx(hu:X.A.units<cLine):eY X (gq .NotEq) (Ru X.K):=(Yy hu).or VC
def Xx{K:Fg}:g_ K (RD K) c_:=by
 intro O H dx dy d vx vy Q ol ix iy e q;unfold c_ at e;split at e
 .rename_i l m;split at e
  .rename_i hf;cases e;rw[zS] at ix iy;obtain⟨a,xs,rfl,hs,il⟩:=ix;obtain⟨b,ys,rfl,BW,Dv⟩:=iy;obtain⟨f1,f2,f3⟩:=P8 il Dv hf.1 hf.2;exact .inl ⟨a,b,xs,ys,rfl,rfl,hs.sq,BW.sq,f1,f2,q _ H (aH.refl H) (by rw[zZ,f3];rfl)⟩
  .cases e
 .exact .inr<|Vt O H dx dy d vx vy Q ol ix iy e q
def Zj{K:Fg}:g_ K (Ru K) lC:=by
 intro O H dx dy d vx vy Q ol ix iy e q;unfold lC at e;split at e
 .rename_i l m;split at e
  .rename_i hf;cases e;rw[zS] at ix iy;obtain⟨a,xs,rfl,hs,il⟩:=ix;obtain⟨b,ys,rfl,BW,Dv⟩:=iy;obtain⟨f1,f2,f3⟩:=P8 il Dv hf.1 hf.2;exact .inl ⟨a,b,xs,ys,rfl,rfl,hs.sq,BW.sq,f1,f2,q _ H (aH.refl H) (by rw[zZ,f3];rfl)⟩
  .cases e
 .exact .inr<|Vx O H dx dy d vx vy Q ol ix iy e q
def PN(e:o_ i l' r=aA r')(h:jZ r' σ b):jZ r σ b:=by
 obtain⟨x,y,ex,rfl,yo,ym,⟨l0,xm⟩,_⟩:=oF e;obtain⟨j,m,ej,qj⟩:=h;by_cases hj:j=i
 .subst hj;exact⟨j,l0,by rw[ex];exact mI xm,qj⟩
 .rw[zF λz=>hj z.symm] at ej;exact⟨j,m,ej,qj⟩
def Ō{c k}:ar (.Constant c k p::es) env=(false,eval (.Constant c k p) env)::ar es env:=rfl
noncomputable def Ej:List Expr->Option (List<|List Nat)
 |[]=>aA []
 |.Constant (.str x) _ _::es=>(Ej es).map (x.cps.toList::·)
 |_=>aD
noncomputable def A8(ss:List (List Nat)):ML:=λ_=>aA<|ss.map D.str
theorem pQ:∀{es:List Expr} {ss:List (List Nat)},Ej es=aA ss->DA X es (A8 ss)
 |[],ss,h=>by
  cases h;exact pR
 |e::es,ss,h=>by
  cases e<;>first|(simp only[Ej,reduceCtorEq] at h;done)|skip
  rename_i c j p;cases c<;>first|(simp only[Ej,reduceCtorEq] at h;done)|skip
  rename_i x;simp only[Ej] at h;obtain⟨AL,e1,rfl⟩:=aY h;exact jX (f:=mC<|.str x.cps.toList) (fs:=A8 AL) (ZB rfl) (pQ e1) (hs:=Ō)
section
variable{X:Cx}{pos:Pos}{a b tg:Expr}{f g:ME}
def Pq{x:Str}{i:Int}(h:∃t,X.mg x=aA (.int i t))(hg:Gl X x)(hd:iH x:=by decide):DE X (.Name x pos) (mC<|.int i):=by
 obtain⟨t,h⟩:=h;exact pP (PQ (v:=.int i) hg h ⟨t,rfl⟩ hd) λO H=>by rw[zG]
theorem YV{K:Fg}{O:Addr->Prop}{H:Hp}:∀ss:List (List Nat),IsL K O H (ss.map D.str) (ss.map λs=>V.str ⟨s.toArray⟩)
 |[]=>IsL.nil
 |s::ss=>.cons (by rw[zU])<|YV ss
def Js{Ps:Params}{x:Str}{tbl:List (List Nat×List Nat)}{pZ:List (Addr×Obj)}{σ:St}{H:Hp}{s:Shared}{p:Addr}{es:Array DictEntry}{n:Nat}(I:Inv X pZ σ H s)(hl:X.K.lookup p=aA ⟨.type "dict",aD,.dict es n,#[]⟩)(hk:qq X.w.params es.toList):s.heap.MapOf (strKind X.prog X.w) p (λk=>findBy og es k):=PySem.W.mapOf_K (I.mod.Bf.keeps I.bk) hl hk
def gT(es:Array DictEntry)(k:Str):findBy og es k=(es.toList.find? λd=>og k d.key).map (·.val):=by
 obtain⟨l⟩:=es;unfold findBy;rw[List.find?_toArray]
def P0{x:Str}{p:Addr}(h:X.mg x=aA (.ref p))(hg:Gl X x)(hd:iH x:=by decide):DE X (.Name x pos) (mC<|.ref p):=
 pP (PQ (v:=.ref p) hg h rfl hd) λO H=>by rw[qJ]
end
open Builtin.Str
noncomputable def bW:D->Option D
 |.bl b=>aA<|.int (if b then 1 else 0)
 |_=>aD
def JK:iW X (.type "int") (λxs H Q=>∃b:Bool,xs=[.bl b]/\Q (.int (if b then 1 else 0)) H):=by
 intro pZ s σ H xs us Q I r hq;obtain⟨y,rfl,q⟩:=hq;obtain⟨u,rfl,ru⟩:=Vals.one r;obtain rfl:u=.bool y:=ru;exact call_int_bool ⟨.int _,H,I.tok _,⟨_,rfl⟩,q⟩
def å(hg:Gl X "int")(hm:X.mg "int" = aD)(ha:DE X a f)(hs:ar [a] X.env=(false,eval a X.env)::ar [] X.env:=by rfl):DE X (.Call (.Name "int" p') [a] [] pos) (aU bW f):=by
 refine PE.aM (uM JK hg hm PyProof.Rows.boot_int (yK ha xH hs) (he:=hs)) λσ H Q hq=>?_
 obtain⟨O0,r,d,hR,e,q⟩:=hq;obtain⟨x,e1,e2⟩:=aG e;refine⟨O0,r,x,hR,e1,λv H1 s1 i1=>?_⟩;cases x<;>first|(simp only[bW,reduceCtorEq] at e2;done)|skip
 cases e2;rw[zZ] at i1;exact⟨_,by rw[i1],q _ H1 s1<|by rw[zG]⟩
def Ĝ{K:Fg}{Dn:Ends}(h:lS K (xB i<|xQ fl) Dn σ H):lF K fl σ H (λv H1=>QW i v σ H1 Dn.nx):=by
 obtain⟨O0,r,Ao,hR,e,q⟩:=h;obtain⟨d,e1,e2⟩:=aG e;obtain⟨r',e3,rfl⟩:=aY e2;obtain⟨l,e4,rfl⟩:=aY e1;obtain⟨hl,np,rfl⟩:=jQ e3;refine⟨O0,r,l,hR,e4,λp xs H1 s1 n1 e5 i1=>?_⟩;have ol:kT (λb=>Ow O0 r σ b\/b=p) H1:=λb z=>z.elim (λz=>(hR.same s1).ol b z) λz=>by subst z;exact⟨.lst xs,e5,trivial⟩
 have iv:Is K (Ow O0 r σ) H1 (.lst l) (.ref p):=by
  rw[zS];exact⟨p,xs,rfl,.inl ⟨hR.AR n1,.inl e5⟩,IsL.mono (aH.kp (aH.refl H1) _) ol (λa z _=>.inl z) l xs i1⟩
 obtain⟨R1,k1⟩:=(hR.same s1).Co hl np iv;exact q _ H1 R1<|(Kp.of_same r σ s1).trans k1
def Q3(i:Nat)(hc:X.calm=true)(o:sD X N' cap scope)(hi:DI X tg iter it)(hg:∀C fp s H,DG (eX X N' scope C fp s H) tg bd)(ht:∀C fp s H,DT (eX X N' scope C fp s H) ce c)(he:∀C fp s H,DE (eX X N' scope C fp s H) elt x)(n:Nat)(hN:X.N.Nodup)(hn:N'.length=n:=by rfl)(hy:X.N[i]?=aA y:=by rfl)(hx:Loc X.env.scope y:=by first|exact Or.inl rfl|exact Or.inr rfl)(hf:m_ X y:=by first|exact .inl rfl|exact .inr rfl)(Ll:js (.ListComp elt [⟨tg,iter,[ce],0⟩] scope pos) (aA<|.Name y py) KA.line X.env=pure true:=by rfl)(hs:∀x,iq iter X.env x=pure x:=by intro _;rfl):DS X (.Assign [.Name y py] (.ListComp elt [⟨tg,iter,[ce],0⟩] scope pos) KA) (xB i<|xQ<|xW cap n it bd c x):=by
 subst hn;exact PS.aM (δ (i:=i) (g:=lG X.K bd) (te:=lE X.K x) (tc:=aA<|lT X.K c) hc o hi hg ⟨ce,rfl,ht⟩ he hN hy hx hf Ll hs) λDn σ H h=>dP (tc:=aA<|lT X.K c) (λz=>z) N'.length<|Ĝ h
end DD
namespace TS
open PySem PyProof.Rows
open PySem PyProof.Rows PySem.W
end TS
namespace DD
open PySem PySem.Spec PyProof.Rows L2
noncomputable def p_:D->D->Option D
 |.int i,.int j=>aA<|.bl<|decide (i<j)
 |.str s,.str t=>aA<|.bl<|decide (s<t)
 |_,_=>aD
def Yu:eY X (gq .Lt) (λx y H Q=>∃i j,x=.str i/\y=.str j/\Q (.bl<|decide (i.cps.toList<j.cps.toList)) H):=by
 intro pZ s σ H x y v u Q I rx ry hq;obtain⟨i,j,rfl,rfl,q⟩:=hq;obtain⟨t,rfl⟩:=rx;obtain⟨t',rfl⟩:=ry;exact PySem.P.lt_str ⟨.bl _,H,I,rfl,q⟩
def Rv:R2:=λx y H Q=>sK (λi j=>.bl<|decide (i<j)) x y H Q\/∃i j,x=.str i/\y=.str j/\Q (.bl<|decide (i.cps.toList<j.cps.toList)) H
def Yt:eY X (gq .Lt) Rv:=qb8.or Yu
def Zg{K:Fg}:g_ K Rv p_:=by
 intro O H dx dy d vx vy Q ol ix iy e q;cases dx<;>cases dy<;>first|(simp only[p_,reduceCtorEq] at e;done)|skip
 .simp only[p_,fw] at e;subst e;rw[zG] at ix iy;exact .inl ⟨_,_,ix,iy,q _ H (aH.refl H)<|by rw[zZ]⟩
 .simp only[p_,fw] at e;subst e;rw[zU] at ix iy;exact .inr ⟨_,_,ix,iy,q _ H (aH.refl H)<|by rw[zZ]⟩
mutual
noncomputable def fI:D->PyData
 |.aE=>.none
 |.bl b=>.bool b
 |.int i=>.int i
 |.str s=>.str ⟨s.toArray⟩
 |.tup l=>.tuple<|Bv l
 |.lst l=>.list<|Bv l
 |.ty _=>.none
 |.ref _=>.none
 |.aI _ _=>.none
noncomputable def Bv:List D->List PyData
 |[]=>[]
 |d::l=>fI d::Bv l
end
mutual
noncomputable def AO:D->Bool
 |.tup l=>Cf l
 |.lst l=>Cf l
 |.ty _=>false
 |.ref _=>false
 |.aI _ _=>false
 |_=>true
noncomputable def Cf:List D->Bool
 |[]=>true
 |d::l=>AO d && Cf l
end
mutual
theorem bH(I:Inv X pZ σ H s):∀(d:D) (v:V) (u:Value),AO d=true->Is X.K O H d v->RelV v u->∃as,Reads s.heap u (fI d) as
 |.aE,v,u,_,h,r=>by rw[yQ] at h;subst h;cases r;exact⟨_,.none⟩
 |.bl b,v,u,_,h,r=>by rw[zZ] at h;subst h;cases r;exact⟨_,.bool b⟩
 |.int i,v,u,_,h,r=>by rw[zG] at h;subst h;obtain⟨t,rfl⟩:=r;exact⟨_,.int i t⟩
 |.str x,v,u,_,h,r=>by rw[zU] at h;subst h;obtain⟨t,rfl⟩:=r;exact⟨_,.str _ t⟩
 |.ty n,v,u,o,_,_=>by simp[AO] at o
 |.ref a,v,u,o,_,_=>by simp[AO] at o
 |.aI ks l,v,u,o,_,_=>by simp[AO] at o
 |.tup l,v,u,o,h,r=>by
  rw[zR] at h;obtain⟨a,xs,rfl,sq,il⟩:=h;cases r;obtain⟨its,rv,⟨ob,e,c,n,dt⟩,_⟩:=I.tuple sq;obtain⟨as,q⟩:=cU I l xs its (by simpa [AO] using o) il rv;exact⟨_,.tuple e c dt<|by simpa using q⟩
 |.lst l,v,u,o,h,r=>by
  rw[zS] at h;obtain⟨a,xs,rfl,sq,il⟩:=h;cases r;obtain⟨its,rv,⟨ob,n,e,c,_,dt⟩,_⟩:=I.list sq.sq;obtain⟨as,q⟩:=cU I l xs its (by simpa [AO] using o) il rv;exact⟨_,.list e c dt<|by simpa using q⟩
theorem cU(I:Inv X pZ σ H s):∀(l:List D) (vs:List V) (us:List Value),Cf l=true->IsL X.K O H l vs->Vals vs us->∃as,ReadsAll s.heap us (Bv l) as
 |[],vs,us,_,h,r=>by unfold IsL at h;subst h;cases r;exact⟨_,.nil⟩
 |d::l,vs,us,o,h,r=>by
  unfold IsL at h;obtain⟨v,vr,rfl,h1,h2⟩:=h;simp only[Cf,dl] at o;cases r with
  |cons r1 r2=>
   obtain⟨as,q1⟩:=bH I d v _ o.1 h1 r1;obtain⟨bs,q2⟩:=cU I l vr _ o.2 h2 r2;exact⟨_,.cons q1 q2⟩
end
def ϩ(r:eS k A):A.units+200<cLine:=by have:=r.un;omega
def eM:Sl->Prop
 |.un=>True
 |.v _=>True
 |_=>False
def zY(e:r[i]?=aA x)(h:eM x):yI i d r=aA (r.set i<|.v d):=by
 unfold yI;rw[e];cases x<;>first|rfl|cases h
def OS(e:r[i]?=aA (.o<|S++[d])):rJ i r=aA (d,r.set i<|.o S):=by
 simp[rJ,AF,e,Sl.ml,o_]
def Jp(e:r[i]?=aA (.o S))(e2:f r=aA d)(h:S.length<ae):AD i f r=aA (.aE,r.set i<|.o<|S++[d]):=by
 simp[AD,AF,e,Sl.ml,o_,e2,h]
def yB(e:g r=aA (.nx r')):yA g h r=h r':=by
 unfold yA;rw[e];rfl
def Kh(e:g r=aA (.rt d r')):yA g h r=aA (.rt d r'):=by
 unfold yA;rw[e];rfl
def rG(e:f r=aA (d,r')):sX f r=aA (.nx r'):=by
 unfold sX;rw[e];rfl
def xF(e:f r=aA d)(e2:yI i d r=aA r2):xB i f r=aA (.nx r2):=by
 unfold xB;rw[e];show(yI i d r).map Fl.nx=_;rw[e2];rfl
def vC(e:c r=aA true):aR c g h r=g r:=by
 unfold aR;rw[e];rfl
def wX(e:c r=aA false):aR c g h r=h r:=by
 unfold aR;rw[e];rfl
def ZG(h:c r=aA true)(e:g r=aA (.nx r')):kK (n+1) c g r=kK n c g r':=by
 show(c r).bind _=_;rw[h,aa,if_pos rfl,e,aa]
def nQ(h:c r=aA false):kK (n+1) c g r=aA (.nx r):=by
 show(c r).bind _=_;rw[h,aa,if_neg<|by simp]
def b9(h:bd d r=aA r1)(e:g r1=aA (.nx r')):dL bd g (d::l) r=dL bd g l r':=by
 show(bd d r).bind _=_;rw[h,aa,e,aa]
def zO(e1:f r=aA x)(e2:g r=aA y)(e:m x y=aA d):zK m f g r=aA d:=by
 unfold zK;rw[e1,aa,e2];exact e
def vL(e1:f r=aA x)(e:m x=aA d):aU m f r=aA d:=by
 unfold aU;rw[e1];exact e
def xD(e1:f r=aA (.int i))(e2:g r=aA (.int j)):zK kR f g r=aA (.int<|i+j):=zO e1 e2 rfl
def qE(e1:f r=aA (.int i))(e2:g r=aA (.int j))(h:0<j):zK bT f g r=aA (.int<|i % j):=zO e1 e2<|if_pos h
def QC(e1:f r=aA (.int i))(e2:g r=aA (.int j))(h : -(2 ^ 64)<i/\i<2 ^ 64):zK Bt f g r=aA (.int<|i*j):=zO e1 e2<|if_pos<|.inl h
def gU(e1:f r=aA (.int i))(e2:g r=aA (.int j))(h:0<j/\j<1073741824):zK gV f g r=aA (.int<|i / j):=zO e1 e2<|if_pos h
def zE:mC d r=aA d:=rfl
def zB(e1:f r=aA x)(e2:fl r=aA l):zA f fl r=aA (x::l):=by
 unfold zA;rw[e1,aa,e2];rfl
def zQ:zM r=aA []:=rfl
def cI(e:fl r=aA l)(h:l.length<=100):xQ (yL fl) r=aA (.lst l):=by
 unfold xQ yL;rw[e,aa,if_pos<|cg h<|by decide];rfl
def wH(e:fl r=aA l)(h:l.length<=100):wI fl r=aA (.tup l):=by
 unfold wI;rw[e,aa,if_pos<|cg h<|by decide]
def yN(e:fl r=aA l)(hl:l.length=n)(h:∃as,m (l.map .v)=aA (p,as)):zP n m fl r=aA (G8 p):=by
 obtain⟨as,h⟩:=h;unfold zP;rw[e,aa,if_pos hl,h];rfl
def wN(e:f r=aA (.bl b)):aP f r=aA b:=by
 unfold aP;rw[e];rfl
def yG(e:f r=aA d):xE f r=aA (.rt d r):=by
 unfold xE;rw[e];rfl
def zT(d:D)(e:f r=aA d)(e2:yI k d r=aA r2)(q:h r2=z):yA (xB k f) h r=z:=by
 rw[yB<|xF e e2];exact q
def yR(e:c r=aA false)(q:h r=z):yA (aR c a zV) h r=z:=by
 rw[yB (r':=r) (by rw[wX e];rfl)];exact q
def xR(e:c r=aA true)(q:a r=aA (.rt d r')):yA (aR c a zV) h r=aA (.rt d r'):=Kh (by rw[vC e];exact q)
def wF(e:s (as++bg (N-n) .un)=aA (.rt d r')):∃bs,eW n N s as=aA (.v d,bs):=by
 unfold eW;rw[e];exact⟨_,rfl⟩
def J7(h:s.length+t.length<=100):kR (.str s) (.str t)=aA (.str<|s++t):=if_pos (cg h<|by decide)
def Ey{lo:MO}(e1:f r=aA x)(e2:lo r=aA a)(e3:hi r=aA b)(e:Cn x a b=aA d):fR f lo hi r=aA d:=by
 unfold fR;rw[e1,aa,e2,aa,e3];exact e
def Xu(e:g r=aA (.int i)):aU XS g r=aA (.int<|-i):=vL e rfl
def vN(e:g r=aA (.int i)):wZ g r=aA (aA i):=by
 unfold wZ;rw[e];rfl
def QV(e1:f r=aA (.int i))(e2:g r=aA (.int j)):aP (zK B0 f g) r=aA (decide (j<i)):=wN<|zO e1 e2 rfl
def Pz(h:l.length+m.length<=100000):kR (.lst l) (.lst m)=aA (.lst<|l++m):=if_pos (cg h<|by decide)
def à(s:List α)(i k:Nat):mV s (aA (i:Int)) (aA (k:Int))=(s.take k).drop i:=by
 unfold mV;rw[HT.G5,HT.G5,List.drop_take];by_cases h:i<=s.length
 .rw[xg h,List.take_eq_take_iff,jf];rw[aac,aac,Nat.min_assoc,Nat.min_self]
 .have e1:s.drop (min i s.length)=[]:=pe (by omega);have e2:s.drop i=[]:=pe (by omega);rw[e1,e2];simp
def Pa(e:f r=aA (.int (n:Int)))(h:n<1000):C7 f r=aA ((ku n).map λk=>.int<|(0:Int)+(k:Nat)):=by
 have h1 : -(2 ^ 62:Int)<=(n:Int)/\(n:Int)<2 ^ 62:=by constructor<;>omega
 have h2:DD.intD (.int (n:Int))=aA (n:Int):=by unfold DD.intD;rfl
 unfold C7;rw[e,aa,h2,aa,if_pos h1,qc];unfold CY;rfl
def HR(h1:yI i a r=aA r1)(h2:yI j b r1=aA r2):jE 2 (yH (yI i)<|yH (yI j) jY) (.tup [a,b]) r=aA r2:=by
 show((yI i a r).bind λz=>(yI j b z).bind λy=>aA y)=_;rw[h1,aa,h2];rfl
def Ix(K:Fg)(a:Addr)(n:Nat):It:=
 ⟨λi H=>∃xs x,aX K H a xs/\xs.length=n/\i<n/\xs[n-1-i]?=aA x,λi H x H'=>H'=H/\∀xs,aX K H a xs->xs[n-1-i]?=aA x,λi _=>i=n⟩
def X9{K:Fg}(a it:Addr)(n:Nat):Turn P w K tg (Ix K a n) [it] it (λi h=>h.IsRevIter it a<|(n:Int)-1-(i:Int)) where
 mem:=by simp
 obj:=λi h st b hb=>by
  have e:b=it:=by simpa using hb
  subst e;obtain⟨o,e,c,d⟩:=st;exact⟨o,e,λv z=>by rw[d] at z;cases z⟩
 keep:=λi h h' st k=>st.at λo e=>k it (by simp) o e
 item:=by
  intro X hP hw hK hc i pZ s σ H E I hf st hg;subst hP hw hK;obtain⟨xs,x,hq,hn,hi,hx⟩:=hg;obtain⟨its,rv,p,hz⟩:=I.list hq;obtain⟨u,hu,ru⟩:=rv.get hx;obtain⟨f0,f1,f2,f3,f4,f5⟩:=hf it (by simp);have e1:(n:Int)-1-(i:Int)=((n-1-i:Nat):Int):=by clear st hu hx hq hn rv p;omega
  rw[e1] at st;refine wpAny_pyNext_rev_item st p.isList (x:=u) (by simpa using hu) λh' aS sb=>?_
  have e2:((n-1-i:Nat):Int)-1=(n:Int)-1-((i+1:Nat):Int):=by clear st aS hu hx hq hn rv p;omega
  rw[e2] at aS;have I1:Inv X pZ σ H { s with heap:=h' }:=I.turned (t':=s.toks) (λb o hb e=>(sb.2 b hb).trans e) f0 f1 f3 f4 f5;obtain⟨o,e,c,d⟩:=id aS;exact⟨u,rfl,EF (s:={ s with heap:=h' }) e c d (by decide) ⟨x,H,I1,ru,⟨rfl,λys hy=>by rw[I.Hm hy hq];exact hx⟩,aS,λb hb=>(hf b hb).1⟩⟩
 done:=by
  intro X hP hw hK hc i pZ s σ H E I hf st hg;subst hP hw hK;obtain rfl:i=n:=hg;obtain⟨f0,f1,f2,f3,f4,f5⟩:=hf it (by simp);have e1:(i:Int)-1-(i:Int)=-1:=by clear st;omega
  rw[e1] at st;exact wpAny_pyNext_rev_end (I.ok.hd hc) st λh' eb=>⟨rfl,I.turned (t':=s.toks) (λb o hb e=>eb b o hb e) f0 f1 f3 f4 f5⟩
 self:=λ_ _ _ _ _ st h=>aag st h
def ş{K:Fg}(mo:∀a,M a->O a)(ol:kT O H)(rd:∀H1,dZ M H H1->aX K H1 a xs)(il:IsL K O H ds xs):Bw K O M H (Ix K a xs.length) ds.reverse:=by
 intro i H1 O' kp oo;have iZ:dZ O H H1:=λb o e n=>kp b o e λz=>n<|mo b z
 have sJ:aX K H1 a xs:=rd H1 kp;have ll:=il.length;have bk:∀d,ds.reverse[i]?=aA d->i<xs.length/\ds[xs.length-1-i]?=aA d:=λd e=>by
  have hi:i<ds.length:=by
   obtain⟨h,_⟩:=aq.mp e;rw[gx] at h;exact h
  rw[qe hi,ll] at e;exact⟨ll ▸ hi,e⟩
 refine⟨λhi=>⟨?_,λx H' y=>?_⟩,λhi=>by rw[gx,ll] at hi;exact hi⟩
 .obtain⟨d,e⟩:=kP hi;obtain⟨BY,e'⟩:=bk d e;obtain⟨v,e1,_⟩:=il.get e';exact⟨xs,v,sJ,rfl,BY,e1⟩
 .obtain⟨rfl,y⟩:=y;refine⟨aH.refl _,λd e=>?_⟩;obtain⟨BY,e'⟩:=bk d e;obtain⟨v,e1,q⟩:=il.get e'
  have:=y xs sJ
  rw[e1] at this;cases this;exact Is.mono iZ ol oo _ _ q
def ĳ(hg:Gl X "reversed")(hm:X.mg "reversed" = aD)(ha:PE X a ta)(hs:ar [a] X.env=[(false,eval a X.env)]:=by rfl):PI X tg (.Call (.Name "reversed" p) [a] [] pos) (λσ H R=>ta σ H λx H1=>∃u xs,x=.ref u/\aX X.K H1 u xs/\R (Ix X.K u xs.length) H1):=by
 intro pZ s σ H R I h;have hA:PA X [a] (mM ta Ag):=yK ha xH hs;refine Call_<|uB I hg hm xx<|fq (aQ (hA pos pZ s σ H (z1 λx H1=>∃u xs,x=.ref u/\aX X.K H1 u xs/\R (Ix X.K u xs.length) H1) I h) λus s1 ⟨vs,H1,I1,r1,q1⟩=>?_) hs rfl;obtain⟨_,rfl,u,xs,rfl,hx,q⟩:=Kg q1;obtain⟨uu,rfl,ru⟩:=Vals.one r1;cases ru;obtain⟨its,rv,pl,_⟩:=I1.list hx;have hl:its.toArray.size=xs.length:=by rw[ak];exact rv.length.symm
 have z1:(s1.heap.push<|revObj u<|(its.toArray.size:Int)-1).IsRevIter s1.heap.objs.size u ((its.toArray.size:Int)-1):=⟨_,ay _ rfl,rfl,rfl⟩;refine call_reversed_list pl.isList<|aag z1 ?_;refine⟨_,[s1.heap.objs.size],_,_,H1,rfl,I1.kept (t':=s1.toks) λb o e=>ad _ e,X9 u _ xs.length,?_,λb hb=>?_,q⟩
 .rw[hl] at z1 ⊢;rw[show((xs.length:Int)-1-((0:Nat):Int))=(xs.length:Int)-1 from Int.sub_zero _];exact z1
 .have e:b=s1.heap.objs.size:=by simpa using hb
  subst e;exact I1.B1 (ah _)<|I1.aT.fresh<|ah _
def QH(f:ML):ML:=λr=>(f r).map List.reverse
def ŵ(hg:Gl X "reversed")(hm:X.mg "reversed" = aD)(ha:DK X a fl)(hs:ar [a] X.env=[(false,eval a X.env)]:=by rfl):DI X tg (.Call (.Name "reversed" p) [a] [] pos) (QH fl):=by
 refine PI.aM (ĳ hg hm ha hs) λσ H Rr hq=>?_
 obtain⟨O0,r,ds,hR,e,q⟩:=hq;obtain⟨l,e1,rfl⟩:=aY e;refine⟨O0,r,l,hR,e1,λu xs H1 s1 kp il=>?_⟩;exact⟨u,xs,rfl,kp H1 λb o e _=>e,q _ H1 s1<|ş (λa z=>.inr z.own) (hR.same s1).ol kp il⟩
def cG(fl:ML):ME:=λr=>(fl r).bind λl=>(YX l).map λns=>.int ns.sum
def JE(hc:X.calm=true):iW X (.builtin "sum") (λxs H Q=>∃(p:Addr) (ns:List Int),xs=[.ref p]/\aX X.K H p (ns.map V.int)/\Q (.int ns.sum) H):=by
 intro pZ s σ H xs us Q I r hq;obtain⟨p,ns,rfl,hS,q⟩:=hq;obtain⟨u,rfl,ru⟩:=Vals.one r;cases ru;obtain⟨its,rv,pl,hz⟩:=I.list hS;have hi:IntsAre its ns:=bL rv
 (obtain⟨xs,e⟩:=hi.allInts.items)
 have sM:ns=xs.toList.map (·.1):=by rw[<-hi.numsOf,<-yp,<-e]
 have BC:=pl.isList;rw[e] at BC;refine sum_intListG (I.ok.hd hc) BC λh' tk t' hk=>⟨.int ns.sum,H,I.kept hk,⟨t',?_⟩,q⟩
 rw[preSum_eq,sM,ma (by rw[ag,gy];exact ah _)]
def é(hc:X.calm=true)(hg:Gl X "sum")(hm:X.mg "sum" = aD)(ha:DB X a fl)(hs:ar [a] X.env=(false,eval a X.env)::ar [] X.env:=by rfl):DE X (.Call (.Name "sum" p') [a] [] pos) (cG fl):=by
 refine PE.aM (kX (JE hc) hg hm PyProof.Rows.boot_sum (yK ha xH hs) (he:=hs)) λσ H Q hq=>?_
 obtain⟨O0,r,d,hR,e,q⟩:=hq;obtain⟨l,e1,e2⟩:=aG e;obtain⟨ns,e3,rfl⟩:=aY e2;refine⟨O0,r,l,hR,e1,λp xs H1 s1 sq il=>?_⟩;have ex:=dI e3 il;subst ex;exact⟨p,ns,rfl,sq,q _ H1 s1<|by rw[zG]⟩
def Y1{K:Fg}(ol:kT O H)(hp:H p=aD)(h:IsL K O H l xs):IsL K (λb=>O b\/b=p) (upd H p<|.lst ys) l xs:=
 IsL.mono (aH.kp (yD hp) _) ol (λa z n=>z.elim id λz=>by subst z;exact absurd hp n) _ _ h
noncomputable def sY(f g:ML):ML:=λr=>(f r).bind λl=>(g r).bind λm=>if l.length+m.length<=ae then aA (l++m) else aD
def Wm(ha:DB X a fl)(hb:DB X b gl):DF X (.BinOp a .Add b pos) (sY fl gl):=by
 refine PE.aM (NH RL ha hb) λσ H Q h=>?_
 obtain⟨O0,r,d,hR,e,q⟩:=h;obtain⟨l,e1,e⟩:=aG e;obtain⟨m,e2,e⟩:=aG e;split at e
 .rename_i hz;cases e;refine⟨O0,r,l,hR,e1,λp xs H1 s1 sq il=>⟨O0,r,m,hR.same s1,e2,λp' ys H2 s2 sq' Dv=>?_⟩⟩;refine⟨p,p',xs,ys,rfl,rfl,s2.seq sq,sq',by rw[<-il.length,<-Dv.length];exact hz,λt ht=>q t _ _ ((s1.trans s2).trans<|yD ht) ((s1.trans s2).free ht) zJ ?_⟩;exact Y1 (hR.same<|s1.trans s2).ol ht<|(il.same s2 (hR.same s1).ol).append Dv
 .cases e
def rH(l:List (List Nat)):Prop:=l.Pairwise λa b=>¬b<a
open Classical in
noncomputable def kS(l:List (List Nat)):List (List Nat):=if h:∃m,m.Perm l/\rH m then h.choose else l
def WM(h1:rH l)(h2:rH m)(p:l.Perm m):l=m:=
 List.Perm.eq_of_pairwise (le:=λa b=>¬b<a) (λa b _ _ x y=>List.le_antisymm (as:=a) (bs:=b) x y) h1 h2 p
def ZV(p:m.Perm l)(h:rH m):m=kS l:=by
 have ex:∃m,m.Perm l/\rH m:=⟨m,p,h⟩;unfold kS;rw[dif_pos ex];exact WM h ex.choose_spec.2<|p.trans ex.choose_spec.1.symm
def qL(l:List (List Nat)):(kS l).length=l.length:=by
 unfold kS;split
 .rename_i h;exact h.choose_spec.1.length_eq
 .rfl
theorem gF:∀(p:Str) (l:List Str),risingS p l=true->((p::l).map λs=>s.cps.toList).Pairwise λa b=>¬b<a
 |p,[],_=>by simp
 |p,x::r,h=>by
  unfold risingS at h;rw[dl] at h;have ih:=gF x r h.2;have hx:¬x.cps.toList<p.cps.toList:=by
   have:=h.1
   rw[ltCps_eq] at this;simpa using this
  rw[au,List.pairwise_cons];refine⟨λb hb=>?_,ih⟩;rw[au,bq] at hb;rcases hb with rfl|hb
  .exact hx
  .rw[au,List.pairwise_cons] at ih;exact List.le_trans (l₁:=p.cps.toList) (l₂:=x.cps.toList) hx<|ih.1 b hb
def rX:∀(l:List Str),sortedS l=true->rH (l.map λs=>s.cps.toList)
 |[],_=>by simp[rH]
 |x::r,h=>gF x r h
theorem uH:∀{ss:List (List Nat)} {its:List Value},Vals (ss.map λs=>V.str ⟨s.toArray⟩) its->StrsAre its (ss.map λs=>(⟨s.toArray⟩:Str))
 |[],_,.nil=>.nil
 |s::ss,_,.cons r t=>by
  obtain⟨u,rfl⟩:=r;exact .cons _ _<|uH t
theorem uG:∀{ss:List Str} {its:List Value},StrsAre its ss->Vals ((ss.map λs=>s.cps.toList).map λs=>V.str ⟨s.toArray⟩) its
 |_,_,.nil=>.nil
 |_,_,.cons x t h=>.cons ⟨t,by simp⟩<|uG h
noncomputable def dR(bd:D->En->Option En)(x:En->Option (D×En)):List D->En->Option (List D×En)
 |[],r=>aA ([],r)
 |d::l,r=>(bd d r).bind λr1=>(x r1).bind λp=>(dR bd x l p.2).map λq=>(p.1::q.1,q.2)
def b6(i n:Nat)(it:ML)(bd:D->En->Option En)(x:En->Option (D×En)):En->Option (D×En):=λr=>(it r).bind λl=>(AF r i).bind λL=>if l.length<ae then (dR bd x l (Sl.p L::bg (n-1) Sl.un)).bind λ(q:List D×En)=>match (q.2[0]?:Option Sl) with
 |some (.p L')=>(o_ i L' r).map λr'=>(.lst q.1,r')
 |_=>aD
 else aD
section
variable{X:Cx}{N':List Str}{scope:Scope}{elt tg iter:Expr}{pos:Pos}{it:ML}{bd:D->En->Option En}{x:En->Option (D×En)}{i:Nat}
def r6(hu:q .un=aD)(e:((Sl.p L::bg k Sl.un)[j]?).bind q=aA m):j=0/\q (.p L)=aA m:=by
 cases j with
 |zero=>exact⟨rfl,e⟩
 |succ j=>
  rw[ze,cw] at e;split at e
  .rw[aa,hu] at e;cases e
  .cases e
def R.qi5{K:Fg}(ol:kT O H)(ha:O a)(ea:H a=aA (.lst xs))(il:IsL K O H L xs):R K O H (.p L::bg k .un) (aA (.ref a)::bg k aD):=by
 have ow:∀b,Ow O (.p L::bg k .un) (aA (.ref a)::bg k aD) b->H b≠aD->O b:=λb z _=>z.elim id λ⟨j,m,ej,qj⟩=>by
  obtain⟨rfl,_⟩:=r6 rfl ej;cases qj;exact ha
 have get:∀(j:Nat) (x:Sl),(Sl.p L::bg k Sl.un)[j]?=aA x->(j=0/\x=.p L)\/x=.un:=λj x e=>by
  cases j with
  |zero=>cases e;exact .inl ⟨rfl,rfl⟩
  |succ j=>
   rw[ze,cw] at e;split at e
   .cases e;exact .inr rfl
   .cases e
 refine⟨by simp,λj d e=>?_,λj m e=>?_,λj j' b m m' e1 e2 _ _=>?_,ol,λj m b e _=>?_,λj m b e q=>?_,λj _ ks m e=>?_⟩
 .rcases get _ _ e with⟨_,z⟩|z<;>cases z
 .obtain⟨rfl,e2⟩:=r6 rfl e;cases e2;exact⟨a,xs,rfl,ea,IsL.mono (aH.kp (aH.refl H) _) ol ow _ _ il⟩
 .rw[(r6 rfl e1).1,(r6 rfl e2).1]
 .rcases e with e|e|⟨_,e⟩<;>rcases get _ _ e with⟨_,z⟩|z<;>cases z
 .obtain⟨x,e1,e2⟩:=aG e;rcases get _ _ e1 with⟨rfl,z⟩|z
  .cases q;exact ha
  .subst z;cases e2
 .rcases get _ _ e with⟨_,z⟩|z<;>cases z
def ZD(hx:∀r d r',x r=aA (d,r')->∀σ b,jZ r' σ b->jZ r σ b){σ:St}{H:Hp}{Q:VK}(h:lX X.K (b6 i N'.length it bd x) σ H Q):GN [i] N'.length (lI X.K it) (lG X.K bd) aD (lX X.K x) σ H Q:=by
 obtain⟨O0,r,dv,r',hR,e,q⟩:=h;obtain⟨l,e1,e⟩:=aG e;obtain⟨L,e2,e⟩:=aG e;split at e
 .rename_i hlen;obtain⟨⟨out,rE⟩,e3,e⟩:=aG e;simp only at e;split at e
  .rename_i L' eL;obtain⟨RH,e4,e5⟩:=aY e;have LD:D.lst out=dv:=congrArg wm e5;have hr1:RH=r':=congrArg wl e5;subst LD hr1;refine⟨O0,r,l,hR,e1,λJ H1 s1 yl p hp=>?_⟩;have R1:=hR.same s1;obtain⟨a,xs,ha,Lh,il⟩:=QE R1 e2;have R7:lJ r σ a:=⟨i,L,Xp e2,ha⟩;have Ak:Ow O0 r σ a:=.inr R7.own;have HD:a≠p:=λz=>by subst z;rw[hp] at Lh;cases Lh
   have hnO:¬Ow O0 r σ p:=R1.AR hp
   let O':Addr->Prop:=λb=>Ow O0 r σ b\/b=p
   have Hd:kT O' (upd H1 p<|.lst []):=λb z=>by
    by_cases hb:b=p
    .subst hb;exact⟨_,zJ,trivial⟩
    .rw[zI hb];exact z.elim (R1.ol b) λz=>absurd z hb
   have qe1:Af [i] N'.length σ=aA (.ref a)::bg (N'.length-1) aD:=by
    unfold Af;rw[au,oz,ha];rfl
   rw[qe1];refine⟨λk m ys σ2 H2=>m=l.length-k/\k<=l.length/\ys.length<=k/\H2 p=aA (.lst ys)/\σ2[0]?=aA (aA<|.ref a)/\(∀b u,b≠a->H1 b=aA u->H2 b=aA u)/\(∀b,H2 b=aD->H1 b=aD) /\
     ∃r2 dn qT,R X.K O' H2 r2 σ2/\(∀b,jZ r2 σ2 b->b=a)/\(∃L2,r2[0]?=aA (.p L2))/\IsL X.K O' H2 dn ys/\dR bd x (l.drop k) r2=aA (qT,rE)/\dn++qT=out,
    ⟨l.length,by simp,fg _,ah _,zJ,?_,?_,?_,_,[],out,R.qi5 (k:=N'.length-1) Hd (.inl Ak) (by rw[zI HD];exact Lh)<|Y1 R1.ol hp il,?_,⟨L,rfl⟩,.nil,by simpa using e3,rfl⟩,?_⟩
   .rfl
   .intro b u hb eb;rw[zI (λz=>by subst z;rw[hp] at eb;cases eb)];exact eb
   .intro b eb;by_cases hb:b=p
    .subst hb;exact hp
    .rw[zI hb] at eb;exact eb
   .rintro b ⟨j,m,ej,qj⟩;obtain⟨rfl,_⟩:=r6 rfl ej;cases qj;rfl
   .rintro k m ys σ2 H2 ⟨rfl,hkl,hyl,AU,f7,lZ,Sa,r2,dn,qT,R2,EY,⟨L2,eL2⟩,fZ,e6,eo⟩;refine⟨AU,by omega,?_⟩;have hO:∀b,Ow O' r2 σ2 b->O' b:=λb z=>z.elim id λz=>.inl (by rw[EY b z];exact Ak)
    obtain⟨y1,y2⟩:=yl k H2 O' (λb u eb nb=>lZ b u (λz=>nb (by rw[z];exact R7)) eb) λb z nn=>z.elim id λz=>by subst z;exact absurd hp nn
    by_cases fM:k<l.length
    .obtain⟨go,yd⟩:=y1 fM;have hd:l[k]?=aA l[k]:=by simp[fM]
     rw[u5 hd] at e6;obtain⟨r3,e7,e8⟩:=aG e6;obtain⟨⟨y,r4⟩,e9,LZ⟩:=aG e8;obtain⟨⟨G9,rE'⟩,LY,Tz⟩:=aY LZ;have ha1:y::G9=qT:=congrArg wm Tz;have ha2:rE'=rE:=congrArg wl Tz;subst ha1 ha2;refine .inr ⟨go,λv H3 yv=>?_⟩;obtain⟨s3,iv⟩:=yd v H3 yv;have R3:=R2.same s3;refine⟨O',r2,l[k],r3,R3,?_,e7,λσ4 R4 k4=>?_⟩
     .exact Is.mono (aH.kp (aH.refl H3) _) R3.o0 (λb z _=>hO b z) _ _<|iv _ hd
     have hp3:=s3 _ _ AU;have BD:∀b,jZ r3 σ4 b->b=a:=λb z=>by
      rcases k4.new b z with z'|z'
      .exact EY b z'
      .obtain⟨zs,ez,_⟩:=R4.ol b<|.inr z;rw[z'] at ez;cases ez
     obtain⟨qh4,hs4⟩:=k4.par 0 false (by rw[eL2];rfl);obtain⟨L3,eL3⟩:=IF qh4;refine⟨O',r3,y,r4,R4,e9,λu H6 R6 k6 iu=>?_⟩;have nm:∀b,lJ r3 σ4 b->b=a:=λb z=>BD b z.own
     have Lp:H6 p=aA (.lst ys):=k6.keep p _ hp3 λz=>HD (nm p z).symm
     have KP:∀b,jZ r4 σ4 b->b=a:=λb z=>by
      exact BD b<|hx _ _ _ e9 σ4 b z
     obtain⟨qh3,_⟩:=k6.par 0 false (by rw[eL3];rfl);obtain⟨L4,eL4⟩:=IF qh3;have kk:dZ O' H6 (upd H6 p<|.lst<|ys++[u]):=λb' o' e' nn=>by rw[zI λz=>nn<|.inr z];exact e'
     have k36:dZ O' H3 H6:=λb' o' e' nn=>k6.keep b' o' e' λz=>nn<|.inl (by rw[nm b' z];exact Ak)
     refine⟨Lp,l.length-(k+1),by omega,rfl,fM,by simp;omega,zJ,by rw[hs4];exact f7,?_,?_,r4,dn++[y],G9,?_,KP,⟨L4,eL4⟩,?_,LY,by rw[<-eo];simp⟩
     .intro b u' hb eb;have hbp:b≠p:=λz=>by subst z;rw[hp] at eb;cases eb
      rw[zI hbp];exact k6.keep b _ (s3 _ _<|lZ b u' hb eb) λz=>hb<|nm b z
     .intro b eb;by_cases hb:b=p
      .subst hb;exact hp
      .rw[zI hb] at eb;exact Sa b<|s3.free<|k6.live b eb
     .refine⟨R6.len,λj d ej=>?_,λj m ej=>?_,R6.apart,λb' z=>?_,R6.loc,R6.par,λj f ks m ej=>?_⟩
      .obtain⟨w,q1,q2⟩:=R6.val j d ej;exact⟨w,q1,Is.mono (λb' o' e' nn=>kk b' o' e' λz=>nn<|.inl z) R6.ol (λ_ z _=>z) _ _ q2⟩
      .obtain⟨a',xs',q1,q2,q3⟩:=R6.own j m ej;have LK:=KP a' ⟨j,m,vA ej,q1⟩;exact⟨a',xs',q1,by rw[zI (by rw[LK];exact HD)];exact q2,IsL.mono (λb' o' e' nn=>kk b' o' e' λz=>nn<|.inl z) R6.ol (λ_ z _=>z) _ _ q3⟩
      .rcases z with z|z
       .by_cases hb:b'=p
        .subst hb;exact⟨_,zJ,trivial⟩
        .rw[zI hb];exact R6.o0 b'<|.inl z
       .subst z;exact⟨_,zJ,trivial⟩
      .obtain⟨a',kvs,q1,q2,q4,q3⟩:=R6.aI j f ks m ej;have LK:=KP a' ⟨j,m,by rw[ej];rfl,q1⟩;exact⟨a',kvs,q1,by rw[zI (by rw[LK];exact HD)];exact q2,q4,IsL.mono (λb' o' e' nn=>kk b' o' e' λz=>nn<|.inl z) R6.ol (λ_ z _=>z) _ _ q3⟩
     .have i1:=IsL.mono k36 R3.o0 (λ_ z _=>z) _ _<|fZ.same s3 R2.o0;have i2:Is X.K O' H6 y u:=Is.mono (aH.kp (aH.refl H6) _) R6.ol (λa z _=>.inl z) _ _ iu;exact IsL.mono kk R6.o0 (λ_ z _=>z) _ _<|i1.append<|.cons i2 .nil
    .have hl:l.drop k=[]:=ph (by omega);rw[hl] at e6;have e6':aA ([],r2)=aA (qT,rE):=e6;cases e6';rw[ie] at eo;subst eo;obtain⟨c0,zs,q0,q1,q2⟩:=R2.own 0 L' (by rw[eL];rfl);rw[f7] at q0;cases q0;obtain⟨RE,kE⟩:=R1.put e4 ha lZ (λb _=>Sa b) q1<|IsL.mono (aH.kp (aH.refl H2) _) R2.ol (λb z _=>.inl<|.inl z) _ _ q2;refine .inl ⟨y2<|by omega,q _ H2 RE ((Kp.of_same r σ s1).trans kE) ?_⟩;rw[zS];have np:∀b,Ow O0 RH σ b->Ow O0 r σ b:=λb z=>z.imp id λz=>PN e4 z
     exact⟨p,ys,rfl,.inl ⟨λz=>hnO<|np p z,.inl AU⟩,IsL.mono (aH.kp (aH.refl H2) _) R2.o0 (λb z _=>.inl<|np b z) _ _ fZ⟩
  .cases e
 .cases e
def Ξ(hc:X.calm=true)(o:sD X N' [i] scope)(hi:DI X tg iter it)(hg:∀C fp s H,DG (eX X N' scope C fp s H) tg bd)(he:∀C fp s H,DX (eX X N' scope C fp s H) elt x)(hx:∀r d r',x r=aA (d,r')->∀σ b,jZ r' σ b->jZ r σ b)(n:Nat)(hn:N'.length=n:=by rfl)(hs:∀x,iq iter X.env x=pure x:=by intro _;rfl):DX X (.ListComp elt [⟨tg,iter,[],0⟩] scope pos) (b6 i n it bd x):=by
 subst hn;exact PE.aM (cX (g:=lG X.K bd) (te:=lX X.K x) (tc:=aD) hc o hi hg rfl he hs) λσ H Q h=>ZD hx h
def Ĺ:∀r d r',rJ j r=aA (d,r')->∀σ b,jZ r' σ b->jZ r σ b:=λr d r' e σ b h=>by
 obtain⟨l,_,e⟩:=aG e;obtain⟨d',_,e⟩:=aG e;obtain⟨r2,e3,e4⟩:=aY e
 have:r2=r':=congrArg wl e4
 subst this;exact PN e3 h
end
abbrev Ed:=En->Option (List D×En)
def lXA(K:Fg)(f:Ed):TA:=λσ H Q=>∃O0 r l r',R K O0 H r σ/\f r=aA (l,r')/\∀vs H',R K O0 H' r' σ->Kp H r σ H' r' σ->IsL K (Ow O0 r' σ) H' l vs->Q vs H'
def FV(X:Cx)(es:List Expr)(f:Ed):Prop:=PA X es<|lXA X.K f
noncomputable def uF(fx:En->Option (D×En)):Ed:=λr=>(fx r).map λp=>([p.1],p.2)
noncomputable def kH(f:ME)(z:Ed):Ed:=λr=>(f r).bind λd=>(z r).map λq=>(d::q.1,q.2)
def Ρ(ha:DX X a fx)(hs:ar [a] X.env=(false,eval a X.env)::ar [] X.env:=by rfl):FV X [a] (uF fx):=by
 refine PA.aM (yK ha xH hs) λσ H Q hq=>?_
 obtain⟨O0,r,l,r',hR,e,q⟩:=hq;obtain⟨⟨d,r1⟩,e1,e2⟩:=aY e;cases e2;exact⟨O0,r,d,r1,hR,e1,λv H1 R1 k1 i1=>q [v] H1 R1 k1<|.cons i1 .nil⟩
def Is.kp{K:Fg}(hR:R K O0 H r σ)(k:Kp H r σ H' r' σ')(h:Is K (Ow O0 r σ) H d v):Is K (Ow O0 r' σ') H' d v:=
 Is.mono (λb o e nn=>k.keep b o e λz=>nn<|.inr z.own) hR.ol (λb z n=>z.imp id λz=>(k.new b z).elim id λz=>absurd z n) _ _ h
def Ο(ha:DE X a f)(hr:FV X es z)(hs:i_ X a es:=by rfl):FV X (a::es) (kH f z):=by
 refine PA.aM (yK ha hr hs) λσ H Q hq=>?_
 obtain⟨O0,r,l,r',hR,e,q⟩:=hq;obtain⟨d,e1,e⟩:=aG e;obtain⟨⟨l',r1⟩,e2,e3⟩:=aY e;cases e3;refine⟨O0,r,d,hR,e1,λv H1 s1 i1=>⟨O0,r,l',r1,hR.same s1,e2,λvs H2 R2 k2 i2=>q (v::vs) H2 R2 ((Kp.of_same r σ s1).trans k2)<|.cons (Is.kp (hR.same s1) k2 i1) i2⟩⟩
def k9(n:Nat)(m:MF)(z:Ed):En->Option (D×En):=λr=>(z r).bind λq=>if q.1.length=n then (m<|q.1.map .v).map λp=>(G8 p.1,q.2) else aD
def Ν(F:eA X.prog X.w X.K X.mg X.base eJ k fa fd ps (iY X.K n m))(hr:eS k X.A)(hg:Gl X x)(hm:X.mg x=aA (.ref fa))(hk:dw X.K (.ref fa)=true)(hb:Binds X.K fd ps [])(ha:FV X (a::es) z)(iK:iH x:=by decide)(he:i_ X a es:=by rfl)(hpl:JV X es pos:=by rfl):DX X (.Call (.Name x p) (a::es) [] pos) (k9 n m z):=by
 refine PE.aM (gG (E:=λ_ _ _=>False) (dvs:=[]) F hr hg hm hk hb .nil oN ha iK he hpl) λσ H Q h=>?_
 obtain⟨O0,r,d,r',hR,e,q⟩:=h;obtain⟨⟨ds,r1⟩,e1,e2⟩:=aG e;split at e2
 .rename_i hl;obtain⟨⟨rs,f_⟩,e3,e4⟩:=aY e2;have h1:G8 rs=d:=congrArg wm e4;have h2:r1=r':=congrArg wl e4;subst h1 h2;refine⟨O0,r,ds,r1,hR,e1,λvs H1 R1 k1 il=>gB R1 (aH.refl H1) il hl e3 ?_⟩;have go:∀{H2:Hp},aH H1 H2->R X.K O0 H2 r1 σ/\Kp H r σ H2 r1 σ:=λs=>⟨R1.same s,k1.trans<|Kp.of_same r1 σ s⟩
  cases rs with
  |v d=>exact λv H2 pf iv=>q v H2 (go pf.same).1 (go pf.same).2 iv
  |f l=>
   refine λa xs H2 pf na ea fZ=>q _ H2 (go pf.same).1 (go pf.same).2 ?_
   have Bb:kT (λb=>Ow O0 r1 σ b\/b=a) H2:=λb z=>z.elim (λz=>(R1.same pf.same).ol b z) λz=>by subst z;exact⟨.lst xs,ea,trivial⟩
   show Is X.K (Ow O0 r1 σ) H2 (.lst l)<|.ref a;rw[zS];exact⟨a,xs,rfl,.inl ⟨R1.AR na,.inl ea⟩,IsL.mono (aH.kp (aH.refl H2) _) Bb (λ_ z _=>.inl z) _ _ fZ⟩
  |g ks l=>
   refine λa kvs H2 pf na ea ek fZ=>q _ H2 (go pf.same).1 (go pf.same).2 ?_
   have Bb:kT (λb=>Ow O0 r1 σ b\/b=a) H2:=λb z=>z.elim (λz=>(R1.same pf.same).ol b z) λz=>by subst z;exact⟨.dK kvs,ea,trivial⟩
   show Is X.K (Ow O0 r1 σ) H2 (.aI ks l)<|.ref a;rw[wW];exact⟨a,kvs,rfl,R1.AR na,.inl ea,ek,IsL.mono (aH.kp (aH.refl H2) _) Bb (λ_ z _=>.inl z) _ _ fZ⟩
 .cases e2
end DD
namespace ZZ
open PySem
end ZZ
namespace DD
open PySem PySem.Spec PyProof.Rows L2
open PySem PySem.Spec PyProof.Rows L2 PySem.W
open PySem PySem.Spec PyProof.Rows L2 PySem.W PySem.Calls Builtin Builtin.ObjectAttr Builtin.Getset_descriptor
end DD
namespace L2
open PySem PySem.Spec PyProof.Rows
section
variable[DecidableEq κ]
noncomputable def rD(kvs:List (κ×V))(k:κ):Option V:=(kvs.find? λkv=>decide (kv.1=k)).map (·.2)
noncomputable def bS(kvs:List (κ×V))(k:κ)(v:V):List (κ×V):=
 if (kvs.any λkv=>decide (kv.1=k))=true then kvs.map (λkv=>if kv.1=k then (kv.1,v) else kv) else kvs++[(k,v)]
noncomputable def Y9(kvs:List (κ×V))(k:κ):List (κ×V):=kvs.filter λkv=>decide (kv.1≠k)
def j3{p:κ×V}{r:List (κ×V)}{k:κ}(e:p.1=k):rD (p::r) k=aA p.2:=by simp[rD,jc,e]
def j4{p:κ×V}{r:List (κ×V)}{k:κ}(e:¬p.1=k):rD (p::r) k=rD r k:=by simp[rD,jc,e]
theorem mW(k:κ):∀kvs:List (κ×V),(kvs.any λkv=>decide (kv.1=k))=(rD kvs k).isSome
 |[]=>rfl
 |p::r=>by
  rw[on];by_cases e:p.1=k
  .simp only[j3 e,decide_eq_true e,Bool.true_or,rh]
  .rw[j4 e,decide_eq_false e,Bool.false_or];exact mW k r
theorem nU(k j:κ)(y:V):∀kvs:List (κ×V),rD kvs k=aD->rD (kvs++[(k,y)]) j=if j=k then aA y else rD kvs j
 |[],_=>by
  by_cases e:k=j
  .rw[if_pos e.symm];exact j3 (p:=(k,y)) e
  .rw[if_neg λz=>e z.symm];exact j4 (p:=(k,y)) e
 |p::r,hn=>by
  rw[List.cons_append];have hk:¬p.1=k:=λz=>by rw[j3 z] at hn;cases hn
  rw[j4 hk] at hn;have ih:=nU k j y r hn;by_cases e:p.1=j
  .rw[j3 e,j3 e,if_neg λz=>hk<|e.trans z]
  .rw[j4 e,j4 e,ih]
def vQ(kvs:List (κ×V))(k:κ)(v:V):(bS kvs k v).length<=kvs.length+1:=by
 unfold bS;split
 .rw[ag];omega
 .rw[bc,am,bv];omega
def ε{kvs:List (κ×V)}{k:κ}(v:V)(h:rD kvs k=aD):bS kvs k v=kvs++[(k,v)]:=by
 unfold bS;rw[mW,h];exact if_neg (by decide)
def sT.Lf(r:sT o u):o.isSome=u.isSome:=by
 cases o with
 |none=>cases u with
  |none=>rfl
  |some _=>exact(show False from r).elim
 |some _=>cases u with
  |none=>exact(show False from r).elim
  |some _=>rfl
def KV.val{kvs:List (κ×V)}{vs:List (κ×Value)}(r:KV kvs vs)(k:κ):sT (rD kvs k) (valueAt vs k):=by
 unfold KV at r
 induction r with
 |nil=>exact True.intro
 |@cons p q ps qs h t ih=>
  obtain⟨h1,h2⟩:=h;by_cases e:p.1=k
  .have e':q.1=k:=h1.symm.trans e;have b:valueAt (q::qs) k=aA q.2:=by simp[valueAt,jc,e']
   rw[j3 e,b];exact h2
  .have e':¬q.1=k:=λz=>e<|h1.trans z
   have b:valueAt (q::qs) k=valueAt qs k:=by simp[valueAt,jc,e']
   rw[j4 e,b];exact ih
def KV.any(r:KV kvs vs)(k:κ):(kvs.any λkv=>decide (kv.1=k))=vs.any λkv=>decide (kv.1=k):=by
 unfold KV at r
 induction r with
 |nil=>rfl
 |cons h t ih=>rw[on,on,ih,h.1]
def KV.KH(r:KV kvs vs)(k:κ)(ry:RelV y u):KV (kvs.map λkv=>if kv.1=k then (kv.1,y) else kv) (vs.map λkv=>if kv.1=k then (kv.1,u) else kv):=by
 unfold KV at r ⊢
 induction r with
 |nil=>exact .nil
 |@cons p q ps qs h t ih=>
  rw[au,au];refine .cons ?_ ih;obtain⟨h1,h2⟩:=h;by_cases e:p.1=k
  .rw[if_pos e,if_pos<|h1.symm.trans e];exact⟨h1,ry⟩
  .rw[if_neg e,if_neg λz=>e<|h1.trans z];exact⟨h1,h2⟩
def KV.put(r:KV kvs vs)(k:κ)(ry:RelV y u):KV (bS kvs k y) (stored vs k u):=by
 unfold bS stored;rw[r.any k];by_cases e:(vs.any λkv=>decide (kv.1=k))=true
 .rw[if_pos e,if_pos e];exact r.KH k ry
 .rw[if_neg e,if_neg e];exact Paired.snoc r ⟨rfl,ry⟩
def KV.drop(r:KV kvs vs)(k:κ):KV (Y9 kvs k) (without vs k):=by
 unfold KV at r ⊢;unfold Y9 without
 induction r with
 |nil=>exact .nil
 |@cons p q ps qs h t ih=>
  obtain⟨h1,h2⟩:=h;rw[List.filter_cons,List.filter_cons];by_cases e:p.1=k
  .have a:¬decide (p.1≠k)=true:=by simp[e]
   have b:¬decide (q.1≠k)=true:=by simp[h1.symm.trans e]
   rw[if_neg a,if_neg b];exact ih
  .have e':¬q.1=k:=λz=>e<|h1.trans z
   have a:decide (p.1≠k)=true:=by simp[e]
   have b:decide (q.1≠k)=true:=by simp[e']
   rw[if_pos a,if_pos b];exact .cons ⟨h1,h2⟩ ih
def KV.keys{kvs:List (κ×V)}{vs:List (κ×Value)}(r:KV kvs vs):kvs.map (·.1)=vs.map (·.1):=by
 unfold KV at r
 induction r with
 |nil=>rfl
 |cons h t ih=>rw[au,au,ih,h.1]
def KV.length(r:KV kvs vs):kvs.length=vs.length:=vk r
def Λ(kvs:List (κ×V))(k:κ):(Y9 kvs k).length<=kvs.length:=aaf _ _
end
def QP(r:RelV (kV k) u):(yS P w).is k u=true:=by
 cases k with
 |inl i=>obtain⟨t,e⟩:=(show ∃t,u=Value.int i t from r);subst e;exact o5 P w i t
 |inr x=>obtain⟨t,e⟩:=(show ∃t,u=Value.str x t from r);subst e;exact oZ P w x t
theorem pG:∀{ks:List Key} {us:List Value},Vals (ks.map kV) us->ItemsAre (yS P w) ks us
 |[],_,r=>by rw[oz] at r;cases r;exact .nil
 |k::ks,_,r=>by
  rw[au] at r;cases r with
  |cons h t=>exact .cons (QP h)<|pG t
abbrev KT(H:Hp):List (List Key×V)->List (List Key×Addr×Value)->Prop:=Paired λp q=>p.1=q.1/\H q.2.1=aA (.tup<|p.1.map kV)/\RelV p.2 q.2.2
def KT.val{H:Hp}{kvs:List (List Key×V)}{xs:List (List Key×Addr×Value)}(r:KT H kvs xs)(k:List Key):sT (rD kvs k) ((atKey xs k).map (·.2)):=by
 induction r with
 |nil=>exact True.intro
 |@cons p q ps qs h t ih=>
  obtain⟨h1,_,h2⟩:=h;by_cases e:p.1=k
  .have e':q.1=k:=h1.symm.trans e;have b:atKey (q::qs) k=aA q.2:=by simp[atKey,jc,e']
   rw[j3 e,b];exact h2
  .have e':¬q.1=k:=λz=>e<|h1.trans z
   have b:atKey (q::qs) k=atKey qs k:=by simp[atKey,jc,e']
   rw[j4 e,b];exact ih
def KT.KH(r:KT H kvs xs)(k:List Key)(ry:RelV y u):KT H (kvs.map λkv=>if kv.1=k then (kv.1,y) else kv) (xs.map<|putAt k u):=by
 induction r with
 |nil=>exact .nil
 |@cons p q ps qs h t ih=>
  rw[au,au];refine .cons ?_ ih;obtain⟨h1,h2,h3⟩:=h;unfold putAt;by_cases e:p.1=k
  .rw[if_pos e,if_pos<|h1.symm.trans e];exact⟨h1,h2,ry⟩
  .rw[if_neg e,if_neg λz=>e<|h1.trans z];exact⟨h1,h2,h3⟩
def KT.put(r:KT H kvs xs)(k:List Key)(hb:H b=aA (.tup<|k.map kV))(ry:RelV y u):KT H (bS kvs k y) (storedH xs k b u):=by
 have e:(kvs.any λkv=>decide (kv.1=k))=(atKey xs k).isSome:=by
  rw[mW,(r.val k).Lf,Option.isSome_map]
 unfold bS storedH;rw[e];by_cases q:(atKey xs k).isSome=true
 .rw[if_pos q,if_pos q];exact r.KH k ry
 .rw[if_neg q,if_neg q];exact Paired.snoc r ⟨rfl,hb,ry⟩
def KT.keeps(r:KT H kvs xs)(ht:∀b ys,H b=aA (.tup ys)->H' b=aA (.tup ys)):KT H' kvs xs:=
 vY r λ_ _ z=>⟨z.1,ht _ _ z.2.1,z.2.2⟩
def NR(ok:fL P w H h)(e:Rd H a u):fS P w H h a u:=e.ok ok
def XA(ok:fL P w H h)(e:Rd H a (.dK kvs)):kvs.length<=ae/\(a == jv)=false/\∃vs,KV kvs vs/\h.DictOf (yS P w) a vs:=
 show fS P w H h a (.dK kvs) from NR ok e
def IV(ok:fL P w H h)(e:H a=aA (.dK kvs)):kvs.length<=ae/\(a == jv)=false/\∃vs,KV kvs vs/\h.DictOf (yS P w) a vs:=XA ok<|.inl e
def Ju(ok:fL P w H h)(e:H a=aA (.tup<|ks.map kV)):(tupleKind<|yS P w).is h ks a:=by
 obtain⟨_,its,r,o,h1,h2,n,h3⟩:=(show fS P w H h a (.tup<|ks.map kV) from ok a _ e);exact⟨o,its.toArray,n,h1,h2,h3,by simpa using pG r⟩
def Go(ok:fL P w H h)(e:Rd H a (.dT kvs)):kvs.length<=ae/\(a == jv)=false /\
  ∃xs,KT H kvs xs/\h.DictOfH (tupleKind<|yS P w) a xs:=by
 obtain⟨z,y,xs,r,o,es,ep,h1,h2,h3,h4,h5⟩:=(show fS P w H h a (.dT kvs) from NR ok e);refine⟨z,y,xs,r,o,es,ep,h1,h2,h3,h4,λx hx=>?_,h5⟩;have all:∀{l:List (List Key×V)} {m:List (List Key×Addr×Value)},KT H l m->∀x∈m,(tupleKind<|yS P w).is h x.1 x.2.1:=by
  intro l m q
  induction q with
  |nil=>intro x hx;exact nomatch hx
  |@cons p q ps qs hq t ih=>
   intro x hx;rcases bq.mp hx with e|hx
   .subst e;exact Ju ok (by rw[<-hq.1];exact hq.2.1)
   .exact ih x hx
 exact all r x hx
def Vm(ok:fL P w H h)(e:H a=aA (.dT kvs)):kvs.length<=ae/\(a == jv)=false /\
  ∃xs,KT H kvs xs/\h.DictOfH (tupleKind<|yS P w) a xs:=Go ok<|.inl e
def Nk(H:Hp)(a:Addr)(y:V)(r:Option V):Prop:=
 (∃kvs k,Rd H a (.dK kvs)/\y=kV k/\r=rD kvs k)\/∃kvs k b,Rd H a (.dT kvs)/\y=.ref b/\H b=aA (.tup<|k.map kV)/\r=rD kvs k
def FW(H:Hp)(a:Addr)(y v:V)(H':Hp):Prop:=
 (∃kvs k,H a=aA (.dK kvs)/\y=kV k/\kvs.length<ae/\H'=upd H a (.dK<|bS kvs k v)) \/
 ∃kvs k b,H a=aA (.dT kvs)/\y=.ref b/\H b=aA (.tup<|k.map kV)/\kvs.length<ae/\H'=upd H a (.dT<|bS kvs k v)
theorem FW.k{H:Hp}{a:Addr}{kvs:List (Key×V)}{k:Key}{v:V}(e:H a=aA (.dK kvs))(hl:kvs.length<ae):FW H a (kV k) v (upd H a<|.dK<|bS kvs k v):=.inl ⟨kvs,k,e,rfl,hl,rfl⟩
def Inv.big(I:Inv X pZ σ H s):jv<s.heap.objs.size:=by
 have h:ax<s.heap.objs.size:=(I.mod.glob.keeps I.bk).lt;exact ub (by decide) h
def Q9(hu:A.units+1<cLine)(I:Inv X pZ σ H s)(g:Nk H a y (aA v))(ry:RelV y u)(h:∀w' s',Inv X pZ σ H s'->RelV v w'->Q w' s'):wpAny (model X.prog X.w) A (getItem (.ref a) u) Q E s:=by
 rcases g with⟨kvs,k,e,ey,l⟩|⟨kvs,k,b,e,ey,eb,l⟩
 .subst ey;obtain⟨z,hd,vs,rel,dd⟩:=XA I.aT e;obtain⟨w',hw,k_⟩:=jS (v:=v) (o:=valueAt vs k) (by rw[l];exact rel.val k);exact wpAny_getItem_of (QP ry) dd.mapOf hw<|h w' _ (I.tok _) k_
 .subst ey;cases (show u=Value.ref b from ry);obtain⟨z,hd,xs,rel,dd⟩:=Go I.aT e;obtain⟨w',hw,k_⟩:=jS (v:=v) (o:=(atKey xs k).map (·.2)) (by rw[l];exact rel.val k);obtain⟨p,hp,AU⟩:=Option.map_eq_some_iff.mp hw;refine wpAny_getItem_heap (tupleKind_room_in1 hu) (Ju I.aT eb) dd hp ?_;rw[AU];exact h w' _ (I.tok _) k_
def pS(I:Inv X pZ σ H s)(mu:FS (H a))(hs:gm a s.heap h')(he:∃q,h'.get? a=aA q)(new:fS X.prog X.w (upd H a ob) h' a ob):Inv X pZ σ (upd H a ob) { s with heap:=h',toks:=t' }:=
 I.write (x:=a) (e:=a) mu (.inl rfl) (λb q hb z=>(hs.2 b hb).trans z) he new
def tY(z:kvs.length<=ae)(hd:(a == jv)=false)(rel:KV kvs vs)(dd:h'.DictOf (yS P w) a vs):fS P w H' h' a (.dK kvs):=⟨z,hd,vs,rel,dd⟩
def Q8(hu:A.units+1<cLine)(I:Inv X pZ σ H s)(g:FW H a y v H')(ry:RelV y u)(rv:RelV v r)(h:∀s',Inv X pZ σ H' s'->Q () s'):wpAny (model X.prog X.w) A (setItem (.ref a) u r) Q E s:=by
 rcases g with⟨kvs,k,e,ey,l,eH⟩|⟨kvs,k,b,e,ey,eb,l,eH⟩
 .subst ey eH;obtain⟨z,hd,vs,rel,dd⟩:=IV I.aT e;have hz:vs.length<=ae:=by rw[<-rel.length];exact z
  have hl:(bS kvs k v).length<=ae:=by have:=vQ kvs k v;omega
  refine wpAny_setItem_pairs (hsz:=hz) (QP ry) dd λh' v_ hs=>h _ ?_
  have he:∃q,h'.get? a=aA q:=let ⟨q,_,_,hq,_⟩:=v_;⟨q,hq⟩
  exact pS I (by rw[e];exact True.intro) hs he<|tY hl hd (rel.put k rv) v_
 .subst ey eH;cases (show u=Value.ref b from ry);obtain⟨z,hd,xs,rel,dd⟩:=Vm I.aT e;have hz:xs.length<=ae:=by rw[<-vk rel];exact z
  have hl:(bS kvs k v).length<=ae:=by have:=vQ kvs k v;omega
  refine wpAny_setItem_heap (hsz:=hz) (tupleKind_room_in1 hu) (Ju I.aT eb) dd λh' v_ hs=>h _ ?_
  obtain⟨q,es,ep,hq,h2,h3,h4,_,h5⟩:=v_;refine pS I (by rw[e];exact True.intro) hs ⟨q,hq⟩ ⟨hl,hd,_,(rel.put k eb rv).keeps λc ys ec=>?_,q,es,ep,hq,h2,h3,h4,h5⟩;rw[zI<|Jb ec e λz=>nomatch z];exact ec
def Vd(I:Inv X pZ σ H s)(e:H a=aA (.dK kvs))(ry:RelV (kV k) u)(l:rD kvs k=aA v)(hm:more=[]\/∃x,more=[x])(h:∀w' s',Inv X pZ σ (upd H a<|.dK<|Y9 kvs k) s'->RelV v w'->Q w' s'):wpAny (model X.prog X.w) A (call (.builtin "dict.pop") (.ref a::u::more)) Q E s:=by
 obtain⟨z,hd,vs,rel,dd⟩:=IV I.aT e;obtain⟨w',hw,k_⟩:=jS (v:=v) (o:=valueAt vs k) (by rw[<-l];exact rel.val k);have hp:(keyPart u).isSome=true:=by
  cases k with
  |inl i=>obtain⟨t,q⟩:=(show ∃t,u=Value.int i t from ry);subst q;rfl
  |inr x=>obtain⟨t,q⟩:=(show ∃t,u=Value.str x t from ry);subst q;rfl
 have ha:argsOk "dict.pop" ⟨.ref a::u::more,[]⟩:=by
  rcases hm with q|⟨x,q⟩
  .subst q;exact PySem.F.args_dict_pop_2 _ _
  .subst q;exact PySem.F.args_dict_pop_3 _ _ _
 refine call_meetsIn zy dd.typeIs PySem.F.entry_dict_pop ha (meets_dict_pop_there (yS X.prog X.w) a (QP ry) more hm hp)
  ⟨vs,w',dd,by rw[<-rel.length];exact z,hw,λh' v_ hs=>h w' _ ?_ k_⟩
 have he:∃q,h'.get? a=aA q:=let ⟨q,_,_,hq,_⟩:=v_;⟨q,hq⟩
 exact pS I (by rw[e];exact True.intro) hs he<|tY (cg (Λ kvs k) z) hd (rel.drop k) v_
def F9(i:Expr):Prop:=∀ov iv,subscripted i false ov iv=operate [ov,iv] (getItem ov iv)
def Ŏ{id:String}(hl:typeLookup (.type T) "__getitem__" = pure (aA<|.builtin id))(hs:F9 slice)(h:wpAny (model prog w) A (eval value env) (λo s₁=>wpAny (model prog w) A (eval slice env) (λi s₂=>s₂.TypeIs o T/\wpAny (model prog w) A (getItem o i) Q E s₂) E s₁) E s):wpAny (model prog w) A (eval (.Subscript value slice pos) env) Q E s:=by
 refine xr<|jp h (λo s₁ h₁=>jp h₁ (λi s₂ h₂=>?_) λ_ _ x=>x) λ_ _ x=>x;obtain⟨hT,h₂⟩:=h₂;unfold subscriptTail;refine ac ?_;rw[getitemInPython_of_ne hT.not_modules];refine ac<|ju hT hl ?_;have fin:wpAny (model prog w) A (subscripted slice false o i) (λr s₃=>wpAny (model prog w) A (letTemporaryGo value o r >>= λ_=>pure r) Q E s₃) E s₂:=by
  rw[hs o i];exact wpAny_operating<|jp h₂ (λr s₃ h₃=>ac<|wpAny_letTemporaryGo<|af h₃) λ_ _ x=>x
 first
  |exact af<|ac fin
  |exact ac<|af<|ac fin
  |exact ac fin
def pL(I:Inv X pZ σ H s)(g:Nk H a y o):s.TypeIs (.ref a) "dict" := by
 rcases g with⟨kvs,k,e,_,_⟩|⟨kvs,k,b,e,_,_,_⟩
 .obtain⟨_,_,vs,_,dd⟩:=XA I.aT e;exact dd.typeIs
 .obtain⟨_,_,xs,_,dd⟩:=Go I.aT e;exact dd.typeIs
noncomputable def V2(td ty:TE):TE:=λσ H Q=>td σ H λx H1=>ty σ H1 λy H2=>∃a v,x=.ref a/\Nk H2 a y (aA v)/\Q v H2
noncomputable def VL(td ty tv:TE):TS:=λD σ H=>tv σ H λv H1=>td σ H1 λx H2=>ty σ H2 λy H3=>∃a H4,x=.ref a/\FW H3 a y v H4/\D.nx σ H4
def PP(hu:X.A.units+1<cLine)(ho:PE X o td)(hi:PE X i ty)(hs:F9 i):PE X (.Subscript o i pos) (V2 td ty):=by
 intro pZ s σ H Q I h;refine Ŏ PySem.F.slot_dict_getitem.lookup hs<|aQ (ho pZ s σ H _ I h) λu s1 ⟨x,H1,I1,rx,q1⟩=>aQ (hi pZ s1 σ H1 _ I1 q1) λiv s2 ⟨y,H2,I2,ry,a,v,ex,g,q2⟩=>?_;subst ex;obtain rfl:u=Value.ref a:=rx;exact⟨pL I2 g,Q9 hu I2 g ry λw' s3 I3 k_=>⟨v,H2,I3,k_,q2⟩⟩
def ļ(hu:X.A.units+1<cLine)(ho:PE X o td)(hi:PE X i ty)(hv:PE X value tv)(hs:js value (aA<|.Subscript o i pos') pos.line X.env=pure false):PS X (.Assign [.Subscript o i pos'] value pos) (VL td ty tv):=by
 intro pZ s σ H D I h;refine wpAny_Assign_Subscript (aQ (hv pZ s σ H _ I h) λr s1 ⟨v,H1,I1,rv,q1⟩=>aQ (ho pZ s1 σ H1 _ I1 q1) λu s2 ⟨x,H2,I2,rx,q2⟩=>aQ (hi pZ s2 σ H2 _ I2 q2) λiv s3 ⟨y,H3,I3,ry,a,H4,ex,g,q3⟩=>?_) hs;subst ex;obtain rfl:u=Value.ref a:=rx;exact Q8 hu I3 g ry rv λs4 I4=>⟨σ,H4,I4,q3⟩
def XB(h:Heap)(hb:jv<h.objs.size):fS P w H (h.push { cls:=.type "dict",data:=.dict #[] }) h.objs.size (.dK []):=
 ⟨fg _,beq_eq_false_iff_ne.mpr<|ki<|bf hb,[],.nil,Heap.DictOf.new h⟩
def Z':TE:=λ_ H Q=>∀p,H p=aD->Q (.ref p) (upd H p<|.dK [])
def ώ:PE X (.Dict [] [] pos) Z':=λpZ s σ H Q I h=>
 wpAny_Dict_empty ⟨.ref s.heap.objs.size,_,I.laid (a:=s.heap.objs.size) (o:=.dK []) (t':=s.toks) (λ_ _ q=>ad _ q) (ah _)<|XB s.heap I.big,rfl,h _<|I.aT.fresh<|ah _⟩
def WC:List (TE×TE)->St->Hp->(List (V×V)->Hp->Prop)->Prop
 |[],_,H,Q=>Q [] H
 |(tk,tv)::r,σ,H,Q=>tk σ H λx H1=>tv σ H1 λy H2=>WC r σ H2 λps H3=>Q ((x,y)::ps) H3
abbrev VV:List (V×V)->List (Value×Value)->Prop:=Paired λp q=>RelV p.1 q.1/\RelV p.2 q.2
def FR(X:Cx)(pos:Pos)(keys:List (Option Expr))(values:List Expr)(Cm:List (TE×TE)):Prop:=
 ∀pZ s σ H (Q:List (V×V)->Hp->Prop),Inv X pZ σ H s->WC Cm σ H Q ->
  wpAny (model X.prog X.w) X.A (evalPairs<|pairTrees keys values X.env pos) (λvs s'=>∃ps H',Inv X pZ σ H' s'/\VV ps vs/\Q ps H') X.xe s
def ĺ:FR X pos [] [] []:=λpZ s σ H Q I h=>pairTrees_nil_walk ⟨[],H,I,.nil,h⟩
def γ(hk:PE X k tk)(hv:PE X v tv)(hr:FR X pos ks vs Cm):FR X pos (aA k::ks) (v::vs) ((tk,tv)::Cm):=λpZ s σ H Q I h=>
 pairTrees_cons_walk (aQ (hk pZ s σ H _ I h) λu s1 ⟨x,H1,I1,rx,q1⟩=>aQ (hv pZ s1 σ H1 _ I1 q1) λw2 s2 ⟨y,H2,I2,ry,q2⟩=>
  aQ (hr pZ s2 σ H2 _ I2 q2) λws s3 ⟨ps,H3,I3,rel,q3⟩=>⟨(x,y)::ps,H3,I3,.cons ⟨rx,ry⟩ rel,q3⟩)
def dD(kvs more:List (Key×V)):List (Key×V):=more.foldl (λacc kv=>bS acc kv.1 kv.2) kvs
def KV.merge:∀{more:List (Key×V)} {rs:List (Key×Value)} {kvs:List (Key×V)} {vs:List (Key×Value)},KV more rs->KV kvs vs->KV (dD kvs more) (merged vs rs):=by
 intro more rs kvs vs r;unfold KV at r
 induction r generalizing kvs vs with
 |nil=>intro q;exact q
 |@cons p q ps qs h t ih=>
  intro r0;have e:KV (bS kvs p.1 p.2) (stored vs q.1 q.2):=by
   have:=r0.put p.1 h.2
   rw[<-h.1];exact this
  exact ih e
theorem vR:∀(more kvs:List (Key×V)),(dD kvs more).length<=kvs.length+more.length
 |[],kvs=>by show kvs.length<=kvs.length+0;omega
 |p::r,kvs=>by
  have h1:=vR r<|bS kvs p.1 p.2;have h2:=vQ kvs p.1 p.2;show(dD (bS kvs p.1 p.2) r).length<=_;rw[am];omega
theorem gW:∀{kvs:List (Key×V)} {ws:List (Value×Value)},VV (kvs.map λkv=>(kV kv.1,kv.2)) ws->∃rs,Carries (yS P w) ws rs/\KV kvs rs
 |[],_,r=>by rw[oz] at r;cases r;exact⟨[],True.intro,.nil⟩
 |p::kvs,_,r=>by
  rw[au] at r;cases r with
  |@cons a b as bs h t=>
   obtain⟨rs,c,q⟩:=gW (P:=P) (w:=w) t;obtain⟨b1,b2⟩:=b;exact⟨(p.1,b2)::rs,⟨QP h.1,rfl,c⟩,.cons ⟨rfl,h.2⟩ q⟩
def V3(Cm:List (TE×TE)):TE:=λσ H Q=>∀p,H p=aD->WC Cm σ (upd H p<|.dK []) λps H2=>H2 p=aA (.dK [])/\∃kvs:List (Key×V),ps=kvs.map (λkv=>(kV kv.1,kv.2))/\kvs.length<=15/\Q (.ref p) (upd H2 p<|.dK<|dD [] kvs)
def ŀ(h:FR X pos keys values Cm)(CJ:keys.all (·.isSome)=true)(hl:keys.length=values.length)(h0:keys≠[])(LQ:keys.length<=15):PE X (.Dict keys values pos) (V3 Cm):=by
 intro pZ s σ H Q I q;have hn:=I.aT.fresh<|ah s.heap.objs.size;have I1:=I.laid (a:=s.heap.objs.size) (o:=.dK []) (h':=s.heap.push { cls:=.type "dict",data:=.dict #[] }) (t':=s.toks) (λ_ _ q=>ad _ q) (ah _)<|XB s.heap I.big;refine wpAny_Dict_walk (knd:=yS X.prog X.w) CJ hl h0 LQ<|aQ (h pZ _ σ _ _ I1<|q _ hn) λws s2 ⟨ps,H2,I2,rel,e,kvs,ep,lk,q2⟩=>?_;subst ep;obtain⟨rs,c,rk⟩:=gW (P:=X.prog) (w:=X.w) rel;obtain⟨z,hd,vs0,r0,dd⟩:=IV I2.aT e;cases r0;refine⟨rs,c,dd,λh' v_ hs=>⟨.ref s.heap.objs.size,_,?_,rfl,q2⟩⟩;have hz:(dD [] kvs).length<=ae:=by
  have h1:=vR kvs [];rw[bv] at h1;rw[rj];omega
 have he:∃q,h'.get? s.heap.objs.size=aA q:=let ⟨q,_,_,hq,_⟩:=v_;⟨q,hq⟩
 exact pS I2 (by rw[e];exact True.intro) hs he<|tY hz hd (rk.merge .nil) v_
structure M1(X:Cx)(o:Expr)(m:Str)(apos:Pos)(e:Expr)(eO:Pos):Prop where
 base:cn o m X.env (eval o X.env)=eval o X.env
 few:Ay X [e] eO
 line:(apos.endLine == eO.line)=true
 trees:lm eO (ar [e] X.env)=[(false,eval e X.env)]
def UT(H:Hp)(a:Addr):Prop:=(∃kvs,Rd H a<|.dK kvs)\/∃kvs,Rd H a (.dT kvs)
def Yh(I:Inv X pZ σ H s)(d:UT H a):s.TypeIs (.ref a) "dict" /\ (∀b,Value.ref a=.ref b->∃ob,s.heap.get? b=aA ob/\ob.dict=aD)/\(a == jv)=false:=by
 rcases d with⟨kvs,e⟩|⟨kvs,e⟩
 .obtain⟨_,hd,vs,_,dd⟩:=XA I.aT e;refine⟨dd.typeIs,λb q=>?_,hd⟩;cases q;obtain⟨ob,_,_,h1,h2,_⟩:=dd;exact⟨ob,h1,h2.2.1⟩
 .obtain⟨_,hd,xs,_,dd⟩:=Go I.aT e;refine⟨dd.typeIs,λb q=>?_,hd⟩;cases q;obtain⟨ob,_,_,h1,h2,_⟩:=dd;exact⟨ob,h1,h2.2.1⟩
def À(td ty:TE):TE:=λσ H Q=>td σ H λx H1=>∃a,x=.ref a/\UT H1 a/\ty σ H1 λy H2=>∃kvs k v,H2 a=aA (.dK kvs)/\y=kV k/\rD kvs k=aA v/\Q v (upd H2 a<|.dK<|Y9 kvs k)
def Ϗ(ho:PE X o td)(he:PE X e ty)(m:M1 X o "pop" apos e eO):PE X (.Call (.Attribute o "pop" apos) [e] [] eO) (À td ty):=by
 intro pZ s σ H Q I h;refine wpAny_Call_method m.base m.few m.line za zy PySem.F.type_dict_pop<|aQ (ho pZ s σ H _ I h) λu s1 ⟨x,H1,I1,rx,a,ex,d,q1⟩=>?_;subst ex;obtain rfl:u=Value.ref a:=rx;obtain⟨t1,t2,_⟩:=Yh I1 d;refine⟨t1,t2,?_⟩;rw[m.trees];refine qd rfl<|ux<|ox<|aQ (he pZ s1 σ H1 _ I1 q1) λiv s2 ⟨y,H2,I2,ry,kvs,k,v,ea,ey,l,q2⟩=>rq ?_;subst ey;exact Vd I2 ea ry l (.inl rfl) λw' s3 I3 k_=>⟨v,_,I3,k_,q2⟩
def ų(I:Inv X pZ σ H s)(e:Rd H a (.dK kvs))(h:∀p s',H p=aD->Inv X pZ σ (upd H p<|.dK kvs) s'->Q (.ref p) s'):wpAny (model X.prog X.w) A (call (.type "dict") [.ref a]) Q E s:=by
 obtain⟨z,hd,vs,rel,dd⟩:=XA I.aT e;refine kt_call_dict hd dd (by rw[<-rel.length];exact z) λh' v_ hs=>?_
 refine h _ _ (I.aT.fresh<|ah _)<|I.laid (a:=s.heap.objs.size) (o:=.dK kvs) (t':=s.toks) (λb q hq=>?_) (ah _)<|tY z (beq_eq_false_iff_ne.mpr<|ki<|bf I.big) rel v_;exact(hs.2 b<|bf<|al hq).trans (ad _ hq)
end L2
namespace DD
open PySem PySem.Spec PyProof.Rows L2
noncomputable def Cc:D->Option Key
 |.int i=>aA<|.inl i
 |.str s=>aA<|.inr ⟨s.toArray⟩
 |_=>aD
def gK{K:Fg}{O:Addr->Prop}{H:Hp}{d:D}{v:V}{k:Key}(e:Cc d=aA k)(h:Is K O H d v):v=kV k:=by
 cases d<;>first|(cases e;done)|skip
 .cases e;rw[zG] at h;exact h
 .cases e;rw[zU] at h;exact h
noncomputable def jK(ks:List Key)(l:List D)(k:Key)(d:D):List Key×List D:=if (ks.any λj=>decide (j=k))=true then (ks,lw (λj e=>if j=k then d else e) ks l) else (ks++[k],l++[d])
section
variable{K:Fg}{O0:Addr->Prop}{H H1 H':Hp}{r:En}{σ:St}{i:Nat}{d:D}{v:V}{a:Addr}
theorem Z2{O:Addr->Prop}{k:Key}(hd:Is K O H d v):∀{kvs:List (Key×V)} {l:List D},IsL K O H l (kvs.map (·.2))->IsL K O H (lw (λj e=>if j=k then d else e) (kvs.map (·.1)) l) ((kvs.map λkv=>if kv.1=k then (kv.1,v) else kv).map (·.2))
 |[],[],_=>.nil
 |[],d'::l,h=>by unfold IsL at h;obtain⟨_,_,e,_⟩:=h;cases e
 |p::kvs,[],h=>by unfold IsL at h;cases h
 |p::kvs,d'::l,h=>by
  unfold IsL at h;obtain⟨x,y,e,h1,h2⟩:=h;rw[au] at e;cases e;rw[au,au,au,List.zipWith_cons_cons];refine .cons ?_<|Z2 hd h2;by_cases q:p.1=k
  .rw[if_pos q,if_pos q];exact hd
  .rw[if_neg q,if_neg q];exact h1
def PV{O:Addr->Prop}{k:Key}{kvs:List (Key×V)}{ks:List Key}{l:List D}(hk:kvs.map (·.1)=ks)(hl:IsL K O H l (kvs.map (·.2)))(hd:Is K O H d v):(bS kvs k v).map (·.1)=(jK ks l k d).1/\IsL K O H (jK ks l k d).2 ((bS kvs k v).map (·.2)):=by
 subst hk;have ea:(kvs.any λkv=>decide (kv.1=k))=((kvs.map (·.1)).any λj=>decide (j=k)):=by rw[List.any_map];rfl
 unfold bS jK;rw[ea];by_cases q:((kvs.map (·.1)).any λj=>decide (j=k))=true
 .rw[if_pos q,if_pos q];refine⟨?_,Z2 hd hl⟩;rw[jx];refine aaz λx _=>?_
  show(if x.1=k then (x.1,v) else x).1=x.1
  split<;>rfl
 .rw[if_neg q,if_neg q,jb,jb];exact⟨rfl,hl.append<|.cons hd .nil⟩
def R.qa7{ks:List Key}{l:List D}{kvs:List (Key×V)}{p:Addr}(h:R K O0 H r σ)(s:aH H H1)(n:H p=aD)(e:H1 p=aA (.dK kvs))(hk:kvs.map (·.1)=ks)(hl:IsL K (λb=>Ow O0 r σ b\/b=p) H1 l (kvs.map (·.2)))(hi:i<r.length)(np:∀l,(r[i]?).bind Sl.pk=aD/\r[i]?≠aA (.z l)):R K O0 H1 (r.set i<|.d false ks l) (σ.set i<|some<|.ref p)/\Kp H r σ H1 (r.set i<|.d false ks l) (σ.set i<|some<|.ref p):=
 h.setG s n e trivial (λ_ z=>by cases z) (λm z=>by cases z) rfl (λ_ _ _ z=>by cases z;exact⟨_,rfl,hk,hl⟩) hi np
def qb6{f:Bool}{ks iJ:List Key}{l l':List D}:(Sl.d f ks l).pk=(Sl.d f iJ l').pk:=by cases f<;>rfl
def R.qb4{K:Fg}{O0:Addr->Prop}{H H':Hp}{r:En}{σ:St}{c:Addr}{fb:Bool}{ks iJ:List Key}{l l':List D}{AS:List (Key×V)}(h:R K O0 H r σ)(ei:r[i]?=aA (.d fb ks l))(ha:σ[i]?=aA (aA<|.ref c))(kp:∀b o,b≠c->H b=aA o->H' b=aA o)(lv:∀b,b≠c->H' b=aD->H b=aD)(e':H' c=aA (.dK AS))(hk:AS.map (·.1)=iJ)(il:IsL K (Ow O0 r σ) H' l' (AS.map (·.2))):R K O0 H' (r.set i<|.d fb iJ l') σ/\Kp H r σ H' (r.set i<|.d fb iJ l') σ:=
 h.RI ei rfl ha kp lv e' trivial (λ_ z=>by cases z) (λm z=>by cases z) (λm z=>by rcases z with z|z|⟨_,z⟩<;>cases z;exact⟨_,.inr<|.inr ⟨_,rfl⟩⟩) qb6 (λ_ _ _ z=>by cases z;exact⟨_,rfl,hk,il⟩)
def R.Qd{f:Bool}{ks iJ:List Key}{l l':List D}{kvs AS:List (Key×V)}(h:R K O0 H r σ)(ei:r[i]?=aA (.d f ks l))(ha:σ[i]?=aA (aA<|.ref a))(hx:H a=aA (.dK kvs))(hk:AS.map (·.1)=iJ)(il:IsL K (Ow O0 r σ) H l' (AS.map (·.2))):R K O0 (L2.upd H a<|.dK AS) (r.set i<|.d f iJ l') σ/\Kp H r σ (L2.upd H a<|.dK AS) (r.set i<|.d f iJ l') σ:=by
 have Ak:Ow O0 r σ a:=.inr ⟨i,l,by rw[ei];rfl,ha⟩;exact h.qb4 ei ha (λb o hb e1=>by rw[zI hb];exact e1) (λb hb e1=>by rw[zI hb] at e1;exact e1) zJ hk<|IsL.mono (λb o e1 n=>by rw[zI λz=>n (by subst z;exact Ak)];exact e1) h.ol (λ_ z _=>z) _ _ il
end
noncomputable def IJ(i:Nat)(ks:List Key)(l:List D)(r:En):Option En:=match r[i]? with
 |some (.p _)=>aD
 |some (.z _)=>aD
 |some (.d true _ _)=>aD
 |some _=>aA<|r.set i<|.d false ks l
 |none=>aD
def WJ{i:Nat}{r r':En}{ks:List Key}{l:List D}(e:IJ i ks l r=aA r'):i<r.length/\(∀l,(r[i]?).bind Sl.pk=aD/\r[i]?≠aA (.z l))/\r'=r.set i (.d false ks l):=by
 unfold IJ at e;cases e1:r[i]? with
 |none=>rw[e1] at e;cases e
 |some x=>
  have hi:i<r.length:=(aq.mp e1).1;rw[e1] at e;cases x with
  |d f ks l=>cases f<;>first|(cases e;done)|(cases e;exact⟨hi,λl=>⟨rfl,(λz=>by cases z)⟩,rfl⟩)
  |_=>first|(cases e;done)|(cases e;exact⟨hi,λl=>⟨rfl,(λz=>by cases z)⟩,rfl⟩)
noncomputable def mQ(i:Nat)(fk fe:ME):MS:=λr=>(fe r).bind λd=>(fk r).bind λkd=>(Cc kd).bind λk=>match r[i]? with
 |some (.d f ks l)=>if ks.length<ae then aA (.nx<|r.set i<|.d f (jK ks l k d).1 (jK ks l k d).2) else aD
 |_=>aD
section
variable{X:Cx}{a k e:Expr}{f g:ME}{pos ps pn p:Pos}{x:Str}
def ñ(i:Nat)(hu:X.A.units+1<cLine)(h:PE X (.Name x pn) (v6 i))(hk:DE X k g)(he:DE X a f)(hs:js a (aA<|.Subscript (.Name x pn) k ps) pos.line X.env=pure false:=by rfl):DS X (.Assign [.Subscript (.Name x pn) k ps] a pos) (mQ i g f):=by
 refine PS.aM (ļ hu h hk he hs) λDn σ H hq=>?_
 obtain⟨O0,r,fl,hR,e,q⟩:=hq;obtain⟨d,e1,e⟩:=aG e;obtain⟨kd,e2,e⟩:=aG e;obtain⟨key,e3,e⟩:=aG e;cases er:r[i]? with
 |none=>rw[er] at e;cases e
 |some y=>
  rw[er] at e;cases y<;>first|(cases e;done)|skip
  rename_i fb ks l;simp only at e;split at e
  .rename_i hlen;cases e;obtain⟨b,kvs,q1,q2,q4,q3⟩:=hR.aI i fb ks l er;refine⟨O0,r,d,hR,e1,λv H1 s1 i1=>⟨.ref b,q1,O0,r,kd,hR.same s1,e2,λu H2 s2 i2=>?_⟩⟩;have Lj:=gK e3 i2;subst Lj;have R2:=(hR.same s1).same s2;have G_:=(q3.same s1 hR.ol).same s2 (hR.same s1).ol;have CC:Is X.K (Ow O0 r σ) H2 d v:=Is.mono (aH.kp s2 _) (hR.same s1).ol (λ_ z _=>z) _ _ i1;obtain⟨p1,p2⟩:=PV (k:=key) q4 G_ CC;have ET:=s2 _ _<|s1 _ _ q2;obtain⟨R3,k3⟩:=R2.Qd er q1 ET p1 p2;have hl:kvs.length<ae:=by rw[<-q4,ag] at hlen;exact hlen
   exact⟨b,_,rfl,FW.k ET hl,q σ _ R3<|(Kp.of_same r σ<|s1.trans s2).trans k3⟩
  .cases e
def Xd{P:Program}{w:World}{k:Key}{u:Value}(h:(yS P w).is k u=true):RelV (kV k) u:=by
 rcases yZ h with⟨i,t,rfl,rfl⟩|⟨y,t,rfl,rfl⟩
 .exact⟨t,rfl⟩
 .exact⟨t,rfl⟩
theorem J2:∀{xs:List V} {us:List Value},xs.length=us.length->(∀(j:Nat) (u:Value),us[j]?=aA u->∃y,xs[j]?=aA y/\RelV y u)->Vals xs us
 |[],[],_,_=>.nil
 |[],_::_,h,_=>by cases h
 |_::_,[],h,_=>by cases h
 |y::xs,u::us,hl,h=>by
  obtain⟨z,e,q⟩:=h 0 u rfl;cases e;exact .cons q (J2 (by simpa using hl) λj w ew=>h (j+1) w<|by simpa using ew)
end
def oE(h:Q 4238894112 { s with toks:=s.toks+1 }):wpAny (model prog w) A (pyHash .none) Q E s:=by
 unfold pyHash pyHashByItsType;have hv:[Value.none].any Value.onHeap=false:=rfl;refine ac ?_;rw[cRoomFor,if_neg (by rw[hv];exact av)];refine af ?_;refine ac<|ju (T:="NoneType") rfl mz.lookup ?_;show wpAny _ _ (if (aA (Value.builtin "NoneType.__hash__") == aA Value.none)=true then _ else _) Q E s;rw[if_neg<|by decide];refine ac<|ju (T:="NoneType") rfl mz.lookup ?_;show wpAny _ _ (callSpecialIfBoundUnlessNone? .none "__hash__" _ >>= _) Q E s;refine ac (wpAny_callSpecialIfBoundUnlessNone?_slot (T:="NoneType") rfl mz
  (fu (T:="NoneType") mz rfl PySem.F.entry_NoneType_hash
   (show wpAny _ _ (do ret (<- mkInt 4238894112)) _ _ s from wpAny_ret_mkInt ?_) (PySem.F.args_NoneType_hash_1 _)))
 exact af h
noncomputable def QO:Option Key->Value->Bool
 |none,.none=>true
 |none,_=>false
 |some k,v=>mT k v
def xI(h:QO k v=true):(k=aD/\v=.none)\/∃j,k=aA j/\mT j v=true:=by
 cases k with
 |none=>cases v<;>first|exact .inl ⟨rfl,rfl⟩|cases h
 |some j=>exact .inr ⟨j,rfl,h⟩
def gJ:mT k .none=false:=by cases k<;>rfl
def ý(h:Q true s):wpAny (model prog w) A (eqBool .none .none) Q E s:=by
 show wpAny (model prog w) A (do rule "eq-bool.same-object";pure true) Q E s;exact ac<|re<|af h
noncomputable def PM(prog:Program)(w:World):PySem.KeyKind prog w (Option Key) where
 is:=QO
 hash:=λk=>match k with
  |none=>4238894112
  |some k=>Sd w k
 inj:=λv a b ha hb=>by
  rcases xI ha with⟨rfl,rfl⟩|⟨i,rfl,h1⟩
  .rcases xI hb with⟨rfl,_⟩|⟨j,rfl,h2⟩
   .rfl
   .rw[gJ] at h2;cases h2
  .rcases xI hb with⟨rfl,rfl⟩|⟨j,rfl,h2⟩
   .rw[gJ] at h1;cases h1
   .rw[(yS prog w).inj v i j h1 h2]
 byValue:=λk v h=>by
  rcases xI h with⟨rfl,rfl⟩|⟨i,rfl,h1⟩
  .rfl
  .exact(yS prog w).byValue i v h1
 pyHash:=λhv h=>by
  rcases xI hv with⟨rfl,rfl⟩|⟨i,rfl,h1⟩
  .exact oE h
  .exact(yS prog w).pyHash h1 h
 eqBool:=λ{A E s a b u v Q} hu hv h=>by
  rcases xI hu with⟨rfl,rfl⟩|⟨i,rfl,h1⟩
  .rcases xI hv with⟨rfl,rfl⟩|⟨j,rfl,h2⟩
   .exact ý (by simpa using h)
   .have h':Q false s:=by rw[decide_eq_false (by intro z;cases z)] at h;exact h
    rcases yZ h2 with⟨n,t,rfl,rfl⟩|⟨y,t,rfl,rfl⟩
    .exact aaw n t _ _ _ _ h'
    .exact aav y t _ _ _ _ h'
  .rcases xI hv with⟨rfl,rfl⟩|⟨j,rfl,h2⟩
   .have h':Q false s:=by rw[decide_eq_false (by intro z;cases z)] at h;exact h
    rcases yZ h1 with⟨n,t,rfl,rfl⟩|⟨y,t,rfl,rfl⟩
    .exact aax n t _ _ _ _ h'
    .exact aau y t _ _ _ _ h'
   .refine(yS prog w).eqBool h1 h2 ?_;have e:decide (aA i=aA j)=decide (i=j):=by
     by_cases q:i=j
     .rw[decide_eq_true q,decide_eq_true<|by rw[q]]
     .rw[decide_eq_false q,decide_eq_false λz=>q<|bu z]
    rw[e] at h;exact h
 «strs»:=λk x t v h=>by
  rcases xI h with⟨rfl,e⟩|⟨i,rfl,h1⟩
  .cases e
  .exact(yS prog w).strs i x t v h1
noncomputable def vO:Option Key->V
 |none=>.aE
 |some k=>kV k
def N9(r:RelV (vO k) u):(PM P w).is k u=true:=by
 cases k with
 |none=>cases (show u=Value.none from r);rfl
 |some k=>exact QP (P:=P) (w:=w) r
def lN(kvs:List (Key×V)):Option Key->Option V
 |none=>aD
 |some k=>rD kvs k
def R9{P:Program}{w:World}{h:Heap}{a:Addr}{vs:List (Key×Value)}(d:h.DictOf (yS P w) a vs):h.MapOf (PM P w) a (λk=>match k with|none=>aD|some k=>valueAt vs k):=by
 obtain⟨o,es,ep,ho,hc,HG,hk,hf⟩:=d.mapOf;refine⟨o,es,ep,ho,hc,HG,λe he=>?_,λk=>?_⟩
 .obtain⟨j,h1,h2⟩:=hk e he;exact⟨aA j,h1,h2⟩
 .cases k with
  |some k=>exact hf k
  |none=>
   have nof:∀e∈es,QO aD e.key=false:=λe he=>by
    obtain⟨j,h1,_⟩:=hk e he;rcases yZ (show mT j e.key=true from h1) with⟨n,t,_,q⟩|⟨y,t,_,q⟩<;>rw[q]<;>rfl
   show findBy QO es aD=aD;unfold findBy;rw[Array.find?_eq_none.mpr (λe he=>by rw[nof e he];exact av)];rfl
def Z3(rel:KV kvs vs)(k:Option Key):sT (lN kvs k) (match k with|none=>aD|some k=>valueAt vs k):=by
 cases k with
 |none=>exact trivial
 |some k=>exact rel.val k
def RN{Q:Value->Shared->Prop}(I:Inv X pZ σ H s)(e:Rd H a (.dK kvs))(ry:RelV (vO k) u)(h:∀s',Inv X pZ σ H s'->Q (.bool (lN kvs k).isSome) s'):wpAny (model X.prog X.w) A (gq .In u<|.ref a) Q E s:=by
 obtain⟨z,hd,vs,rel,dd⟩:=XA I.aT e;refine wpAny_in_of (N9 ry) hd (R9 dd) ?_;rw[<-(Z3 rel k).Lf];exact h _<|I.tok _
def ĝ{Q:Value->Shared->Prop}(I:Inv X pZ σ H s)(e:Rd H a (.dK kvs))(ry:RelV (vO k) u)(h:∀s',Inv X pZ σ H s'->Q (.bool<|!(lN kvs k).isSome) s'):wpAny (model X.prog X.w) A (gq .NotIn u<|.ref a) Q E s:=by
 obtain⟨z,hd,vs,rel,dd⟩:=XA I.aT e;refine wpAny_notIn_of (N9 ry) hd (R9 dd) ?_;rw[<-(Z3 rel k).Lf];exact h _<|I.tok _
abbrev MD:=En->Option (List Key×List D)
def Hn(K:Fg)(f:MD):TE:=λσ H Q=>∃O0 r ks l,R K O0 H r σ/\f r=aA (ks,l)/\∀a kvs H',aH H H'->Rd H' a (.dK kvs)->kvs.map (·.1)=ks->IsL K (Ow O0 r σ) H' l (kvs.map (·.2))->Q (.ref a) H'
def lFd(K:Fg)(f:MD):TE:=λσ H Q=>∃O0 r ks l,R K O0 H r σ/\f r=aA (ks,l)/\∀a kvs H',aH H H'->H a=aD->H' a=aA (.dK kvs)->kvs.map (·.1)=ks->IsL K (λb=>Ow O0 r σ b\/b=a) H' l (kvs.map (·.2))->Q (.ref a) H'
def Ca(X:Cx)(e:Expr)(f:MD):Prop:=PE X e<|Hn X.K f
def B'(X:Cx)(e:Expr)(f:MD):Prop:=PE X e<|lFd X.K f
noncomputable def uE(f:ME):MD:=λr=>(f r).bind λd=>match d with
 |.aI ks l=>aA (ks,l)
 |_=>aD
def Ct:MD:=λ_=>aA ([],[])
noncomputable def rA(f:MD):ME:=λr=>(f r).map λq=>.aI q.1 q.2
noncomputable def mO(i:Nat)(f:MD):MS:=λr=>(f r).bind λq=>(IJ i q.1 q.2 r).map .nx
noncomputable def GL(i:Nat):MS:=λr=>match r[i]? with
 |some (.d false ks l)=>aA<|.rg ks l r
 |_=>aD
noncomputable def Sc:D->Option (Option Key)
 |.aE=>aA aD
 |.int i=>aA<|some<|.inl i
 |.str s=>aA<|some<|.inr ⟨s.toArray⟩
 |_=>aD
noncomputable def xS:List Key->List D->Key->Option D
 |k'::ks,d::l,k=>if k'=k then aA d else xS ks l k
 |_,_,_=>aD
noncomputable def Gw(ks:List Key)(l:List D):Option Key->Option D
 |none=>aD
 |some k=>xS ks l k
noncomputable def Gy(neg:Bool)(fk:ME)(fd:MD):MB:=λr=>(fk r).bind λkd=>(fd r).bind λq=>(Sc kd).map λk=>if neg then !(Gw q.1 q.2 k).isSome else (Gw q.1 q.2 k).isSome
noncomputable def JS(fd:MD)(fk:ME):ME:=λr=>(fd r).bind λq=>(fk r).bind λkd=>(Cc kd).bind λk=>xS q.1 q.2 k
def YR{K:Fg}(e:Sc d=aA k)(h:Is K O H d v):v=vO k:=by
 cases d<;>first|(cases e;done)|skip
 .cases e;rw[yQ] at h;exact h
 .cases e;rw[zG] at h;exact h
 .cases e;rw[zU] at h;exact h
theorem bJ{K:Fg}(k:Key):∀{kvs:List (Key×V)} {l:List D},IsL K O H l (kvs.map (·.2))->(∃d v,xS (kvs.map (·.1)) l k=aA d/\rD kvs k=aA v/\Is K O H d v)\/(xS (kvs.map (·.1)) l k=aD/\rD kvs k=aD)
 |[],[],_=>.inr ⟨rfl,rfl⟩
 |[],d'::l,h=>by unfold IsL at h;obtain⟨_,_,e,_⟩:=h;cases e
 |p::kvs,[],h=>by unfold IsL at h;cases h
 |p::kvs,d'::l,h=>by
  unfold IsL at h;obtain⟨x,y,e,h1,h2⟩:=h;rw[au] at e;cases e;by_cases q:p.1=k
  .exact .inl ⟨d',p.2,by rw[au];unfold xS;rw[if_pos q],j3 q,h1⟩
  .have e1:xS ((p::kvs).map (·.1)) (d'::l) k=xS (kvs.map (·.1)) l k:=by rw[au];show(if p.1=k then _ else _)=_;rw[if_neg q]
   rw[e1,j4 q];exact bJ k h2
def nF{K:Fg}(k:Option Key)(h:IsL K O H l (kvs.map (·.2))):(∃d v,Gw (kvs.map (·.1)) l k=aA d/\lN kvs k=aA v/\Is K O H d v)\/(Gw (kvs.map (·.1)) l k=aD/\lN kvs k=aD):=by
 cases k with
 |none=>exact .inr ⟨rfl,rfl⟩
 |some k=>exact bJ k h
def Rd.same(s:aH H H')(h:Rd H a u):Rd H' a u:=by
 rcases h with h|⟨ob,h⟩
 .exact .inl<|s _ _ h
 .exact .inr ⟨ob,s _ _ h⟩
def qi1(h:DE X a f):Ca X a (uE f):=by
 refine PE.aM h λσ H Q hq=>?_
 obtain⟨O0,r,ks,l,hR,e,q⟩:=hq;obtain⟨d,e1,e⟩:=aG e;refine⟨O0,r,d,hR,e1,λv H1 s1 i1=>?_⟩;cases d<;>first|(cases e;done)|skip
 cases e;rw[wW] at i1;obtain⟨c,kvs,rfl,_,rd,ek,il⟩:=i1;exact q c kvs H1 s1 rd ek il
def Oq:B' X (.Dict [] [] pos) Ct:=by
 refine PE.aM ώ λσ H Q hq=>?_
 obtain⟨O0,r,ks,l,hR,e,q⟩:=hq;cases e;exact λp hp=>q p [] _ (yD hp) hp zJ rfl .nil
def mK:iW X (.type "dict") (λxs H Q=>∃p kvs,xs=[.ref p]/\Rd H p (.dK kvs)/\∀l,H l=aD->Q (.ref l) (upd H l<|.dK kvs)):=by
 intro pZ s σ H xs us Q I r h;obtain⟨p,kvs,rfl,e,q⟩:=h;obtain⟨u,rfl,rx⟩:=J5 r;cases rx;exact ų I e λl s' hl I'=>⟨.ref l,_,I',rfl,q l hl⟩
def ÿ(hg:Gl X "dict")(hm:X.mg "dict" = aD)(ha:Ca X a fd)(hs:ar [a] X.env=(false,eval a X.env)::ar [] X.env:=by rfl):B' X (.Call (.Name "dict" p') [a] [] pos) fd:=by
 refine PE.aM (uM mK hg hm zo (yK ha xH hs) (he:=hs)) λσ H Q hq=>?_
 obtain⟨O0,r,ks,l,hR,e,q⟩:=hq;refine⟨O0,r,ks,l,hR,e,λc kvs H1 s1 rd ek il=>⟨c,kvs,rfl,rd,λt ht=>?_⟩⟩;refine q t kvs _ (s1.trans<|yD ht) (s1.free ht) zJ ek ?_;exact IsL.mono (aH.kp (yD ht) _) (hR.same s1).ol (λb z nn=>z.elim id λz=>by subst z;exact absurd ht nn) _ _ il
def IU(h:B' X a fd):DE X a (rA fd):=by
 refine PE.aM h λσ H Q hq=>?_
 obtain⟨O0,r,d,hR,e,q⟩:=hq;obtain⟨⟨ks,l⟩,e1,rfl⟩:=aY e;refine⟨O0,r,ks,l,hR,e1,λc kvs H1 s1 n1 e2 ek il=>q _ H1 s1 ?_⟩;have ol:kT (λb=>Ow O0 r σ b\/b=c) H1:=λb z=>z.elim (λz=>(hR.same s1).ol b z) λz=>by subst z;exact⟨.dK kvs,e2,trivial⟩
 rw[wW];exact⟨c,kvs,rfl,hR.AR n1,.inl e2,ek,IsL.mono (aH.kp (aH.refl H1) _) ol (λ_ z _=>.inl z) _ _ il⟩
def ò(i:Nat)(he:B' X e fd)(hN:X.N.Nodup)(hi:X.N[i]?=aA nm:=by rfl)(hx:Loc X.env.scope nm:=by first|exact Or.inl rfl|exact Or.inr rfl)(hs:js e (aA<|.Name nm pos') pos.line X.env=pure false:=by rfl)(hf:m_ X nm:=by first|exact .inl rfl|exact .inr rfl):DS X (.Assign [.Name nm pos'] e pos) (mO i fd):=by
 refine PS.aM (oH hN hi hx he hs hf) λDn σ H hq=>?_
 obtain⟨O0,r,Ao,hR,e,q⟩:=hq;obtain⟨⟨ks,l⟩,e1,e2⟩:=aG e;obtain⟨r',e4,rfl⟩:=aY e2;obtain⟨hl,np,rfl⟩:=WJ e4;refine⟨O0,r,ks,l,hR,e1,λp kvs H1 s1 n1 e3 ek i1=>?_⟩;obtain⟨R1,k1⟩:=hR.qa7 s1 n1 e3 ek i1 hl np;exact q _ H1 R1 k1
def ó(i:Nat)(h:PE X (.Name nm pos') (v6 i)):DS X (.Return (aA<|.Name nm pos') pos) (GL i):=by
 refine PS.aM (WN h) λDn σ H hq=>?_
 obtain⟨O0,r,Ao,hR,e,q⟩:=hq;have⟨ks,l,e1,e2⟩:∃ks l,r[i]?=aA (.d false ks l)/\Ao=.rg ks l r:=by
  unfold GL at e;split at e
  .rename_i ks l h;cases e;exact⟨ks,l,h,rfl⟩
  .cases e
 subst e2;obtain⟨c,kvs,q1,q2,q4,q3⟩:=hR.aI i false ks l e1;refine⟨.ref c,q1,q c kvs σ H hR (Kp.refl H r σ) (.inr ⟨i,l,.inr ⟨ks,e1⟩,q1⟩) (hR.loc i l c (.inr<|.inr ⟨ks,e1⟩) q1) q2 q4 ?_⟩;exact IsL.mono (aH.kp (aH.refl H) _) hR.ol (λb z _=>z.elim .inl λz=>by subst z;exact .inr ⟨i,l,by rw[e1];rfl,q1⟩) _ _ q3
def õ(hk:DE X k g)(ho:Ca X o fd)(hm:gr .In o=false:=by rfl):DT X (.Compare k [.In] [o] pos) (Gy false g fd):=by
 refine PT.aM (O8 (t:=λσ H Q=>lE X.K g σ H λy H1=>Hn X.K fd σ H1 λx H2=>∃c kvs j,x=.ref c/\Rd H2 c (.dK kvs)/\y=vO j/\Q (.bl (lN kvs j).isSome) H2) ?_ hm) λσ H Q hq=>?_
 .intro pZ s σ H Q I h;refine aQ (hk pZ s σ H _ I h) λiv s1 ⟨y,H1,I1,ry,q1⟩=>aQ (ho pZ s1 σ H1 _ I1 q1) λu s2 ⟨x,H2,I2,rx,c,kvs,j,ex,rd,ey,q2⟩=>?_
  subst ex ey;obtain rfl:u=Value.ref c:=rx;exact RN I2 rd ry λs3 I3=>⟨.bl (lN kvs j).isSome,H2,I3,rfl,q2⟩
 .obtain⟨O0,r,t,hR,e,q⟩:=hq;obtain⟨kd,e1,e⟩:=aG e;obtain⟨⟨ks,l⟩,e2,e⟩:=aG e;obtain⟨j,e3,rfl⟩:=aY e;refine⟨O0,r,kd,hR,e1,λy H1 s1 iy=>⟨O0,r,ks,l,hR.same s1,e2,λc kvs H2 s2 rd ek il=>⟨c,kvs,j,rfl,rd,YR e3 iy,_,rfl,?_⟩⟩⟩;subst ek;have q':=q H2<|s1.trans s2;rcases nF j il with⟨dd,v,p1,p2,p3⟩|⟨p1,p2⟩
  .rw[p1] at q';rw[p2];exact q'
  .rw[p1] at q';rw[p2];exact q'
def Wb(hu:X.A.units+1<cLine)(ho:Ca X o fd)(hk:DE X k g)(hs:F9 k:=by intro _ _;rfl):DE X (.Subscript o k pos) (JS fd g):=by
 refine PE.aM (PP hu ho hk hs) λσ H Q hq=>?_
 obtain⟨O0,r,d,hR,e,q⟩:=hq;obtain⟨⟨ks,l⟩,e1,e⟩:=aG e;obtain⟨kd,e2,e⟩:=aG e;obtain⟨j,e3,e⟩:=aG e;refine⟨O0,r,ks,l,hR,e1,λc kvs H1 s1 rd ek il=>⟨O0,r,kd,hR.same s1,e2,λy H2 s2 iy=>?_⟩⟩;subst ek;have fZ:=il.same s2 (hR.same s1).ol;rcases bJ j fZ with⟨dd,v,p1,p2,p3⟩|⟨p1,p2⟩
 .rw[p1] at e;cases e;exact⟨c,v,rfl,.inl ⟨kvs,j,Rd.same s2 rd,gK e3 iy,p2.symm⟩,q v H2 (s1.trans s2) p3⟩
 .rw[p1] at e;cases e
open PySem PySem.Spec PyProof.Rows L2 PySem.W
open PySem PySem.Spec PyProof.Rows L2 PySem.W TS
def GX(r:eS k A):A.units+1<cLine:=by have:=ϩ r;omega
def AC(n:Nat)(d:D):Bool:=AO d && (fI d).canLay0 && decide ((fI d).depth<=n)
def AZ(n:Nat)(x y:D):Option D:=if AC n x=true/\AC n y=true then aA (.bl<|xy (fI x)<|fI y) else aD
def neN(n:Nat)(x y:D):Option D:=if AC n x=true/\AC n y=true then aA (.bl<|!PyData.eqv (fI x) (fI y)) else aD
def Gb(K:Fg)(n:Nat)(neg:Bool):R2:=λx y H Q=>∃O dx dy,Is K O H dx x/\Is K O H dy y/\AC n dx=true/\AC n dy=true/\Q (.bl (if neg then !PyData.eqv (fI dx) (fI dy) else xy (fI dx)<|fI dy)) H
def Yr(hu:X.A.units+n<cLine):eY X (gq .Eq) (Gb X.K n false):=by
 intro pZ s σ H x y v u Q I rx ry hq;obtain⟨O,dx,dy,ix,iy,lx,ly,q⟩:=hq;unfold AC at lx ly;simp only[dl,decide_eq_true_eq] at lx ly;obtain⟨as,qa⟩:=bH I dx x v lx.1.1 ix rx;obtain⟨bs,qb⟩:=bH I dy y u ly.1.1 iy ry;exact PySem.SeqAt.compareEq_reads qa qb lx.1.2 ly.1.2 (by have:=Nat.min_le_left (fI dx).depth (fI dy).depth;omega) ⟨.bl _,H,I,rfl,q⟩
def Yz(hu:X.A.units+n<cLine):eY X (gq .NotEq) (Gb X.K n true):=by
 intro pZ s σ H x y v u Q I rx ry hq;obtain⟨O,dx,dy,ix,iy,lx,ly,q⟩:=hq;unfold AC at lx ly;simp only[dl,decide_eq_true_eq] at lx ly;obtain⟨as,qa⟩:=bH I dx x v lx.1.1 ix rx;obtain⟨bs,qb⟩:=bH I dy y u ly.1.1 iy ry;exact PySem.SeqAt.compareNe_reads qa qb lx.1.2 ly.1.2 (by have:=Nat.min_le_left (fI dx).depth (fI dy).depth;omega) ⟨.bl _,H,I,rfl,q⟩
def Xy{K:Fg}:g_ K (Gb K n false) (AZ n):=by
 intro O H dx dy d vx vy Q ol ix iy e q;unfold AZ at e;split at e
 .rename_i h;cases e;exact⟨O,dx,dy,ix,iy,h.1,h.2,q _ H (aH.refl H) (by rw[zZ];rfl)⟩
 .cases e
def Zk{K:Fg}:g_ K (Gb K n true) (neN n):=by
 intro O H dx dy d vx vy Q ol ix iy e q;unfold neN at e;split at e
 .rename_i h;cases e;exact⟨O,dx,dy,ix,iy,h.1,h.2,q _ H (aH.refl H) (by rw[zZ];rfl)⟩
 .cases e
def N8(r:eS k A)(h:16<=k):A.units+400<cLine:=by have:=r.un;omega
noncomputable def uT(n:Nat)(m:MF)(fs:ML):MD:=λr=>(fs r).bind λds=>if ds.length=n then (m<|ds.map .v).bind λp=>match p.1 with
 |.g ks l=>aA (ks,l)
 |_=>aD
 else aD
def þ(F:eA X.prog X.w X.K X.mg X.base eJ k f fd ps (iY X.K n m))(hr:eS k X.A)(hg:Gl X x)(hm:X.mg x=aA (.ref f))(hk:dw X.K (.ref f)=true)(hb:Binds X.K fd ps [])(ha:DA X (e::es) fs)(iK:iH x:=by decide)(he:i_ X e es:=by rfl)(hpl:JV X es pos:=by rfl):B' X (.Call (.Name x p) (e::es) [] pos) (uT n m fs):=by
 refine PE.aM (gG (E:=λ_ _ _=>False) (dvs:=[]) F hr hg hm hk hb .nil oN ha iK he hpl) λσ H Q h=>?_
 obtain⟨O0,r,ks,l,hR,e,q⟩:=h;obtain⟨ds,e1,e2⟩:=aG e;split at e2
 .rename_i hl;obtain⟨⟨rs,f_⟩,e3,e4⟩:=aG e2;refine⟨O0,r,ds,hR,e1,λvs H1 s1 il=>gB hR s1 il hl e3 ?_⟩;cases rs with
  |v d=>cases e4
  |f l'=>cases e4
  |g iJ l'=>cases e4;exact λa kvs H2 pf na ea ek fZ=>q a kvs H2 (s1.trans pf.same) (s1.free na) ea ek fZ
 .cases e2
noncomputable def By(i:Nat)(g:MS):MS:=λr=>match r[i]? with
 |some (.d false ks l)=>g<|r.set i<|.v<|.aI ks l
 |_=>aD
def R.fz2{K:Fg}(h:R K O0 H r σ)(er:r[i]?=aA (.d false ks l))(c1:σ[i]?=aA (aA<|.ref c))(c2:H c=aA (.dK kvs))(c3:kvs.map (·.1)=ks)(c4:IsL K (Ow O0 r σ) H l (kvs.map (·.2)))(h_:∀b,b≠c->H2 b=H b)(h2:∃o,H2 c=aA o/\Mb o)(rd:Rd H2 c (.dK kvs)):R K O0 H2 (r.set i<|.v<|.aI ks l) σ/\Kp H r σ H2 (r.set i<|.v<|.aI ks l) σ/\IsL K (Ow O0 (r.set i<|.v<|.aI ks l) σ) H2 l (kvs.map (·.2))/\¬Ow O0 (r.set i<|.v<|.aI ks l) σ c:=by
 have hi:i<r.length:=(aq.mp er).1;have own:∀j m,((r.set i<|.v<|.aI ks l)[j]?).bind Sl.own=aA m->i≠j/\(r[j]?).bind Sl.own=aA m:=λj m e=>by
  by_cases hj:i=j
  .subst hj;rw[zN hi] at e;cases e
  .rw[zF hj] at e;exact⟨hj,e⟩
 have mtt:∀j m,((r.set i<|.v<|.aI ks l)[j]?).bind Sl.mt=aA m->(r[j]?).bind Sl.mt=aA m:=λj m e=>by
  by_cases hj:i=j
  .subst hj;rw[zN hi] at e;cases e
  .rw[zF hj] at e;exact e
 have at_:∀b,jZ (r.set i<|.v<|.aI ks l) σ b->jZ r σ b:=λb ⟨j,m,e,q⟩=>⟨j,m,(own j m e).2,q⟩
 have nc:¬Ow O0 (r.set i<|.v<|.aI ks l) σ c:=λz=>z.elim (λz=>h.loc i l c (.inr<|.inr ⟨ks,er⟩) c1 z) λ⟨j,m,e,q⟩=>by
  obtain⟨hj,e'⟩:=own j m e;exact hj<|h.apart i j c l m (by rw[er];rfl) e' c1 q
 have ow:∀b,Ow O0 (r.set i<|.v<|.aI ks l) σ b->H b≠aD->Ow O0 r σ b:=λb z _=>z.imp id<|at_ b
 have mc:lJ r σ c:=⟨i,l,by rw[er];rfl,c1⟩;have kp:dZ (Ow O0 r σ) H H2:=λb o e n=>(h_ b λz=>n (by rw[z];exact .inr mc.own)).trans e
 have i4:=IsL.mono kp h.ol ow _ _ c4;refine⟨⟨by simp[h.len],λj d ej=>?_,λj m ej=>?_,λj k b m n e4 e5=>h.apart j k b m n (own j m e4).2 (own k n e5).2,λb z=>?_,λj m b ej q=>?_,λj m b ej q=>?_,λj f iJ m ej=>?_⟩,⟨λb o e n=>(h_ b λz=>n (by rw[z];exact mc)).trans e,λb e=>?_,λb o e mb=>?_,λb z=>.inl<|at_ b z,λb ⟨j,m,e,q⟩=>.inl ⟨j,m,mtt j m e,q⟩,λj m ej=>?_,λj m ej=>?_⟩,i4,nc⟩
 .by_cases hj:i=j
  .subst hj;rw[zN hi] at ej;cases ej;refine⟨.ref c,c1,?_⟩;rw[wW];exact⟨c,kvs,rfl,nc,rd,c3,i4⟩
  .rw[zF hj] at ej;obtain⟨v,q1,q2⟩:=h.val j d ej;exact⟨v,q1,Is.mono kp h.ol ow _ _ q2⟩
 .have hj:i≠j:=λz=>by subst z;rw[zN hi] at ej;cases ej
  rw[zF hj] at ej;obtain⟨b,ys,q1,q2,q3⟩:=h.own j m ej;exact⟨b,ys,q1,(h_ b λz=>by rw[z,c2] at q2;cases q2).trans q2,IsL.mono kp h.ol ow _ _ q3⟩
 .obtain⟨o,e,mb⟩:=h.o0 b z;exact⟨o,(h_ b λy=>h.loc i l c (.inr<|.inr ⟨ks,er⟩) c1 (by rw[<-y];exact z)).trans e,mb⟩
 .have hj:i≠j:=λz=>by subst z;rw[zN hi] at ej;rcases ej with ej|ej|⟨_,ej⟩<;>cases ej
  rw[zF hj] at ej;exact h.loc j m b ej q
 .have hj:i≠j:=λz=>by subst z;rw[zN hi] at ej;cases ej
  rw[zF hj] at ej;exact h.par j m b ej q
 .have hj:i≠j:=λz=>by subst z;rw[zN hi] at ej;cases ej
  rw[zF hj] at ej;obtain⟨b,AS,q1,q2,q4,q3⟩:=h.aI j f iJ m ej;have hb:b≠c:=λz=>hj (h.apart i j c l m (by rw[er];rfl) (by rw[ej];rfl) c1<|by rw[q1,z])
  exact⟨b,AS,q1,(h_ b hb).trans q2,q4,IsL.mono kp h.ol ow _ _ q3⟩
 .by_cases hb:b=c
  .subst hb;obtain⟨o,e',_⟩:=h2;rw[e] at e';cases e'
  .rw[<-h_ b hb];exact e
 .by_cases hb:b=c
  .subst hb;exact h2
  .exact⟨o,(h_ b hb).trans e,mb⟩
 .have hj:i≠j:=λz=>by subst z;rw[er] at ej;cases ej
  exact⟨by rw[zF hj];exact ej,rfl⟩
 .have hj:i≠j:=λz=>by subst z;rw[er] at ej;cases ej
  exact⟨by rw[zF hj];exact ej,rfl⟩
def R.fz{K:Fg}(h:R K O0 H r σ)(er:r[i]?=aA (.d false ks l)):R K O0 H (r.set i<|.v<|.aI ks l) σ/\Kp H r σ H (r.set i<|.v<|.aI ks l) σ:=by
 obtain⟨c,kvs,c1,c2,c3,c4⟩:=h.aI i false ks l er;obtain⟨a,b,_⟩:=h.fz2 er c1 c2 c3 c4 (λ_ _=>rfl) ⟨_,c2,trivial⟩<|.inl c2;exact⟨a,b⟩
def Vk(i:Nat){st:Stmt}(h:DS X st g):DS X st (By i g):=by
 refine PS.aM h λDn σ H hq=>?_
 obtain⟨O0,r,fl,hR,e,q⟩:=hq;unfold By at e;split at e
 .rename_i ks l er;obtain⟨R1,k1⟩:=hR.fz er;exact⟨O0,_,fl,R1,e,q.before R1 k1⟩
 .cases e
structure aF where
 most:Int
 steps:Int
 wait:List D
 fB:List D
 ended:D
 defs:D
noncomputable def s_(most steps:Int)(w c:Addr)(ve vd:V):List (Str×V):=[("most",.int most),("steps",.int steps),("waiting",.ref w),("come",.ref c),("ended",ve),("defs",vd)]
structure iL(K:Fg)(O:Addr->Prop)(H:Hp)(C a w c:Addr)(st:aF):Prop where
 ex:∃dx xs ys ve vd,H a=aA (.ins C dx<|s_ st.most st.steps w c ve vd)/\H w=aA (.lst xs)/\H c=aA (.lst ys)/\Is K O H st.ended ve/\Is K O H st.defs vd/\IsL K O H st.wait xs/\IsL K O H st.fB ys
 wc:w≠c
 oa:O a
 ow:O w
 oc:O c
def lH(r:En):Prop:=∀i:Nat,(r[i]?).bind Sl.own=aD
structure fK(K:Fg)(O:Addr->Prop)(H:Hp)(C:Addr)(z:Nat)(a w c:Addr)(st:aF)(r:En)(σ:St):Prop where
 ms:iL K O H C a w c st
 rr:R K O H r σ
 no:lH r
 me:σ[z]?=aA (aA<|.ref a)
def eN(a w c:Addr)(H H':Hp):Prop:=∀b o,H b=aA o->b≠a->b≠w->b≠c->H' b=aA o
def eN.refl(H:Hp):eN a w c H H:=λ_ _ e _ _ _=>e
def eN.trans(x:eN a w c H H1)(y:eN a w c H1 H2):eN a w c H H2:=λb o e h1 h2 h3=>y b o (x b o e h1 h2 h3) h1 h2 h3
def eN.same(s:aH H H'):eN a w c H H':=λb o e _ _ _=>s b o e
section
variable{K:Fg}{st:aF}
theorem lH.at(hq:∀x l,q x=aA l->x.own=aA l)(h:lH r):¬Ac q r σ b:=λ⟨i,l,e,_⟩=>by
 obtain⟨x,e1,e2⟩:=sr.mp e
 have:=h i
 rw[e1] at this;rw[show(aA x).bind Sl.own=x.own from rfl,hq x l e2] at this;cases this
def lH.ow(h:lH r):Ow O r σ b↔O b:=⟨λz=>z.elim id λz=>absurd z<|h.at λ_ _ e=>e,.inl⟩
def fK.is(m:fK K O H C z a w c st r σ):Is K (Ow O r σ) H' d v↔Is K O H' d v:=by
 rw[show Ow O r σ=O from funext λb=>propext m.no.ow]
def fK.ol(m:fK K O H C z a w c st r σ):kT O H:=m.rr.o0
def iL.kp(m:iL K O H C a w c st)(k:eN a w c H H'):dZ O H H':=λb o e n=>k b o e (λz=>n<|z ▸ m.oa) (λz=>n<|z ▸ m.ow) λz=>n<|z ▸ m.oc
def fK.step(m:fK K O H C z a w c st r σ)(k:eN a w c H H')(n:iL K O H' C a w c aS):fK K O H' C z a w c aS r σ:=by
 have kp:=m.ms.kp k;have ol:kT O H':=λb z=>by
  obtain⟨dx,xs,ys,ve,vd,e1,e2,e3,_⟩:=n.ex;by_cases h1:b=a
  .rw[h1];exact⟨_,e1,trivial⟩
  .by_cases h2:b=w
   .rw[h2];exact⟨_,e2,trivial⟩
   .by_cases h3:b=c
    .rw[h3];exact⟨_,e3,trivial⟩
    .obtain⟨o,e,mb⟩:=m.ol b z;exact⟨o,k b o e h1 h2 h3,mb⟩
 refine⟨n,⟨m.rr.len,λi d e=>?_,λi l e=>?_,m.rr.apart,ol,m.rr.loc,m.rr.par,λi _ ks l e=>?_⟩,m.no,m.me⟩
 .obtain⟨v,e1,q⟩:=m.rr.val i d e;rw[m.is] at q;exact⟨v,e1,m.is.mpr<|Is.mono kp m.ol (λ_ z _=>z) _ _ q⟩
 .have:=m.no i
  rw[vA e] at this;cases this
 .have:=m.no i
  rw[e] at this;cases this
def iL.mono(m:iL K O H C a w c st)(ol:kT O H)(s:aH H H'):iL K O H' C a w c st:=by
 obtain⟨dx,xs,ys,ve,vd,e1,e2,e3,e4,e5,e6,e7⟩:=m.ex;exact⟨⟨dx,xs,ys,ve,vd,s _ _ e1,s _ _ e2,s _ _ e3,e4.same s ol,e5.same s ol,e6.same s ol,e7.same s ol⟩,m.wc,m.oa,m.ow,m.oc⟩
def fK.same(m:fK K O H C z a w c st r σ)(s:aH H H'):fK K O H' C z a w c st r σ:=m.step (eN.same s)<|m.ms.mono m.ol s
def mL(m:iL K O H C a w c st):a≠w/\a≠c:=by
 obtain⟨dx,xs,ys,ve,vd,e1,e2,e3,_⟩:=m.ex;exact⟨Jb e1 e2 (by intro z;cases z),Jb e1 e3 (by intro z;cases z)⟩
def iL.put(m:iL K O H C a w c st)(ol:kT O H)(k:eN a w c H H2)(e1:H2 a=aA (.ins C dx<|s_ most steps w c ve vd))(e2:H2 w=aA (.lst xs))(e3:H2 c=aA (.lst ys))(h1:Is K O H en ve)(h2:Is K O H de vd)(h3:IsL K O H wa xs)(h4:IsL K O H co ys):iL K O H2 C a w c ⟨most,steps,wa,co,en,de⟩:=by
 have kp:=m.kp k;have f:∀(b:Addr),O b->H b≠aD->O b:=λ_ z _=>z
 exact⟨⟨dx,xs,ys,ve,vd,e1,e2,e3,Is.mono kp ol f _ _ h1,Is.mono kp ol f _ _ h2,IsL.mono kp ol f _ _ h3,IsL.mono kp ol f _ _ h4⟩,m.wc,m.oa,m.ow,m.oc⟩
end
abbrev fY:=aF->En->Option (D×aF)
def lM(K:Fg)(C:Addr)(z:Nat)(m:fY):TE:=λσ H Q=>∃O a w c st r d aS,fK K O H C z a w c st r σ/\m st r=aA (d,aS)/\∀v H',fK K O H' C z a w c aS r σ->Is K O H' d v->eN a w c H H'->Q v H'
def fD(K:Fg)(C:Addr)(n:Nat)(m:aF->List D->Option (D×aF)):Sp:=λvs H Q _=>∃O a w c st ds us d aS,vs=.ref a::us/\ds.length=n/\iL K O H C a w c st/\kT O H/\IsL K O H ds us/\m st ds=aA (d,aS)/\∀v H',iL K O H' C a w c aS->kT O H'->Is K O H' d v->eN a w c H H'->Q v H'
section
variable{X:Cx}{C:Addr}{z:Nat}{e o:Expr}{f:ME}{pos apos iO eO aW:Pos}{x:Str}
abbrev iF(X:Cx)(C:Addr)(z:Nat)(e:Expr)(m:fY):Prop:=PE X e<|lM X.K C z m
def YH(h:DE X e f):iF X C z e (λst r=>(f r).map λd=>(d,st)):=by
 refine PE.aM h λσ H Q hq=>?_
 obtain⟨O,a,w,c,st,r,d,aS,m,e1,q⟩:=hq;obtain⟨d',e2,e3⟩:=aY e1;cases e3;exact⟨O,r,d,m.rr,e2,λv H' s iv=>q v H' (m.same s) ((m.same s).is.mp iv)<|eN.same s⟩
def qV{O:Addr->Prop}{H:Hp}{a w c:Addr}{st:aF}{r:En}{σ:St}(m:fK X.K O H C z a w c st r σ):σ[z]?=aA (aA<|.ref a):=m.me
def Gk(f:Str)(sel:aF->D):Prop:=∀(K:Fg) (O:Addr->Prop) (H:Hp) (st:aF) (w c:Addr) (ve vd:V),Is K O H st.ended ve->Is K O H st.defs vd->∃v,(s_ st.most st.steps w c ve vd).lookup f=aA v/\Is K O H (sel st) v
def ď:Gk "most" λst=>.int st.most:=λK O H st w c ve vd _ _=>⟨_,rfl,by rw[zG]⟩
def nH:Gk "steps" λst=>.int st.steps:=λK O H st w c ve vd _ _=>⟨_,rfl,by rw[zG]⟩
def dN:Gk "ended" λst=>st.ended:=λK O H st w c ve vd h _=>⟨_,rfl,h⟩
def dE{fn:Str}{sel:aF->D}(hv:PE X (.Name x aW) (v6 z))(cl:f9 X.K C)(na:fP X.K C fn)(hf:Gk fn sel)(hb:cn (.Name x aW) fn X.env (eval (.Name x aW) X.env)=eval (.Name x aW) X.env:=by rfl):iF X C z (.Attribute (.Name x aW) fn pos) (λst _=>aA (sel st,st)):=by
 refine PE.aM (cY hv hb) λσ H Q hq=>?_
 obtain⟨O,a,w,c,st,r,d,aS,m,e1,q⟩:=hq;cases e1;obtain⟨dx,xs,ys,ve,vd,g1,g2,g3,g4,g5,g6,g7⟩:=m.ms.ex;obtain⟨v,l,iv⟩:=hf X.K O H st w c ve vd g4 g5;exact⟨.ref a,qV m,a,C,dx,_,v,rfl,g1,cl,na,l,q v H m iv<|eN.refl H⟩
noncomputable def AG(st:aF)(d:D):aF:={ st with wait:=st.wait++[d] }
noncomputable def Cg(st:aF)(d:D):aF:={ st with fB:=st.fB++[d] }
def Ĭ(hv:PE X (.Name x aW) (v6 z))(cl:f9 X.K C)(na:fP X.K C "waiting")(h:DE X e f)(hs:ar [e] X.env=(false,eval e X.env)::ar [] X.env:=by rfl)(hb:cn (.Name x aW) "waiting" X.env (eval (.Name x aW) X.env)=eval (.Name x aW) X.env:=by rfl)(fO:cn (.Attribute (.Name x aW) "waiting" iO) "append" X.env (eval (.Attribute (.Name x aW) "waiting" iO) X.env)=eval (.Attribute (.Name x aW) "waiting" iO) X.env:=by rfl)(iU:Ay X [e] eO:=by rfl)(fN:l7 apos eO:=by rfl)(Fd:(lm eO<|ar [] X.env).any (·.1)=false:=by rfl):iF X C z (.Call (.Attribute (.Attribute (.Name x aW) "waiting" iO) "append" apos) [e] [] eO) (λst r=>(f r).bind λd=>if st.wait.length<ae then aA (.aE,AG st d) else aD):=by
 refine PE.aM (WV et om oh vD (cY hv hb) (yK h xH hs) fO iU fN hs Fd) λσ H Q hq=>?_
 obtain⟨O,a,w,c,st,r,d,aS,m,e1,q⟩:=hq;obtain⟨d',e2,e3⟩:=aG e1;split at e3
 .rename_i hl;cases e3;obtain⟨dx,xs,ys,ve,vd,g1,g2,g3,g4,g5,g6,g7⟩:=m.ms.ex;refine⟨.ref a,qV m,a,C,dx,_,.ref w,rfl,g1,cl,na,rfl,.inl ⟨rfl,_,aX.of g2⟩,O,r,d',m.rr,e2,λv H1 s1 iv=>?_⟩;have m1:=m.same s1;have aw:=mL m.ms;refine⟨w,xs,v,rfl,rfl,s1 _ _ g2,by rw[<-g6.length];exact hl,?_⟩;have k1:eN a w c H1 (upd H1 w<|.lst<|xs++[v]):=λb o e _ h2 _=>by rw[zI h2];exact e
  have n:=iL.put (K:=X.K) (H2:=upd H1 w<|.lst<|xs++[v]) (wa:=st.wait++[d']) m1.ms m1.ol k1 (by rw[zI aw.1];exact s1 _ _ g1) zJ (by rw[zI m.ms.wc.symm];exact s1 _ _ g3) (g4.same s1 m.ol) (g5.same s1 m.ol) ((g6.same s1 m.ol).append<|.cons (m1.is.mp iv) .nil)<|g7.same s1 m.ol;exact q .aE _ (m1.step k1 n) (by rw[yQ])<|(eN.same s1).trans k1
 .cases e3
def Ď(hv:PE X (.Name x aW) (v6 z))(cl:f9 X.K C)(na:fP X.K C "come")(h:DE X e f)(hs:ar [e] X.env=(false,eval e X.env)::ar [] X.env:=by rfl)(hb:cn (.Name x aW) "come" X.env (eval (.Name x aW) X.env)=eval (.Name x aW) X.env:=by rfl)(fO:cn (.Attribute (.Name x aW) "come" iO) "append" X.env (eval (.Attribute (.Name x aW) "come" iO) X.env)=eval (.Attribute (.Name x aW) "come" iO) X.env:=by rfl)(iU:Ay X [e] eO:=by rfl)(fN:l7 apos eO:=by rfl)(Fd:(lm eO<|ar [] X.env).any (·.1)=false:=by rfl):iF X C z (.Call (.Attribute (.Attribute (.Name x aW) "come" iO) "append" apos) [e] [] eO) (λst r=>(f r).bind λd=>if st.fB.length<ae then aA (.aE,Cg st d) else aD):=by
 refine PE.aM (WV et om oh vD (cY hv hb) (yK h xH hs) fO iU fN hs Fd) λσ H Q hq=>?_
 obtain⟨O,a,w,c,st,r,d,aS,m,e1,q⟩:=hq;obtain⟨d',e2,e3⟩:=aG e1;split at e3
 .rename_i hl;cases e3;obtain⟨dx,xs,ys,ve,vd,g1,g2,g3,g4,g5,g6,g7⟩:=m.ms.ex;refine⟨.ref a,qV m,a,C,dx,_,.ref c,rfl,g1,cl,na,rfl,.inl ⟨rfl,_,aX.of g3⟩,O,r,d',m.rr,e2,λv H1 s1 iv=>?_⟩;have m1:=m.same s1;have aw:=mL m.ms;refine⟨c,ys,v,rfl,rfl,s1 _ _ g3,by rw[<-g7.length];exact hl,?_⟩;have k1:eN a w c H1 (upd H1 c<|.lst<|ys++[v]):=λb o e _ _ h2=>by rw[zI h2];exact e
  have n:=iL.put (K:=X.K) (H2:=upd H1 c<|.lst<|ys++[v]) (co:=st.fB++[d']) m1.ms m1.ol k1 (by rw[zI aw.2];exact s1 _ _ g1) (by rw[zI m.ms.wc];exact s1 _ _ g2) zJ (g4.same s1 m.ol) (g5.same s1 m.ol) (g6.same s1 m.ol)<|(g7.same s1 m.ol).append<|.cons (m1.is.mp iv) .nil;exact q .aE _ (m1.step k1 n) (by rw[yQ])<|(eN.same s1).trans k1
 .cases e3
def tU(h:l.getLast?=aA d):l[l.length-1]?=aA d/\l=l.dropLast++[d]:=by
 rw[List.getLast?_eq_getElem?] at h;refine⟨h,?_⟩;have hn:l≠[]:=by rintro rfl;simp at h
 rw[bx (by have:=List.length_pos_iff.mpr hn;omega)] at h
 have:=xl hn
 rw[List.getLast_eq_getElem,bu h] at this;exact this.symm
def IsL.last{K:Fg}(h:IsL K O H l xs)(e:l.getLast?=aA d):∃y,xs[xs.length-1]?=aA y/\Is K O H d y/\IsL K O H l.dropLast xs.dropLast:=by
 obtain⟨y,e1,iy⟩:=h.get (tU e).1;rw[h.length] at e1;refine⟨y,e1,iy,?_⟩;rw[mx,mx,h.length];exact h.take _
def Į(hv:PE X (.Name x aW) (v6 z))(cl:f9 X.K C)(na:fP X.K C "waiting")(hb:cn (.Name x aW) "waiting" X.env (eval (.Name x aW) X.env)=eval (.Name x aW) X.env:=by rfl)(fO:cn (.Attribute (.Name x aW) "waiting" iO) "pop" X.env (eval (.Attribute (.Name x aW) "waiting" iO) X.env)=eval (.Attribute (.Name x aW) "waiting" iO) X.env:=by rfl)(fN:l7 apos eO:=by rfl):iF X C z (.Call (.Attribute (.Attribute (.Name x aW) "waiting" iO) "pop" apos) [] [] eO) (λst _=>st.wait.getLast?.map λd=>(d,{ st with wait:=st.wait.dropLast })):=by
 refine PE.aM (WU et mw mq QD (cY hv hb) fO fN) λσ H Q hq=>?_
 obtain⟨O,a,w,c,st,r,d,aS,m,e1,q⟩:=hq;obtain⟨d',e2,e3⟩:=aY e1;cases e3;obtain⟨dx,xs,ys,ve,vd,g1,g2,g3,g4,g5,g6,g7⟩:=m.ms.ex;have aw:=mL m.ms;obtain⟨y,ey,iy,il⟩:=g6.last e2;refine⟨.ref a,qV m,a,C,dx,_,.ref w,rfl,g1,cl,na,rfl,.inl ⟨rfl,_,aX.of g2⟩,w,xs,y,rfl,rfl,g2,ey,?_⟩;have k1:eN a w c H (upd H w<|.lst xs.dropLast):=λb o e _ h2 _=>by rw[zI h2];exact e
 have n:=iL.put (K:=X.K) (H2:=upd H w<|.lst xs.dropLast) (wa:=st.wait.dropLast) m.ms m.ol k1 (by rw[zI aw.1];exact g1) zJ (by rw[zI m.ms.wc.symm];exact g3) g4 g5 il g7;exact q y _ (m.step k1 n) (Is.mono (m.ms.kp k1) m.ol (λ_ z _=>z) _ _ iy) k1
def ĭ(hv:PE X (.Name x aW) (v6 z))(cl:f9 X.K C)(na:fP X.K C "come")(hb:cn (.Name x aW) "come" X.env (eval (.Name x aW) X.env)=eval (.Name x aW) X.env:=by rfl)(fO:cn (.Attribute (.Name x aW) "come" iO) "pop" X.env (eval (.Attribute (.Name x aW) "come" iO) X.env)=eval (.Attribute (.Name x aW) "come" iO) X.env:=by rfl)(fN:l7 apos eO:=by rfl):iF X C z (.Call (.Attribute (.Attribute (.Name x aW) "come" iO) "pop" apos) [] [] eO) (λst _=>st.fB.getLast?.map λd=>(d,{ st with fB:=st.fB.dropLast })):=by
 refine PE.aM (WU et mw mq QD (cY hv hb) fO fN) λσ H Q hq=>?_
 obtain⟨O,a,w,c,st,r,d,aS,m,e1,q⟩:=hq;obtain⟨d',e2,e3⟩:=aY e1;cases e3;obtain⟨dx,xs,ys,ve,vd,g1,g2,g3,g4,g5,g6,g7⟩:=m.ms.ex;have aw:=mL m.ms;obtain⟨y,ey,iy,il⟩:=g7.last e2;refine⟨.ref a,qV m,a,C,dx,_,.ref c,rfl,g1,cl,na,rfl,.inl ⟨rfl,_,aX.of g3⟩,c,ys,y,rfl,rfl,g3,ey,?_⟩;have k1:eN a w c H (upd H c<|.lst ys.dropLast):=λb o e _ _ h2=>by rw[zI h2];exact e
 have n:=iL.put (K:=X.K) (H2:=upd H c<|.lst ys.dropLast) (co:=st.fB.dropLast) m.ms m.ol k1 (by rw[zI aw.2];exact g1) (by rw[zI m.ms.wc];exact g2) zJ g4 g5 g6 il;exact q y _ (m.step k1 n) (Is.mono (m.ms.kp k1) m.ol (λ_ z _=>z) _ _ iy) k1
end
abbrev Ab:=aF->En->Option (List D×aF)
def lMa(K:Fg)(C:Addr)(z:Nat)(m:Ab):TA:=λσ H Q=>∃O a w c st r l aS,fK K O H C z a w c st r σ/\m st r=aA (l,aS)/\∀vs H',fK K O H' C z a w c aS r σ->IsL K O H' l vs->eN a w c H H'->Q vs H'
abbrev Bq(X:Cx)(C:Addr)(z:Nat)(es:List Expr)(m:Ab):Prop:=PA X es<|lMa X.K C z m
noncomputable def yO:Ab:=λst _=>aA ([],st)
noncomputable def zL(m:fY)(ms:Ab):Ab:=λst r=>(m st r).bind λp=>(ms p.2 r).map λq=>(p.1::q.1,q.2)
section
variable{X:Cx}{C:Addr}{z:Nat}{e:Expr}{es:List Expr}{m:fY}{ms:Ab}{x:Str}{pos apos aW p:Pos}
def tQ:Bq X C z [] yO:=by
 refine PA.aM xH λσ H Q hq=>?_
 obtain⟨O,a,w,c,st,r,l,aS,mr,e1,q⟩:=hq;cases e1;exact q [] H mr .nil<|eN.refl H
def kO(h:iF X C z e m)(hs:Bq X C z es ms)(iN:i_ X e es:=by rfl):Bq X C z (e::es) (zL m ms):=by
 refine PA.aM (yK h hs iN) λσ H Q hq=>?_
 obtain⟨O,a,w,c,st,r,l,aS,mr,e1,q⟩:=hq;obtain⟨⟨d,eV⟩,e2,e3⟩:=aG e1;obtain⟨⟨l1,fU⟩,e4,e5⟩:=aY e3;cases e5;refine⟨O,a,w,c,st,r,d,eV,mr,e2,λv H1 m1 iv k1=>⟨O,a,w,c,eV,r,l1,fU,m1,e4,λvs H2 m2 il k2=>?_⟩⟩;exact q (v::vs) H2 m2 (.cons (Is.mono (m1.ms.kp k2) m1.ol (λ_ z _=>z) _ _ iv) il)<|k1.trans k2
def Č{fs:ML}(h:DA X es fs):Bq X C z es (λst r=>(fs r).map λl=>(l,st)):=by
 refine PA.aM h λσ H Q hq=>?_
 obtain⟨O,a,w,c,st,r,l,aS,mr,e1,q⟩:=hq;obtain⟨l',e2,e3⟩:=aY e1;cases e3;refine⟨O,r,l,mr.rr,e2,λvs H' s il=>q vs H' (mr.same s) ?_<|eN.same s⟩;rw[show Ow O r σ=O from funext λb=>propext mr.no.ow] at il;exact il
noncomputable def yW(n:Nat)(mm:aF->List D->Option (D×aF))(ms:Ab):fY:=λst r=>(ms st r).bind λp=>if p.1.length=n then mm p.2 p.1 else aD
variable{k n:Nat}{f:Addr}{fd:FuncData}{ps:List Str}{mm:aF->List D->Option (D×aF)}{mn:Str}
def ZX{O:Addr->Prop}{H:Hp}{a w c:Addr}{st aS:aF}{r:En}{σ:St}{ds:List D}{us:List V}{d:D}{Q:VK}{E:XK}(mr:fK X.K O H C z a w c st r σ)(hl:ds.length=n)(il:IsL X.K O H ds us)(e:mm st ds=aA (d,aS))(q:∀v H',fK X.K O H' C z a w c aS r σ->Is X.K O H' d v->eN a w c H H'->Q v H'):fD X.K C n mm (.ref a::us++[]) H Q E:=by
 rw[ie];exact⟨O,a,w,c,st,ds,us,d,aS,rfl,hl,mr.ms,mr.ol,il,e,λv H' m' KO iv k=>q v H' (mr.step k m') iv k⟩
def PD{pl:Sem Bool}(hv:PE X (.Name x aW) (v6 z))(cl:f9 X.K C)(hm:Meth X.K C mn f)(hn:∀(i j:Int) (w c:Addr) (ve vd:V),(s_ i j w c ve vd).lookup mn=aD)(F:eA X.prog X.w X.K X.mg X.base eJ k f fd ps (fD X.K C n mm))(hr:eS k X.A)(hb:Binds X.K fd ps [])(ha:Bq X C z (e::es) ms)(iN:i_ X e es:=by rfl)(hpl:JV X es pos:=by rfl)(ht:eval (.Call (.Attribute (.Name x aW) mn apos) (e::es) [] pos) X.env=(do
   let ov <- eval (.Name x aW) X.env
   standAt apos.atName
   let (f,first) <- holding [ov] (getMethod ov mn pl)
   callWith pos f first (lm pos<|ar (e::es) X.env) (nr pos<|ke [] X.env)):=by rfl):iF X C z (.Call (.Attribute (.Name x aW) mn apos) (e::es) [] pos) (yW n mm ms):=by
 refine PE.aM (ł (E:=λ_ _ _=>False) (dvs:=[]) hv cl hm F hr hb .nil oN ha iN hpl ht) λσ H Q hq=>?_
 obtain⟨O,a,w,c,st,r,d,aS,mr,e1,q⟩:=hq;obtain⟨⟨ds,eV⟩,e2,e3⟩:=aG e1;split at e3
 .rename_i hl;obtain⟨dx,xs,ys,ve,vd,g1,_⟩:=mr.ms.ex;refine⟨.ref a,qV mr,a,dx,_,rfl,g1,hn _ _ _ _ _ _,O,a,w,c,st,r,ds,eV,mr,e2,λvs H1 m1 il k1=>?_⟩;exact ZX m1 hl il e3 λv H' m' iv k'=>q v H' m' iv<|k1.trans k'
 .cases e3
def YI{pl:Sem Bool}(hv:PE X (.Name x aW) (v6 z))(cl:f9 X.K C)(hm:Meth X.K C mn f)(hn:∀(i j:Int) (w c:Addr) (ve vd:V),(s_ i j w c ve vd).lookup mn=aD)(F:eA X.prog X.w X.K X.mg X.base eJ k f fd ps (fD X.K C 0 mm))(hr:eS k X.A)(hb:Binds X.K fd ps [])(ht:eval (.Call (.Attribute (.Name x aW) mn apos) [] [] pos) X.env=(do
   let ov <- eval (.Name x aW) X.env
   standAt apos.atName
   let (f,first) <- holding [ov] (getMethod ov mn pl)
   callWith pos f first (lm pos<|ar [] X.env) (nr pos<|ke [] X.env)):=by rfl):iF X C z (.Call (.Attribute (.Name x aW) mn apos) [] [] pos) (λst _=>mm st []):=by
 refine PE.aM (Υ (E:=λ_ _ _=>False) (dvs:=[]) hv cl hm F hr hb .nil oN ht) λσ H Q hq=>?_
 obtain⟨O,a,w,c,st,r,d,aS,mr,e1,q⟩:=hq;obtain⟨dx,xs,ys,ve,vd,g1,_⟩:=mr.ms.ex;refine⟨.ref a,qV mr,a,dx,_,rfl,g1,hn _ _ _ _ _ _,?_⟩;exact ZX (us:=[]) (E:=λ_ _ _=>False) mr rfl .nil e1 q
end
abbrev Aa:=aF->En->Option (Bool×aF)
def lMt(K:Fg)(C:Addr)(z:Nat)(m:Aa):TT:=λσ H Q=>∃O a w c st r b aS,fK K O H C z a w c st r σ/\m st r=aA (b,aS)/\∀H',fK K O H' C z a w c aS r σ->eN a w c H H'->Q b H'
abbrev Az(X:Cx)(C:Addr)(z:Nat)(e:Expr)(m:Aa):Prop:=PT X e<|lMt X.K C z m
section
variable{X:Cx}{C:Addr}{z:Nat}{e:Expr}{m:fY}
def ė{b:MB}(h:DT X e b):Az X C z e (λst r=>(b r).map λz=>(z,st)):=by
 refine PT.aM h λσ H Q hq=>?_
 obtain⟨O,a,w,c,st,r,z,aS,mr,e1,q⟩:=hq;obtain⟨z',e2,e3⟩:=aY e1;cases e3;exact⟨O,r,z,mr.rr,e2,λH' s=>q H' (mr.same s)<|eN.same s⟩
end
inductive FT where
 |nx (st:aF) (r:En)|rt (d:D) (st:aF) (r:En)
abbrev eQ:=aF->En->Option FT
def FT.to(K:Fg)(O:Addr->Prop)(C:Addr)(z:Nat)(a w c:Addr)(H:Hp)(Dn:Ends):FT->Prop
 |.nx aS r'=>∀σ' H',fK K O H' C z a w c aS r' σ'->eN a w c H H'->Dn.nx σ' H'
 |.rt d aS r'=>∀v σ' H',fK K O H' C z a w c aS r' σ'->Is K O H' d v->eN a w c H H'->Dn.rt v H'
def Sb(K:Fg)(C:Addr)(z:Nat)(g:eQ):TS:=λDn σ H=>∃O a w c st r fl,fK K O H C z a w c st r σ/\g st r=aA fl/\fl.to K O C z a w c H Dn
abbrev AA(X:Cx)(C:Addr)(z:Nat)(st:Stmt)(g:eQ):Prop:=PS X st<|Sb X.K C z g
abbrev sE(X:Cx)(C:Addr)(z:Nat)(ER:List Stmt)(g:eQ):Prop:=iE X ER<|Sb X.K C z g
def ZH:eQ:=λst r=>aA<|.nx st r
noncomputable def XO(g h:eQ):eQ:=λst r=>(g st r).bind λfl=>match fl with
 |.nx aS r'=>h aS r'
 |.rt d aS r'=>aA<|.rt d aS r'
noncomputable def a_(m:fY):eQ:=λst r=>(m st r).map λp=>.nx p.2 r
noncomputable def Ah(m:fY):eQ:=λst r=>(m st r).map λp=>.rt p.1 p.2 r
noncomputable def Em(z i:Nat)(m:fY):eQ:=λst r=>(m st r).bind λp=>if i=z then aD else (yI i p.1 r).map λr'=>.nx p.2 r'
noncomputable def eU(t:Aa)(g h:eQ):eQ:=λst r=>(t st r).bind λp=>if p.1=true then g p.2 r else h p.2 r
def jG{K:Fg}{O:Addr->Prop}{z:Nat}{C a w c:Addr}{H H1:Hp}{Dn:Ends}{fl:FT}(k:eN a w c H H1)(h:fl.to K O C z a w c H Dn):fl.to K O C z a w c H1 Dn:=by
 cases fl with
 |nx st r=>exact λσ' H' m k'=>h σ' H' m<|k.trans k'
 |rt d st r=>exact λv σ' H' m iv k'=>h v σ' H' m iv<|k.trans k'
section
variable{X:Cx}{C:Addr}{z:Nat}{e:Expr}{m:fY}{eV:Stmt}{ER:List Stmt}{g h:eQ}{pos pos':Pos}{x:Str}{t:Aa}
def OI:sE X C z [] ZH:=by
 refine iE.aM PR λDn σ H hq=>?_
 obtain⟨O,a,w,c,st,r,fl,mr,e1,q⟩:=hq;cases e1;exact q σ H mr<|eN.refl H
def oY(h1:AA X C z eV g)(h2:sE X C z ER h):sE X C z (eV::ER) (XO g h):=by
 refine iE.aM (j6 h1 h2) λDn σ H hq=>?_
 obtain⟨O,a,w,c,st,r,fl,mr,e1,q⟩:=hq;obtain⟨HL,e2,e3⟩:=aG e1;refine⟨O,a,w,c,st,r,HL,mr,e2,?_⟩;cases HL with
 |nx aS r'=>exact λσ' H' m' k'=>⟨O,a,w,c,aS,r',fl,m',e3,jG k' q⟩
 |rt d aS r'=>cases e3;exact q
def QF(h1:AA X C z eV g):sE X C z [eV] g:=oG h1
def GI(he:iF X C z e m)(hs:js e aD pos.line X.env=pure false:=by rfl):AA X C z (.Expr e pos) (a_ m):=by
 refine PS.aM (Z7 he hs) λDn σ H hq=>?_
 obtain⟨O,a,w,c,st,r,fl,mr,e1,q⟩:=hq;obtain⟨⟨d,aS⟩,e2,e3⟩:=aY e1;cases e3;exact⟨O,a,w,c,st,r,d,aS,mr,e2,λv H' m' _ k'=>q σ H' m' k'⟩
def Jw(he:iF X C z e m):AA X C z (.Return (aA e) pos) (Ah m):=by
 refine PS.aM (WN he) λDn σ H hq=>?_
 obtain⟨O,a,w,c,st,r,fl,mr,e1,q⟩:=hq;obtain⟨⟨d,aS⟩,e2,e3⟩:=aY e1;cases e3;exact⟨O,a,w,c,st,r,d,aS,mr,e2,λv H' m' iv k'=>q v σ H' m' iv k'⟩
def NB{c:Expr}{as bs:List Stmt}(hc:Az X C z c t)(ha:sE X C z as g)(hb:sE X C z bs h):AA X C z (.If c as bs pos) (eU t g h):=by
 refine PS.aM (NM hc ha hb) λDn σ H hq=>?_
 obtain⟨O,a,w,c,st,r,fl,mr,e1,q⟩:=hq;obtain⟨⟨b,aS⟩,e2,e3⟩:=aG e1;refine⟨O,a,w,c,st,r,b,aS,mr,e2,λH' m' k'=>?_⟩;cases b with
 |true=>exact⟨O,a,w,c,aS,r,fl,m',e3,jG k' q⟩
 |false=>exact⟨O,a,w,c,aS,r,fl,m',e3,jG k' q⟩
end
def lH.set(h:lH r):lH (r.set i<|.v d):=λj=>by
 by_cases hj:i=j
 .subst hj;by_cases hi:i<r.length
  .rw[zN hi];rfl
  .rw[qf (by rw[xk];omega)];rfl
 .rw[zF hj];exact h j
def Xs(i:Nat)(he:iF X C z e m)(hN:X.N.Nodup)(hi:X.N[i]?=aA x:=by rfl)(hx:Loc X.env.scope x:=by first|exact Or.inl rfl|exact Or.inr rfl)(hs:js e (aA<|.Name x pos') pos.line X.env=pure false:=by rfl)(hf:X.fn x=true\/X.env.kindOf x=aA .local:=by first|exact Or.inl rfl|exact Or.inr rfl):AA X C z (.Assign [.Name x pos'] e pos) (Em z i m):=by
 refine PS.aM (oH hN hi hx he hs hf) λDn σ H hq=>?_
 obtain⟨O,a,w,c,st,r,fl,mr,e1,q⟩:=hq;obtain⟨⟨d,aS⟩,e2,e3⟩:=aG e1;split at e3
 .cases e3
 .rename_i h0;obtain⟨r',e4,rfl⟩:=aY e3;obtain⟨hl,np,rfl⟩:=jQ e4;refine⟨O,a,w,c,st,r,d,aS,mr,e2,λv H1 m1 iv k1=>?_⟩;obtain⟨R1,_⟩:=m1.rr.Co hl np<|m1.is.mpr iv;exact q _ H1 ⟨m1.ms,R1,m1.no.set,by rw[jr h0];exact m1.me⟩ k1
noncomputable def C1(f:ME):eQ:=λst r=>(f r).map λd=>.nx { st with ended:=d } r
def Xq(hv:PE X (.Name x aW) (v6 z))(cl:f9 X.K C)(na:fP X.K C "ended")(h:DE X e f)(hs:js e (aA<|.Attribute (.Name x aW) "ended" apos) pos.line X.env=pure false:=by rfl):AA X C z (.Assign [.Attribute (.Name x aW) "ended" apos] e pos) (C1 f):=by
 refine PS.aM (hJ hv h hs) λDn σ H hq=>?_
 obtain⟨O,a,w,c,st,r,fl,mr,e1,q⟩:=hq;obtain⟨d,e2,rfl⟩:=aY e1;refine⟨O,r,d,mr.rr,e2,λv H1 s1 iv=>?_⟩;have m1:=mr.same s1;obtain⟨dx,xs,ys,ve,vd,g1,g2,g3,g4,g5,g6,g7⟩:=m1.ms.ex;have aw:=mL m1.ms;refine⟨.ref a,qV m1,a,C,dx,_,rfl,g1,cl,na,by show 6<1000;decide,?_⟩;have k1:eN a w c H1 (upd H1 a<|.ins C dx<|s_ st.most st.steps w c v vd):=λb o e h2 _ _=>by rw[zI h2];exact e
 have n:=iL.put (K:=X.K) (H2:=upd H1 a<|.ins C dx<|s_ st.most st.steps w c v vd) (en:=d) m1.ms m1.ol k1 zJ (by rw[zI aw.1.symm];exact g2) (by rw[zI aw.2.symm];exact g3) (m1.is.mp iv) g5 g6 g7;exact q σ _ (m1.step k1 n)<|(eN.same s1).trans k1
def ı(hv:PE X (.Name x aW) (v6 z))(cl:f9 X.K C)(na:fP X.K C "steps"):AA X C z (.AugAssign (.Attribute (.Name x aW) "steps" EO) .Add (.Constant (.int 1) j pos') pos) (λst r=>aA<|.nx { st with steps:=st.steps+1 } r):=by
 refine PS.aM (WO hv oM Ye) λDn σ H hq=>?_
 obtain⟨O,a,w,c,st,r,fl,mr,e1,q⟩:=hq;cases e1;obtain⟨dx,xs,ys,ve,vd,g1,g2,g3,g4,g5,g6,g7⟩:=mr.ms.ex;have aw:=mL mr.ms;refine⟨.ref a,qV mr,a,C,dx,_,.int st.steps,rfl,g1,cl,na,rfl,?_⟩;refine⟨st.steps,1,rfl,rfl,dx,_,g1,by show 6<1000;decide,?_⟩;have k1:eN a w c H (upd H a<|.ins C dx<|s_ st.most (st.steps+1) w c ve vd):=λb o e h2 _ _=>by rw[zI h2];exact e
 have n:=iL.put (K:=X.K) (H2:=upd H a<|.ins C dx<|s_ st.most (st.steps+1) w c ve vd) (steps:=st.steps+1) mr.ms mr.ol k1 zJ (by rw[zI aw.1.symm];exact g2) (by rw[zI aw.2.symm];exact g3) g4 g5 g6 g7;exact q σ _ (mr.step k1 n) k1
def VT{i j:aF->Int}(ha:iF X C z e λst _=>aA (.int<|i st,st))(hb:iF X C z e' λst _=>aA (.int<|j st,st))(hm:gr .GtE e'=false):Az X C z (.Compare e [.GtE] [e'] pos) (λst _=>aA (decide (j st<=i st),st)):=by
 refine PT.aM (PU NF ha hb hm) λσ H Q hq=>?_
 obtain⟨O,a,w,c,st,r,b,aS,mr,e1,q⟩:=hq;cases e1;refine⟨O,a,w,c,st,r,_,st,mr,rfl,λv H1 m1 iv k1=>⟨O,a,w,c,st,r,_,st,m1,rfl,λu H2 m2 iu k2=>?_⟩⟩;rw[zG] at iv iu;exact⟨i st,j st,iv,iu,_,rfl,q H2 m2<|k1.trans k2⟩
def VS(ha:iF X C z e m)(he:∀whole,isTrue e X.env whole=(do let v <- whole;standAt e.pos;holding [v] (truthy v)):=by intro _;rfl):Az X C z e (λst r=>(m st r).bind λp=>match p.1 with | .bl b=>aA (b,p.2)|_=>aD):=by
 refine PT.aM (Zp ha he) λσ H Q hq=>?_
 obtain⟨O,a,w,c,st,r,b,aS,mr,e1,q⟩:=hq;obtain⟨⟨d,eV⟩,e2,e3⟩:=aG e1;refine⟨O,a,w,c,st,r,d,eV,mr,e2,λv H1 m1 iv k1=>?_⟩;cases d<;>first|(cases e3;done)|skip
 cases e3;rw[zZ] at iv;exact⟨b,iv,q H1 m1 k1⟩
noncomputable def fW(n N:Nat)(g:eQ):aF->List D->Option (D×aF):=λst ds=>(g st (.un::ds.map .v++bg (N-(n+1)) .un)).bind λfl=>match fl with
 |.nx aS _=>aA (.aE,aS)
 |.rt d aS _=>aA (d,aS)
section
variable{K:Fg}
def R.Ϫ(h:R K O H r σ)(no:lH r):R K O H (.un::r) (y::σ):=by
 have ow:Ow O r σ=O:=funext λb=>propext no.ow
 have sL:lH (.un::r):=λi=>by
  cases i with
  |zero=>rfl
  |succ i=>exact no i
 have ow':Ow O (.un::r) (y::σ)=O:=funext λb=>propext sL.ow
 refine⟨by simp[h.len],λi d e=>?_,λi l e=>?_,λi j b l m e1 e2 _ _=>?_,h.o0,λi l b e _=>?_,λi l b e _=>?_,λi _ ks l e=>?_⟩
 .cases i with
  |zero=>cases e
  |succ i=>
   obtain⟨v,e1,q⟩:=h.val i d e;rw[ow] at q;rw[ow'];exact⟨v,e1,q⟩
 .have:=sL i;rw[vA e] at this;cases this
 .have:=sL i;rw[e1] at this;cases this
 .exfalso
  have:=sL i
  rcases e with e|e|⟨ks,e⟩<;>rw[e] at this<;>cases this
 .have:=sL i;rw[(cW e).choose_spec] at this;cases this
 .have:=sL i;rw[e] at this;cases this
def gI(ds:List D)(k:Nat):lH (ds.map .v++bg k .un):=λi=>by
 by_cases hi:i<ds.length
 .rw[be<|by simpa using hi,bw,bx hi];rfl
 .rw[dk<|by simpa using hi,cw]
  split<;>rfl
def Tl{st:Stmt}(F:j_ K x qual st f fd)(S:sU N ps (yF st))(n:Nat)(nN:Nat)(hn:ps.length=n+1:=by rfl)(hN:N.length=nN:=by rfl)(hb:∀(eI:Value) (A:Around) (outer:List Env) (s:Shared) (H:Hp) (E:XK),eS k (A.deeper<|envOfC qual (yF st) s.heap.objs.size f eI) ->
   sE (Ae eJ P w K mg base N qual (yF st) f eI A outer s H E).AQ C 0 (qB st) g):eA P w K mg base eJ (k+1) f fd ps (fD K C n<|fW n nN g):=by
 subst hN;refine F.ok S (λvs H Q E h=>?_) λeI A outer s H vs Q E hr h=>?_
 .obtain⟨O,a,w',c,aS,ds,us,d,fU,rfl,hl,_,_,il,_⟩:=h
  have:=il.length
  rw[am,hn];omega
 .obtain⟨O,a,w',c,aS,ds,us,d,fU,rfl,hl,ms,ol,il,e,q⟩:=h;refine⟨_,hb eI A outer s H E hr,?_⟩;obtain⟨fl,e1,e2⟩:=aG e;have hlu:=il.length;have iN:L2.start N (.ref a::us)=aA (.ref a)::(us.map aA++bg (N.length-(n+1)) aD):=by
   unfold L2.start;rw[au,am,<-hlu,hl];rfl
  rw[iN];have R0:R K O H (ds.map .v++bg (N.length-(n+1)) .un) (us.map aA++bg (N.length-(n+1)) aD):=R.start<|Jo ol il;have mr:fK K O H C 0 a w' c aS (.un::(ds.map .v++bg (N.length-(n+1)) .un)) (aA (.ref a)::(us.map aA++bg (N.length-(n+1)) aD)):=
   ⟨ms,R0.Ϫ<|gI ds _,(λi=>by cases i with|zero=>rfl|succ i=>exact gI ds _ i),rfl⟩
  refine⟨O,a,w',c,aS,_,fl,mr,e1,?_⟩;cases fl with
  |nx iR r'=>cases e2;exact λσ' H' m' k'=>q .aE H' m'.ms m'.ol (by rw[yQ]) k'
  |rt d' iR r'=>cases e2;exact λv σ' H' m' iv k'=>q v H' m'.ms m'.ol iv k'
end
def qj3(e:DictEntry)(q:List Nat×Addr):Prop:=∃t,e.key=.str ⟨q.1.toArray⟩ t/\e.val=.ref q.2
def XN:List DictEntry->List (List Nat×Addr)->Prop
 |[],l=>l=[]
 |e::es,l=>∃q r,l=q::r/\qj3 e q/\XN es r
def JP(mg:Str->Option Value)(K:Fg)(Ps:Params)(x:Str)(tbl:List (List Nat×Addr)):Prop:=∃(p:Addr) (es:Array DictEntry) (n:Nat),mg x=aA (.ref p)/\(p == jv)=false/\K.lookup p=aA ⟨.type "dict",aD,.dict es n,#[]⟩/\qq Ps es.toList/\XN es.toList tbl
noncomputable def qS(tbl:List (List Nat×Addr))(s:List Nat):Option Addr:=(tbl.find? λq=>decide (q.1=s)).map (·.2)
theorem bP(s:List Nat):∀{es:List DictEntry} {tbl:List (List Nat×Addr)},XN es tbl->(es.find? λd=>og ⟨s.toArray⟩ d.key).map (·.val)=(qS tbl s).map Value.ref
 |[],tbl,h=>by unfold XN at h;subst h;rfl
 |e::es,tbl,h=>by
  unfold XN at h;obtain⟨q,r,rfl,⟨t,h1,h2⟩,h3⟩:=h;have ih:=bP s h3;have k:og (⟨s.toArray⟩:Str) e.key=decide (q.1=s):=by
   rw[h1];show((⟨q.1.toArray⟩:Str) == ⟨s.toArray⟩)=_;by_cases c:q.1=s
   .rw[decide_eq_true c,c];simp
   .rw[decide_eq_false c];refine beq_eq_false_iff_ne.mpr λz=>c ?_
    have z2:=congrArg (λx:Str=>x.cps.toList) z;simpa using z2
  unfold qS at ih ⊢;rw[jc,jc,k];cases hc:decide (q.1=s)
  .exact ih
  .rw[ba,h2];rfl
def qb2(p:Addr)(tbl:List (List Nat×Addr)):R2:=λx y H Q=>∃(s:List Nat) (g:Addr),x=.ref p/\y=.str ⟨s.toArray⟩/\qS tbl s=aA g/\Q (.ref g) H
def Xe(hl:X.K.lookup p=aA ⟨.type "dict",aD,.dict es n,#[]⟩)(hk:qq X.w.params es.toList)(he:XN es.toList tbl):A6 X (qb2 p tbl):=by
 intro value slice pZ s σ H x y v u Q I rx ry h hs;obtain⟨z,g,rfl,rfl,e,q⟩:=h;cases rx;obtain⟨t,rfl⟩:=ry;have S0:=Js (tbl:=[]) (Ps:=X.w.params) (x:="") I hl hk;have Fv:=bP z he;rw[e,<-gT] at Fv;exact tt (x:=.ref g) S0.typeIs slot_dict_getitem.lookup (wpAny_getItem_of (Q:=λr s'=>r=Value.ref g/\EP X pZ σ Q r s') (strKind_is _ _ _ t) S0 Fv ⟨rfl,.ref g,H,I.tok _,rfl,q⟩) hs
def L8(tbl:List (List Nat×Addr)):D->Option D
 |.str s=>(qS tbl s).map .ref
 |_=>aD
def â(h:JP X.mg X.K X.w.params wn tbl)(hg:Gl X wn)(hb:DE X b f)(hs:cO b:=by intro _ _;rfl)(hd:iH wn:=by decide):DE X (.Subscript (.Name wn p') b pos) (aU (L8 tbl) f):=by
 obtain⟨p,es,n,h1,h2,h3,h4,h5⟩:=h;refine PE.aM (GK (Xe h3 h4 h5) (P0 (p:=p) h1 hg hd) hb hs) λσ H Q hq=>?_
 obtain⟨O0,r,d,hR,e,q⟩:=hq;obtain⟨k,e1,e2⟩:=aG e;cases k<;>first|(simp only[L8,reduceCtorEq] at e2;done)|skip
 simp only[L8] at e2;obtain⟨v,e3,rfl⟩:=aY e2;refine⟨O0,r,_,hR,rfl,λv1 H1 s1 i1=>⟨O0,r,_,hR.same s1,e1,λv2 H2 s2 i2=>?_⟩⟩;rw[qJ] at i1;rw[zU] at i2;exact⟨_,v,i1,i2,e3,q _ H2 (s1.trans s2)<|by rw[qJ]⟩
noncomputable def Ji(n:Nat)(ways:List Nat->Option (aF->List D->Option (D×aF)))(f:ME)(ms:Ab):fY:=λst r=>(f r).bind λd=>match d with
 |.str key=>(ways key).bind λmm=>(ms st r).bind λp=>if p.1.length=n then mm p.2 p.1 else aD
 |_=>aD
def İ{ways:List Nat->Option (aF->List D->Option (D×aF))}(hG:JP X.mg X.K X.w.params wn tbl)(hg:Gl X wn)(hk:DE X b f)(hv:PE X (.Name x aW) (v6 z))(ha:Bq X C z es ms)(hw:∀key mm,ways key=aA mm->∃(g:Addr) (fd:FuncData) (ps:List Str),qS tbl key=aA g/\eA X.prog X.w X.K X.mg X.base eJ k g fd ps (fD X.K C n mm)/\Binds X.K fd ps []/\dw X.K (.ref g)=true)(hr:eS k X.A)(hs:cO b:=by intro _ _;rfl)(hd:iH wn:=by decide)(he:ar (.Name x aW::es) X.env=(false,eval (.Name x aW) X.env)::ar es X.env:=by rfl)(hpl:JV X es pos:=by rfl):iF X C z (.Call (.Subscript (.Name wn p') b bp) (.Name x aW::es) [] pos) (Ji n ways f ms):=by
 intro pZ s σ H Q I hq;obtain⟨O,a,w,c,st,r,d,aS,mr,e1,q⟩:=hq;obtain⟨kd,e2,e3⟩:=aG e1;cases kd<;>first|(cases e3;done)|skip
 rename_i key;obtain⟨mm,e4,e5⟩:=aG e3;obtain⟨⟨ds,eV⟩,e6,e7⟩:=aG e5;split at e7
 .rename_i hl;obtain⟨g,fd,ps,g1,F,hb,hkp⟩:=hw key mm e4;show wpAny _ _ (do callWith pos (<- eval (.Subscript (.Name wn p') b bp) X.env) [] (lm pos<|ar (.Name x aW::es) X.env) (nr pos<|ke [] X.env)) _ _ s;refine ac<|aQ ((â hG hg hk hs hd) pZ s σ H (λv H1=>v=.ref g/\aH H H1) I ⟨O,r,.ref g,mr.rr,by unfold aU;rw[e2,aa];show(qS tbl key).map D.ref=_;rw[g1];rfl,λv H1 s1 iv=>⟨by rw[qJ] at iv;exact iv,s1⟩⟩) λu s1 ⟨v,H1,I1,rv,ev,sm⟩=>?_;subst ev;obtain rfl:u=Value.ref g:=rv;have m1:=mr.same sm;refine ou (first:=[]) (h₀:=X.base) I.ok.mod.Bf hkp (aQ ((yK hv ha he) pos pZ s1 σ H1 (λvs H2=>fD X.K C n mm (vs++[]) H2 Q λ_ _ _=>False) I1 ⟨.ref a,qV m1,O,a,w,c,st,r,ds,eV,m1,e6,λvs H2 m2 il k2=>?_⟩) λus s2 ⟨vs,H2,I2,rr,q2⟩=>⟨I2.fE,?_⟩) he hpl
  .exact ZX m2 hl il e7 λv H' m' iv k'=>q v H' m' iv<|((eN.same sm).trans k2).trans k'
  .exact rY F hr hb .nil oN I2 rr q2
 .cases e7
def XU(K:Fg)(p:Addr)(ns:List Int):Prop:=∃(o:Obj) (its:Array Value) (n:Nat),K.lookup p=aA o/\o.cls=.type "tuple" /\ o.data=.seq its n/\its.size<=ae/\Vals (ns.map V.int) its.toList
def Eo(K:Fg):List (List Nat×Addr)->List (List Nat×List Int)->Prop
 |[],l=>l=[]
 |q::r,l=>∃ns l',l=(q.1,ns)::l'/\XU K q.2 ns/\Eo K r l'
noncomputable def wY(tbl:List (List Nat×List Int))(s:List Nat):Option (List Int):=(tbl.find? λq=>decide (q.1=s)).map (·.2)
theorem gL{K:Fg}(s:List Nat):∀{tr:List (List Nat×Addr)} {tbl:List (List Nat×List Int)},Eo K tr tbl->match qS tr s,wY tbl s with
  |some p,aA ns=>XU K p ns
  |none,aD=>True
  |_,_=>False
 |[],tbl,h=>by unfold Eo at h;subst h;trivial
 |q::r,tbl,h=>by
  unfold Eo at h;obtain⟨ns,l',rfl,h1,h2⟩:=h;have ih:=gL s h2;unfold qS wY at ih ⊢;rw[jc,jc];cases hc:decide (q.1=s)
  .exact ih
  .exact h1
def Oe(mg:Str->Option Value)(K:Fg)(Ps:Params)(x:Str)(tbl:List (List Nat×List Int)):Prop:=∃tr,JP mg K Ps x tr/\Eo K tr tbl
def Ef(tbl:List (List Nat×List Int)):D->Option D
 |.str s=>aA<|.tup<|((wY tbl s).getD []).map .int
 |_=>aD
theorem Pw{K:Fg}:∀l:List Int,IsL K O H (l.map D.int) (l.map V.int)
 |[]=>IsL.nil
 |i::l=>.cons (by rw[zG])<|Pw l
def ã(h:Oe X.mg X.K X.w.params x tbl)(hg:Gl X x)(he:DE X e f)(hb:DE X b (mC<|.tup []))(hd:iH x:=by decide)(fO:cn (.Name x p') "get" X.env (eval (.Name x p') X.env)=eval (.Name x p') X.env:=by rfl)(iU:Ay X [e,b] eO:=by rfl)(fN:l7 apos eO:=by rfl)(Lk:lm eO (ar [e,b] X.env)=[(false,eval e X.env),(false,eval b X.env)]:=by rfl):DE X (.Call (.Attribute (.Name x p') "get" apos) [e,b] [] eO) (aU (Ef tbl) f):=by
 obtain⟨tr,⟨p,es,n,h1,h2,h3,h4,h5⟩,ht⟩:=h;intro pZ s σ H Q I hq;obtain⟨O0,r,d,hR,e1,q⟩:=hq;obtain⟨kd,e2,e3⟩:=aG e1;cases kd<;>first|(cases e3;done)|skip
 rename_i key;cases e3;refine wpAny_Call_method fO iU fN za aaa PySem.F.type_dict_get<|aQ ((P0 (p:=p) h1 hg hd) pZ s σ H (λv H1=>v=.ref p/\aH H H1) I ⟨O0,r,.ref p,hR,rfl,λv H1 s1 iv=>⟨by rw[qJ] at iv;exact iv,s1⟩⟩) λu s1 ⟨v,H1,I1,rv,ev,sm⟩=>?_;subst ev;obtain rfl:u=Value.ref p:=rv;have mp:=Js (tbl:=[]) (Ps:=X.w.params) (x:="") I1 h3 h4;refine⟨mp.typeIs,λq hq=>by cases hq;exact⟨_,I1.fE _ _ h3,rfl⟩,?_⟩;rw[Lk];have R1:=hR.same sm;refine qd rfl (ux (ox (aQ (he pZ s1 σ H1 (λv H2=>v=.str ⟨key.toArray⟩/\aH H1 H2) I1 ⟨O0,r,.str key,R1,e2,λv H2 s2 iv=>⟨by rw[zU] at iv;exact iv,s2⟩⟩) λiv s2 ⟨y,H2,I2,ry,ey,Rf⟩=>
  ox (aQ (hb pZ s2 σ H2 (λv H3=>aH H2 H3/\Is X.K (Ow O0 r σ) H3 (.tup []) v) I2 ⟨O0,r,.tup [],R1.same Rf,rfl,λv H3 s3 iv=>⟨s3,iv⟩⟩) λfv s3 ⟨z,H3,I3,rz,sm3,iz⟩=>rq ?_))))
 subst ey;obtain⟨t,rfl⟩:=ry;have R8:=Js (tbl:=[]) (Ps:=X.w.params) (x:="") I3 h3 h4;have Fv:=bP key h5;rw[<-gT] at Fv;have Rk:=(sm.trans Rf).trans sm3;refine call_meetsIn aaa R8.typeIs PySem.F.entry_dict_get (PySem.F.args_dict_get_3 _ _ _) (meets_dict_get_default (strKind X.prog X.w) p (strKind_is _ _ _ t) h2 fv) ⟨_,R8,?_⟩;rw[Fv];have lk:=gL key ht;cases e5:qS tr key with
 |none=>
  rw[e5] at lk;cases e6:wY tbl key with
  |none=>
   refine⟨z,H3,I3.tok _,rz,q z H3 Rk ?_⟩;rw[e6];exact iz
  |some ns=>rw[e6] at lk;exact lk.elim
 |some a=>
  rw[e5] at lk;cases e6:wY tbl key with
  |none=>rw[e6] at lk;exact lk.elim
  |some ns=>
   rw[e6] at lk;refine⟨.ref a,H3,I3.tok _,rfl,q (.ref a) H3 Rk ?_⟩;rw[e6,zR];exact⟨a,ns.map V.int,rfl,.inr lk,Pw ns⟩
namespace RV
def owner:Manifest.owners.lookup (String.ofList ['d','e','s','r','e','v','e','r'].reverse)=aA Manifest.sig_reversed:=by kernel_rfl
def ES:Slot "reversed" "__next__" "reversed.__next__" := Slot.of (owner:="reversed") (n:="__next__") (by(rw[mi,jn]);kernel_rfl) (by decide +kernel) (by decide +kernel) (by decide +kernel) (by first|exact .inl (by decide +kernel)|exact .inr<|by decide +kernel) (by(rw[oy]);kernel_rfl)
def Tw:entryFor table "reversed.__next__" = aA Builtin.«reversed.__next__»:=entryFor_of_tree (by kernel_rfl)
def TK(a:Value):argsOk "reversed.__next__" ⟨[a],[]⟩:=by
 unfold argsOk;rw[signature?_of (id:="reversed.__next__") (n:=['_','_','t','x','e','n','_','_']) (o:=['d','e','s','r','e','v','e','r']) (by kernel_rfl) owner];kernel_rfl
def Rl:Slot "reversed" "__iter__" "reversed.__iter__" := Slot.of (owner:="reversed") (n:="__iter__") (by(rw[mi,jn]);kernel_rfl) (by decide +kernel) (by decide +kernel) (by decide +kernel) (by first|exact .inl (by decide +kernel)|exact .inr<|by decide +kernel) (by(rw[oy]);kernel_rfl)
def qj0(a:Value):argsOk "reversed.__iter__" ⟨[a],[]⟩:=by
 unfold argsOk;rw[signature?_of (id:="reversed.__iter__") (n:=['_','_','r','e','t','i','_','_']) (o:=['d','e','s','r','e','v','e','r']) (by kernel_rfl) owner];kernel_rfl
def qh2:entryFor table "reversed.__iter__" = aA Builtin.«dict_keyiterator.__iter__»:=
 entryFor_alias (id':="dict_keyiterator.__iter__") (by kernel_rfl) (by first|rfl|decide +kernel|(unfold String.splitOn;simp +decide [String.splitOnAux])) (by decide +kernel) (by kernel_rfl)
def qc7:typeLookup (.type "tuple") "__reversed__" = pure aD:=by(rw[mi,jn]);kernel_rfl
def qc8:isSubtype (.type "tuple") (.type "dict")=pure false:=by(rw[oy]);kernel_rfl
def Zx:Slot "reversed" "__init__" "object.__init__" := Slot.of (owner:="object") (n:="__init__") (by(rw[mi,jn]);kernel_rfl) (by decide +kernel) (by decide +kernel) (by decide +kernel) (by first|exact .inl (by decide +kernel)|exact .inr<|by decide +kernel) (by(rw[oy]);kernel_rfl)
def called:TypeCalled "reversed" "reversed.__new__" "object.__init__" := ⟨by decide +kernel,by decide +kernel,⟨_,_,F.mro_reversed⟩,F.made_reversed,by decide +kernel,by(rw[oy]);kernel_rfl,Zx⟩
end RV
noncomputable def Ew(l:Addr)(i:Int):Obj:={ cls:=.type "reversed",data:=.fields #[.ref l,rawInt i] }
def Ax(h:Heap)(a l:Addr)(i:Int):Prop:=∃o,h.get? a=aA o/\o.cls=.type "reversed" /\ o.data=.fields #[.ref l,rawInt i]
section
variable{prog:Program}{w:World}{A:Around}{E:Value->Shared->Prop}{s:Shared}
def Ax.typeIs{a l:Addr}{i:Int}(x:Ax s.heap a l i):s.TypeIs (.ref a) "reversed" := let ⟨o,ho,hc,_⟩:=x;⟨o,ho,hc⟩
def Ax.at(x:Ax h a l i)(e:∀o,h.get? a=aA o->h'.get? a=aA o):Ax h' a l i:=let ⟨o,ho,r⟩:=x;⟨o,e _ ho,r⟩
def PZ{it l:Addr}{i:Int}{Q:Value->Shared->Prop}(hit:Ax s.heap it l i)(h:Q (.ref it) s):wpAny (model prog w) A (pyIter<|.ref it) Q E s:=by
 refine wpAny_pyIter_slot hit.typeIs RV.Rl<|fu RV.Rl hit.typeIs RV.qh2 ?_<|RV.qj0 _;show wpAny _ _ (ret<|.ref it) _ _ s;exact af ⟨_,rfl, "reversed",_,hit.typeIs,RV.ES.lookup,h⟩
def Zw(ht:IsTup s.heap l items)(hz:items.size<=ae)(h:∀tk,Q₁ (.ref s.heap.objs.size) { s with heap:=s.heap.push<|Ew l<|(items.size:Int)-1,toks:=tk }):codeAny (model prog w) A (.call (.builtin "reversed.__new__") ⟨[.type "reversed",.ref l],[]⟩) (wants Q₁ E) s:=by
 refine codeAny_of_tree ?_;show wpAny _ A.in1 (do checkBuiltinCall "reversed.__new__" ⟨[.type "reversed",.ref l],[]⟩;again (.builtin "reversed.__new__" ⟨[.type "reversed",.ref l],[]⟩)) _ _ s;refine ac<|io (F.newCall_reversed_1 _)<|af ⟨jy aap _,jl F.entry_reversed_new ?_⟩;rw[gc aap _];unfold Builtin.«reversed.__new__»;refine ac<|io (newClass_reversed _) ?_
 try dsimp only
 refine ac<|io (a:=()) (by first|rfl|kernel_rfl) ?_;refine ac<|io (a:=()) (by first|rfl|kernel_rfl) ?_
 try dsimp only
 refine ac<|ju ht.typeIs RV.qc7 ?_
 try dsimp only
 refine ac ?_;show wpAny _ _ (isInstance (Value.ref l) (.type "dict") >>= _) _ _ _;refine ac<|sn ht.typeIs RV.qc8 ?_
 try dsimp only
 simp only[cf,if_false];refine ac<|ju ht.typeIs xu.lookup ?_
 try dsimp only
 rw[if_pos<|by decide +kernel];refine af ?_;simp only[vm,cf,if_false];refine ac<|len_tuple ht (by have:=rj;omega) ?_;refine ac<|io (a:=aA (items.size:Int)) rfl ?_
 try dsimp only
 unfold Builtin.SmallTypes.newRecord;refine ac (cz ?_<|by size_fits);exact af<|h _
def Ŗ(ht:IsTup s.heap l items)(hz:items.size<=ae)(h:∀tk,Q (.ref s.heap.objs.size) { s with heap:=s.heap.push<|Ew l<|(items.size:Int)-1,toks:=tk }):wpAny (model prog w) A (call (.type "reversed") [.ref l]) Q E s:=by
 refine callType_codes (Q₁:=λobj s₁=>obj=.ref s.heap.objs.size/\∃tk,s₁={ s with heap:=s.heap.push<|Ew l<|(items.size:Int)-1,toks:=tk }) RV.called (F.typeCall_reversed_1 _) F.entry_object_init (Zw ht hz λtk=>⟨rfl,tk,rfl⟩) ?_;rintro obj s₁ ⟨rfl,tk,rfl⟩;have ty:Shared.TypeIs { s with heap:=s.heap.push<|Ew l<|(items.size:Int)-1,toks:=tk } (.ref s.heap.objs.size) "reversed" := ⟨_,ay _ rfl,rfl⟩;refine⟨ty,aaq _ _,?_⟩;exact object_init_meets RV.called.init.lookup RV.called.made (by decide) prog w A.in1 _ _ ⟨ty,rfl,h tk⟩
def ŗ{it l:Addr}{i:Nat}{items:Array Value}{x:Value}{Q:Option Value->Shared->Prop}(hit:Ax s.heap it l (i:Int))(hl:IsTup s.heap l items)(hz:items.size<=ae)(hx:items[i]?=aA x)(hQ:∀h' tk,Ax h' it l ((i:Int)-1)->gm it s.heap h'->Q (aA x) { s with heap:=h',toks:=tk }):wpAny (model prog w) A (pyNext<|.ref it) Q E s:=by
 obtain⟨o,ho,hc,hd⟩:=id hit;unfold pyNext;refine ac (nk (ee (name:=ia "__next__") hit.typeIs RV.ES
  (fu RV.ES hit.typeIs RV.Tw ?_<|RV.TK _)))
 unfold Builtin.«reversed.__next__»;refine ac<|io (a:=(Value.ref it,[])) rfl ?_
 try dsimp only
 refine ac<|cu ho hd (x:=.ref l) rfl ?_;refine ac<|cu ho hd (x:=rawInt (i:Int)) rfl ?_;show wpAny _ _ (if (i:Int)<0 then _ else _) _ _ s;rw[if_neg<|by omega];refine ac<|ju hl.typeIs xu.lookup ?_;simp only[Option.isNone_some,cf,if_false];refine ac<|wpAny_mkInt ?_;have hi:i<items.size:=by
  obtain⟨z,_⟩:=Array.getElem?_eq_some_iff.mp hx;exact z
 refine ac<|nk<|getItem_tuple (j:=i) (s:={ s with toks:=s.toks+1 }) hl (by omega) (by have:=rj;omega) (by unfold seqIndex?;simp;omega) hx ?_;dsimp only;refine ac<|cu (s:={ s with toks:=s.toks+1 }) ho hd (x:=rawInt (i:Int)) rfl ?_;dsimp only[rawInt];refine ac<|rb (s:={ s with toks:=s.toks+1 }) ho hd (by simp) ?_;refine af ⟨x,rfl,af<|hQ _ _ ?_<|nj ..⟩;exact⟨_,ir _ ho<|ui<|lr hd _,(Obj.cls_mapFields ..).trans hc,by
  rw[lr hd];simp[rawInt]⟩
def Zv{it l:Addr}{Q:Option Value->Shared->Prop}(hh:A.handled=aD)(hit:Ax s.heap it l (-1))(hQ:∀h',aao it s.heap h'->Q aD { s with heap:=h' }):wpAny (model prog w) A (pyNext<|.ref it) Q E s:=by
 obtain⟨o,ho,hc,hd⟩:=id hit;unfold pyNext;refine ac (nk (ee (name:=ia "__next__") hit.typeIs RV.ES
  (fu RV.ES hit.typeIs RV.Tw ?_<|RV.TK _)))
 unfold Builtin.«reversed.__next__»;refine ac<|io (a:=(Value.ref it,[])) rfl ?_
 try dsimp only
 refine ac<|cu ho hd (x:=.ref l) rfl ?_;refine ac<|cu ho hd (x:=rawInt<|-1) rfl ?_;show wpAny _ _ (if (-1:Int)<0 then _ else _) _ _ s;rw[if_pos<|by decide];refine ac<|re ?_;show wpAny _ _ ((setField (.ref it) 1 (rawInt<|-1) >>= λ_=>setField (.ref it) 0 .none) >>= _) _ _ _;refine ac<|ac<|rb ho hd (by simp) ?_;refine rb (ir _ ho<|ui<|lr hd _) (lr hd _) (by simp) ?_;refine ac ?_;show wpAny _ _ (newExc (.type "StopIteration") [] >>= _) _ _ _;refine ac ?_;simp only[newExc,newTuple];refine ac (cz ?_<|by size_fits);refine ac (m:=firstArgMember _ _)<|io (a:=Value.none) (by first|rfl|(simp only[firstArgMember];rfl)) ?_;refine cz ?_ (by size_fits);simp only[raiseNew];refine ac<|wpAny_handled ?_
 first|rw[show A.in1.handled=aD from hh]|rw[hh]
 refine ac<|af<|wpAny_throw ?_;refine ac<|sn (T:="StopIteration") (b:=true) ⟨_,ay _ rfl,rfl⟩ xq ?_;refine af<|hQ _ λb o hb e=>?_;have e1:=(nj s.heap it<|yu λx=>x.setIfInBounds 1<|rawInt<|-1).2 b hb;have e2:=(nj (s.heap.update it<|yu λx=>x.setIfInBounds 1<|rawInt<|-1) it<|yu λx=>x.setIfInBounds 0 .none).2 b hb;exact ad _<|ad _<|e2.trans<|e1.trans e
end
noncomputable def F8(K:Fg)(a:Addr)(n:Nat):It:=
 ⟨λi H=>∃xs x,d_ K H a xs/\xs.length=n/\i<n/\xs[n-1-i]?=aA x,λi H x H'=>H'=H/\∀xs,d_ K H a xs->xs[n-1-i]?=aA x,λi _=>i=n⟩
def ť{K:Fg}(a it:Addr)(n:Nat):Turn P w K tg (F8 K a n) [it] it (λi h=>Ax h it a<|(n:Int)-1-(i:Int)) where
 mem:=by simp
 obj:=λi h st b hb=>by
  have e:b=it:=by simpa using hb
  subst e;obtain⟨o,e,c,d⟩:=st;exact⟨o,e,λv z=>by rw[d] at z;cases z⟩
 keep:=λi h h' st k=>st.at λo e=>k it (by simp) o e
 item:=by
  intro X hP hw hK hc i pZ s σ H E I hf st hg;subst hP hw hK;obtain⟨xs,x,hq,hn,hi,hx⟩:=hg;obtain⟨its,rv,p,hz⟩:=I.tuple hq;obtain⟨u,hu,ru⟩:=rv.get hx;obtain⟨f0,f1,f2,f3,f4,f5⟩:=hf it (by simp);have e1:(n:Int)-1-(i:Int)=((n-1-i:Nat):Int):=by clear st hu hx hq hn rv p;omega
  rw[e1] at st;refine ŗ st p (by rw[ak,<-rv.length];exact hz) (x:=u) (by simpa using hu) λh' tk aS sb=>?_
  have e2:((n-1-i:Nat):Int)-1=(n:Int)-1-((i+1:Nat):Int):=by clear st aS hu hx hq hn rv p;omega
  rw[e2] at aS;have I1:Inv X pZ σ H { s with heap:=h',toks:=tk }:=I.turned (t':=tk) (λb o hb e=>(sb.2 b hb).trans e) f0 f1 f3 f4 f5;obtain⟨o,e,c,d⟩:=id aS;exact⟨u,rfl,EF (s:={ s with heap:=h',toks:=tk }) e c d (by decide) ⟨x,H,I1,ru,⟨rfl,λys hy=>by rw[I.Kr hy hq];exact hx⟩,aS,λb hb=>(hf b hb).1⟩⟩
 done:=by
  intro X hP hw hK hc i pZ s σ H E I hf st hg;subst hP hw hK;obtain rfl:i=n:=hg;obtain⟨f0,f1,f2,f3,f4,f5⟩:=hf it (by simp);have e1:(i:Int)-1-(i:Int)=-1:=by clear st;omega
  rw[e1] at st;exact Zv (I.ok.hd hc) st λh' eb=>⟨rfl,I.turned (t':=s.toks) (λb o hb e=>eb b o hb e) f0 f1 f3 f4 f5⟩
 self:=λ_ _ _ _ _ st h=>PZ st h
def lIo(K:Fg)(it:ML):TI:=λσ H Rr=>∃O0 r l,R K O0 H r σ/\it r=aA l/\∀J H',aH H H'->Bw K (Ow O0 r σ) (Ow O0 r σ) H' J l->Rr J H'
def Iz(X:Cx)(tg iter:Expr)(it:ML):Prop:=PI X tg iter<|lIo X.K it
noncomputable def Hi(f:ME):ML:=λr=>(f r).bind λd=>match d with
 |.tup l=>aA l
 |_=>aD
def ā(hl:DE X l f):Iz X tg l (Hi f):=by
 refine PI.aM (ON hl) λσ H Rr h=>?_
 obtain⟨O0,r,ds,hR,e,q⟩:=h;obtain⟨d,e1,e2⟩:=aG e;refine⟨O0,r,d,hR,e1,λv H1 s1 i1=>?_⟩;have ol:=(hR.same s1).ol;cases d<;>first|(cases e2;done)|skip
 cases e2;rw[zR] at i1;obtain⟨a,xs,rfl,rd,il⟩:=i1;exact⟨a,rfl,.inr ⟨⟨xs,rd⟩,q _ H1 s1<|Pb (λa z=>z) ol rd il⟩⟩
def VY{K:Fg}(ol:kT O H)(rd:d_ K H a xs)(il:IsL K O H ds xs):Bw K O O H (F8 K a xs.length) ds.reverse:=by
 intro i H1 O' kp oo;have sJ:d_ K H1 a xs:=d_.keep kp ol rd;have ll:=il.length;have bk:∀d,ds.reverse[i]?=aA d->i<xs.length/\ds[xs.length-1-i]?=aA d:=λd e=>by
  have hi:i<ds.length:=by
   obtain⟨h,_⟩:=aq.mp e;rw[gx] at h;exact h
  rw[qe hi,ll] at e;exact⟨ll ▸ hi,e⟩
 refine⟨λhi=>⟨?_,λx H' y=>?_⟩,λhi=>by rw[gx,ll] at hi;exact hi⟩
 .obtain⟨d,e⟩:=kP hi;obtain⟨BY,e'⟩:=bk d e;obtain⟨v,e1,_⟩:=il.get e';exact⟨xs,v,sJ,rfl,BY,e1⟩
 .obtain⟨rfl,y⟩:=y;refine⟨aH.refl _,λd e=>?_⟩;obtain⟨BY,e'⟩:=bk d e;obtain⟨v,e1,q⟩:=il.get e'
  have:=y xs sJ
  rw[e1] at this;cases this;exact Is.mono kp ol oo _ _ q
def VE(hg:Gl X "reversed")(hm:X.mg "reversed" = aD)(ha:PE X a ta)(hs:ar [a] X.env=[(false,eval a X.env)]:=by rfl):PI X tg (.Call (.Name "reversed" p) [a] [] pos) (λσ H R=>ta σ H λx H1=>∃u xs,x=.ref u/\d_ X.K H1 u xs/\R (F8 X.K u xs.length) H1):=by
 intro pZ s σ H R I h;have hA:PA X [a] (mM ta Ag):=yK ha xH hs;refine Call_<|uB I hg hm xx<|fq (aQ (hA pos pZ s σ H (z1 λx H1=>∃u xs,x=.ref u/\d_ X.K H1 u xs/\R (F8 X.K u xs.length) H1) I h) λus s1 ⟨vs,H1,I1,r1,q1⟩=>?_) hs rfl;obtain⟨_,rfl,u,xs,rfl,hx,q⟩:=Kg q1;obtain⟨uu,rfl,ru⟩:=Vals.one r1;cases ru;obtain⟨its,rv,pl,hz⟩:=I1.tuple hx;have hl:its.toArray.size=xs.length:=by rw[ak];exact rv.length.symm
 refine Ŗ pl (by rw[hl];exact hz) λtk=>?_
 have z1:Ax (s1.heap.push<|Ew u<|(its.toArray.size:Int)-1) s1.heap.objs.size u ((its.toArray.size:Int)-1):=⟨_,ay _ rfl,rfl,rfl⟩;refine PZ z1 ?_;refine⟨_,[s1.heap.objs.size],_,_,H1,rfl,I1.kept (t':=tk) λb o e=>ad _ e,ť u _ xs.length,?_,λb hb=>?_,q⟩
 .rw[hl] at z1 ⊢;rw[show((xs.length:Int)-1-((0:Nat):Int))=(xs.length:Int)-1 from Int.sub_zero _];exact z1
 .have e:b=s1.heap.objs.size:=by simpa using hb
  subst e;exact I1.B1 (ah _)<|I1.aT.fresh<|ah _
def Gg(f:ME):ML:=λr=>(Hi f r).map List.reverse
def Wp(hg:Gl X "reversed")(hm:X.mg "reversed" = aD)(ha:DE X a f)(hs:ar [a] X.env=[(false,eval a X.env)]:=by rfl):Iz X tg (.Call (.Name "reversed" p) [a] [] pos) (Gg f):=by
 refine PI.aM (VE hg hm ha hs) λσ H Rr hq=>?_
 obtain⟨O0,r,ds,hR,e,q⟩:=hq;obtain⟨l,e0,rfl⟩:=aY e;obtain⟨x,e1,e2⟩:=aG e0;refine⟨O0,r,x,hR,e1,λv1 H1 s1 i1=>?_⟩;have ol:=(hR.same s1).ol;cases x<;>first|(cases e2;done)|skip
 cases e2;rw[zR] at i1;obtain⟨u,xs,rfl,hx,il⟩:=i1;exact⟨u,xs,rfl,hx,q _ H1 s1<|VY ol hx il⟩
noncomputable def ZI(z i:Nat)(g:eQ):List D->eQ
 |[]=>ZH
 |d::t=>λst r=>if i=z then aD else (yI i d r).bind λr1=>(g st r1).bind λfl=>match fl with
  |.nx aS r'=>ZI z i g t aS r'
  |.rt d aS r'=>aA<|.rt d aS r'
noncomputable def IS(z i:Nat)(it:ML)(g:eQ):eQ:=λst r=>(it r).bind λl=>ZI z i g l st r
noncomputable def cQ:Nat->Aa->eQ->eQ
 |0,_,_=>λ_ _=>aD
 |n+1,t,g=>λst r=>(t st r).bind λp=>if p.1=true then (g p.2 r).bind λfl=>(match fl with
  |.nx aS r'=>cQ n t g aS r'
  |.rt d aS r'=>aA<|.rt d aS r') else aA<|.nx p.2 r
def Xr(i:Nat)(hp:PassesOwn (model X.prog X.w) X.A X.env X.xe)(hc:X.calm=true)(hi:Iz X (.Name x EO) iter it)(hN:X.N.Nodup)(hb:sE X C z body g)(hxi:X.N[i]?=aA x:=by rfl)(hx:Loc X.env.scope x:=by first|exact Or.inl rfl|exact Or.inr rfl)(hf:m_ X x:=by first|exact .inl rfl|exact .inr rfl)(hs:∀x,iq iter X.env x=pure x:=by intro _;rfl):AA X C z (.For (.Name x EO) iter body [] pos) (IS z i it g):=by
 refine PS.aM (OW hp hc hi (YA hN hxi hx hf) hb hs) λDn σ H hq=>?_
 obtain⟨O,a,w,c,st,r,fl,mr,e,q⟩:=hq;obtain⟨l,e1,e2⟩:=aG e;refine⟨O,r,l,mr.rr,e1,λJ H0 s0 yl=>?_⟩;have m0:=mr.same s0;rw[show Ow O r σ=O from funext λb=>propext mr.no.ow] at yl;refine⟨λi' m σ1 H1=>m=l.length-i'/\i'<=l.length/\∃eV r1,fK X.K O H1 C z a w c eV r1 σ1/\eN a w c H0 H1/\ZI z i g (l.drop i') eV r1=aA fl,⟨l.length,by simp,fg _,st,r,m0,eN.refl H0,by simpa using e2⟩,?_⟩;rintro i' m σ1 H1 ⟨rfl,Dz,eV,r1,m1,k1,e3⟩;have k0:=(eN.same (a:=a) (w:=w) (c:=c) s0).trans k1;obtain⟨y1,y2⟩:=yl i' H1 O (m0.ms.kp k1) λ_ z _=>z
 by_cases fM:i'<l.length
 .obtain⟨go,yd⟩:=y1 fM;have hd:l[i']?=aA l[i']:=by simp[fM]
  rw[u5 hd] at e3;unfold ZI at e3;split at e3
  .cases e3
  rename_i h0;obtain⟨r2,e4,e5⟩:=aG e3;obtain⟨f1,e6,e7⟩:=aG e5;refine .inr ⟨go,λσ3 H3=>∃iR r3,fK X.K O H3 C z a w c iR r3 σ3/\eN a w c H0 H3/\ZI z i g (l.drop<|i'+1) iR r3=aA fl,λσ3 H3 z=>⟨l.length-(i'+1),by omega,rfl,fM,z⟩,λx H2 yx=>?_⟩;obtain⟨s2,ix⟩:=yd x H2 yx;have m2:=m1.same s2;obtain⟨hl,np,rfl⟩:=jQ e4;obtain⟨R1,_⟩:=m2.rr.Co hl np<|m2.is.mpr<|ix _ hd;have m3:fK X.K O H2 C z a w c eV (r1.set i<|.v l[i']) (σ1.set i<|some x):=⟨m2.ms,R1,m2.no.set,by rw[jr h0];exact m2.me⟩;refine⟨O,a,w,c,eV,_,f1,m3,e6,?_⟩;have k3:=k1.trans<|eN.same (a:=a) (w:=w) (c:=c) s2;have k4:=k0.trans<|eN.same (a:=a) (w:=w) (c:=c) s2;cases f1 with
  |nx iR r3=>exact λσ3 H3 M3 kk=>⟨iR,r3,M3,k3.trans kk,e7⟩
  |rt d iR r3=>cases e7;exact jG k4 q
 .have hl:l.drop i'=[]:=ph (by omega);rw[hl] at e3;cases e3;exact .inl ⟨y2<|by omega,q σ1 H1 m1 k0⟩
def Β(n:Nat)(hp:PassesOwn (model X.prog X.w) X.A X.env X.xe)(hc:Az X C z c t)(hb:sE X C z body g):AA X C z (.While c body [] pos) (cQ n t g):=by
 refine PS.aM (Z6 hp hc hb) λDn σ H hq=>?_
 obtain⟨O,a,w,c,st,r,fl,mr,e,q⟩:=hq;refine⟨λm σ1 H1=>∃eV r1,fK X.K O H1 C z a w c eV r1 σ1/\eN a w c H H1/\cQ m t g eV r1=aA fl,⟨n,st,r,mr,eN.refl H,e⟩,?_⟩;rintro m σ1 H1 ⟨eV,r1,m1,k1,e1⟩;cases m with
 |zero=>cases e1
 |succ m=>
  obtain⟨⟨b,fU⟩,e2,e3⟩:=aG e1;refine⟨O,a,w,c,eV,r1,b,fU,m1,e2,λH2 m2 k2=>?_⟩;have k3:=k1.trans k2;cases b with
  |false=>
   cases e3;exact Eg<|q σ1 H2 m2 k3
  |true=>
   obtain⟨f1,e4,e5⟩:=aG e3;refine Eh ⟨λσ3 H3=>∃iR r3,fK X.K O H3 C z a w c iR r3 σ3/\eN a w c H H3/\cQ m t g iR r3=aA fl,λσ3 H3 z=>⟨m,qh m,z⟩,O,a,w,c,fU,r1,f1,m2,e4,?_⟩;cases f1 with
   |nx iR r3=>exact λσ3 H3 M3 kk=>⟨iR,r3,M3,k3.trans kk,e5⟩
   |rt d iR r3=>cases e5;exact jG k3 q
def Ę(hv:PE X (.Name x aW) (v6 z))(cl:f9 X.K C)(na:fP X.K C "waiting")(hb:cn (.Name x aW) "waiting" X.env (eval (.Name x aW) X.env)=eval (.Name x aW) X.env:=by rfl)(he:∀whole,isTrue (.Attribute (.Name x aW) "waiting" apos) X.env whole=(do let v <- whole;standAt (Expr.Attribute (.Name x aW) "waiting" apos).pos;holding [v] (truthy v)):=by intro _;rfl):Az X C z (.Attribute (.Name x aW) "waiting" apos) (λst _=>aA (!st.wait.isEmpty,st)):=by
 refine PT.aM (m4 (cY hv hb) he) λσ H Q hq=>?_
 obtain⟨O,a,w,c,st,r,b,aS,mr,e,q⟩:=hq;cases e;obtain⟨dx,xs,ys,ve,vd,g1,g2,g3,g4,g5,g6,g7⟩:=mr.ms.ex;refine⟨.ref a,qV mr,a,C,dx,_,.ref w,rfl,g1,cl,na,rfl,!xs.isEmpty,.inl ⟨xs,aX.of g2,rfl⟩,?_⟩
 have:=g6.length
 rw[show xs.isEmpty=st.wait.isEmpty by cases h1:st.wait<;>cases h2:xs<;>simp[h1,h2] at this ⊢];exact q H mr<|eN.refl H
noncomputable def lY:D->Bool
 |.aE=>true
 |_=>false
theorem Is.lY{K:Fg}(h:Is K O H d v):decide (v=.aE)=lY d:=by
 cases d with
 |aE=>rw[yQ] at h;subst h;rfl
 |bl b=>rw[zZ] at h;subst h;rfl
 |int i=>rw[zG] at h;subst h;rfl
 |str s=>rw[zU] at h;subst h;rfl
 |ref a=>rw[qJ] at h;subst h;rfl
 |tup l=>rw[zR] at h;obtain⟨a,xs,rfl,_⟩:=h;rfl
 |lst l=>rw[zS] at h;obtain⟨a,xs,rfl,_⟩:=h;rfl
 |aI ks l=>rw[wW] at h;obtain⟨a,xs,rfl,_⟩:=h;rfl
 |ty n=>unfold Is at h;subst h;rfl
def OG(h:iF X C z e m):Az X C z (.Compare e [.Is] [.Constant .none j pos'] pos) (λst r=>(m st r).map λp=>(lY p.1,p.2)):=by
 refine PT.aM (O8<|Za h) λσ H Q hq=>?_
 obtain⟨O,a,w,c,st,r,b,aS,mr,e,q⟩:=hq;obtain⟨⟨d,eV⟩,e1,e2⟩:=aY e;cases e2;exact⟨O,a,w,c,st,r,d,eV,mr,e1,λv H1 m1 iv k1=>⟨_,rfl,by rw[Is.lY iv];exact q H1 m1 k1⟩⟩
def Xt(h:Az X C z e t)(h':Az X C z e' t'):Az X C z (.BoolOp .And [e,e'] pos) (λst r=>(t st r).bind λp=>if p.1=true then t' p.2 r else aA (false,p.2)):=by
 refine PT.aM (PW.pt<|O_ h<|PX h') λσ H Q hq=>?_
 obtain⟨O,a,w,c,st,r,b,aS,mr,e,q⟩:=hq;obtain⟨⟨b1,eV⟩,e1,e2⟩:=aG e;refine⟨O,a,w,c,st,r,b1,eV,mr,e1,λH1 m1 k1=>?_⟩;cases b1 with
 |false=>cases e2;exact Eg<|q H1 m1 k1
 |true=>exact Eh ⟨O,a,w,c,eV,r,b,aS,m1,e2,λH2 m2 k2=>q H2 m2<|k1.trans k2⟩
section
variable{pl:Pos}
def cR{α:Type}{cs:List α}{i:Nat}(h:i<cs.length):∃v,(cs.take<|cs.length-i)[(cs.take<|cs.length-i).length-1]?=aA v/\(cs.take<|cs.length-i).dropLast=cs.take (cs.length-(i+1))/\cs.reverse.take i++[v]=cs.reverse.take (i+1):=by
 have hl:(cs.take<|cs.length-i).length=cs.length-i:=by rw[ii];omega
 have h1:cs.length-i-1<cs.length:=by omega
 refine⟨cs[cs.length-i-1],?_,?_,?_⟩
 .rw[hl,List.getElem?_take,if_pos<|by omega,bx h1]
 .rw[mx,hl,List.take_take];congr 1;omega
 .rw[List.take_succ,qe h,show cs.length-1-i=cs.length-i-1 by omega,bx h1];rfl
noncomputable def Jh(f:ME):fY:=λst r=>(f r).bind λd=>match d with
 |.tup l=>if l.length<=st.fB.length/\l.length<ae then aA (.lst<|st.fB.drop<|st.fB.length-l.length,{ st with fB:=st.fB.take (st.fB.length-l.length) }) else aD
 |_=>aD
def į(hc:X.calm=true)(o:sD X N' [0] scope)(hi:DE X iter f)(hn:N'.length=2)(hg:∀C fp s H,PG (eX X N' scope C fp s H) (.Name y EO)<|QW 1)(hv:∀C fp s H,PE (eX X N' scope C fp s H) (.Name x aW)<|v6 0)(cl:f9 X.K C)(na:fP X.K C "come")(hb:∀C fp s H,cn (.Name x aW) "come" (eX X N' scope C fp s H).env (eval (.Name x aW) (eX X N' scope C fp s H).env)=eval (.Name x aW) (eX X N' scope C fp s H).env)(fO:∀C fp s H,cn (.Attribute (.Name x aW) "come" iO) "pop" (eX X N' scope C fp s H).env (eval (.Attribute (.Name x aW) "come" iO) (eX X N' scope C fp s H).env)=eval (.Attribute (.Name x aW) "come" iO) (eX X N' scope C fp s H).env)(fN:l7 apos eO:=by rfl)(hs:∀x,iq iter X.env x=pure x:=by intro _;rfl):iF X C 0 (.Subscript (.ListComp (.Call (.Attribute (.Attribute (.Name x aW) "come" iO) "pop" apos) [] [] eO) [⟨.Name y EO,iter,[],0⟩] scope pl) (.Slice aD aD (aA<|.UnaryOp .USub (.Constant (.int 1) j p3) pos) p2) pn) (Jh f):=by
 refine PE.aM (OL<|cX (tc:=aD) (g:=QW 1) (te:=Qx X.K "list" Rq<|Qv X.K (v6 0) "come") (cap:=[0]) hc o (ā hi) hg rfl (λC fp s H=>WU et mw mq QD (cY (hv C fp s H)<|hb C fp s H) (fO C fp s H) fN) hs) λσ H Q hq=>?_
 obtain⟨O,a,w,c,st,r,d,aS,mr,e1,q⟩:=hq;obtain⟨d',e2,e3⟩:=aG e1;cases d'<;>first|(cases e3;done)|skip
 rename_i l;dsimp only at e3;split at e3
 case isFalse=>cases e3
 rename_i S7;obtain⟨S7,hsz⟩:=S7;cases e3;refine⟨O,r,l,mr.rr,by unfold Hi;rw[e2];rfl,λJ H1 s1 yl p hp=>?_⟩;rw[show Ow O r σ=O from funext λb=>propext mr.no.ow] at yl;have m1:=mr.same s1;obtain⟨dx,xs,cs,ve,vd,g1,g2,g3,g4,g5,g6,g7⟩:=m1.ms.ex;have aw:=mL m1.ms;have Fn:=g7.length;have pa:a≠p:=λz=>by rw[z,hp] at g1;cases g1
 have pw:w≠p:=λz=>by rw[z,hp] at g2;cases g2
 have pc:c≠p:=λz=>by rw[z,hp] at g3;cases g3
 rw[hn];refine⟨λi m ys σ2 H2=>m=l.length-i/\i<=l.length/\σ2.length=2/\σ2[0]?=aA (aA<|.ref a)/\ys=cs.reverse.take i/\H2 p=aA (.lst ys)/\H2 c=aA (.lst<|cs.take<|cs.length-i)/\∀b o,H1 b=aA o->b≠c->H2 b=aA o,
  ⟨l.length,rfl,fg _,rfl,by show aA (σ[0]?.getD aD)=_;rw[mr.me];rfl,rfl,zJ,by rw[zI pc,g3];simp,λb o e _=>by rw[zI (λz=>by rw[z,hp] at e;cases e)];exact e⟩,?_⟩
 rintro i m ys σ2 H2 ⟨rfl,BY,HF,f7,rfl,ep,ec,eo⟩;have kM:eN a w c H1 H2:=λb o e h1 h2 h3=>eo b o e h3
 obtain⟨y1,y2⟩:=yl i H2 O (m1.ms.kp kM) λ_ z _=>z
 have qe8:(cs.reverse.take i).length=i:=by rw[ii,gx];omega
 refine⟨ep,by rw[qe8];omega,?_⟩;by_cases fM:i<l.length
 .obtain⟨go,yd⟩:=y1 fM;refine .inr ⟨go,λxv H3 yx=>?_⟩;obtain⟨s3,_⟩:=yd xv H3 yx;obtain⟨v,v1,v2,v3⟩:=cR (cs:=cs) (i:=i) (by omega);have ea3:H3 a=aA (.ins C dx<|s_ st.most st.steps w c ve vd):=s3 _ _<|eo a _ g1 aw.2;have Tv:=s3 _ _ ec;refine⟨.ref a,by rw[jr<|by decide];exact f7,a,C,dx,_,.ref c,rfl,ea3,cl,na,rfl,.inl ⟨rfl,_,aX.of Tv⟩,c,_,v,rfl,rfl,Tv,v1,?_⟩;have ep3:=s3 _ _ ep;refine⟨by rw[zI pc.symm];exact ep3,l.length-(i+1),by omega,rfl,fM,by rw[xk];exact HF,by rw[jr<|by decide];exact f7,v3,zJ,?_,λb o e h1=>?_⟩
  .rw[zI pc,zJ,v2]
  .rw[zI (λz=>by rw[z,hp] at e;cases e),zI h1];exact s3 _ _<|eo b o e h1
 .have Dz:i=l.length:=by omega
  subst Dz;refine .inl ⟨y2 rfl,.inl ⟨p,_,rfl,aX.of ep,λt ht=>?_⟩⟩;have h_:∀b o,H2 b=aA o->b≠t:=λb o e z=>by rw[z,ht] at e;cases e
  have k2:eN a w c H1 (upd H2 t<|.lst (cs.reverse.take l.length).reverse):=λb o e h1 h2 h3=>by rw[zI<|h_ b o<|kM b o e h1 h2 h3];exact kM b o e h1 h2 h3
  have n:=iL.put (K:=X.K) (H2:=upd H2 t<|.lst (cs.reverse.take l.length).reverse) (co:=st.fB.take<|st.fB.length-l.length) m1.ms m1.ol k2 (by rw[zI<|h_ a _<|eo a _ g1 aw.2];exact eo a _ g1 aw.2) (by rw[zI<|h_ w _<|eo w _ g2 m1.ms.wc];exact eo w _ g2 m1.ms.wc) (by rw[zI<|h_ c _ ec];exact ec) g4 g5 g6 (by rw[Fn];exact g7.take _);have m2:=m1.step k2 n;have ot:¬O t:=λz=>by
   obtain⟨o,e,_⟩:=m1.ol t z;by_cases h1:t=c
   .rw[h1] at ht;rw[ht] at ec;cases ec
   .have:=eo t o e h1;rw[ht] at this;cases this
  refine q _ _ m2 ?_<|(eN.same s1).trans k2;rw[zS];have e9:(cs.reverse.take l.length).reverse=cs.drop (cs.length-l.length):=by
   rw[List.take_reverse,List.reverse_reverse]
  refine⟨t,cs.drop<|cs.length-l.length,rfl,.inl ⟨ot,.inl<|by rw[zJ,e9]⟩,?_⟩;rw[<-Fn];exact IsL.mono (m1.ms.kp k2) m1.ol (λ_ z _=>z) _ _<|g7.drop _
end
namespace DU
def Tx:entryFor table "dict.update.loop" = aA Builtin.«dict.update.loop»:=entryFor_of_tree (by kernel_rfl)
def Hb:plainId "dict.update.loop" = true:=by decide +kernel
def qc9:typeLookup (.type "list") "keys" = pure aD:=by rw[mi,jn];kernel_rfl
end DU
def QL(hx:s.heap.get? a=aA o)(hc:o.cls=.type "list")(HG:o.data=.seq xs k)(hd:o.dict=aD)(hA:A.handled=aD)(h:∀h' tk,(∀b ob,s.heap.get? b=aA ob->h'.get? b=aA ob)->Q aD { s with heap:=h',toks:=tk }):wpAny (model prog w) A (getAttr? (.ref a) "keys") Q E s:=by
 obtain⟨c,aI,dat,sl⟩:=o;simp only at hc HG hd;subst hc HG hd;obtain⟨hp,g,d,tk,os⟩:=s;have hT:∀C_,(⟨hp,g,d,C_,os⟩:Shared).TypeIs (.ref a) "list" := λ_=>⟨_,hx,rfl⟩
 have f1:=sub_AttributeError;have f3:=sk.lookup;have f4:=sk.bind<|.ref a;have f5:=am_list_getattr_none;unfold getAttr? getAttrBy? getAttrBy
 repeat (any_goals (first|assumption|exact hT _|((with_reducible show wpAny _ _ (call (Value.builtin "list.__getattribute__") _ _) _ _ _);refine tx sk (hT _) am_entry_list_getattribute (F.args_list_getattribute_2 _ _) (meets_getattribute_miss_list a xs k sl _ _ DU.qc9 (by decide +kernel)<|by size_fits) ⟨hx,hA,λh' C_ e q_=>?_⟩)|wp_step))
 obtain⟨t',u',he⟩:=q_.there;show wpAny _ _ (getattributeRaised _ _ _ _ _ _ _) _ _ _;unfold getattributeRaised
 repeat (any_goals (first|assumption|wp_step))
 exact h _ _ q_.keeps
def F1(h:Heap)(v:Value)(k:Key)(u:Value):Prop:=∃t key,v=.ref t/\IsTup h t #[key,u]/\mT k key=true
def ù(hh:A.handled=aD)(hld:l≠d)(hli:l≠it)(Lw:it≠d):∀(n i:Nat) (s:Shared) (ps:List (Key×Value)) (kvs:List (Key×Value)) (R:Result->Shared->Prop),i+n=its.size->ps.length=n->kvs.length+n<=ae->s.heap.IsListIter it l i->PlainL s.heap l its ->
  (∀j (p:Key×Value),ps[j]?=aA p->∃v,its[i+j]?=aA v/\(∃t,v=.ref t/\t≠d/\t≠it)/\F1 s.heap v p.1 p.2)->s.heap.DictOf (yS prog w) d kvs ->
  (∀h' tk,h'.DictOf (yS prog w) d (ps.foldl (λz p=>stored z p.1 p.2) kvs)->(∀b o,b≠it->b≠d->s.heap.get? b=aA o->h'.get? b=aA o)->R (.ok<|.ret .none) { s with heap:=h',toks:=tk }) ->
  codeAny (model prog w) A (.builtin "dict.update.loop" ⟨[.ref d,.ref it,rawInt (i:Int),.none],[]⟩) R s:=by
 intro n
 induction n with
 |zero=>
  intro i s ps kvs R hi hl hz hit pl hp hd hR;obtain rfl:ps=[]:=sx.mp hl;refine jl DU.Tx ?_;rw[gc DU.Hb _];show wpAny _ A.in1 (pyNext (.ref it) >>= _) _ _ s;refine ac<|uf (show A.in1.handled=aD from hh) hit pl.isList (Array.getElem?_eq_none<|by omega) λh' eb=>?_;show wpAny _ A.in1 (Builtin.Dict.addKeywords d [] >>= λ_=>ret Value.none) _ _ _;refine ac<|af<|af<|hR h' s.toks (hd.extBut eb Lw.symm) λb o hb _ e=>eb b o hb e
 |succ n ih=>
  intro i s ps kvs R hi hl hz hit pl hp hd hR;obtain⟨p,ps,rfl⟩:∃p q,ps=p::q:=by cases ps with
   |nil=>cases hl
   |cons p q=>exact⟨p,q,rfl⟩
  obtain⟨v,ev,⟨t0,rfl,ntd,nti⟩,t,key,e0,tu,kk⟩:=hp 0 p rfl;cases e0;refine jl DU.Tx ?_;rw[gc DU.Hb _];show wpAny _ A.in1 (pyNext (.ref it) >>= _) _ _ s;refine ac<|tq hit pl.isList ev λh1 qf3 Rj=>?_;have k1:∀b o,b≠it->s.heap.get? b=aA o->h1.get? b=aA o:=λb o hb e=>(Rj.2 b hb).trans e
  have Qf:IsTup h1 t0 #[key,p.2]:=by obtain⟨o,e,r⟩:=tu;exact⟨o,k1 _ _ nti e,r⟩
  have LD:h1.DictOf (yS prog w) d kvs:=hd.sameBut Rj Lw.symm;obtain⟨ot,hot,hct,nt,hdt⟩:=id Qf;refine ac<|fi ?_;refine ac<|ra ?_;unfold Builtin.Dict.pairItems;refine ac<|qv (s:={ s with heap:=h1 }) Qf.typeIs ?_;rw[if_pos<|by decide];refine ac<|gn (s:={ s with heap:=h1 }) hot hdt<|af ?_;dsimp only[Option.getD_some];refine fi ?_;refine wpAny_dictSet_pairs (knd:=yS prog w) (s:={ s with heap:=h1 }) (k:=p.1) kk LD (λh2 hd2 Ri=>?_) (by omega);have k2:∀b o,b≠it->b≠d->s.heap.get? b=aA o->h2.get? b=aA o:=λb o hb AV e=>(Ri.2 b AV).trans<|k1 b o hb e
  have e1:((i:Int)+1)=((i+1:Nat):Int):=by omega
  rw[e1];refine af ⟨jy DU.Hb _,ih (i+1) _ ps (stored kvs p.1 p.2) R (by omega) (ua hl) ?_ (qf3.at λo e=>(Ri.2 it Lw).trans e) (by obtain⟨o,n,e,r⟩:=pl;exact⟨o,n,k2 l o hli hld e,r⟩) (λj q hq=>?_) hd2 λh' tk CG kp=>?_⟩
  .have:(stored kvs p.1 p.2).length<=kvs.length+1:=by unfold stored;split<;>simp
   omega
  .obtain⟨v,AY,⟨t1,rfl,n1,n2⟩,t2,qd1,e2,Ϭ,kk2⟩:=hp (j+1) q hq;cases e2;refine⟨_,by rw[<-AY];congr 1;omega,⟨t1,rfl,n1,n2⟩,t1,qd1,rfl,?_,kk2⟩;obtain⟨o,e,r⟩:=Ϭ;exact⟨o,k2 t1 o n2 n1 e,r⟩
  .exact hR h' tk CG λb o hb AV e=>kp b o hb AV<|k2 b o hb AV e
def ø{l:Addr}{its:Array Value}{ps:List (Key×Value)}{Q:Value->Shared->Prop}(hh:A.handled=aD)(pl:PlainL s.heap l its)(hl:ps.length=its.size)(hz:its.size<=ae)(hp:∀(j:Nat) (p:Key×Value),ps[j]?=aA p->∃v,its[j]?=aA v/\F1 s.heap v p.1 p.2)(h:∀h' tk,h'.DictOf (yS prog w) s.heap.objs.size (ps.foldl (λz p=>stored z p.1 p.2) [])->(∀b o,s.heap.get? b=aA o->h'.get? b=aA o)->Q (.ref s.heap.objs.size) { s with heap:=h',toks:=tk }):wpAny (model prog w) A (call (.type "dict") [.ref l]) Q E s:=by
 refine callType_codes (Q₁:=λobj s₁=>obj=.ref s.heap.objs.size/\s₁={ s with heap:=s.heap.push { cls:=.type "dict",data:=.dict #[] } }) F.kt_called_dict (F.kt_typeCall_dict_1 _) F.entry_dict_init (kt_code_dict_new _ ⟨rfl,rfl⟩) ?_;rintro obj s₁ ⟨rfl,rfl⟩;have Lr:(s.heap.push { cls:=.type "dict",data:=.dict #[] }).DictOf (yS prog w) s.heap.objs.size []:=Heap.DictOf.new s.heap;obtain⟨ol,nl,Ff,BZ,LB,BV⟩:=id pl;have fM:l<s.heap.objs.size:=al Ff;have k1:∀b o,s.heap.get? b=aA o->(s.heap.push { cls:=.type "dict",data:=.dict #[] }).get? b=aA o:=λb o e=>ad _ e
 refine⟨Lr.typeIs,F.args_dict_init_2 _ _,?_⟩;unfold Builtin.«dict.__init__»;refine ac ?_;unfold Builtin.Dict.selfAndRest;refine ac<|wpAny_notOrdered_dict Lr.typeIs ?_;show wpAny _ _ (pure (s.heap.objs.size,[Value.ref l])) _ _ _;refine af ?_;show wpAny _ _ (zg "dict.__init__" s.heap.objs.size (.ref l) [] .none) _ _ _;unfold zg;refine ac<|qv (T:="list") ⟨_,k1 _ _ Ff,BZ⟩ ?_;rw[if_pos<|by decide];refine ac<|QL (k1 _ _ Ff) BZ BV LB (show A.in1.handled=aD from hh) λh2 Ai k2=>?_;rw[if_pos<|by rfl];refine ac<|re ?_;have Aj:PlainL h2 l its:=⟨ol,nl,k2 _ _<|k1 _ _ Ff,BZ,LB,BV⟩;refine ac<|vq (s:={ s with heap:=h2,toks:=Ai }) Aj.isList ?_;have hd2:h2.DictOf (yS prog w) s.heap.objs.size []:=by
  obtain⟨o,es,ep,ho,r⟩:=Lr;exact⟨o,es,ep,k2 _ _ ho,r⟩
 have Bh:s.heap.objs.size<h2.objs.size:=by
  obtain⟨o,es,ep,ho,r⟩:=hd2;exact al ho
 have k3:∀b o,h2.get? b=aA o->(h2.push { cls:=.type "list_iterator",data:=.fields #[.ref l,.int 0 0] }).get? b=aA o:=λb o e=>ad _ e
 have ka:∀b o,s.heap.get? b=aA o->(h2.push { cls:=.type "list_iterator",data:=.fields #[.ref l,.int 0 0] }).get? b=aA o:=λb o e=>k3 _ _<|k2 _ _<|k1 _ _ e
 refine af ⟨jy DU.Hb _,ù (A:=A.in1) (l:=l) (it:=h2.objs.size) (d:=s.heap.objs.size) (its:=its) hh (bf fM) (bf<|ub fM Bh) (ib Bh) its.size 0 _ ps [] _ (by omega) hl (by simpa using hz) ⟨_,ay _ rfl,rfl,rfl⟩ ⟨ol,nl,k3 _ _<|k2 _ _<|k1 _ _ Ff,BZ,LB,BV⟩ (λj p e=>?_) ?_ λh' tk CG kp=>?_⟩
 .obtain⟨v,ev,t,key,rfl,⟨o,e1,r⟩,kk⟩:=hp j p e
  have:=al e1
  exact⟨_,by rw[ni];exact ev,⟨t,rfl,bf this,bf<|ub this Bh⟩,t,key,rfl,⟨o,ka _ _ e1,r⟩,kk⟩
 .obtain⟨o,es,ep,ho,r⟩:=hd2;exact⟨o,es,ep,k3 _ _ ho,r⟩
 .refine⟨rfl,h h' tk CG λb o e=>kp b o ?_ ?_<|ka _ _ e⟩
  .exact bf<|ub (al e) Bh
  .exact bf<|al e
noncomputable def NG:D->Option (Key×D)
 |.tup [k,d]=>(Cc k).map λk=>(k,d)
 |_=>aD
noncomputable def oP:List D->Option (List<|Key×D)
 |[]=>aA []
 |d::l=>(NG d).bind λp=>(oP l).map (p::·)
def QY(ps:List (Key×D)):List Key×List D:=ps.foldl (λz p=>jK z.1 z.2 p.1 p.2) ([],[])
noncomputable def o8(fl:ML):MD:=λr=>(fl r).bind λl=>(oP l).map QY
def u6(hc:X.calm=true):iW X (.type "dict") (λxs H Q=>∃(l:Addr) (ys:List V) (ps:List (Key×V)),xs=[.ref l]/\aX X.K H l ys/\ps.length=ys.length/\(∀(j:Nat) (p:Key×V),ps[j]?=aA p->∃t,ys[j]?=aA (.ref t)/\d_ X.K H t [kV p.1,p.2])/\∀p,H p=aD->Q (.ref p) (upd H p<|.dK<|ps.foldl (λz p=>bS z p.1 p.2) [])):=by
 intro pZ s σ H xs us Q I r h;obtain⟨l,ys,ps,rfl,hl,hn,hp,q⟩:=h;obtain⟨u,rfl,rx⟩:=J5 r;cases rx;obtain⟨its,rv,pl,hz⟩:=I.list hl;have hlen:=rv.length;have ex:∀(j:Nat) (p:Key×V),ps[j]?=aA p->∃(v:Value) (u:Value),its[j]?=aA v/\RelV p.2 u/\F1 s.heap v p.1 u:=λj p e=>by
  obtain⟨t,e1,st⟩:=hp j p e;obtain⟨v,ev,rv'⟩:=rv.get e1;cases rv';obtain⟨fC,Bz,tu,_⟩:=I.tuple st;obtain⟨key,u,rfl,rk,ru⟩:=dW Bz;exact⟨_,u,ev,ru,t,key,rfl,tu,QP (P:=X.prog) (w:=X.w) rk⟩
 let us:List (Key×Value):=(ku ps.length).pmap (λj hj=>((ps[j]'hj).1,Classical.choose<|kj<|ex j ps[j]<|bx hj)) λj hj=>ut.mp hj
 have ul:us.length=ps.length:=by simp[us]
 have uj:∀(j:Nat) (hj:j<ps.length),us[j]?=aA ((ps[j]).1,Classical.choose<|kj<|ex j ps[j]<|bx hj):=λj hj=>by
  rw[bx (by rw[ul];exact hj)];simp[us]
 have hpr:∀(j:Nat) (p:Key×Value),us[j]?=aA p->∃v,its.toArray[j]?=aA v/\F1 s.heap v p.1 p.2:=λj p e=>by
  have hj:j<ps.length:=by
   obtain⟨z,_⟩:=aq.mp e;rw[ul] at z;exact z
  rw[uj j hj] at e;cases e;obtain⟨e1,e2,e3⟩:=kj<|kj<|ex j ps[j]<|bx hj;exact⟨_,by simpa using e1,e3⟩
 have kv:∀(z:List (Key×V)) (z':List (Key×Value)),KV z z'->KV (ps.foldl (λz p=>bS z p.1 p.2) z) (us.foldl (λz p=>stored z p.1 p.2) z'):=by
  have gen:∀(as:List (Key×V)) (bs:List (Key×Value)),as.length=bs.length->(∀(j:Nat) (x:Key×V) (y:Key×Value),as[j]?=aA x->bs[j]?=aA y->x.1=y.1/\RelV x.2 y.2)->∀(z:List (Key×V)) (z':List (Key×Value)),KV z z'->KV (as.foldl (λz p=>bS z p.1 p.2) z) (bs.foldl (λz p=>stored z p.1 p.2) z'):=by
   intro as
   induction as with
   |nil=>intro bs hl _ z z' hz;cases bs with
    |nil=>exact hz
    |cons _ _=>cases hl
   |cons x as ih=>intro bs hl hr z z' hz;cases bs with
    |nil=>cases hl
    |cons y bs=>
     obtain⟨e1,e2⟩:=hr 0 x y rfl rfl;rw[kn,kn];refine ih bs (ua hl) (λj x y e e'=>hr (j+1) x y e e') _ _ ?_;rw[e1];exact hz.put y.1 e2
  refine gen ps us ul.symm λj x y e e'=>?_
  have hj:j<ps.length:=by
   obtain⟨z,_⟩:=aq.mp e;exact z
  rw[uj j hj] at e';rw[bx hj] at e;cases e;cases e';obtain⟨_,e2,_⟩:=kj<|kj<|ex j ps[j]<|bx hj;exact⟨rfl,e2⟩
 have lz:(ps.foldl (λz p=>bS z p.1 p.2) []).length<=ae:=by
  have gen:∀(as:List (Key×V)) (z:List (Key×V)),(as.foldl (λz p=>bS z p.1 p.2) z).length<=z.length+as.length:=by
   intro as
   induction as with
   |nil=>intro z;simp
   |cons x as ih=>
    intro z;rw[kn];have h1:=ih<|bS z x.1 x.2;have h2:(bS z x.1 x.2).length<=z.length+1:=by unfold bS;split<;>simp
    simp only[am];omega
  have:=gen ps []
  simp only[bv] at this;omega
 refine ø (I.ok.hd hc) pl (by rw[ul,ak];omega) (by rw[ak];omega) hpr λh' tk dd kp=>?_
 exact⟨.ref s.heap.objs.size,_,I.laid (a:=s.heap.objs.size) (o:=.dK<|ps.foldl (λz p=>bS z p.1 p.2) []) (t':=tk) kp (ah _)<|tY lz (beq_eq_false_iff_ne.mpr<|ki<|bf I.big) (kv [] [] .nil) dd,rfl,q _<|I.aT.fresh<|ah _⟩
theorem oO{K:Fg}:∀{l:List D} {qs:List (Key×D)} {ys:List V},oP l=aA qs->IsL K O H l ys->∃ps:List (Key×V),ps.length=ys.length/\(∀(j:Nat) (p:Key×V),ps[j]?=aA p->∃t,ys[j]?=aA (.ref t)/\d_ K H t [kV p.1,p.2]) /\
  ∀(kvs:List (Key×V)) (ks:List Key) (ds:List D),kvs.map (·.1)=ks->IsL K O H ds (kvs.map (·.2))->(ps.foldl (λz p=>bS z p.1 p.2) kvs).map (·.1)=(qs.foldl (λz p=>jK z.1 z.2 p.1 p.2) (ks,ds)).1/\IsL K O H (qs.foldl (λz p=>jK z.1 z.2 p.1 p.2) (ks,ds)).2 ((ps.foldl (λz p=>bS z p.1 p.2) kvs).map (·.2))
 |[],qs,ys,e,h=>by
  cases e;unfold IsL at h;subst h;exact⟨[],rfl,λj p e=>by simp at e,λkvs ks ds e1 e2=>⟨e1,e2⟩⟩
 |d::l,qs,ys,e,h=>by
  obtain⟨⟨k,d'⟩,e1,e2⟩:=aG e;obtain⟨qs',e3,rfl⟩:=aY e2;unfold IsL at h;obtain⟨y,GR,rfl,iy,il⟩:=h;obtain⟨ps,hl,hp,hf⟩:=oO e3 il;unfold NG at e1;split at e1
  .rename_i kd dd;obtain⟨k',e4,e5⟩:=aY e1;cases e5;rw[zR] at iy;obtain⟨t,xs,rfl,st,i2⟩:=iy;unfold IsL at i2;obtain⟨v1,xs1,rfl,j1,i3⟩:=i2;unfold IsL at i3;obtain⟨v2,xs2,rfl,j2,i4⟩:=i3;unfold IsL at i4;subst i4;have ek:v1=kV k:=by
    cases kd<;>first|(cases e4;done)|skip
    .cases e4;rw[zG] at j1;exact j1
    .cases e4;rw[zU] at j1;exact j1
   subst ek;refine⟨(k,v2)::ps,by simp[hl],λj p e=>?_,λkvs ks ds g1 g2=>?_⟩
   .cases j with
    |zero=>cases e;exact⟨t,rfl,st⟩
    |succ j=>exact hp j p e
   .rw[kn,kn];obtain⟨q1,q2⟩:=PV (k:=k) g1 g2 j2;exact hf _ _ _ q1 q2
  .cases e1
def Y6(hc:X.calm=true)(hg:Gl X "dict")(hm:X.mg "dict" = aD)(ha:DB X a fl)(hs:ar [a] X.env=(false,eval a X.env)::ar [] X.env:=by rfl):B' X (.Call (.Name "dict" p') [a] [] pos) (o8 fl):=by
 refine PE.aM (uM (u6 hc) hg hm zo (yK ha xH hs) (he:=hs)) λσ H Q hq=>?_
 obtain⟨O0,r,ks,l,hR,e,q⟩:=hq;obtain⟨ds,e1,e2⟩:=aG e;obtain⟨qs,e3,e4⟩:=aY e2;refine⟨O0,r,ds,hR,e1,λc xs H1 s1 sq il=>?_⟩;obtain⟨ps,hl,hp,hf⟩:=oO e3 il;refine⟨c,xs,ps,rfl,sq,hl,hp,λt ht=>?_⟩;obtain⟨q1,q2⟩:=hf [] [] [] rfl .nil;unfold QY at e4;rw[e4] at q1 q2;refine q t _ _ (s1.trans<|yD ht) (s1.free ht) zJ q1 ?_;exact IsL.mono (aH.kp (yD ht) _) (hR.same s1).ol (λb z nn=>z.elim id λz=>by subst z;exact absurd ht nn) _ _ q2
structure UY(K:Fg)(B:Addr)(m:Str)(f:Addr):Prop where
 ga:specialIn K (.ref B) "__getattribute__" = aA (aA<|.builtin "type.__getattribute__")
 rd:readsIn K B (.type "type")=true
 fc:findCls K (.ref B) (.type "type") m=aA (.val<|.ref f)
 hh:handedIn (.ref f)=true
 kp:keepIn K (.ref f)=true
def ύ{pl:Sem Bool}(M:UY X.K B m f)(F:eA X.prog X.w X.K X.mg X.base CX k f fd ps sp)(hr:eS k X.A)(hg:Gl X x)(hm:X.mg x=aA (.ref B))(hb:Binds X.K fd ps ds)(hd:Vals dvs ds)(hx:dX CX X E)(ha:PA X (e::es) t)(iK:iH x:=by decide)(iN:i_ X e es:=by rfl)(hpl:JV X es pos:=by rfl)(ht:eval (.Call (.Attribute (.Name x p) m apos) (e::es) [] pos) X.env=(do
   let ov <- eval (.Name x p) X.env
   standAt apos.atName
   let (f,first) <- holding [ov] (getMethod ov m pl)
   callWith pos f first (lm pos<|ar (e::es) X.env) (nr pos<|ke [] X.env)):=by rfl):PE X (.Call (.Attribute (.Name x p) m apos) (e::es) [] pos) (Jg sp dvs E t):=by
 intro pZ s σ H Q I h;refine ug (pl:=pl) ?_ ht;refine pB I hg hm ?_ iK;refine method_cls I.fE M.ga<|cls_value I.fE M.rd M.fc M.hh ?_;refine ou (first:=[]) (h₀:=X.base) I.ok.mod.Bf M.kp (aQ (ha pos pZ { s with toks:=s.toks+1 } σ H _ (I.tok _) h) λus s2 ⟨vs,H2,I2,r,q2⟩=>⟨I2.fE,?_⟩) iN hpl;exact rY F hr hb hd hx I2 r q2
section
variable{K:Fg}{O O':Addr->Prop}{H:Hp}{r:En}{σ:St}{i:Nat}
def R.plain(no:lH r)(len:r.length=σ.length)(ol:kT O H)(val:∀(i:Nat) (d:D),r[i]?=aA (.v d)->∃v,σ[i]?=aA (aA v)/\Is K O H d v):R K O H r σ:=by
 have ow:Ow O r σ=O:=funext λb=>propext no.ow
 refine⟨len,λi d e=>by rw[ow];exact val i d e,λi l e=>?_,λi j b l m e1 e2 _ _=>?_,ol,λi l b e _=>?_,λi l b e _=>?_,λi _ ks l e=>?_⟩
 .have:=no i;rw[vA e] at this;cases this
 .have:=no i;rw[e1] at this;cases this
 .exfalso
  have:=no i
  rcases e with e|e|⟨ks,e⟩<;>rw[e] at this<;>cases this
 .have:=no i;rw[(cW e).choose_spec] at this;cases this
 .have:=no i;rw[e] at this;cases this
def R.lN(h:R K O H r σ)(no:lH r){d:D}(e:r[i]?=aA (.v d)):∃v,σ[i]?=aA (aA v)/\Is K O H d v:=by
 obtain⟨v,e1,q⟩:=h.val i d e;rw[show Ow O r σ=O from funext λb=>propext no.ow] at q;exact⟨v,e1,q⟩
def Kp.plain(s:aH H H')(no:lH r)(sL:lH r'):Kp H r σ H' r' σ':=by
 have k:=Kp.of_same r σ s;refine⟨k.keep,k.live,k.lst,λb z=>absurd z<|sL.at λ_ _ e=>e,λb z=>absurd z (sL.at λx l e=>by cases x<;>first|exact e|cases e),λi l e=>?_,λi l e=>?_⟩
 .have:=no i;rw[(cW e).choose_spec] at this;cases this
 .have:=no i;rw[e] at this;cases this
def Jy(r:En):Bool:=r.all λs=>s.own.isNone
def dC(h:Jy r=true):lH r:=λi=>by
 cases e:r[i]? with
 |none=>rfl
 |some x=>
  have:=List.all_eq_true.mp h x<|qo e
  show x.own=aD;exact Option.isNone_iff_eq_none.mp this
end
def Ox(O:Addr->Prop)(x w c:Addr):Addr->Prop:=λb=>O b\/b=x\/b=w\/b=c
def IM(K:Fg)(C:Addr):Sp:=λvs H Q _=>∃x dx m,vs=[.ref x,.int m]/\H x=aA (.ins C dx []) /\
 ∀w c H',w≠c->H w=aD->H c=aD->H' x=aA (.ins C dx [("most",.int m),("steps",.int 0),("waiting",.ref w),("come",.ref c),("ended",.aE)])->H' w=aA (.lst [])->H' c=aA (.lst [])->(∀b o,H b=aA o->b≠x->H' b=aA o)->Q .aE H'
def IL(K:Fg)(C:Addr)(dd:D->Option D):Sp:=λvs H Q _=>∃O x dx pd pv m d,vs=[.ref x,pv,.int m]/\H x=aA (.ins C dx [])/\kT O H/\¬O x/\Is K (Ox O x x x) H pd pv/\dd pd=aA d /\
 ∀w c vd H',w≠c->H w=aD->H c=aD->H' x=aA (.ins C dx<|s_ m 0 w c .aE vd)->H' w=aA (.lst [])->H' c=aA (.lst [])->(∀b o,H b=aA o->b≠x->H' b=aA o)->kT (Ox O x w c) H'->Is K (Ox O x w c) H' d vd->Q .aE H'
section
variable{K:Fg}
def ν(hN:N.length=2)(cl:f9 K C)(n1:fP K C "most")(n2:fP K C "steps")(n3:fP K C "waiting")(n4:fP K C "come")(n5:fP K C "ended")(h:IM K C vs H Q E):CZ (Ci K (v6 0) (v6 1) "most") (CZ (Ci K (v6 0) (λ_ H Q=>Q (.int 0) H) "steps")<|CZ (Ci K (v6 0) (IP Ag) "waiting")<|CZ (Ci K (v6 0) (IP Ag) "come")<|Ci K (v6 0) (λ_ H Q=>Q .aE H) "ended") { nx:=λ_ H'=>Q .aE H',rt:=Q } (L2.start N vs) H:=by
 obtain⟨x,dx,m,rfl,hx,q⟩:=h;have s0:(L2.start N [.ref x,.int m])[0]?=aA (aA<|.ref x):=rfl;have s1:(L2.start N [.ref x,.int m])[1]?=aA (aA<|.int m):=rfl;refine⟨.int m,s1,.ref x,s0,x,C,dx,[],rfl,hx,cl,n1,by decide,?_⟩;refine⟨.ref x,s0,x,C,dx,_,rfl,zJ,cl,n2,by show 1<1000;decide,?_⟩;refine⟨fg _,λw hw=>⟨.ref x,s0,x,C,dx,[("most",.int m),("steps",.int 0)],rfl,?_,cl,n3,by show 2<1000;decide,?_⟩⟩
 .rw[zI (λz=>by rw[<-z,zJ] at hw;cases hw),zJ];rfl
 have xw:x≠w:=λz=>by rw[<-z,zJ] at hw;cases hw
 refine⟨fg _,λc hc=>⟨.ref x,s0,x,C,dx,[("most",.int m),("steps",.int 0),("waiting",.ref w)],rfl,?_,cl,n4,by show 3<1000;decide,?_⟩⟩
 .rw[zI (λz=>by rw[<-z,zJ] at hc;cases hc),zJ];rfl
 have xc:x≠c:=λz=>by rw[<-z,zJ] at hc;cases hc
 refine⟨.ref x,s0,x,C,dx,[("most",.int m),("steps",.int 0),("waiting",.ref w),("come",.ref c)],rfl,zJ,cl,n5,by show 4<1000;decide,?_⟩;rw[zI xw.symm,zI xw.symm] at hw;rw[zI xc.symm] at hc;have wc:w≠c:=λz=>by rw[z,zJ] at hc;cases hc
 rw[zI wc.symm,zI xc.symm,zI xc.symm] at hc;refine q w c _ wc hw hc zJ ?_ ?_ λb o e hb=>?_
 .rw[zI xw.symm,zI xw.symm,zI wc,zI xw.symm,zJ]
 .rw[zI xc.symm,zI xc.symm,zJ]
 .have h1:b≠w:=λz=>by rw[z,hw] at e;cases e
  have h2:b≠c:=λz=>by rw[z,hc] at e;cases e
  rw[zI hb,zI hb,zI h2,zI hb,zI h1,zI hb,zI hb];exact e
end
section
variable{K:Fg}
def Jd(ol:kT O H)(nx:¬O x)(e1:H1 x=aA o1)(e2:H1 w=aA o2)(e3:H1 c=aA o3)(m1:Mb o1)(m2:Mb o2)(m3:Mb o3)(k:∀b o,H b=aA o->b≠x->H1 b=aA o):kT (Ox O x w c) H1:=λb z=>by
 rcases z with z|z|z|z
 .obtain⟨o,e,mb⟩:=ol b z;exact⟨o,k b o e λq=>nx<|q ▸ z,mb⟩
 .subst z;exact⟨o1,e1,m1⟩
 .subst z;exact⟨o2,e2,m2⟩
 .subst z;exact⟨o3,e3,m3⟩
def Ω{dd:D->Option D}(hN:N.length=3)(cl:f9 K C)(n6:fP K C "defs")(hdd:∀pd d,dd pd=aA d->∀m,fd' [.un,.v pd,.v<|.int m]=aA d)(h:IL K C dd vs H Q E):CZ (NS<|Jg (IM K C) [] E0<|mM (v6 0)<|mM (v6 2) Ag) (Ci K (v6 0) (lE K fd') "defs") { nx:=λ_ H'=>Q .aE H',rt:=Q } (L2.start N vs) H:=by
 obtain⟨O,x,dx,pd,pv,m,d,rfl,hx,ol,nx,ip,ed,q⟩:=h;have s0:(L2.start N [.ref x,pv,.int m])[0]?=aA (aA<|.ref x):=rfl;have s2:(L2.start N [.ref x,pv,.int m])[2]?=aA (aA<|.int m):=rfl;refine⟨.ref x,s0,.int m,s2,x,dx,m,rfl,hx,λw c H1 wc hw hc e1 e2 e3 k=>?_⟩;have ol0:kT (Ox O x x x) H:=Jd ol nx hx hx hx trivial trivial trivial λb o e _=>e
 have Hd:kT (Ox O x w c) H1:=Jd ol nx e1 e2 e3 trivial trivial trivial k;have ip1:Is K (Ox O x w c) H1 pd pv:=Is.mono (λb o e n=>k b o e λz=>n<|.inr<|.inl z) ol0 (λb z nn=>by
  rcases z with z|z|z|z
  .exact .inl z
  .exact .inr (.inl z)
  .exact absurd (z ▸ hw) nn
  .exact absurd (z ▸ hc) nn) _ _ ip
 have hs:L2.start N [.ref x,pv,.int m]=[aA<|.ref x,aA pv,aA<|.int m]:=by
  unfold L2.start;rw[hN];rfl
 have no:lH [.un,.v pd,.v<|.int m]:=dC rfl;have rr:R K (Ox O x w c) H1 [.un,.v pd,.v<|.int m] (L2.start N [.ref x,pv,.int m]):=by
  rw[hs];refine R.plain no rfl Hd λi d' e=>?_
  match i,e with
  |0,e=>cases e
  |1,e=>cases e;exact⟨pv,rfl,ip1⟩
  |2,e=>cases e;exact⟨.int m,rfl,by rw[zG]⟩
  |i+3,e=>simp at e
 refine⟨_,_,d,rr,hdd pd d ed m,λv H2 s iv=>?_⟩;rw[show Ow (Ox O x w c) [.un,.v pd,.v<|.int m] (L2.start N [.ref x,pv,.int m])=Ox O x w c from funext λb=>propext no.ow] at iv;refine⟨.ref x,s0,x,C,dx,_,rfl,s _ _ e1,cl,n6,by show 5<1000;decide,?_⟩;have xw:w≠x:=λz=>by rw[z,hx] at hw;cases hw
 have xc:c≠x:=λz=>by rw[z,hx] at hc;cases hc
 have kx:∀b o,H2 b=aA o->b≠x->upd H2 x (.ins C dx<|s_ m 0 w c .aE v) b=aA o:=λb o e hb=>by rw[zI hb];exact e
 refine q w c v _ wc hw hc zJ (kx _ _ (s _ _ e2) xw) (kx _ _ (s _ _ e3) xc) (λb o e hb=>kx _ _ (s _ _<|k b o e hb) hb) ?_ ?_
 .exact Jd ol nx zJ (kx _ _ (s _ _ e2) xw) (kx _ _ (s _ _ e3) xc) trivial trivial trivial λb o e hb=>kx _ _ (s _ _<|k b o e hb) hb
 .exact Is.mono (λb o e n=>kx b o e λz=>n<|.inr<|.inl z) (λb z=>by obtain⟨o,e,mb⟩:=Hd b z;exact⟨o,s _ _ e,mb⟩) (λ_ z _=>z) _ _ iv
end
noncomputable def IB:Option Sl->Bool
 |some .un=>true
 |_=>false
def ē(h:IB s=true):s=aA .un:=by
 unfold IB at h;split at h<;>first|rfl|cases h
def Gc(i:Nat)(fp fm:ME)(dd:D->Option D)(g:eQ):MS:=λr=>if Jy r=true/\IB r[i]?=true then (fp r).bind λpd=>(fm r).bind λmd=>match md with
 |.int m=>(dd pd).bind λd=>(g ⟨m,0,[],[],.aE,d⟩ r).bind λfl=>(match fl with
  |.rt d _ r'=>if Jy r'=true then aA (.rt d r') else aD
  |_=>aD)
 |_=>aD else aD
section
variable{dd:D->Option D}{qT:List Stmt}
def Ww(i:Nat)(M:Mk X.K C f)(F:eA X.prog X.w X.K X.mg X.base eJ k f fd ps (IL X.K C dd))(hr:eS (k+1) X.A)(hg:Gl X x)(hm:X.mg x=aA (.ref C))(hb:Binds X.K fd ps [])(ha:DE X a fp)(AV:DE X b fm)(qe3:sE X C i qT g)(hN:X.N.Nodup)(hi:X.N[i]?=aA nm:=by rfl)(hx:Loc X.env.scope nm:=by first|exact Or.inl rfl|exact Or.inr rfl)(hs:js (.Call (.Name x p) [a,b] [] p') (aA<|.Name nm pos') pos.line X.env=pure false:=by rfl)(hf:m_ X nm:=by first|exact .inl rfl|exact .inr rfl)(iK:iH x:=by decide)(he:ar [a,b] X.env=(false,eval a X.env)::ar [b] X.env:=by rfl)(he2:ar [b] X.env=(false,eval b X.env)::ar [] X.env:=by rfl)(hpl:(lm p'<|ar [b] X.env).any (·.1)=false:=by rfl):sV X (.Assign [.Name nm pos'] (.Call (.Name x p) [a,b] [] p') pos::qT) (Gc i fp fm dd g):=by
 refine iE.aM (j6 (oH hN hi hx (Ł (dvs:=[]) (E:=E0) M F hr hg hm hb .nil oN (yK ha (yK AV xH he2) he) iK he hpl) hs hf) qe3) λDn σ H hq=>?_
 obtain⟨O,r,fl,hR,e,q⟩:=hq;unfold Gc at e;split at e
 case isFalse=>cases e
 rename_i Fh;obtain⟨Fh,Hz⟩:=Fh;have Hz:=ē Hz;have no:=dC Fh;have ow:Ow O r σ=O:=funext λb=>propext no.ow
 obtain⟨pd,e1,e⟩:=aG e;obtain⟨md,e2,e⟩:=aG e;cases md<;>first|(cases e;done)|skip
 rename_i m;obtain⟨d,e3,e⟩:=aG e;obtain⟨HL,e4,e⟩:=aG e;cases HL with
 |nx aS r'=>cases e
 |rt d' aS r'=>
  dsimp only at e;split at e
  case isFalse=>cases e
  rename_i qe7;cases e;have sL:=dC qe7;refine⟨O,r,pd,hR,e1,λpv H1 s1 ip=>⟨O,r,.int m,hR.same s1,e2,λmv H2 s2 im=>?_⟩⟩;rw[ow] at ip im;rw[zG] at im;subst im;intro y dx ny ndx h_;have R2:=(hR.same s1).same s2;have s3:aH H2 (upd (upd H2 dx<|.own y) y<|.ins C dx []):=λb o e=>by
   rw[zI (λz=>by rw[z,ny] at e;cases e),zI (λz=>by rw[z,ndx] at e;cases e)];exact e
  have nOy:¬O y:=λz=>by obtain⟨o,e,_⟩:=R2.o0 y z;rw[ny] at e;cases e
  have ip3:Is X.K (Ox O y y y) (upd (upd H2 dx<|.own y) y<|.ins C dx []) pd pv:=Is.mono (O:=O) (H:=H2) (λb o e _=>s3 _ _ e) R2.o0 (λb z nn=>by
   rcases z with z|z|z|z
   .exact z
   all_goals exact absurd (z ▸ ny) nn) _ _<|Is.mono (O:=O) (λb o e _=>s2 _ _ e) (hR.same s1).o0 (λ_ z _=>z) _ _ ip
  refine⟨O,y,dx,pd,pv,m,d,rfl,zJ,λb z=>by obtain⟨o,e,mb⟩:=R2.o0 b z;exact⟨o,s3 _ _ e,mb⟩,nOy,ip3,e3,λw c vd H4 wc hw hc f1 f2 f3 k4 ol4 iv=>⟨rfl,?_⟩⟩;have sA:aH H H4:=λb o e=>k4 b o (s3 _ _<|s2 _ _<|s1 _ _ e) λz=>by have:=s2 _ _<|s1 _ _ e;rw[z,ny] at this;cases this
  have hyi:(σ.set i<|some<|.ref y)[i]?=aA (aA<|.ref y):=by
   have BY:i<σ.length:=by
    rw[<-hR.len];obtain⟨z,_⟩:=aq.mp Hz;exact z
   exact zN BY
  have R4:R X.K (Ox O y w c) H4 r (σ.set i<|some<|.ref y):=by
   refine R.plain no (by rw[xk];exact hR.len) ol4 λj d' e=>?_
   have hj:i≠j:=λz=>by rw[<-z,Hz] at e;cases e
   obtain⟨v,e5,q5⟩:=hR.lN no e;refine⟨v,by rw[jr hj];exact e5,Is.mono (O:=O) (H:=H) (λb o e _=>sA _ _ e) hR.o0 (λb z nn=>?_) _ _ q5⟩;rcases z with z|z|z|z
   .exact z
   .exact absurd (s1.free<|s2.free<|z ▸ ny) nn
   .exact absurd (s1.free<|s2.free<|s3.free<|z ▸ hw) nn
   .exact absurd (s1.free<|s2.free<|s3.free<|z ▸ hc) nn
  have ms:iL X.K (Ox O y w c) H4 C y w c ⟨m,0,[],[],.aE,d⟩:=⟨⟨dx,[],[],.aE,vd,f1,f2,f3,by rw[yQ],iv,.nil,.nil⟩,wc,.inr<|.inl rfl,.inr<|.inr<|.inl rfl,.inr<|.inr<|.inr rfl⟩;refine⟨Ox O y w c,y,w,c,_,r,_,⟨ms,R4,no,hyi⟩,e4,λv σ' H' m' Ld k'=>?_⟩;have sB:aH H H':=λb o e=>by
   have hb:=s2 _ _<|s1 _ _ e;have Fp:=s3 _ _ hb;refine k' b o (sA _ _ e) (λz=>?_) (λz=>?_) λz=>?_
   .rw[z,ny] at hb;cases hb
   .rw[z,hw] at Fp;cases Fp
   .rw[z,hc] at Fp;cases Fp
  have olB:kT O H':=λb z=>by obtain⟨o,e,mb⟩:=hR.o0 b z;exact⟨o,sB _ _ e,mb⟩
  have dn:∀{d:D} {v:V},Is X.K (Ox O y w c) H' d v->Is X.K O H' d v:=λiv=>Is.mono (λb o e _=>e) m'.ol (λ_ z _=>.inl z) _ _ iv
  refine q v σ' H' (R.plain sL m'.rr.len olB λj d' e=>?_) (Kp.plain sB no sL)<|dn Ld;obtain⟨u,e5,q5⟩:=m'.rr.lN sL e;exact⟨u,e5,dn q5⟩
end
section
variable{X:Cx}{C:Addr}{z:Nat}{a b e:Expr}{es:List Expr}{m:fY}{ms:Ab}{f g:ME}{x y:Str}{p pos apos aW:Pos}{k n:Nat}{fa:Addr}{fd:FuncData}{ps:List Str}{ER:List Stmt}
def fK.ows{O:Addr->Prop}{H:Hp}{a w c:Addr}{st:aF}{r:En}{σ:St}(mr:fK X.K O H C z a w c st r σ):Ow O r σ=O:=funext λb=>propext mr.no.ow
def OH{x1}(h:Bq X C z es ms):iF X C z (.Tuple es x1 pos) (λst r=>(ms st r).bind λp=>if p.1.length<=ae then aA (.tup p.1,p.2) else aD):=by
 refine PE.aM (OM h) λσ H Q hq=>?_
 obtain⟨O,a,w,c,st,r,d,aS,mr,e1,q⟩:=hq;obtain⟨⟨l,eV⟩,e2,e3⟩:=aG e1;dsimp only at e3;split at e3
 case isFalse=>cases e3
 rename_i hl;cases e3;refine⟨O,a,w,c,st,r,l,_,mr,e2,λvs H1 m1 il k1=>⟨by rw[<-il.length];exact hl,λt ht=>?_⟩⟩;have s2:=yD (o:=.tup vs) ht;refine q _ _ (m1.same s2) ?_<|k1.trans<|eN.same s2;rw[zR];exact⟨t,vs,rfl,d_.of zJ,il.same s2 m1.ol⟩
def NA(ha:iF X C z a m)(hb:DE X b g)(hs:cO b:=by intro _ _;rfl):iF X C z (.Subscript a b pos) (λst r=>(m st r).bind λp=>(g r).bind λk=>(aL p.1 k).map λd=>(d,p.2)):=by
 refine PE.aM (GK OA ha hb hs) λσ H Q hq=>?_
 obtain⟨O,a,w,c,st,r,d,aS,mr,e1,q⟩:=hq;obtain⟨⟨d1,eV⟩,e2,e3⟩:=aG e1;obtain⟨kd,e4,e5⟩:=aG e3;obtain⟨d2,e6,e7⟩:=aY e5;cases e7;refine⟨O,a,w,c,st,r,d1,eV,mr,e2,λv H1 m1 iv k1=>⟨O,r,kd,m1.rr,e4,λu H2 s2 iu=>?_⟩⟩;have m2:=m1.same s2;rw[m1.ows] at iu;exact NC O H2 _ _ _ _ _ _ m2.ol (iv.same s2 m1.ol) iu e6 λv' H3 s3 Ld=>q v' H3 (m2.same s3) Ld<|(k1.trans<|eN.same s2).trans<|eN.same s3
def Α{mf:MF}(F:eA X.prog X.w X.K X.mg X.base eJ k fa fd ps (iY X.K n mf))(hr:eS k X.A)(hg:Gl X x)(hm:X.mg x=aA (.ref fa))(hk:dw X.K (.ref fa)=true)(hb:Binds X.K fd ps [])(ha:Bq X C z (e::es) ms)(iK:iH x:=by decide)(he:i_ X e es:=by rfl)(hpl:JV X es pos:=by rfl):iF X C z (.Call (.Name x p) (e::es) [] pos) (λst r=>(ms st r).bind λp=>if p.1.length=n then (mf<|p.1.map .v).bind λq=>(match q.1 with | .v d=>aA (d,p.2)|_=>aD) else aD):=by
 refine PE.aM (gG (E:=λ_ _ _=>False) (dvs:=[]) F hr hg hm hk hb .nil oN ha iK he hpl) λσ H Q hq=>?_
 obtain⟨O,a,w,c,st,r,d,aS,mr,e1,q⟩:=hq;obtain⟨⟨ds,eV⟩,e2,e3⟩:=aG e1;dsimp only at e3;split at e3
 case isFalse=>cases e3
 rename_i hl;obtain⟨⟨rs,f_⟩,e4,e5⟩:=aG e3;cases rs<;>first|(cases e5;done)|skip
 cases e5;refine⟨O,a,w,c,st,r,ds,_,mr,e2,λvs H1 m1 il k1=>?_⟩;refine gB m1.rr (aH.refl H1) (by rw[m1.ows];exact il) hl e4 ?_;intro v H2 pf iv;rw[m1.ows] at iv;exact q v H2 (m1.same pf.same) iv<|k1.trans<|eN.same pf.same
noncomputable def X6(g:ME):fY:=λst r=>(g r).bind λkd=>(Cc kd).bind λk=>match st.defs with
 |.aI ks l=>(xS ks l k).map λd=>(d,st)
 |_=>aD
def PB(hu:X.A.units+1<cLine)(hv:PE X (.Name x aW) (v6 z))(cl:f9 X.K C)(na:fP X.K C "defs")(hk:DE X b g)(hs:F9 b:=by intro _ _;rfl)(hb:cn (.Name x aW) "defs" X.env (eval (.Name x aW) X.env)=eval (.Name x aW) X.env:=by rfl):iF X C z (.Subscript (.Attribute (.Name x aW) "defs" apos) b pos) (X6 g):=by
 refine PE.aM (PP hu (cY hv hb) hk hs) λσ H Q hq=>?_
 obtain⟨O,a,w,c,st,r,d,aS,mr,e1,q⟩:=hq;obtain⟨kd,e2,e3⟩:=aG e1;obtain⟨j,e4,e5⟩:=aG e3;obtain⟨dx,xs,ys,ve,vd,g1,g2,g3,g4,g5,g6,g7⟩:=mr.ms.ex;split at e5
 case h_2=>cases e5
 rename_i ks l ed;obtain⟨d',e6,e7⟩:=aY e5;cases e7;refine⟨.ref a,qV mr,a,C,dx,_,vd,rfl,g1,cl,na,rfl,O,r,kd,mr.rr,e2,λy H2 s2 iy=>?_⟩;have m2:=mr.same s2;have Ti:=g5.same s2 mr.ol;rw[ed,wW] at Ti;obtain⟨c',kvs,rfl,no,rd,rfl,il⟩:=Ti;rw[mr.ows] at iy;rcases bJ j il with⟨dd,v,p1,p2,p3⟩|⟨p1,p2⟩
 .rw[p1] at e6;cases e6;exact⟨c',v,rfl,.inl ⟨kvs,j,rd,gK e4 iy,p2.symm⟩,q v H2 m2 p3<|eN.same s2⟩
 .rw[p1] at e6;cases e6
end
section
variable{K:Fg}
def yY(F:eA P w K mg base eJ k f fd ps (fD K C n m))(i:∀st ds p,ds.length=n->m' st ds=aA p->m st ds=aA p):eA P w K mg base eJ k f fd ps (fD K C n m'):=F.imp λvs H Q E h=>by
 obtain⟨O,a,w,c,st,ds,us,d,aS,e1,e2,e3,e4,e5,e6,q⟩:=h;exact⟨O,a,w,c,st,ds,us,d,aS,e1,e2,e3,e4,e5,i _ _ _ e2 e6,q⟩
end
namespace RP
end RP
noncomputable def WL(i:Nat)(f:ME):MS:=λr=>match r[i]? with
 |some (.v<|.int a)=>(f r).bind λd=>match d with
  |.int b=>(yI i (.int<|a+b) r).map .nx
  |_=>aD
 |_=>aD
def ą(i:Nat)(he:DE X e f)(hN:X.N.Nodup)(hi:X.N[i]?=aA x:=by rfl)(hx:Loc X.env.scope x:=by first|exact Or.inl rfl|exact Or.inr rfl)(hf:m_ X x:=by first|exact .inl rfl|exact .inr rfl):DS X (.AugAssign (.Name x pos') .Add e pos) (WL i f):=by
 refine PS.aM (Ò hN hi hx he Yg hf) λDn σ H hq=>?_
 obtain⟨O0,r,Ao,hR,e,q⟩:=hq;unfold WL at e;split at e
 case h_2=>cases e
 rename_i a er;obtain⟨d,e1,e2⟩:=aG e;cases d<;>first|(cases e2;done)|skip
 rename_i b;obtain⟨r',e4,rfl⟩:=aY e2;obtain⟨hl,np,rfl⟩:=jQ e4;obtain⟨v,es,iv⟩:=hR.val i _ er;rw[zG] at iv;subst iv;refine⟨.int a,es,O0,r,.int b,hR,e1,λu H1 s1 iu=>?_⟩;rw[zG] at iu;subst iu;refine⟨a,b,rfl,rfl,?_⟩;obtain⟨R1,k1⟩:=(hR.same s1).Co (d:=.int<|a+b) (v:=.int<|a+b) hl np (by rw[zG]);exact q _ H1 R1<|(Kp.of_same r σ s1).trans k1
def sx0(h:0<n):seqIndex? 0 n=aA 0:=by
 have hb:(decide ((0:Int)<=(if (0:Int)<0 then (0:Int)+n else 0)) && decide ((if (0:Int)<0 then (0:Int)+n else 0)<(n:Int)))=true:=by
  rw[if_neg<|by decide];simp only[dl,decide_eq_true_eq];omega
 show(if (decide ((0:Int)<=(if (0:Int)<0 then (0:Int)+n else 0)) && decide ((if (0:Int)<0 then (0:Int)+n else 0)<(n:Int)))=true then aA (if (0:Int)<0 then (0:Int)+n else 0).toNat else aD)=aA 0;rw[if_pos hb,if_neg<|by decide];rfl
def EJ(i:Nat):En->Option (D×En):=λr=>(AF r i).bind λl=>(l[0]?).bind λd=>(o_ i l.tail r).map λr'=>(d,r')
def û(i:Nat)(h:PE X (.Name x pn) (v6 i))(fO:cn (.Name x pn) "pop" X.env (eval (.Name x pn) X.env)=eval (.Name x pn) X.env:=by rfl)(fN:l7 apos eO:=by rfl)(iU:Ay X [.Constant (.int 0) j Hq] eO:=by rfl)(hs:ar [.Constant (.int 0) j Hq] X.env=(false,eval (.Constant (.int 0) j Hq) X.env)::ar [] X.env:=by rfl):DX X (.Call (.Attribute (.Name x pn) "pop" apos) [.Constant (.int 0) j Hq] [] eO) (EJ i):=by
 refine PE.aM (WV et mw mq Γ h (yK oM xH hs) fO iU fN hs) λσ H Q hq=>?_
 obtain⟨O0,r,d',r',hR,e,q⟩:=hq;obtain⟨l,e2,e⟩:=aG e;obtain⟨d,e1,e⟩:=aG e;obtain⟨r2,e3,e4⟩:=aY e;have e5:d=d':=congrArg wm e4;have e6:r2=r':=congrArg wl e4;subst e5 e6;obtain⟨a,xs,q1,q2,q3⟩:=QE hR e2;obtain⟨v,ev,iv⟩:=q3.get e1;have hlen:0<xs.length:=by
  obtain⟨z,_⟩:=aq.mp ev;exact z
 have il:IsL X.K (Ow O0 r σ) H l.tail xs.tail:=by
  rw[<-List.drop_one,<-List.drop_one];exact q3.drop 1
 obtain⟨R2,k2⟩:=hR.upd (xs':=xs.tail) e3 q1 q2 il;refine⟨.ref a,q1,.inl ⟨rfl,xs,aX.of q2⟩,a,xs,0,0,v,rfl,rfl,q2,by decide,by decide,sx0 hlen,ev,?_⟩;rw[List.eraseIdx_zero];refine q _ _ R2 k2 ?_;have Ak:Ow O0 r σ a:=by
  obtain⟨y,z1,z2⟩:=aG e2;exact .inr ⟨i,l,by rw[z1];exact mI (GH z2).1,q1⟩
 have Cq:∀b,Ow O0 r2 σ b->H b≠aD->Ow O0 r σ b:=λb z n=>z.imp id λz=>(k2.new b z).elim id λz=>absurd z n
 exact Is.mono (λb o e1 n=>by rw[zI λz=>n (by subst z;exact Ak)];exact e1) hR.ol Cq _ _ iv
section
variable{K:Fg}
def ϝ(F:eA P w K mg base eJ k f fd ps (iY K n m))(i:∀as p,as.length=n->m' as=aA p->m as=aA p):eA P w K mg base eJ k f fd ps (iY K n m'):=F.imp λvs H Q E h=>by
 obtain⟨O0,as,rs,f_,e1,e2,e3,e4,e5⟩:=h;exact⟨O0,as,rs,f_,e1,e2,e3,i _ _ e1 e4,e5⟩
end
noncomputable abbrev yE(f:ME):fY:=λst r=>(f r).map λd=>(d,st)
noncomputable abbrev sG(sel:aF->D):fY:=λst _=>aA (sel st,st)
abbrev EA(f:ME):fY:=λst r=>(f r).bind λd=>if st.wait.length<ae then aA (.aE,AG st d) else aD
abbrev NU(f:ME):fY:=λst r=>(f r).bind λd=>if st.fB.length<ae then aA (.aE,Cg st d) else aD
noncomputable abbrev GP:fY:=λst _=>st.wait.getLast?.map λd=>(d,{ st with wait:=st.wait.dropLast })
noncomputable abbrev N7:fY:=λst _=>st.fB.getLast?.map λd=>(d,{ st with fB:=st.fB.dropLast })
noncomputable abbrev hE(mm:aF->List D->Option (D×aF)):fY:=λst _=>mm st []
abbrev Pg(fs:ML):Ab:=λst r=>(fs r).map λl=>(l,st)
noncomputable abbrev Gh(ms:Ab):fY:=λst r=>(ms st r).bind λp=>if p.1.length<=ae then aA (.tup p.1,p.2) else aD
abbrev Ko(m:fY)(g:ME):fY:=λst r=>(m st r).bind λp=>(g r).bind λk=>(aL p.1 k).map λd=>(d,p.2)
noncomputable abbrev Pf(n:Nat)(mf:MF)(ms:Ab):fY:=λst r=>(ms st r).bind λp=>if p.1.length=n then (mf<|p.1.map .v).bind λq=>(match q.1 with | .v d=>aA (d,p.2)|_=>aD) else aD
abbrev wP(b:MB):Aa:=λst r=>(b r).map λz=>(z,st)
noncomputable abbrev Kn:Aa:=λst _=>aA (decide (st.most<=st.steps),st)
noncomputable abbrev GV(m:fY):Aa:=λst r=>(m st r).bind λp=>match p.1 with | .bl b=>aA (b,p.2)|_=>aD
noncomputable abbrev GQ:Aa:=λst _=>aA (!st.wait.isEmpty,st)
abbrev Cj(m:fY):Aa:=λst r=>(m st r).map λp=>(lY p.1,p.2)
noncomputable abbrev Gi(t t':Aa):Aa:=λst r=>(t st r).bind λp=>if p.1=true then t' p.2 r else aA (false,p.2)
noncomputable abbrev N6:eQ:=λst r=>aA<|.nx { st with steps:=st.steps+1 } r
def ŋ(S:KdlSrc prog w T r d n P OK)(hh:A.handled=aD)(ok:OK s.heap)(hn:n<64)(h:∀(h':Heap) (tk:Nat) (acc:Array Value),(∀b o,s.heap.get? b=aA o->h'.get? b=aA o)->ItemsOf P acc n->∃ss:List Str,StrsAre acc.toList ss/\∀(out:Array Value) (AL:List Str),StrsAre out.toList AL->AL.Perm ss->sortedS AL=true ->
   Q (.ref h'.objs.size) { s with heap:=sortedHeap (h'.push<|seqObj "list" acc 0) h'.objs.size acc.toList out,toks:=tk }):wpAny (model prog w) A (call (.builtin "sorted") [.ref r]) Q E s:=by
 refine Calls.call_function_entry (kind_sorted) plain_sorted entry_sorted (args_sorted1 _) ?_;unfold Builtin.«sorted»;refine ac (m:=checkCount "sorted" 1 1 _)<|af<|ac<|kdu_collect S hh ok (cg (lu hn)<|by decide) λh' tk acc hk Fq=>?_;obtain⟨ss,hS,q⟩:=h h' tk acc hk Fq;have DP:(h'.push<|seqObj "list" acc.toList.toArray 0).get? h'.objs.size=aA (seqObj "list" acc.toList.toArray 0):=ay _ rfl;have hl:acc.toList.length<64:=by
  have:=Fq.1
  rw[gy];omega
 refine ac<|wpAny_newList ?_ (hsz:=cg (lu hl)<|by decide);refine ac<|fi<|fu slot_list_sort ⟨_,DP,rfl⟩ entry_list_sort (list_sort_treeK (κ:=PyProof.Rows.strKind) strKind_oneLt DP hS.keysOf (λv₁ v₂ qT e=>?kk) hl λaS p1 p2=>⟨_,rfl,?_⟩)<|args_list_sort _
 case kk=>
  rw[e] at hS;exact keyKind_strs hS
 obtain⟨AL,o1,o2,o3⟩:=sorted_out_str hS p1 p2
 have:=q _ AL o1 o2 o3
 exact af ⟨_,rfl,by simpa using this⟩
noncomputable def ZT:List Key->Option (List<|List Nat)
 |[]=>aA []
 |.inr s::ks=>(ZT ks).map (s.cps.toList::·)
 |.inl _::_=>aD
theorem ZP:∀{kvs:List (Key×V)} {ss:List (List Nat)},ZT (kvs.map (·.1))=aA ss->(kvs.map λkv=>kV kv.1)=ss.map λs=>V.str ⟨s.toArray⟩
 |[],ss,e=>by cases e;rfl
 |(.inl i,v)::kvs,ss,e=>by cases e
 |(.inr s,v)::kvs,ss,e=>by
  obtain⟨t,e1,rfl⟩:=aY (show(ZT<|kvs.map (·.1)).map (s.cps.toList::·)=aA ss from e);have ih:=ZP e1;rw[au,au,ih];show V.str s::_=V.str ⟨s.cps.toList.toArray⟩::_;rw[uz]
def JF(hc:X.calm=true):iW X (.builtin "sorted") (λxs H Q=>∃p kvs ss,xs=[.ref p]/\Rd H p (.dK kvs)/\ZT (kvs.map (·.1))=aA ss/\ss.length<64/\∀l,H l=aD->Q (.ref l) (upd H l<|.lst<|(kS ss).map λs=>V.str ⟨s.toArray⟩)):=by
 intro pZ s σ H xs us Q I r h;obtain⟨p,kvs,ss,rfl,e,ek,hl,q⟩:=h;obtain⟨u,rfl,rx⟩:=J5 r;cases rx;obtain⟨z,hd,vs,rel,dd⟩:=XA I.aT e;obtain⟨ep,da⟩:=dd.dictAt;have hlen:=KV.length rel;have qf1:=KV.keys rel;have S9:=ZP ek;have hlk:kvs.length=ss.length:=by have:=congrArg jg S9;simpa using this
 refine ŋ (kdl_dict (knd:=yS X.prog X.w) (kvs:=vs) (ep:=ep) hd) (I.ok.hd hc) da (by rw[<-hlen,hlk];exact hl) λh' tk acc hk Fq=>⟨ss.map λs=>(⟨s.toArray⟩:Str),?_,λout AL h1 h2 h3=>?_⟩
 .have vv:Vals (kvs.map λkv=>kV kv.1) acc.toList:=by
   refine J2 (by rw[ag,hlen,<-Fq.1];simp) λj u eu=>?_
   obtain⟨k,x,ev,is⟩:=Fq.2 j u (by rw[<-jo];exact eu);refine⟨kV k,?_,Xd is⟩;have e1:(kvs.map (·.1))[j]?=aA k:=by rw[qf1,bw,ev];rfl
   rw[bw] at e1 ⊢;cases e2:kvs[j]? with
   |none=>rw[e2] at e1;cases e1
   |some kv=>rw[e2] at e1;cases e1;rfl
  rw[S9] at vv;exact uH vv
 .have hp:(AL.map λs=>s.cps.toList).Perm ss:=by
   have:=h2.map λs:Str=>s.cps.toList
   simpa [jx,rn] using this
  have he:=ZV hp<|rX AL h3;have v1:=uG h1;rw[he] at v1;have DP:(h'.push<|seqObj "list" acc 0).get? h'.objs.size=aA (seqObj "list" acc 0):=ay _ rfl;obtain⟨e2,hh⟩:=sortedHeap_at (vs:=acc.toList) (out:=out) DP;have old:∀b o,h'.get? b=aA o->(sortedHeap (h'.push<|seqObj "list" acc 0) h'.objs.size acc.toList out).get? b=aA o:=λb o e3=>by
   have lb:=al e3;rw[sortedHeap_old (bf lb) (by rw[size_push'];exact Nat.lt_succ_of_lt lb)];exact ad _ e3
  have I1:Inv X pZ σ H { s with heap:=h',toks:=tk }:=I.kept hk;exact⟨.ref h'.objs.size,_,I1.laid (t':=tk) old (ah _) (show fS X.prog X.w _ _ _ (.lst<|(kS ss).map λs=>V.str ⟨s.toArray⟩) from⟨by rw[ag,qL];exact cg (lu hl)<|by decide,out.toList,e2,v1,by rw[uz];exact hh⟩),rfl,q _<|I1.aT.fresh<|ah _⟩
def cH(fd:MD):ML:=λr=>(fd r).bind λq=>(ZT q.1).bind λss=>if ss.length<64 then aA ((kS ss).map .str) else aD
def ë(hc:X.calm=true)(hg:Gl X "sorted")(hm:X.mg "sorted" = aD)(ha:Ca X a fd)(hs:ar [a] X.env=(false,eval a X.env)::ar [] X.env:=by rfl):DF X (.Call (.Name "sorted" p') [a] [] pos) (cH fd):=by
 refine PE.aM (kX (JF hc) hg hm PyProof.Rows.boot_sorted (yK ha xH hs) (he:=hs)) λσ H Q hq=>?_
 obtain⟨O0,r,d,hR,e,q⟩:=hq;obtain⟨⟨ks,l⟩,e1,e⟩:=aG e;obtain⟨ss,e2,e⟩:=aG e;split at e
 .rename_i hz;cases e;refine⟨O0,r,ks,l,hR,e1,λc kvs H1 s1 rd ek il=>⟨c,kvs,ss,rfl,rd,by rw[ek];exact e2,hz,λt ht=>q t _ _ (s1.trans<|yD ht) (s1.free ht) zJ<|YV _⟩⟩
 .cases e
end DD
namespace ZZ
open PySem
def ũ(h:s.heap.get? a=o)(q:Q o s):wpAny (model prog w) A (loadIfAlive a) Q E s:=by
 unfold loadIfAlive;unfold wpAny at *
 intros
 rw[Sem.wp_loadIfAlive,h];exact q
abbrev u8(h:Heap)(z a b T:Addr)(f:Bool):Prop:=h.get? z=aA { cls:=Value.type "zip",data:=Data.fields #[rawInt T,.bool f,.bool false,.ref a,.ref b] }
def YD(hz:u8 s.heap z a b T f)(hT:s.heap.get? T=aA o)(q:∀g,u8 g z a b T true->gm z s.heap g->Q false { s with heap:=g }):wpAny (model prog w) A (cy<|.ref z) Q E s:=by
 unfold cy;refine ac<|cu hz rfl (x:=rawInt T) rfl ?_;show wpAny _ _ (loadIfAlive (T:Int).toNat >>= _) _ _ _;rw[qc];refine ac<|ũ hT ?_;simp only[Option.isNone_some,cf,if_false];refine ac<|cu hz rfl (x:=.bool f) rfl ?_;cases f
 .show wpAny _ _ (setField (.ref z) 1 (Value.bool true) >>= _) _ _ _;refine ac<|kg hz (by simp) λg z1 t1=>?_;exact af<|q g z1 t1
 .show wpAny _ _ (pure false) _ _ _;exact af<|q s.heap hz<|wp _ _
section
variable{R:Nat->Value->Prop}
def Ø{Q:Value->Shared->Prop}(D:Draws prog w A i f n P S)(C:Draws prog w A j g m R U)(ap:Ap z a b i j f g)(hz:u8 s.heap z a b T fl)(hT:s.heap.get? T=aA oT)(ha:IsPair s.heap a (.ref i) (.ref j))(hS:S k s.heap)(hU:U k s.heap)(hn:k<n)(hm:k<m)(h:∀x y g' tk,P k x->R k y->u8 g' z a b T true->S (k+1) g'->U (k+1) g'->IsPair g' s.heap.objs.size x y->g'.objs.size=s.heap.objs.size+1 ->
   (∀c o,c≠z->c≠i->c≠j->s.heap.get? c=aA o->g'.get? c=aA o)->Q (.ref s.heap.objs.size) { s with heap:=g',toks:=tk }):wpAny (model prog w) A (Builtin.«zip.__next__» ⟨[.ref z],[]⟩) (λr s'=>∃y,r=.done (.ret y)/\Q y s') E s:=by
 show wpAny _ _ (field (.ref z) 2 >>= _) _ _ _;refine ac<|cu hz rfl (x:=.bool false) rfl ?_;show wpAny _ _ (field (.ref z) 3 >>= _) _ _ _;refine ac<|cu hz rfl (x:=.ref a) rfl<|ac<|gn ha rfl ?_;show wpAny _ _ (cy (.ref z) >>= _) _ _ _;refine ac<|YD hz hT λg1 z1 t1=>?_;simp only[cf,if_false];have iT:∀{c:Addr} {o:Obj},c≠z->s.heap.get? c=aA o->g1.get? c=aA o:=λn e=>t1.extBut _ _ n e
 refine ac ?_;simp only[<-Array.forIn_toList,qr,uw];refine ac<|ac<|fi ?_;show wpAny _ _ (cr (.ref i) >>= _) _ _ _;refine ac<|D.item k _ _ _ hn (D.frame _ _ _ hS λc hc o e=>iT (λw'=>ap.fz<|w' ▸ hc) e) λx g2 Ai Px S2 t2=>af ?_;refine af ?_;refine ac<|ac<|fi ?_;show wpAny _ _ (cr (.ref j) >>= _) _ _ _;have U2:U k g2:=C.frame _ _ _ hU λc hc o e=>t2.extBut _ _ (λw'=>ap.gi<|w' ▸ hc)<|iT (λw'=>ap.gz<|w' ▸ hc) e
 refine ac<|C.item k _ _ _ hm U2 λy g3 tk3 Ry U3 t3=>af ?_;refine af<|af ?_;have sz:g3.objs.size=s.heap.objs.size:=by rw[t3.1,t2.1,t1.1]
 refine ac<|wpAny_newTuple ?_ (hsz:=by show 2<=ae;decide);refine af ⟨_,rfl,?_⟩;show Q (.ref g3.objs.size) _;rw[sz];have z3:u8 g3 z a b T true:=t3.extBut _ _ ap.jz.symm<|t2.extBut _ _ ap.iz.symm z1;have S3:S (k+1) g3:=D.frame _ _ _ S2 λc hc o e=>t3.extBut _ _ (λw'=>ap.fj<|w' ▸ hc) e
 have up:∀c o,g3.get? c=aA o->(g3.push<|Obj.mk (.type "tuple") aD (.seq #[x,y] 0) #[]).get? c=aA o:=λc o e=>ad _ e
 refine h x y _ _ Px Ry (up _ _ z3) (D.frame _ _ _ S3 λc _ o e=>up c o e) (C.frame _ _ _ U3 λc _ o e=>up c o e) ?_ ?_ λc o c1 c2 c3 e=>up c o<|t3.extBut _ _ c3<|t2.extBut _ _ c2<|iT c1 e
 .rw[<-sz];exact ay _ rfl
 .rw[kh,sz]
def V0(D:Draws prog w A i f n P S)(C:Draws prog w A j g m R U)(ap:Ap z a b i j f g)(hz:u8 s.heap z a b T fl)(hT:s.heap.get? T=aA oT)(ha:IsPair s.heap a (.ref i) (.ref j))(hS:S k s.heap)(hU:U k s.heap)(hk:(k=n)\/(k<n/\k=m))(h:∀g' e,(∀c o,c≠z->c≠i->c≠j->s.heap.get? c=aA o->g'.get? c=aA o)->(∃o,g'.get? e=aA o/\o.cls=.type "StopIteration")->∀tk,E (.ref e) { s with heap:=g',toks:=tk }):wpAny (model prog w) A (se.«zip.__next__» ⟨[.ref z],[]⟩) Q E s:=by
 show wpAny _ _ (field (.ref z) 2 >>= _) _ _ _;refine ac<|cu hz rfl (x:=.bool false) rfl ?_;show wpAny _ _ (field (.ref z) 3 >>= _) _ _ _;refine ac<|cu hz rfl (x:=.ref a) rfl<|ac<|gn ha rfl ?_;show wpAny _ _ (cy (.ref z) >>= _) _ _ _;refine ac<|YD hz hT λg1 z1 t1=>?_;simp only[cf,if_false];have iT:∀{c:Addr} {o:Obj},c≠z->s.heap.get? c=aA o->g1.get? c=aA o:=λn e=>t1.extBut _ _ n e
 refine ac ?_;simp only[<-Array.forIn_toList,qr,uw];refine ac<|ac<|fi ?_;show wpAny _ _ (cr (.ref i) >>= _) _ _ _;have S1:S k g1:=D.frame _ _ _ hS λc hc o e=>iT (λw'=>ap.fz<|w' ▸ hc) e
 rcases hk with hk|⟨hn,hk⟩
 .subst hk;exact ac<|D.done _ _ _ S1 λg2 e t2 he=>h g2 e (λc o c1 c2 c3 x=>t2 _ _ c2<|iT c1 x) he _
 .subst hk;refine ac<|D.item k _ _ _ hn S1 λx g2 Ai Px S2 t2=>af ?_;refine af ?_;refine ac<|ac<|fi ?_;show wpAny _ _ (cr (.ref j) >>= _) _ _ _;have U2:U k g2:=C.frame _ _ _ hU λc hc o e=>t2.extBut _ _ (λw'=>ap.gi<|w' ▸ hc)<|iT (λw'=>ap.gz<|w' ▸ hc) e
  exact ac<|C.done _ _ _ U2 λg3 e t3 he=>h g3 e (λc o c1 c2 c3 x=>t3 _ _ c3<|t2.extBut _ _ c2<|iT c1 x) he _
end
section
variable{R:Nat->Value->Prop}
def Ţ(D:Draws prog w A.in1 i f n P S)(C:Draws prog w A.in1 j g m R U)(ap:Ap z a b i j f g)(hz:u8 s.heap z a b T fl)(hT:s.heap.get? T=aA oT)(ha:IsPair s.heap a (.ref i) (.ref j))(hS:S k s.heap)(hU:U k s.heap)(hn:k<n)(hm:k<m)(h:∀x y g' tk,P k x->R k y->u8 g' z a b T true->S (k+1) g'->U (k+1) g'->IsPair g' s.heap.objs.size x y->g'.objs.size=s.heap.objs.size+1 ->
   (∀c o,c≠z->c≠i->c≠j->s.heap.get? c=aA o->g'.get? c=aA o)->Q (aA<|.ref s.heap.objs.size) { s with heap:=g',toks:=tk }):wpAny (model prog w) A (pyNext<|.ref z) Q E s:=by
 have l4:s.TypeIs (.ref z) "zip" := ⟨_,hz,rfl⟩;unfold pyNext;refine ac<|nk<|ee (name:=ia "__next__") l4 ko<|fu ko l4 tm ?_<|rp _;refine jp (Ø (Q:=λv s'=>Q (aA v) s') D C ap hz hT ha hS hU hn hm h) (λfin s' hq=>?_) λ_ _ x=>x
 obtain⟨v,e,hq⟩:=hq;exact⟨v,e,af hq⟩
def š(D:Draws prog w A.in1 i f n P S)(C:Draws prog w A.in1 j g m R U)(ap:Ap z a b i j f g)(hz:u8 s.heap z a b T fl)(hT:s.heap.get? T=aA oT)(ha:IsPair s.heap a (.ref i) (.ref j))(hS:S k s.heap)(hU:U k s.heap)(hk:(k=n)\/(k<n/\k=m))(h:∀g' tk,(∀c o,c≠z->c≠i->c≠j->s.heap.get? c=aA o->g'.get? c=aA o)->Q aD { s with heap:=g',toks:=tk }):wpAny (model prog w) A (pyNext<|.ref z) Q E s:=by
 have l4:s.TypeIs (.ref z) "zip" := ⟨_,hz,rfl⟩;unfold pyNext;refine ac<|nk<|ee (name:=ia "__next__") l4 ko<|fu ko l4 tm (V0 D C ap hz hT ha hS hU hk λg' e kp he tk=>?_)<|rp _;obtain⟨o,ho,hc⟩:=he;refine ac<|sn (T:="StopIteration") (b:=true) ⟨o,ho,hc⟩ xq ?_;exact af<|h _ _ kp
structure ZS(z a b i j L:Addr)(S U:Nat->Heap->Prop)(k:Nat)(h:Heap):Prop where
 pr:IsPair h a (.ref i) (.ref j)
 s:S k h
 u:U k h
 bl:∃o,h.get? b=aA o
 st:(IsZip h z a b .none/\∃p q,IsPair h b p q)\/∃T f o,u8 h z a b T f/\h.get? T=aA o/\T≠z/\T≠i/\T≠j/\T≠L
def ZS.mono(D:Draws prog w A i f n P S)(C:Draws prog w A j g m R U)(ap:Ap z a b i j f g)(x:ZS z a b i j L S U k h)(hf:L∉f)(hg:L∉g)(ha:a≠L)(hb:b≠L)(hz:z≠L)(kp:∀c o,c≠L->h.get? c=aA o->h'.get? c=aA o):ZS z a b i j L S U k h':=by
 refine⟨kp _ _ ha x.pr,D.frame _ _ _ x.s λc hc o e=>kp c o (λq=>hf<|q ▸ hc) e,C.frame _ _ _ x.u λc hc o e=>kp c o (λq=>hg<|q ▸ hc) e,by obtain⟨o,e⟩:=x.bl;exact⟨o,kp _ _ hb e⟩,?_⟩;rcases x.st with⟨h1,p,q,h2⟩|⟨T,fl,o,h1,h2,h3,h4,h5,h6⟩
 .exact .inl ⟨kp _ _ hz h1,p,q,kp _ _ hb h2⟩
 .exact .inr ⟨T,fl,o,kp _ _ hz h1,kp _ _ h6 h2,h3,h4,h5,h6⟩
def ţ(D:Draws prog w A.in1 i f n P S)(C:Draws prog w A.in1 j g m R U)(ap:Ap z a b i j f g)(x:ZS z a b i j L S U k s.heap)(hL:L<s.heap.objs.size)(hn:k<n)(hm:k<m)(h:∀x y g' tk,P k x->R k y->ZS z a b i j L S U (k+1) g'->IsPair g' s.heap.objs.size x y->(∀c o,c≠z->c≠b->c≠i->c≠j->s.heap.get? c=aA o->g'.get? c=aA o)->Q (aA<|.ref s.heap.objs.size) { s with heap:=g',toks:=tk }):wpAny (model prog w) A (pyNext<|.ref z) Q E s:=by
 have li:i<s.heap.objs.size:=by obtain⟨o,e⟩:=D.live _ _ x.s;exact al e
 have lj:j<s.heap.objs.size:=by obtain⟨o,e⟩:=C.live _ _ x.u;exact al e
 rcases x.st with⟨h1,p,q,h2⟩|⟨T,fl,o,h1,h2,h3,h4,h5,h6⟩
 .have lz:z<s.heap.objs.size:=al h1;refine Nl D C ap h1 x.pr h2 x.s x.u hn hm λx' y' g' tk px ry z1 b1 s1 u1 p1 sz kp=>?_
  refine h x' y' g' tk px ry ⟨kp _ _ ap.az ap.ab ap.ai ap.aj x.pr,s1,u1,⟨_,b1⟩,.inr ⟨s.heap.objs.size,false,_,z1,p1,?_,?_,?_,?_⟩⟩ p1 kp
  .exact ib lz
  .exact ib li
  .exact ib lj
  .exact ib hL
 .refine Ţ D C ap h1 h2 x.pr x.s x.u hn hm λx' y' g' tk px ry z1 s1 u1 p1 sz kp=>?_
  exact h x' y' g' tk px ry ⟨kp _ _ ap.az ap.ai ap.aj x.pr,s1,u1,by obtain⟨o,e⟩:=x.bl;exact⟨o,kp _ _ ap.bz ap.bi ap.bj e⟩,.inr ⟨T,true,o,z1,kp _ _ h3 h4 h5 h2,h3,h4,h5,h6⟩⟩ p1 λc o c1 c2 c3 c4 e=>kp c o c1 c3 c4 e
def Ù(D:Draws prog w A.in1 i f n P S)(C:Draws prog w A.in1 j g m R U)(ap:Ap z a b i j f g)(x:ZS z a b i j L S U k s.heap)(hk:(k=n)\/(k<n/\k=m))(h:∀g' tk,(∀c o,c≠z->c≠b->c≠i->c≠j->s.heap.get? c=aA o->g'.get? c=aA o)->Q aD { s with heap:=g',toks:=tk }):wpAny (model prog w) A (pyNext<|.ref z) Q E s:=by
 rcases x.st with⟨h1,p,q,h2⟩|⟨T,fl,o,h1,h2,h3,h4,h5,h6⟩
 .exact Nm D C ap h1 x.pr h2 x.s x.u hk h
 .exact š D C ap h1 h2 x.pr x.s x.u hk λg' tk kp=>h g' tk λc o c1 c2 c3 c4 e=>kp c o c1 c3 c4 e
noncomputable abbrev lO(acc:Array Value)(c:Nat):Obj:={ cls:=.type "list",data:=.seq acc c }
structure Got(h:Heap)(lo z b i j L:Addr)(P R:Nat->Value->Prop)(acc:Array Value)(k:Nat):Prop where
 sz:acc.size=k
 at_:∀t v,acc[t]?=aA v->∃T x y,v=.ref T/\IsPair h T x y/\P t x/\R t y/\T≠z/\T≠b/\T≠i/\T≠j/\L<T
 inj:∀(t t':Nat) v,acc[t]?=aA v->acc[t']?=aA v->t=t'
theorem N_{L:Addr}{res:Value}{Rr:Result->Shared->Prop}{s0:Shared}(D:Draws prog w A.in1.in1 i f n P S)(C:Draws prog w A.in1.in1 j g m R U)(ap:Ap z a b i j f g)(hf:L∉f)(hg:L∉g)(Ft:a≠L)(CI:b≠L)(BU:z≠L)(Fm:i≠L)(Fk:j≠L)(sO:n=m)(hsz:n<ae)(fin:∀h' tk acc c,(∀d o,d≠z->d≠b->d≠i->d≠j->d≠L->s0.heap.get? d=aA o->h'.get? d=aA o)->h'.get? L=aA (lO acc c)->Got h' 0 z b i j L P R acc n->Rr (.ok<|.ret res) { s0 with heap:=h',toks:=tk }):∀(r k:Nat) (h:Heap) (tk:Nat) (acc:Array Value) (c:Nat),k+r=n->ZS z a b i j L S U k h->h.get? L=aA (lO acc c)->Got h 0 z b i j L P R acc k->(∀d o,d≠z->d≠b->d≠i->d≠j->d≠L->s0.heap.get? d=aA o->h.get? d=aA o) ->
   codeAny (model prog w) A (Code.builtin "list.extend.loop" { pos:=[.ref L,.ref z,res] }) Rr { s0 with heap:=h,toks:=tk }
 |0,k,h,tk,acc,c,hk,zs,hL,An,kp=>by
  refine jl abd ?_;rw[gc qu _];show wpAny _ A.in1 (pyNext (.ref z) >>= _) _ _ _;refine ac<|Ù D C ap zs (.inl<|by omega) λg' C_ iZ=>af ?_;have kk:k=n:=by omega
  subst kk;refine fin g' C_ acc c (λd o d1 d2 d3 d4 d5 e=>iZ d o d1 d2 d3 d4<|kp d o d1 d2 d3 d4 d5 e) (iZ _ _ BU.symm CI.symm Fm.symm Fk.symm hL) ⟨An.sz,λt v e=>?_,An.inj⟩;obtain⟨T,x,y,e1,e2,e3,e4,n1,n2,n3,n4,n5⟩:=An.at_ t v e;exact⟨T,x,y,e1,iZ _ _ n1 n2 n3 n4 e2,e3,e4,n1,n2,n3,n4,n5⟩
 |r+1,k,h,tk,acc,c,hk,zs,hL,An,kp=>by
  refine jl abd ?_;rw[gc qu _];show wpAny _ A.in1 (pyNext (.ref z) >>= _) _ _ _;have lL:L<h.objs.size:=al hL;refine ac<|ţ (s:={ s0 with heap:=h,toks:=tk }) D C ap zs lL (by omega) (by omega) λx y g' C_ px ry U1 pp iZ=>?_;have Tf:g'.get? L=aA (lO acc c):=iZ _ _ BU.symm CI.symm Fm.symm Fk.symm hL;show wpAny _ A.in1 (updateSeq L (λxs=>xs.push<|.ref h.objs.size) >>= _) _ _ _;refine ac<|kl Tf rfl (hz:=by rw[An.sz];omega) (_hz':=by rw[Array.size_push,An.sz];omega) ?_;have LN:=ir (lq λxs=>xs.push<|.ref h.objs.size) Tf rfl;have lZ:∀d o,d≠L->g'.get? d=aA o->(g'.update L<|lq λxs=>xs.push<|.ref h.objs.size).get? d=aA o:=λd o hd e=>(gj _ _<|ki hd).trans e
  refine af ⟨jy qu _,?_⟩;have lz:z<h.objs.size:=by
   rcases zs.st with⟨q,_⟩|⟨_,_,_,q,_⟩
   .exact al q
   .exact al q
  have li:i<h.objs.size:=by obtain⟨o,e⟩:=D.live _ _ zs.s;exact al e
  have lj:j<h.objs.size:=by obtain⟨o,e⟩:=C.live _ _ zs.u;exact al e
  refine N_ D C ap hf hg Ft CI BU Fm Fk sO hsz fin r (k+1) _ C_ (acc.push<|.ref h.objs.size) _ (by omega) (U1.mono D C ap hf hg Ft CI BU lZ) LN ⟨by rw[Array.size_push,An.sz],λt v e=>?_,λt t' v e e'=>?_⟩ λd o d1 d2 d3 d4 d5 e=>lZ d o d5<|iZ d o d1 d2 d3 d4<|kp d o d1 d2 d3 d4 d5 e
  rotate_left
  .have old:∀t,acc[t]?=aA (Value.ref h.objs.size)->False:=λt e=>by
    obtain⟨T,x,y,e1,e2,_⟩:=An.at_ t _ e;cases e1;exact iw _<|al e2
   rw[abe] at e e';split at e
   .cases e;split at e'
    .rename_i q1 q2;rw[q1,q2]
    .exact(old _ e').elim
   .split at e'
    .cases e';exact(old _ e).elim
    .exact An.inj t t' v e e'
  rw[abe] at e;split at e
  .rename_i ht;cases e;subst ht;rw[An.sz];have lb:b<h.objs.size:=by obtain⟨o,e⟩:=zs.bl;exact al e
   exact⟨h.objs.size,x,y,rfl,lZ _ _ (ib lL) pp,px,ry,ib lz,ib lb,ib li,ib lj,lL⟩
  .obtain⟨T,x,y,e1,e2,e3,e4,n1,n2,n3,n4,n5⟩:=An.at_ t v e;exact⟨T,x,y,e1,lZ _ _ (ib n5)<|iZ _ _ n1 n2 n3 n4 e2,e3,e4,n1,n2,n3,n4,n5⟩
def XW:typeLookup (.type "zip") "__len__" = pure aD:=by rw[mi,jn];kernel_rfl
def rL:typeLookup (.type "zip") "__length_hint__" = pure aD:=by rw[mi,jn];kernel_rfl
def U8{L:Addr}{res:Value}{Rr:Result->Shared->Prop}(D:Draws prog w A.in1.in1 i f n P S)(C:Draws prog w A.in1.in1 j g m R U)(ap:Ap z a b i j f g)(hf:L∉f)(hg:L∉g)(Ft:a≠L)(CI:b≠L)(BU:z≠L)(Fm:i≠L)(Fk:j≠L)(sO:n=m)(hsz:n<ae)(zs:ZS z a b i j L S U 0 s.heap)(SS:IsZip s.heap z a b .none)(hL:s.heap.get? L=aA (lO #[] 0))(fin:∀h' tk acc c,(∀d o,d≠z->d≠b->d≠i->d≠j->d≠L->s.heap.get? d=aA o->h'.get? d=aA o)->h'.get? L=aA (lO acc c)->Got h' 0 z b i j L P R acc n->Rr (.ok<|.ret res) { s with heap:=h',toks:=tk }):wpAny (model prog w) A.in1 (qy (.ref L) (.ref z) res) (λfin s'=>match fin with | .done f=>Rr (.ok f) s' | .again c'=>c'.quiet=true/\codeAny (model prog w) A c' Rr s') (λe s'=>Rr (.error e) s') s:=by
 have l4:s.TypeIs (.ref z) "zip" := ⟨_,SS,rfl⟩;have k1:yw (.ref L) (.ref z)=false:=by simp[yw,BU.symm]
 rw[qy];refine ac<|qv l4 ?_;rw[if_neg (by rw[k1];decide)];refine ac<|wu SS ?_;refine ac<|fi ?_;rw[Builtin.List.listLengthHint];refine ac<|ju l4 XW ?_;show wpAny _ A.in1 ((specialOf (.ref z)<|ia "__length_hint__") >>= _) _ _ _;refine ac<|ju l4 rL ?_;refine af ?_;rw[if_pos<|by rfl];refine ac<|re ?_;refine ac ?_;unfold Builtin.List.listTouch;refine ac (m:=updateSeq L λx=>x.push Value.none)<|kl hL rfl ?_;have Te:=ir (lq λx=>x.push Value.none) hL rfl;refine kl (f:=λx=>x.pop) Te rfl ?_;have LN:=ir (lq λx=>x.pop) Te rfl;have Tt:∀b o,b≠L->s.heap.get? b=aA o->((s.heap.update L<|lq λx=>x.push Value.none).update L<|lq λx=>x.pop).get? b=aA o:=λb o hb e=>(gj _ _<|ki hb).trans<|(gj _ _<|ki hb).trans e
 refine af ⟨jy qu _,?_⟩;exact N_ D C ap hf hg Ft CI BU Fm Fk sO hsz fin n 0 _ s.toks #[] _ (ni _) (zs.mono D C ap hf hg Ft CI BU Tt) LN ⟨rfl,(λt v e=>by simp at e),λt t' v e=>by simp at e⟩ λd o _ _ _ _ d5 e=>Tt d o d5 e
end
section
variable{R:Nat->Value->Prop}
structure HS(z a b i j:Addr)(f g:List Addr)(S U:Nat->Heap->Prop)(h:Heap):Prop where
 zp:IsZip h z a b .none
 pr:IsPair h a (.ref i) (.ref j)
 bp:∃p q,IsPair h b p q
 s:S 0 h
 u:U 0 h
 ff:∀c∈f,c<h.objs.size
 gg:∀c∈g,c<h.objs.size
 li:i<h.objs.size
 lj:j<h.objs.size
def VZ(D:Draws prog w A.in1.in1 i f n P S)(C:Draws prog w A.in1.in1 j g m R U)(ap:Ap z a b i j f g)(sO:n=m)(hsz:n<ae)(zn:HS z a b i j f g S U s.heap)(fin:∀h' tk acc L c,s.heap.objs.size<=L->(∀d o,d≠z->d≠b->d≠i->d≠j->s.heap.get? d=aA o->h'.get? d=aA o)->h'.get? L=aA (lO acc c)->Got h' 0 z b i j L P R acc n->Rr (.ok<|.ret<|.ref L) { s with heap:=h',toks:=tk }):codeAny (model prog w) A (Code.builtin "proto.collect" { pos:=[.ref z] }) Rr s:=by
 refine jl F.entry_proto_collect ?_;rw[gc F.plain_proto_collect _];show wpAny _ A.in1 (newList [] >>= _) _ _ _;refine ac<|wpAny_newList ?_;refine af ⟨jy F.plain_list_iadd _,jl F.entry_list_iadd ?_⟩;rw[gc F.plain_list_iadd _];show wpAny _ A.in1 (qy (.ref s.heap.objs.size) (.ref z)<|.ref s.heap.objs.size) _ _ _;have up:∀c o,s.heap.get? c=aA o->(s.heap.push<|lO #[] 0).get? c=aA o:=λc o e=>ad _ e
 have lz:z<s.heap.objs.size:=al zn.zp;have la:a<s.heap.objs.size:=al zn.pr;obtain⟨p,q,bp⟩:=zn.bp;have lb:b<s.heap.objs.size:=al bp;have zs:ZS z a b i j s.heap.objs.size S U 0 (s.heap.push<|lO #[] 0):=⟨up _ _ zn.pr,D.frame _ _ _ zn.s λc _ o e=>up c o e,C.frame _ _ _ zn.u λc _ o e=>up c o e,⟨_,up _ _ bp⟩,.inl ⟨up _ _ zn.zp,p,q,up _ _ bp⟩⟩;refine U8 (s:={ s with heap:=s.heap.push (lO #[] 0) }) D C ap (λh=>iw _<|zn.ff _ h) (λh=>iw _<|zn.gg _ h) (bf la) (bf lb) (bf lz) (bf zn.li) (bf zn.lj) sO hsz zs (up _ _ zn.zp) (ay _ rfl) λh' tk acc c kp hL got=>?_
 exact fin h' tk acc _ c (ah _) (λd o d1 d2 d3 d4 e=>kp d o d1 d2 d3 d4 (bf<|al e)<|up d o e) hL got
def ϙ(D:Draws prog w A.in1.in1 i f n P S)(C:Draws prog w A.in1.in1 j g m R U)(ap:Ap z a b i j f g)(sO:n=m)(hsz:n<ae)(zn:HS z a b i j f g S U s.heap)(fin:∀h' tk acc L,s.heap.objs.size<=L->L<h'.objs.size->(∀d o,d≠z->d≠b->d≠i->d≠j->s.heap.get? d=aA o->h'.get? d=aA o)->Got h' 0 z b i j L P R acc n->Q acc.toList { s with heap:=h',toks:=tk }):wpAny (model prog w) A (collect<|.ref z) Q E s:=by
 unfold collect;refine ac<|wpAny_runValue<|VZ D C ap sO hsz zn λh' tk acc L c lo kp hL got=>?_;refine ac<|wpAny_load hL ?_;exact af<|fin h' tk acc L lo (al hL) kp got
end
abbrev SL(i l:Addr)(ys:Array Value)(k:Nat)(h:Heap):Prop:=Heap.IsListIter h i l k/\∃o,h.get? l=aA o/\o.cls=.type "list" /\ ∃n,o.data=.seq ys n
def Ϛ(hsz:xs.size<ae)(sO:xs.size=ys.size)(hi:l1≠i)(hj:l2≠j)(ap:Ap z a b i j [i,l1] [j,l2]):Meets (Builtin.«tuple.__new__» ⟨[.type "tuple",.ref z],[]⟩) (λA R s=>A.handled=aD/\HS z a b i j [i,l1] [j,l2] (SL i l1 xs) (SL j l2 ys) s.heap /\
  ∀h' tk acc L,s.heap.objs.size<=L->L<h'.objs.size->(∀d o,d≠z->d≠b->d≠i->d≠j->s.heap.get? d=aA o->h'.get? d=aA o)->Got h' 0 z b i j L (λk v=>xs[k]?=aA v) (λk v=>ys[k]?=aA v) acc xs.size->R (.ok<|.ret<|.ref h'.objs.size) { s with heap:=h'.push { cls:=.type "tuple",data:=.seq acc },toks:=tk }):=
 .of_wp λprog w A R s h=>by
  obtain⟨hh,zn,fin⟩:=h;have l4:s.TypeIs (.ref z) "zip" := ⟨_,zn.zp,rfl⟩;have D:=(DD.TB []).dr (prog:=prog) (w:=w) (A:=A.in1.in1.in1) hh i l1 hi xs;have C:=(DD.TB []).dr (prog:=prog) (w:=w) (A:=A.in1.in1.in1) hh j l2 hj ys;have SV:isSubtype (.type "tuple") (.type "tuple")=pure true:=by rw[oy];kernel_rfl
  unfold Builtin.«tuple.__new__»;dsimp only;refine ac<|io (a:=true) (by first|rfl|kernel_rfl) ?_;simp only[vm,cf,if_false];refine ac<|io SV ?_;simp only[vm,cf,if_false];rw[if_neg<|by decide +kernel];refine ac<|io (a:=()) (by first|rfl|kernel_rfl) ?_;refine ac<|io F.called_tuple.init.lookup ?_;rw[if_pos<|by rfl];refine ac<|io (a:=()) (by first|rfl|kernel_rfl) ?_;refine ac<|io (a:=()) (by first|rfl|kernel_rfl) ?_;rw[if_pos<|by rfl];refine ac ?_;unfold Builtin.Tuple.tupleIsExact;refine ac<|qv l4<|af ?_;rw[if_neg<|by decide];refine ac<|ϙ D C ap sO hsz zn λh' tk acc L lo E4 kp got=>?_;refine ac<|af ?_;unfold fo;rw[uz];refine ac<|cz ?_ ?_
  .exact af ⟨_,rfl,fin h' tk acc L lo E4 kp got⟩
  .show acc.size<=ae;rw[got.sz];exact lu hsz
def XV(hh:A.handled=aD)(hsz:xs.size<ae)(sO:xs.size=ys.size)(hi:l1≠i)(hj:l2≠j)(ap:Ap z a b i j [i,l1] [j,l2])(zn:HS z a b i j [i,l1] [j,l2] (SL i l1 xs) (SL j l2 ys) s.heap)(fin:∀h' tk acc L,s.heap.objs.size<=L->L<h'.objs.size->(∀d o,d≠z->d≠b->d≠i->d≠j->s.heap.get? d=aA o->h'.get? d=aA o)->Got h' 0 z b i j L (λk v=>xs[k]?=aA v) (λk v=>ys[k]?=aA v) acc xs.size->Q (.ref h'.objs.size) { s with heap:=h'.push { cls:=.type "tuple",data:=.seq acc },toks:=tk }):wpAny (model prog w) A (call (.type "tuple") [.ref z]) Q E s:=
 callType_new F.called_tuple (by decide) (F.typeCall_tuple_1 _) (F.newCall_tuple_1 _) (λobj=>aaq obj _) F.entry_tuple_new (Ϛ hsz sO hi hj ap) ⟨hh,zn,λh' tk acc L lo E4 kp got=>⟨⟨_,ay _ rfl,rfl⟩,fin h' tk acc L lo E4 kp got⟩⟩
def Di(h1:x≠u)(h2:x≠v):x∉[u,v]:=λq=>by
 rcases bq.mp q with q|q
 .exact h1 q
 .exact h2<|ck.mp q
def Hj{x u v:Nat}{l:List Nat}(hl:l=[u,v])(h1:u<x)(h2:v<x):∀c∈l,c<x:=λc q=>by
 subst hl;rcases bq.mp q with q|q
 .rw[q];exact h1
 .rw[ck.mp q];exact h2
def U7{prog:Program}{w:World}{A:Around}{E:Value->Shared->Prop}{s:Shared}{Q:Value->Shared->Prop}(hh:A.handled=aD)(h1:s.heap.IsList l1 xs)(h2:s.heap.IsList l2 ys)(hsz:xs.size<ae)(sO:xs.size=ys.size)(fin:∀(h':Heap) (tk:Nat) (acc:Array Value),s.heap.objs.size<=h'.objs.size->(∀d o,s.heap.get? d=aA o->h'.get? d=aA o)->acc.size=xs.size->(∀(t:Nat) v,acc[t]?=aA v->∃T x y,v=.ref T/\s.heap.objs.size<=T/\IsPair h' T x y/\xs[t]?=aA x/\ys[t]?=aA y)->(∀(t t':Nat) v,acc[t]?=aA v->acc[t']?=aA v->t=t')->Q (.ref h'.objs.size) { s with heap:=h'.push { cls:=.type "tuple",data:=.seq acc },toks:=tk }):wpAny (model prog w) A (call (.type "zip") [.ref l1,.ref l2]) (λv s1=>wpAny (model prog w) A (call (.type "tuple") [v]) Q E s1) E s:=by
 have lt1:l1<s.heap.objs.size:=by obtain⟨o,ho,_⟩:=id h1;exact al ho
 have Hj:l2<s.heap.objs.size:=by obtain⟨o,ho,_⟩:=id h2;exact al ho
 refine call_zip_2 h1 h2 λh' z1 z2 z3 z4 z5 sz kp=>?_
 have e1:h'.IsList l1 xs:=h1.at λo e=>kp _ _ e
 have e2:h'.IsList l2 ys:=h2.at λo e=>kp _ _ e
 obtain⟨o1,p1,c1,n1,d1⟩:=id e1;obtain⟨o2,p2,c2,n2,d2⟩:=id e2;have L:∀(x y:Nat),x<y->(x:Addr)≠y:=λx y h=>bf h
 have G:∀(x y:Nat),y<x->(x:Addr)≠y:=λx y h=>ib h
 generalize hN:s.heap.objs.size=N at *;have N1:@LT.lt Nat _ l1 N:=lt1;have N2:@LT.lt Nat _ l2 N:=Hj;refine XV (s:={ s with heap:=h' }) (i:=N) (j:=N+1) (a:=N+2) (b:=N+3) hh hsz sO (L _ _ N1) (L _ _<|Nat.lt_succ_of_lt N2) ⟨L _ _<|by omega,L _ _<|by omega,L _ _<|by omega,L _ _<|by omega,L _ _<|by omega,G _ _<|by omega,G _ _<|by omega,G _ _<|by omega,G _ _<|by omega,L _ _<|by omega,Di (G _ _<|by omega)<|G _ _<|by omega,Di (G _ _<|by omega)<|G _ _<|by omega,Di (G _ _<|by omega)<|G _ _<|by omega,Di (G _ _<|by omega)<|G _ _<|by omega,Di (G _ _<|by omega)<|G _ _<|by omega,Di (L _ _<|by omega)<|G _ _<|by omega⟩
  ⟨z1,z2,⟨_,_,z3⟩,⟨z4,o1,p1,c1,n1,d1⟩,⟨z5,o2,p2,c2,n2,d2⟩,ZZ.Hj rfl (by show N<h'.objs.size;rw[sz];omega) (by show @LT.lt Nat _ l1 h'.objs.size;rw[sz];exact bb N1<|lc _ _),ZZ.Hj rfl (by show N+1<h'.objs.size;rw[sz];omega) (by show @LT.lt Nat _ l2 h'.objs.size;rw[sz];exact bb N2<|lc _ _),by show N<h'.objs.size;rw[sz];omega,by show N+1<h'.objs.size;rw[sz];omega⟩ λg' tk acc L' lo E4 lZ got=>?_
 have lo':@LE.le Nat _ (N+5) L':=sz ▸ lo;have lo3:@LT.lt Nat _ L' g'.objs.size:=E4;refine fin g' tk acc (by show @LE.le Nat _ N g'.objs.size;omega) (λd o e=>?_) got.sz (λt v e=>?_) got.inj
 .have ld:@LT.lt Nat _ d N:=hN ▸ al e;exact lZ d o (L _ _<|by omega) (L _ _<|by omega) (L _ _<|by omega) (L _ _<|by omega)<|kp d o e
 .obtain⟨T,x,y,q1,q2,q3,q4,_,_,_,_,q5⟩:=got.at_ t v e;have q5':@LT.lt Nat _ L' T:=q5;exact⟨T,x,y,q1,by show @LE.le Nat _ N T;omega,q2,q3,q4⟩
end ZZ
namespace DD
open PySem PySem.Spec PyProof.Rows L2 PySem.W
noncomputable def n_(ps:List (Addr×HO))(H:Hp):Hp:=λb=>match ps.find? λp=>decide (p.1=b) with
 |some p=>aA p.2
 |none=>H b
def ĉ(h:n_ ps H b=aA o):(∃p∈ps,p.1=b/\p.2=o)\/((∀p∈ps,p.1≠b)/\H b=aA o):=by
 unfold n_ at h;split at h
 .rename_i p hp;cases h;exact .inl ⟨p,yf hp,by have:=List.find?_some hp;simpa using this,rfl⟩
 .rename_i hp;exact .inr ⟨λp hm e=>by have:=List.find?_eq_none.mp hp p hm;simp[e] at this,h⟩
def YO(h:∀p∈ps,p.1≠b):n_ ps H b=H b:=by
 unfold n_;rw[List.find?_eq_none.mpr λp hp=>by simp[h p hp]]
theorem YQ:∀{ps:List (Addr×HO)} {p:Addr×HO},p∈ps->(ps.map (·.1)).Nodup->n_ ps H p.1=aA p.2
 |q::ps,p,h,hn=>by
  rw[au,dm] at hn;unfold n_;rw[jc];rcases bq.mp h with rfl|h
  .simp
  .have ne:q.1≠p.1:=λz=>hn.1<|z ▸ gh.mpr ⟨p,h,rfl⟩
   rw[decide_eq_false ne];exact YQ h hn.2
def ż(I:Inv X pZ σ H s)(k:∀b u,s.heap.get? b=aA u->h'.get? b=aA u)(hn:∀p∈ps,s.heap.objs.size<=p.1)(new:∀p∈ps,fS X.prog X.w (n_ ps H) h' p.1 p.2):Inv X pZ σ (n_ ps H) { s with heap:=h',toks:=t' }:=by
 have old:∀b,b<s.heap.objs.size->n_ ps H b=H b:=λb hb=>YO λp hp e=>absurd (hn p hp) (by rw[e];exact Nat.not_le_of_lt hb)
 have Dj:∀b o,H b=aA o->n_ ps H b=aA o:=λb o e=>by rw[old b<|I.aT.lt e];exact e
 refine I.un ⟨λb u q _ _ _=>k b u q,λb u q _ _ _=>⟨u.slots,k b u q⟩,λb u q n _=>by rw[old b<|al q];exact n,λb u q _=>⟨u,k b u q⟩,λb xs q=>Dj _ _ q,λb u xs q=>Dj _ _ q,λb ps' q=>⟨#[],by rw[Dj _ _ q];simp⟩⟩ λa o e=>?_
 rcases ĉ e with⟨p,hp,rfl,rfl⟩|⟨_,e⟩
 .exact new p hp
 .exact(I.aT a o e).A' (λc v _ q=>k c v q) (λc q=>by rw[Dj _ _ q]) (λc xs q=>Dj _ _ q) λc o u q=>Dj _ _ q
def QJ(I:Inv X pZ σ H s)(hn:∀p∈ps,s.heap.objs.size<=p.1):aH H (n_ ps H):=λb o e=>by
 rw[YO λp hp z=>absurd (hn p hp) (by rw[z];exact Nat.not_le_of_lt<|I.aT.lt e)];exact e
theorem JX{K:Fg}:∀{l m:List D} {xs ys:List V} {Ts:List Addr},Ts.length=l.length->l.length=m.length->IsL K O H l xs->IsL K O H m ys->(∀(t:Nat) T x y,Ts[t]?=aA T->xs[t]?=aA x->ys[t]?=aA y->d_ K H T [x,y])->IsL K O H (XX l m) (Ts.map V.ref)
 |[],[],xs,ys,[],_,_,_,_,_=>IsL.nil
 |d::l,e::m,xs,ys,T::Ts,h1,h2,il,im,h=>by
  unfold IsL at il im;obtain⟨x,xs,rfl,ix,il⟩:=il;obtain⟨y,ys,rfl,iy,im⟩:=im;refine IsL.cons ?_ (JX (by simpa using h1) (by simpa using h2) il im λt T x y e1 e2 e3=>h (t+1) T x y (by simpa using e1) (by simpa using e2)<|by simpa using e3);rw[zR];exact⟨T,[x,y],rfl,h 0 T x y rfl rfl rfl,.cons ix<|.cons iy .nil⟩
 |[],_::_,_,_,_,_,h,_,_,_=>by cases h
 |_::_,[],_,_,_,_,h,_,_,_=>by cases h
 |[],[],_,_,_::_,h,_,_,_,_=>by cases h
 |_::_,_::_,_,_,[],h,_,_,_,_=>by cases h
theorem PY:∀(acc:List Value),(∀(t:Nat) v,acc[t]?=aA v->∃T,v=.ref T)->∃Ts:List Addr,acc=Ts.map Value.ref
 |[],_=>⟨[],rfl⟩
 |v::acc,h=>by
  obtain⟨T,rfl⟩:=h 0 v rfl;obtain⟨Ts,rfl⟩:=PY acc λt v e=>h (t+1) v (by simpa using e)
  exact⟨T::Ts,rfl⟩
theorem nR:∀(Ts:List Addr),Vals (Ts.map V.ref) (Ts.map Value.ref)
 |[]=>.nil
 |T::Ts=>.cons rfl<|nR Ts
def GB(f g:ME):ME:=λr=>(f r).bind λx=>(g r).bind λy=>match x,y with
 |.lst l,.lst m=>if l.length=m.length/\l.length<1000 then aA (.tup<|XX l m) else aD
 |_,_=>aD
theorem uQ:∀{l:List α},(∀(t t':Nat) v,l[t]?=aA v->l[t']?=aA v->t=t')->l.Nodup
 |[],_=>ri
 |a::l,h=>by
  rw[dm];refine⟨λz=>?_,uQ λt t' v e e'=>by have:=h (t+1) (t'+1) v (by simpa using e) (by simpa using e');omega⟩;obtain⟨t,ht⟩:=uv z
  have:=h 0 (t+1) a rfl (by simpa using ht)
  omega
def Q6(hc:X.calm=true)(hg1:Gl X "tuple")(hm1:X.mg "tuple" = aD)(hg2:Gl X "zip")(hm2:X.mg "zip" = aD)(ha:DE X a f)(hb:DE X b g)(hs:ar [a,b] X.env=[(false,eval a X.env),(false,eval b X.env)]:=by rfl)(f7:ar [b] X.env=[(false,eval b X.env)]:=by rfl)(Fb:ar [.Call (.Name "zip" p2) [a,b] [] EV] X.env=[(false,eval (.Call (.Name "zip" p2) [a,b] [] EV) X.env)]:=by rfl):DE X (.Call (.Name "tuple" p1) [.Call (.Name "zip" p2) [a,b] [] EV] [] pos) (GB f g):=by
 intro pZ s σ H Q I hq;obtain⟨O0,r,d,hR,e,q⟩:=hq;obtain⟨x,e1,e⟩:=aG e;obtain⟨y,e2,e⟩:=aG e;obtain⟨l,m,rfl,rfl,hlm,rfl⟩:∃l m,x=.lst l/\y=.lst m/\(l.length=m.length/\l.length<1000)/\d=.tup (XX l m):=by
  clear e1 e2
  revert e
  split
  .rename_i l m;intro e;by_cases h:l.length=m.length/\l.length<1000
   .rw[if_pos h] at e;cases e;exact⟨l,m,rfl,rfl,h,rfl⟩
   .rw[if_neg h] at e;cases e
  .intro e;cases e
 have hA:PA X [a,b] (mM (lE X.K f)<|mM (lE X.K g) Ag):=yK ha (yK hb xH f7) (hs.trans<|by rw[f7]);have inner:wpAny (model X.prog X.w) X.A (eval (.Call (.Name "zip" p2) [a,b] [] EV) X.env) (λv s1=>wpAny (model X.prog X.w) X.A (call (.type "tuple") [v]) (EP X pZ σ Q) X.xe s1) X.xe s:=by
  refine Call_<|uB I hg2 hm2 aab<|fq (aQ (hA EV pZ s σ H (z2 λx y H1=>∃u v xs ys,x=.ref u/\y=.ref v/\aH H H1/\aX X.K H1 u xs/\aX X.K H1 v ys/\IsL X.K (Ow O0 r σ) H1 l xs/\IsL X.K (Ow O0 r σ) H1 m ys) I ⟨O0,r,.lst l,hR,e1,λv1 H1 s1 i1=>⟨O0,r,.lst m,hR.same s1,e2,λv2 H2 s2 i2=>?_⟩⟩) λus s1 ⟨vs,H1,I1,r1,q1⟩=>?_) (by rw[hs,f7]) (by rw[f7];rfl)
  .have CC:=i1.same s2 (hR.same s1).ol;rw[zS] at CC i2;obtain⟨u,xs,rfl,hx,il⟩:=CC;obtain⟨v,ys,rfl,hy,im⟩:=i2;exact⟨u,v,xs,ys,rfl,rfl,s1.trans s2,hx.sq,hy.sq,il,im⟩
  .obtain⟨_,_,rfl,u,v,xs,ys,rfl,rfl,G7,hx,hy,il,im⟩:=Pc q1;cases r1 with
   |cons a1 r1=>cases r1 with
    |cons a2 r1=>
     cases r1;cases a1;cases a2;obtain⟨its,rv,pl,hz⟩:=I1.list hx;obtain⟨fC,Bz,Aj,SR⟩:=I1.list hy;have lx:=il.length;have ly:=im.length;have l1:=rv.length;have l2:=Bz.length;have big:1000<ae:=by decide
     refine ZZ.U7 (I.ok.hd hc) pl.isList Aj.isList (by rw[ak];omega) (by rw[ak,ak];omega) λh' tk acc sF kp sz at_ inj=>?_
     obtain⟨Ts,CK⟩:=PY acc.toList λt w e=>by
      obtain⟨T,x,y,rfl,_⟩:=at_ t w (by rw[<-jo];exact e);exact⟨T,rfl⟩
     have tl:Ts.length=l.length:=by
      have:=congrArg jg CK
      rw[ag,gy,sz,ak] at this;omega
     have Kt:∀(t:Nat) T,Ts[t]?=aA T->s1.heap.objs.size<=T/\∃x y,IsPair h' T x y/\its[t]?=aA x/\fC[t]?=aA y:=λt T e=>by
      obtain⟨T',x,y,e1,e2,e3,e4,e5⟩:=at_ t (.ref T) (by rw[<-jo,CK,bw,e];rfl);cases e1;exact⟨e2,x,y,e3,by simpa using e4,by simpa using e5⟩
     have tn:Ts.Nodup:=uQ λt t' T e e'=>inj t t' (.ref T) (by rw[<-jo,CK,bw,e];rfl) (by rw[<-jo,CK,bw,e'];rfl)
     let Ha:List (Addr×HO):=List.zip Ts<|lw (λx y=>HO.tup [x,y]) xs ys
     let Fa:Addr:=h'.objs.size
     let ps:List (Addr×HO):=Ha++[(Fa,.tup<|Ts.map V.ref)]
     have p0:∀p∈Ha,∃(t:Nat) (x y:V),Ts[t]?=aA p.1/\xs[t]?=aA x/\ys[t]?=aA y/\p.2=.tup [x,y]:=λp hp=>by
      obtain⟨t,ht⟩:=uv hp
      have:=yg.mp ht
      have q2:=this.2;rw[uk] at q2;cases ex:xs[t]? with
      |none=>rw[ex] at q2;cases q2
      |some x=>
       cases ey:ys[t]? with
       |none=>rw[ex,ey] at q2;cases q2
       |some y=>
        rw[ex,ey] at q2;exact⟨t,x,y,this.1,ex,ey,(bu q2).symm⟩
     have m0:Ha.map (·.1)=Ts:=by
      show(List.zip Ts _).map wm=Ts;rw[List.map_fst_zip];rw[List.length_zipWith];omega
     have lF:∀T∈Ts,T<h'.objs.size:=λT hT=>by
      obtain⟨t,ht⟩:=uv hT;obtain⟨_,x,y,e3,_⟩:=Kt t T ht;exact al e3
     have nd:(ps.map (·.1)).Nodup:=by
      show((Ha++[(Fa,HO.tup<|Ts.map V.ref)]).map (·.1)).Nodup;rw[jb,m0];refine List.nodup_append.mpr ⟨tn,dm.mpr ⟨(λz=>by cases z),ri⟩,λx hx y hy=>?_⟩;rw[ck.mp hy];exact bf<|lF x hx
     have hn:∀p∈ps,s1.heap.objs.size<=p.1:=λp hp=>by
      rcases ja.mp hp with z|z
      .obtain⟨t,x,y,e1,_⟩:=p0 p z;exact(Kt t _ e1).1
      .rw[ck.mp z];exact sF
     let h2:Heap:=h'.push { cls:=.type "tuple",data:=.seq acc }
     have up:∀b o,h'.get? b=aA o->h2.get? b=aA o:=λb o e=>ad _ e
     have I2:Inv X pZ σ (n_ ps H1) { s1 with heap:=h2,toks:=tk }:=ż I1 (λb o e=>up b o<|kp b o e) hn λp hp=>by
      rcases ja.mp hp with z|z
      .obtain⟨t,x,y,e1,e2,e3,e4⟩:=p0 p z;obtain⟨_,vx,vy,i3,i4,i5⟩:=Kt t _ e1;rw[e4];obtain⟨wx,q1,q2⟩:=rv.get e2;obtain⟨wy,q3,q4⟩:=Bz.get e3;rw[i4] at q1;cases q1;rw[i5] at q3;cases q3;exact⟨by show 2<=ae;decide,[vx,vy],.cons q2<|.cons q4 .nil,_,up _ _ i3,rfl,_,rfl⟩
      .rw[ck.mp z];exact⟨by rw[ag];omega,Ts.map Value.ref,nR Ts,_,ay _ rfl,rfl,_,by show Data.seq acc _=_;rw[<-CK]⟩
     have sm:aH H1 (n_ ps H1):=QJ I1 hn;refine⟨.ref Fa,n_ ps H1,I2,rfl,q _ _ (G7.trans sm) ?_⟩;have ol:=(hR.same G7).ol;rw[zR];refine⟨Fa,Ts.map V.ref,rfl,d_.of<|YQ (p:=(Fa,HO.tup<|Ts.map V.ref)) (by simp[ps]) nd,JX tl hlm.1 (il.same sm ol) (im.same sm ol) λt T x y e1 e2 e3=>d_.of ?_⟩;have hp:(T,HO.tup [x,y])∈ps:=by
      refine qp _<|qo (i:=t) ?_;show(List.zip Ts _)[t]?=_;exact yg.mpr ⟨e1,by rw[uk,e2,e3]⟩
     exact YQ hp nd
 refine Call_<|uB I hg1 hm1 zd<|fq ?_ Fb rfl;rw[Fb];show wpAny _ _ (spliced ((false,eval (.Call (.Name "zip" p2) [a,b] [] EV) X.env)::lm pos [])) _ _ s;exact ox<|aQ inner λv s1 h1=>rq h1
noncomputable def EI(neg:Bool)(fk:ME)(fd:MD):ME:=λr=>(Gy neg fk fd r).map D.bl
def ä(hk:DE X k g)(ho:Ca X o fd)(hm:gr .In o=false:=by rfl):DE X (.Compare k [.In] [o] pos) (EI false g fd):=by
 refine PE.aM (O1 (t:=λσ H Q=>lE X.K g σ H λy H1=>Hn X.K fd σ H1 λx H2=>∃c kvs j,x=.ref c/\Rd H2 c (.dK kvs)/\y=vO j/\Q (.bl (lN kvs j).isSome) H2) ?_ hm) λσ H Q hq=>?_
 .intro pZ s σ H Q I h;refine aQ (hk pZ s σ H _ I h) λiv s1 ⟨y,H1,I1,ry,q1⟩=>aQ (ho pZ s1 σ H1 _ I1 q1) λu s2 ⟨x,H2,I2,rx,c,kvs,j,ex,rd,ey,q2⟩=>?_
  subst ex ey;obtain rfl:u=Value.ref c:=rx;exact RN I2 rd ry λs3 I3=>⟨.bl (lN kvs j).isSome,H2,I3,rfl,q2⟩
 .obtain⟨O0,r,t,hR,e,q⟩:=hq;obtain⟨b,e0,rfl⟩:=aY e;clear e;obtain⟨kd,e1,e⟩:=aG e0;obtain⟨⟨ks,l⟩,e2,e⟩:=aG e;obtain⟨j,e3,rfl⟩:=aY e;refine⟨O0,r,kd,hR,e1,λy H1 s1 iy=>⟨O0,r,ks,l,hR.same s1,e2,λc kvs H2 s2 rd ek il=>⟨c,kvs,j,rfl,rd,YR e3 iy,?_⟩⟩⟩;subst ek;have q':=q (.bl (lN kvs j).isSome) H2<|s1.trans s2;rcases nF j il with⟨dd,v,p1,p2,p3⟩|⟨p1,p2⟩
  .rw[p1] at q';rw[p2];rw[p2] at q';exact q' rfl
  .rw[p1] at q';rw[p2];rw[p2] at q';exact q' rfl
def ZC(hk:DE X k g)(ho:Ca X o fd)(hm:gr .NotIn o=false:=by rfl):DE X (.Compare k [.NotIn] [o] pos) (EI true g fd):=by
 refine PE.aM (O1 (t:=λσ H Q=>lE X.K g σ H λy H1=>Hn X.K fd σ H1 λx H2=>∃c kvs j,x=.ref c/\Rd H2 c (.dK kvs)/\y=vO j/\Q (.bl<|!(lN kvs j).isSome) H2) ?_ hm) λσ H Q hq=>?_
 .intro pZ s σ H Q I h;refine aQ (hk pZ s σ H _ I h) λiv s1 ⟨y,H1,I1,ry,q1⟩=>aQ (ho pZ s1 σ H1 _ I1 q1) λu s2 ⟨x,H2,I2,rx,c,kvs,j,ex,rd,ey,q2⟩=>?_
  subst ex ey;obtain rfl:u=Value.ref c:=rx;exact ĝ I2 rd ry λs3 I3=>⟨.bl<|!(lN kvs j).isSome,H2,I3,rfl,q2⟩
 .obtain⟨O0,r,t,hR,e,q⟩:=hq;obtain⟨b,e0,rfl⟩:=aY e;clear e;obtain⟨kd,e1,e⟩:=aG e0;obtain⟨⟨ks,l⟩,e2,e⟩:=aG e;obtain⟨j,e3,rfl⟩:=aY e;refine⟨O0,r,kd,hR,e1,λy H1 s1 iy=>⟨O0,r,ks,l,hR.same s1,e2,λc kvs H2 s2 rd ek il=>⟨c,kvs,j,rfl,rd,YR e3 iy,?_⟩⟩⟩;subst ek;have q':=q (.bl<|!(lN kvs j).isSome) H2<|s1.trans s2;rcases nF j il with⟨dd,v,p1,p2,p3⟩|⟨p1,p2⟩
  .rw[p1] at q';rw[p2];rw[p2] at q';exact q' rfl
  .rw[p1] at q';rw[p2];rw[p2] at q';exact q' rfl
namespace MX
end MX
noncomputable def jA:List Key->List D->Key->List Key×List D
 |k'::ks,d::l,k=>if k'=k then jA ks l k else (k'::(jA ks l k).1,d::(jA ks l k).2)
 |_,_,_=>([],[])
theorem Y8{K:Fg}(k:Key):∀{kvs:List (Key×V)} {l:List D},IsL K O H l (kvs.map (·.2))->(Y9 kvs k).map (·.1)=(jA (kvs.map (·.1)) l k).1/\IsL K O H (jA (kvs.map (·.1)) l k).2 ((Y9 kvs k).map (·.2))
 |[],[],_=>⟨rfl,.nil⟩
 |[],d'::l,h=>by unfold IsL at h;obtain⟨_,_,e,_⟩:=h;cases e
 |p::kvs,[],h=>by unfold IsL at h;cases h
 |p::kvs,d'::l,h=>by
  unfold IsL at h;obtain⟨x,y,e,h1,h2⟩:=h;rw[au] at e;cases e;obtain⟨i1,i2⟩:=Y8 k h2;rw[au];unfold jA Y9;by_cases q:p.1=k
  .rw[if_pos q,ji<|by simp[q]];exact⟨i1,i2⟩
  .rw[if_neg q,jh<|by simp[q],au,au];exact⟨congrArg _ i1,.cons h1 i2⟩
noncomputable def GA(i:Nat)(fk:ME):En->Option (D×En):=λr=>(fk r).bind λkd=>(Cc kd).bind λk=>match r[i]? with
 |some (.d f ks l)=>(xS ks l k).map λv=>(v,r.set i<|.d f (jA ks l k).1 (jA ks l k).2)
 |_=>aD
def ü(i:Nat)(h:PE X (.Name x pn) (v6 i))(hk:DE X k g)(fO:cn (.Name x pn) "pop" X.env (eval (.Name x pn) X.env)=eval (.Name x pn) X.env:=by rfl)(iU:Ay X [k] eO:=by rfl)(fN:l7 apos eO:=by rfl)(Lk:lm eO (ar [k] X.env)=[(false,eval k X.env)]:=by rfl):DX X (.Call (.Attribute (.Name x pn) "pop" apos) [k] [] eO) (GA i g):=by
 refine PE.aM (Ϗ h hk ⟨fO,iU,fN,Lk⟩) λσ H Q hq=>?_
 obtain⟨O0,r,d,r',hR,e,q⟩:=hq;obtain⟨kd,e2,e⟩:=aG e;obtain⟨key,e3,e⟩:=aG e;cases er:r[i]? with
 |none=>rw[er] at e;cases e
 |some y=>
  rw[er] at e;cases y<;>first|(cases e;done)|skip
  rename_i fb ks l;obtain⟨v',e4,e5⟩:=aY e;cases e5;obtain⟨b,kvs,q1,q2,q4,q3⟩:=hR.aI i fb ks l er;refine⟨.ref b,q1,b,rfl,.inl ⟨kvs,.inl q2⟩,O0,r,kd,hR,e2,λu H2 s2 i2=>?_⟩;have Lj:=gK e3 i2;subst Lj;have R2:=hR.same s2;have G_:=q3.same s2 hR.ol;have ET:=s2 _ _ q2;subst q4;obtain⟨p1,p2⟩:=Y8 key G_;obtain⟨R3,k3⟩:=R2.Qd er q1 ET p1 p2;rcases bJ key G_ with⟨dd,vv,w1,w2,w3⟩|⟨w1,_⟩
  .rw[w1] at e4;cases e4;have k4:=(Kp.of_same r σ s2).trans k3;refine⟨kvs,key,vv,ET,rfl,w2,q _ _ R3 k4 ?_⟩;have qb7:Ow O0 r σ b:=.inr ⟨i,l,by rw[er];rfl,q1⟩;have Cq:∀c,Ow O0 (r.set i<|.d fb (jA (kvs.map (·.1)) l key).1 (jA (kvs.map (·.1)) l key).2) σ c->H2 c≠aD->Ow O0 r σ c:=λc z n=>z.imp id λz=>(k3.new c z).elim id λz=>absurd z n
   exact Is.mono (λc o e1 n=>by rw[zI λz=>n (by subst z;exact qb7)];exact e1) R2.ol Cq _ _ w3
  .rw[w1] at e4;cases e4
def V9(K:Fg)(ta tb:TE):TI:=λσ H R=>ta σ H λx H1=>tb σ H1 λy H2=>∃u v,x=.ref u/\y=.ref v/\(∃xs,d_ K H2 u xs)/\(∃ys,d_ K H2 v ys)/\R (Iw (d_ K) u v) H2
def ĵ(hg:Gl X "zip")(hm:X.mg "zip" = aD)(ha:PE X a ta)(hb:PE X b tb)(hs:ar [a,b] X.env=[(false,eval a X.env),(false,eval b X.env)]:=by rfl)(f7:ar [b] X.env=[(false,eval b X.env)]:=by rfl):PI X (.Tuple elts k tp) (.Call (.Name "zip" p) [a,b] [] pos) (V9 X.K ta tb):=by
 intro pZ s σ H R I h;have hA:PA X [a,b] (mM ta<|mM tb Ag):=yK ha (yK hb xH f7) (hs.trans<|by rw[f7]);refine Call_<|uB I hg hm aab<|fq (aQ (hA pos pZ s σ H (z2 λx y H2=>∃u v,x=.ref u/\y=.ref v/\((∃xs,d_ X.K H2 u xs)/\(∃ys,d_ X.K H2 v ys)/\R (Iw (d_ X.K) u v) H2)) I h) λus s1 ⟨vs,H1,I1,r1,q1⟩=>?_) (by rw[hs,f7]) (by rw[f7];rfl);obtain⟨_,_,rfl,u,v,rfl,rfl,q5⟩:=Pc q1;obtain⟨uu,vv,rfl,ru,rv⟩:=dW r1;cases ru;cases rv;have fp5:∀b∈[s1.heap.objs.size+4,s1.heap.objs.size+2,s1.heap.objs.size+3,s1.heap.objs.size,s1.heap.objs.size+1],rC X pZ H1 b:=λb hb=>by
  have hle:s1.heap.objs.size<=b:=by
   simp only[sw,bq,or_false] at hb;rcases hb with h|h|h|h|h
   .rw[h];exact lc _ _
   .rw[h];exact lc _ _
   .rw[h];exact lc _ _
   .rw[h];exact ah _
   .rw[h];exact lc _ _
  exact I1.B1 hle<|I1.aT.fresh hle
 obtain⟨⟨xs,hx⟩,⟨ys,hy⟩,q⟩:=q5;obtain⟨its,_,pl,_⟩:=I1.tuple hx;obtain⟨fC,_,Aj,_⟩:=I1.tuple hy;refine ZZ.U_ pl Aj λh' z1 z2 z3 z4 z5 kp=>wu z1 ?_
 exact⟨_,_,_,_,H1,rfl,I1.kept (t':=s1.toks) kp,ϟ (Ya X.K) u v _ _ _ _ _<|U' _,⟨z1,z2,⟨_,_,z3⟩,z4,z5⟩,fp5,q⟩
def GC(f g:ME):ML:=λr=>(f r).bind λd=>(g r).bind λe=>match d,e with
 |.tup l,.tup m=>aA<|XX l m
 |_,_=>aD
def î(hg:Gl X "zip")(hm:X.mg "zip" = aD)(ha:DE X a f)(hb:DE X b g)(hs:ar [a,b] X.env=[(false,eval a X.env),(false,eval b X.env)]:=by rfl)(f7:ar [b] X.env=[(false,eval b X.env)]:=by rfl):DI X (.Tuple elts k tp) (.Call (.Name "zip" p) [a,b] [] pos) (GC f g):=by
 refine PI.aM (ĵ hg hm ha hb hs f7) λσ H Rr hq=>?_
 obtain⟨O0,r,ds,hR,e,q⟩:=hq;obtain⟨x,e1,e⟩:=aG e;obtain⟨y,e2,e⟩:=aG e;refine⟨O0,r,x,hR,e1,λv1 H1 s1 i1=>⟨O0,r,y,hR.same s1,e2,λv2 H2 s2 i2=>?_⟩⟩;have R2:=hR.same<|s1.trans s2;have CC:=i1.same s2 (hR.same s1).ol;have mo:∀a,lJ r σ a->Ow O0 r σ a:=λa z=>.inr z.own
 cases x<;>first|(simp only[reduceCtorEq] at e;done)|skip
 all_goals cases y<;>first|(simp only[reduceCtorEq] at e;done)|skip
 simp only[fw] at e;subst e;rw[zR] at CC i2;obtain⟨u,xs,rfl,hx,il⟩:=CC;obtain⟨v,ys,rfl,hy,im⟩:=i2;exact⟨u,v,rfl,rfl,⟨xs,hx⟩,⟨ys,hy⟩,q _ H2 (s1.trans s2)<|Ö mo R2.ol (Nx mo R2.ol hx) (Nx mo R2.ol hy) il im⟩
def Q5:List (ME×ME)->En->Option (List<|Key×Int)
 |[],_=>aA []
 |(g,f)::t,r=>(g r).bind λkd=>(Cc kd).bind λk=>(f r).bind λd=>(intD d).bind λi=>(Q5 t r).map ((k,i)::·)
def Gx(ps:List (ME×ME)):MD:=λr=>(Q5 ps r).bind λl=>if l.length<=15/\(l.map (·.1)).Nodup then aA (l.map (·.1),l.map λp=>.int p.2) else aD
def FX(X:Cx)(pos:Pos)(keys:List (Option Expr))(values:List Expr)(ps:List (ME×ME)):Prop:=FR X pos keys values<|ps.map λp=>(lE X.K p.1,lE X.K p.2)
def Ą:FX X pos [] [] []:=ĺ
def Κ(hk:DE X k g)(hv:DE X v f)(hr:FX X pos ks vs ps):FX X pos (aA k::ks) (v::vs) ((g,f)::ps):=γ hk hv hr
theorem Ov{K:Fg}:∀(ps:List (ME×ME)) (l:List (Key×Int)) (H:Hp) (Q:List (V×V)->Hp->Prop),Q5 ps r=aA l->R K O0 H r σ->(∀H',aH H H'->Q (l.map λp=>(kV p.1,V.int p.2)) H')->WC (ps.map λp=>(lE K p.1,lE K p.2)) σ H Q
 |[],l,H,Q,e,hR,q=>by cases e;exact q H<|aH.refl H
 |(g,f)::t,l,H,Q,e,hR,q=>by
  obtain⟨kd,e1,e⟩:=aG e;obtain⟨k,e2,e⟩:=aG e;obtain⟨d,e3,e⟩:=aG e;obtain⟨i,e4,e⟩:=aG e;obtain⟨m,e5,rfl⟩:=aY e;refine⟨O0,r,kd,hR,e1,λv H1 s1 i1=>⟨O0,r,d,hR.same s1,e3,λu H2 s2 i2=>?_⟩⟩;have hv:=gK e2 i1;subst hv;cases uZ e4;rw[zG] at i2;subst i2;exact Ov t m H2 _ e5 ((hR.same s1).same s2) λH3 s3=>q H3<|(s1.trans s2).trans s3
theorem uR:∀(m kvs:List (Key×V)),(∀p∈m,rD kvs p.1=aD)->(m.map (·.1)).Nodup->dD kvs m=kvs++m
 |[],kvs,_,_=>by simp[dD]
 |p::m,kvs,h,nd=>by
  show dD (bS kvs p.1 p.2) m=_;rw[ε _<|h p dz];rw[au,dm] at nd;rw[uR m _ (λq hq=>?_) nd.2,jt];· rfl
  rw[nU _ _ _ _<|h p dz,if_neg λz=>nd.1 (by rw[<-z];exact List.mem_map_of_mem hq)];exact h q<|bh _ hq
def Ā(h:FX X pos keys values ps)(CJ:keys.all (·.isSome)=true:=by rfl)(hl:keys.length=values.length:=by rfl)(h0:keys≠[]:=by intro z;cases z)(LQ:keys.length<=15:=by decide):B' X (.Dict keys values pos) (Gx ps):=by
 refine PE.aM (ŀ h CJ hl h0 LQ) λσ H Q hq=>?_
 obtain⟨O0,r,ks,l,hR,e,q⟩:=hq;obtain⟨m,e1,e⟩:=aG e;split at e
 .rename_i hm;cases e;intro p hp;refine Ov ps m _ _ e1 (hR.same<|yD hp) λH2 s2=>?_
  have e2:H2 p=aA (.dK []):=s2 _ _ zJ;refine⟨e2,m.map λp=>(p.1,V.int p.2),by simp[rn],by simpa using hm.1,?_⟩;rw[uR _ _ (λ_ _=>rfl)<|by simpa [rn] using hm.2,xi];refine q p _ _ (λb o eb=>?_) hp zJ (by simp[rn]) ?_
  .have nb:b≠p:=λz=>by subst z;rw[hp] at eb;cases eb
   rw[zI nb];exact s2 _ _ (by rw[zI nb];exact eb)
  .have:∀m:List (Key×Int),IsL X.K (λb=>Ow O0 r σ b\/b=p) (upd H2 p<|.dK<|m.map λp=>(p.1,V.int p.2)) (m.map λp=>D.int p.2) ((m.map λp=>(p.1,V.int p.2)).map (·.2)):=λm=>by
    generalize upd H2 p _=H3
    induction m with
    |nil=>exact .nil
    |cons a m ih=>exact .cons (by rw[zG]) ih
   exact this m
 .cases e
section
variable{prog:Program}{w:World}{A:Around}{R:Result->Shared->Prop}{I:Addr}{fp wr:List Addr}{n:Nat}{P:Nat->Value->Prop}{St:Nat->Heap->Prop}{kw:List (Str×Value)}
noncomputable def Ny(its:Array Value)(c:Nat):Obj:={ cls:=.type "list",dict:=aD,data:=.seq its c,slots:=#[] }
theorem nC(W:Walks prog w A.in1 I fp wr n P St)(bt:Nat->Nat->Bool)(hc:CmpOf prog w A.in1 .Gt P bt)(S:Addr)(hS:S∉fp):∀(k j:Nat) (s:Shared) (vb:Value) (c:Nat),n=j+1+k->St (j+1) s.heap->P (argBest bt j) vb->s.heap.get? S=aA (Ny #[vb,vb] c) ->
  (∀v h' tk,P (argBest bt<|n-1) v->(∀b o,b∉wr->b≠S->s.heap.get? b=aA o->h'.get? b=aA o)->R (.ok<|.ret v) { s with heap:=h',toks:=tk })->codeAny (model prog w) A (.builtin "max.loop" ⟨[.ref I,.none,.ref S],kw⟩) R s
 |0,j,s,vb,c,hn,st,pb,es,q=>by
  refine jl wz ?_;rw[gc lg _];have nw:S∉wr:=λz=>hS<|W.sub _ z
  refine ac<|gn es rfl<|ac<|ra<|W.done s _ _ (by rw[hn];exact st) λh1 tk e1=>?_;have B3:=e1 S _ nw es;refine ac<|kl B3 rfl<|ac<|qm<|af ?_;refine q vb _ tk (by rw[hn];exact pb) λb o nb ns e=>?_
  rw[gj _ _<|ki ns];exact e1 b o nb e
 |k+1,j,s,vb,c,hn,st,pb,es,q=>by
  refine jl wz ?_;rw[gc lg _];have nw:S∉wr:=λz=>hS<|W.sub _ z
  refine ac<|gn es rfl<|ac<|ra<|W.item (j+1) s _ _ (by omega) st λv h1 tk pv eV e1=>?_;have B3:=e1 S _ nw es;refine ac<|af ?_;refine ac<|ra<|fi<|ac<|hc (j+1) (argBest bt j) v vb _ _ _ pv pb ?_;refine ac<|fi<|kq<|ac<|qm<|af ?_;have nm:(toString "max" ++ toString ".loop" : String) = "max.loop" := by decide
  by_cases hb:bt (j+1) (argBest bt j)=true
  .rw[if_pos hb];refine ac<|kl B3 rfl<|ac<|qm ?_;rw[nm];refine af ⟨jy lg _,nC W bt hc S hS k (j+1) _ v _ (by omega) (W.frame _ _ _ eV λb hb o e=>?_) (by unfold argBest;rw[if_pos hb];exact pv) (ir _ B3 rfl) λv2 h2 Ai p2 e2=>?_⟩
   .rw[gj _ _ λz:S=b=>hS<|z ▸ hb];exact e
   .refine q v2 h2 Ai p2 λb o nb ns e=>e2 b o nb ns ?_
    rw[gj _ _<|ki ns];exact e1 b o nb e
  .rw[if_neg hb];refine ac<|qm ?_;rw[nm];exact af ⟨jy lg _,nC W bt hc S hS k (j+1) _ vb c (by omega) eV (by unfold argBest;rw[if_neg hb];exact pb) B3 λv2 h2 Ai p2 e2=>q v2 h2 Ai p2 λb o nb ns e=>e2 b o nb ns<|e1 b o nb e⟩
def W8(W:Walks prog w A.in1 I fp wr n P St)(bt:Nat->Nat->Bool)(hc:CmpOf prog w A.in1 .Gt P bt)(S:Addr)(hS:S∉fp){s:Shared}{c:Nat}(hn:0<n)(st:St 0 s.heap)(es:s.heap.get? S=aA (Ny #[] c))(q:∀v h' tk,P (argBest bt<|n-1) v->(∀b o,b∉wr->b≠S->s.heap.get? b=aA o->h'.get? b=aA o)->R (.ok<|.ret v) { s with heap:=h',toks:=tk }):codeAny (model prog w) A (.builtin "max.loop" ⟨[.ref I,.none,.ref S],kw⟩) R s:=by
 refine jl wz ?_;rw[gc lg _];have nw:S∉wr:=λz=>hS<|W.sub _ z
 have nm:(toString "max" ++ toString ".loop" : String) = "max.loop" := by decide
 refine ac<|gn es rfl<|ac<|ra<|W.item 0 s _ _ hn st λv h1 tk pv eV e1=>?_;have B3:=e1 S _ nw es;refine ac<|af ?_;refine ac<|kl B3 rfl ?_;rw[nm];refine af ⟨jy lg _,nC W bt hc S hS (n-1) 0 _ v _ (by omega) (W.frame _ _ _ eV λb hb o e=>?_) pv (ir _ B3 rfl) λv2 h2 Ai p2 e2=>?_⟩
 .rw[gj _ _ λz:S=b=>hS<|z ▸ hb];exact e
 .refine q v2 h2 Ai p2 λb o nb ns e=>e2 b o nb ns ?_
  rw[gj _ _<|ki ns];exact e1 b o nb e
end
section
variable{prog:Program}{w:World}{A:Around}{E:Value->Shared->Prop}{s:Shared}
def Ú(a d:Value):checkBuiltinCall "max" ⟨[a],[(ia "default",d)]⟩=pure ():=by kernel_rfl
def QG{l:Addr}{xs:Array (Int×Tok)}{d:Value}{Q:Value->Shared->Prop}(hh:A.handled=aD)(hl:s.heap.IsList l (intItems xs))(h_:0<xs.size)(h:∀v h' tk,(intItems xs)[argBest (λi j=>decide (numAt xs i > numAt xs j))<|xs.size-1]?=aA v->(∀b o,s.heap.get? b=aA o->h'.get? b=aA o)->Q v { s with heap:=h',toks:=tk }):wpAny (model prog w) A (call (.builtin "max") [.ref l] [(ia "default",d)]) Q E s:=by
 refine wpAny_call<|codeAny_call_builtin F.plain_max F.entry_max ?_;rw[Ú];refine af ?_;refine ac<|io (show Builtin.Builtins.bindParams "max" ["key", "default"] 0 ⟨[],[(ia "default",d)]⟩=pure [aD,aA d] from rfl) ?_;refine ac<|af ?_;refine ac<|iter_intList hl λs₂ e st sP S8=>?_;subst e;refine ac<|cz ?_;have nm:(toString "max" ++ toString ".loop" : String) = "max.loop" := by decide
 rw[nm];refine af ⟨jy lg _,W8 (Walks.list (A:=A.in1) hh _ l S8<|intItems xs) _ (CmpOf.ints_gt (numAt xs) λ_ _=>aai) _ (λhm=>iw _<|sP _ hm) (by simpa [intItems] using h_) ?_ (ay _ rfl) λv h' tk hP hk=>?_⟩
 .exact(Walks.list (prog:=prog) (w:=w) (A:=A.in1) hh _ l S8<|intItems xs).frame _ _ _ st λb _ o e=>ad _ e
 .refine h v h' tk (by simpa [intItems] using hP) λb o e=>?_
  have lt:=al e;refine hk b o (λhm=>absurd lt (by rw[ck.mp hm];exact iw _)) (λz=>?_)<|ad _<|ad _ e;rw[z,kh] at lt;exact iw _<|ub (qh _) lt
end
def JH(hc:X.calm=true){pZ:List (Addr×Obj)}{σ:St}{H:Hp}{s:Shared}{p:Addr}{i:Int}{ns:List Int}{d:Value}{Q:VK}(I:Inv X pZ σ H s)(hS:aX X.K H p ((i::ns).map V.int))(q:Q (.int<|ns.foldl max i) H):wpAny (model X.prog X.w) X.A (call (.builtin "max") [.ref p] [(ia "default",d)]) (EP X pZ σ Q) X.xe s:=by
 obtain⟨its,rv,pl,hz⟩:=I.list hS;have hi:IntsAre its (i::ns):=bL rv;obtain⟨xs,e⟩:=hi.allInts.items;have sM:(i::ns)=xs.toList.map (·.1):=by rw[<-hi.numsOf,<-yp,<-e]
 have hsz:xs.size=ns.length+1:=by
  have h3:=congrArg jg sM;simpa using h3.symm
 have BC:=pl.isList;rw[e] at BC;refine QG (I.ok.hd hc) BC (by omega) λv h' tk hv hk=>?_
 obtain⟨t,rfl⟩:=aai hv;obtain⟨h1,h2⟩:=argBest_gt (numAt xs)<|xs.size-1;obtain⟨m1,m2⟩:=dM ns i;refine⟨.int<|ns.foldl max i,H,I.kept hk,⟨t,?_⟩,q⟩
 congr 1
 refine Int.le_antisymm (m2 _ ?_) ?_
 .rw[sM,numAt_eq];exact getD_mem (by rw[ag,gy];omega)
 .rw[sM] at m1;obtain⟨k,Lv,ek⟩:=mem_getD m1;rw[<-ek];rw[ag,gy] at Lv;rw[<-numAt_eq];exact h2 k (by omega)
def Ŵ(hc:X.calm=true)(hg:Gl X "max")(hm:X.mg "max" = aD)(ha:DB X a fl)(hd:PE X dx (tC w))(hs:ar [a] X.env=(false,eval a X.env)::ar [] X.env:=by rfl)(CJ:(nr pos<|ke [⟨aA "default",dx,kp⟩] X.env).all (·.1.isSome)=true:=by rfl)(hkw:(nr pos<|ke [⟨aA "default",dx,kp⟩] X.env).any (·.1.isNone)=false:=by rfl)(hks:(nr pos<|ke [⟨aA "default",dx,kp⟩] X.env).filterMap (·.1)=[ia "default"]:=by rfl)(Bi:lm pos (ar [a] X.env)=(false,eval a X.env)::lm pos (ar [] X.env):=by rfl)(hpl:(lm pos<|ar [a] X.env).any (·.1)=false:=by rfl):DE X (.Call (.Name "max" p') [a] [⟨aA "default",dx,kp⟩] pos) (YK fl):=by
 intro pZ s σ H Q I hq;obtain⟨O0,r,d,hR,e,q⟩:=hq;obtain⟨l,e1,e2⟩:=aG e;obtain⟨ns,e3,e4⟩:=aG e2;cases ns with
 |nil=>cases e4
 |cons i t=>
  cases e4;refine oq<|uB I hg hm uh ?_;refine PyProof.Rows.callWith_kw (aQ ((yK ha xH hs) pos pZ s σ H (λvs H1=>∃(p:Addr) (xs:List V),vs=[.ref p]/\aH H H1/\aX X.K H1 p xs/\IsL X.K (Ow O0 r σ) H1 l xs) I ⟨O0,r,l,hR,e1,λp xs H1 s1 sq il=>⟨p,xs,rfl,s1,sq,il⟩⟩) λus s1 ⟨vs,H1,I1,rv,p,xs,ev,sm,sq,il⟩=>?_) Bi hpl CJ hkw;subst ev;obtain⟨u,rfl,ru⟩:=Vals.one rv;cases ru;refine aQ ((Ķ hd Ì) pos pZ s1 σ H1 (λzs H2=>zs=[w]/\H2=H1) I1 ⟨rfl,rfl⟩) λws s2 ⟨zs,H2,I2,rz,ez,eh⟩=>?_
  subst ez eh;obtain⟨u,rfl,ru⟩:=Vals.one rz;rw[hks];have ex:=dI e3 il;subst ex;exact JH hc I2 sq (q _ _ sm<|by rw[zG])
noncomputable def L5(f:Expr->Option D):List Expr->Option (List D)
 |[]=>aA []
 |e::es=>(f e).bind λd=>(L5 f es).map (d::·)
def cst:Nat->Expr->Option D
 |0,_=>aD
 |n+1,e=>match e with
  |.Constant (.int i) _ _=>aA<|.int i
  |.Constant (.bool b) _ _=>aA<|.bl b
  |.Constant .none _ _=>aA .aE
  |.Constant (.str s) _ _=>aA<|.str s.cps.toList
  |.Tuple es _ _=>(L5 (cst n) es).bind λl=>if l.length<=100 then aA (.tup l) else aD
  |_=>aD
def R_(l:List D):ML:=λ_=>aA l
theorem Pm{f:Expr->Option D}(hf:∀e d,f e=aA d->DE X e (mC d))(hs:∀e d es,f e=aA d->ar (e::es) X.env=(false,eval e X.env)::ar es X.env):∀(es:List Expr) (l:List D),L5 f es=aA l->DA X es (R_ l)
 |[],l,h=>by cases h;exact pR
 |e::es,l,h=>by
  obtain⟨d,e1,e2⟩:=aG h;obtain⟨m,e3,rfl⟩:=aY e2;exact jX (hf e d e1) (Pm hf hs es m e3)<|hs e d es e1
def Xa(n:Nat)(e:Expr)(d:D)(es:List Expr)(h:cst n e=aA d):ar (e::es) env=(false,eval e env)::ar es env:=by
 cases n with
 |zero=>cases h
 |succ n=>cases e<;>first|rfl|cases h
theorem Pp:∀(n:Nat) (e:Expr) (d:D),cst n e=aA d->DE X e (mC d)
 |0,e,d,h=>by cases h
 |n+1,e,d,h=>by
  unfold cst at h;split at h
  .cases h;exact pO
  .cases h;exact Np
  .cases h;exact Oa
  .cases h;exact ZB rfl
  .obtain⟨l,e1,e2⟩:=aG h;split at e2
   .rename_i hl;cases e2;have q:mC (.tup l)=wI (R_ l):=by
     funext r
     exact(wH rfl hl).symm
    rw[q];exact Jr<|Pm (λe d h=>Pp n e d h) (λe d es h=>Xa n e d es h) _ l e1
   .cases e2
  .cases h
def We(h:cst 9 e=aA d):DE X e (mC d):=Pp 9 e d h
noncomputable def PJ:Expr->Bool
 |.Starred ..=>false
 |_=>true
def qa3(h:PJ a=true):ar (a::es) env=(false,eval a env)::ar es env:=by
 cases a<;>first|rfl|cases h
def qi3(ha:DE X a f)(hr:DA X es fs)(h:PJ a=true:=by rfl):DA X (a::es) (zA f fs):=jX ha hr<|qa3 h
section
variable{K:Fg}{P:Program}{w:World}{mg:Str->Option Value}{base:Heap}
def fH{st:Stmt}(F:j_ K x qual st f fd)(N:List Str)(n nN:Nat)(hb:N.Nodup->∀(eI:Value) (A:Around) (outer:List Env) (s:Shared) (H:Hp) (E:XK),eS k (A.deeper<|envOfC qual (yF st) s.heap.objs.size f eI)->sV (Ae eJ P w K mg base N qual (yF st) f eI A outer s H E).AQ (qB st) g)(S:sU N ps (yF st):=by exact⟨rfl,rfl,rfl,by decide +kernel,rfl,by decide +kernel,by decide +kernel⟩)(hn:ps.length=n:=by rfl)(hN:N.length=nN:=by rfl):eA P w K mg base eJ (k+1) f fd ps (iY K n<|eW n nN g):=Tn F S n nN hn hN<|hb S.nd
def iG{st:Stmt}(F:j_ K x qual st f fd)(N:List Str)(n nN:Nat)(hb:N.Nodup->∀(eI:Value) (A:Around) (outer:List Env) (s:Shared) (H:Hp) (E:XK),eS k (A.deeper<|envOfC qual (yF st) s.heap.objs.size f eI)->sE (Ae eJ P w K mg base N qual (yF st) f eI A outer s H E).AQ C 0 (qB st) g)(S:sU N ps (yF st):=by exact⟨rfl,rfl,rfl,by decide +kernel,rfl,by decide +kernel,by decide +kernel⟩)(hn:ps.length=n+1:=by rfl)(hN:N.length=nN:=by rfl):eA P w K mg base eJ (k+1) f fd ps (fD K C n<|fW n nN g):=Tl F S n nN hn hN<|hb S.nd
end
end DD
namespace K45
open PySem PySem.Spec PyProof.Rows L2 DD
noncomputable def top(i:Nat):Stmt:=PySem.Challenge.pw_fieldrows_k45_stuck_places.main.body.getD i<|.Pass ⟨0,0,0,0⟩
noncomputable abbrev Dd:List Str:=["value", "label"]
noncomputable abbrev Cp:List Str:=["self", "expression", "around"]
noncomputable abbrev BB:List Str:=["self", "expression"]
noncomputable abbrev eE:List Str:=["plain", "expression", "bound", "parts"]
noncomputable def RF:Nat:=40
noncomputable def WF:Nat:=100000
noncomputable def jF:Nat:=200
def gR:MS:=(xE<|xQ<|xW [] 1 (eG<|zD 0) (yI 0) (kY<|aU (j7 "tuple")<|zD 0)<|zD 0)
def v4:MF:=eW 1 1 gR
def vS:MS:=(yA (sW 1<|yL zM)
 (yA (sW 2<|yL<|zA (zD 0) zM)
 (yA (kK WF (YJ<|JR 2)
 (yA (J9 3<|rJ 2)
 (yA (sX<|AD 1<|zD 3)
 (sX<|Cd 2<|aU Bu<|zP 1 v4<|zA (zD 3) zM))))
 (gE 1))))
def kZ:MF:=eW 1 4 vS
def xK:MS:=(yA (sW 2<|yL zM)
 (yA (xB 3<|zK kR (zD 1)<|mC<|.int 1)
 (yA (mP (yI 4) (eG<|zP 1 v4<|zA (zD 0) zM)
 (yA (sX<|AD 2<|zD 3)
 (WL 3<|aU tS<|xQ<|dF 1 kZ<|zA (zD 4) zM)))
 (gE 2))))
def xO:MF:=eW 2 5 xK
noncomputable abbrev A3:=mC<|.str [110,117,109]
abbrev CQ:=zK aL (zD 0)<|mC<|.int 0
def dJ:MS:=(xE<|E3 (kY<|aU (j7 "int")<|zD 0) A3 CQ)
def xN:MF:=eW 1 1 dJ
noncomputable def vI:MS:=(yA (mO 3<|uE<|zD 0)
 (yA (mQ 3 (zD 1)<|zD 2)
 (GL 3)))
noncomputable def wG:MF:=eW 3 4 vI
abbrev Io:=mC<|.int 1000000
abbrev T9:=zK bT (zK Bt (zD 1)<|zD 2) Io
abbrev Mh:=mC<|.str [45]
abbrev Mg:=mC<|.str [43]
noncomputable abbrev Mf:=mC<|.str [42]
def bN:MS:=(yA (aR (aP<|zK c_ (zD 0) Mg)
 (xE<|zK bT (zK kR (zD 1)<|zD 2) Io)
 zV)
 (yA (aR (aP<|zK c_ (zD 0) Mh)
 (xE<|zK bT (zK Gd (zD 1)<|zD 2) Io)
 zV)
 (yA (aR (aP<|zK c_ (zD 0) Mf)
 (xE T9)
 zV)
 (xE<|E3 (aP<|zK p_ (zD 1)<|zD 2) (mC<|.int 1)<|mC<|.int 0))))
def vZ:MF:=eW 3 3 bN
abbrev fG:=zK aL (zD 0)<|mC<|.int 1
abbrev z_:=mC<|.str [111,110,101]
abbrev Ar:=mC<|.str [114,101,99]
abbrev B_:=zK c_ (zP 1 xN<|zA (zD 0) zM) Ar
abbrev D_:=zK aL (zD 0)<|mC<|.int 2
abbrev Ur:=zK c_ (zP 1 xN<|zA (zD 0) zM) z_
def vH:MS:=(yA (aR (aP B_)
 (xE<|xQ<|xX [0] 2 (eG<|xQ<|cH<|uE fG) (yI 1)<|JS (uE fG)<|zD 1)
 zV)
 (yA (aR (aP Ur)
 (xE<|xQ<|yL<|zA D_ zM)
 zV)
 (xE<|xQ<|yL zM)))
def xP:MF:=eW 1 1 vH
abbrev iV:=zK aL (zD 1)<|mC<|.int 0
abbrev Bo:=mC<|.str [102,110]
abbrev HW:=wI<|zA Bo zM
def qW:MS:=(yA (aR (aP B_)
 (xE<|wI<|zA Ar<|zA (GB (xQ<|cH<|uE fG)<|zD 1) zM)
 zV)
 (yA (aR (aP Ur)
 (xE<|wI<|zA z_<|zA fG<|zA iV zM)
 zV)
 (yA (aR (aP<|zK c_ (zP 1 xN<|zA (zD 0) zM) Bo)
 (xE HW)
 zV)
 (xE<|zD 0))))
def wC:MF:=eW 2 2 qW
abbrev MM:=aP<|zK B0 (I_<|JR 1)<|mC<|.int 200
noncomputable abbrev Uj:=wI<|zA (mC<|.str [100,101,101,112]) zM
def tV:MS:=(yA (sW 1<|yL zM)
 (yA (sW 2<|yL<|zA (zD 0) zM)
 (yA (kK WF (YJ<|JR 2)
 (yA (sX<|mS 1<|rJ 2)
 (yA (aR MM
 (xE Uj)
 zV)
 (sX<|Cd 2<|aU Bu<|zP 1 xP<|zA (Ce (JR 1)<|aU XS<|mC<|.int 1) zM))))
 (yA (sW 3<|yL zM)
 (yA (sZ 1 (mP (yI 4) (QH<|E2 1)
 (sX<|mS 3<|k9 2 wC<|kH (zD 4)<|uF<|b6 3 2 (eG<|zP 1 xP<|zA (zD 4) zM) (yI 1)<|rJ 0)))
 (xE<|Ce (JR 3)<|mC<|.int 0))))))
def JQ:MF:=eW 1 5 tV
abbrev T7:=wI<|zA (zD 1)<|zA (zD 2) zM
def bO(m:MF):MS:=(yA (sW 3<|dF 2 xO<|zA (zD 0)<|zA (zD 2) zM)
 (yA (sW 4<|yL zM)
 (yA (mP (yI 5) (eG<|zD 0)
 (aR (kY<|aU (j7 "tuple")<|zD 5)
 (sX<|mS 4<|k9 3 m<|kH (zD 5)<|kH (zD 1)<|uF<|EJ 3)
 (sX<|AD 4<|zD 5)))
 (xE<|uS<|sY (JR 4)<|yL<|zA T7 zM))))
def kA:Nat->MF
 |0=>λ_=>aD
 |k+1=>eW 3 6<|bO<|kA k
def vT:MS:=(xE<|dG B_<|EI false (zD 1)<|uE fG)
def qC:MF:=eW 2 2 vT
def jL:MS:=(xE<|dG B_<|EI true (zD 1)<|uE fG)
def qA:MF:=eW 2 2 jL
def qF:MS:=(yA (mO 3<|uE fG)
 (yA (mQ 3 (zD 1)<|zD 2)
 (By 3<|xE<|wI<|zA Ar<|zA (zD 3) zM)))
def xU:MF:=eW 3 4 qF
def xZ:MS:=(yA (mO 2<|uE fG)
 (yA (sX<|GA 2<|zD 1)
 (By 2<|xE<|wI<|zA Ar<|zA (zD 2) zM)))
def wO:MF:=eW 2 3 xZ
abbrev Ud:=aP<|zK p_ (zD 1)<|aU tS<|zD 0
def qZ:MS:=(yA (aR Ud
 (xE<|zK aL (zD 0)<|zD 1)
 zV)
 (xE<|mC<|.int 0))
def v5:MF:=eW 2 2 qZ
def qH:MS:=(yA (xB 2<|zK bT (zK kR (zK kR (zK bT (zD 0)<|mC<|.int 2147483647)<|zK Bt (mC<|.int 16807)<|zD 1)<|mC<|.int 7)<|mC<|.int 2147483629)
 (yA (xB 2<|zK bT (zK Bt (zD 2)<|zD 2)<|mC<|.int 2147483587)
 (xE<|zK gV (zK bT (zK Bt (zD 2)<|zK kR (zD 2)<|mC<|.int 48271)<|mC<|.int 2147483579)<|mC<|.int 5)))
def xV:MF:=eW 2 3 qH
abbrev B6:=mC<|.bl false
abbrev HX:=mC<|.bl true
abbrev Uk:=aP<|zK lC (aU tS<|zD 0)<|aU tS<|zD 1
def xJ(m:MF):MS:=(yA (aR (XT (kY<|aU (j7 "tuple")<|zD 1)<|kY<|aU (j7 "list")<|zD 1)
 (yA (aR (XT (aP<|zK lC (aU (j7 "tuple")<|zD 0)<|aU (j7 "tuple")<|zD 1)<|aP<|zK lC (aU (j7 "list")<|zD 0)<|aU (j7 "list")<|zD 1)
 (xE B6)
 zV)
 (yA (aR Uk
 (xE B6)
 zV)
 (yA (mP (jE 2<|yH (yI 2)<|yH (yI 3) jY) (GC (zD 0)<|zD 1)
 (aR (bV<|kY<|zP 2 m<|zA (zD 2)<|zA (zD 3) zM)
 (xE B6)
 zV))
 (xE HX))))
 zV)
 (yA (aR (kY<|aU (j7 "int")<|zD 1)
 (xE<|dG (aU (j7 "int")<|zD 0)<|dG (aU RQ<|aU (j7 "bool")<|zD 0)<|zK c_ (zD 0)<|zD 1)
 zV)
 (xE<|dG (aU (j7 "str")<|zD 0)<|zK c_ (zD 0)<|zD 1)))
def yV:Nat->MF
 |0=>λ_=>aD
 |k+1=>eW 2 4<|xJ<|yV k
abbrev UG:=zK aL (mC<|.str [113,120,122,106,118,107,97,101,105,109])<|zK bT (zP 2 xV<|zA (zD 0)<|zA (zK kR (mC<|.int 30)<|zD 1) zM)<|mC<|.int 10
abbrev UM:=zK kR (zK kR (fR (zD 0) kN<|wZ<|zD 1)<|zK aL (mC<|.str [119,114,121,115,117])<|zD 2)<|fR (zD 0) (wZ<|zD 1) kN
def wS:MS:=(yA (xB 1<|Gz (mC<|.str [])<|xX [0] 2 (C7<|zK bT (zD 0)<|mC<|.int 8) (yI 1) UG)
 (yA (xB 2<|zK bT (zK gV (zD 0)<|mC<|.int 8)<|zK kR (aU tS<|zD 1)<|mC<|.int 1)
 (xE<|xQ<|xX [1,2] 3 (C7<|mC<|.int 5) (yI 2) UM)))
def kB:MF:=eW 1 3 wS
abbrev As:=mC<|.str [115,116,117,99,107]
abbrev FQ:=zK aL (zD 3)<|mC<|.int 3
abbrev iP:=zK aL (zD 3)<|mC<|.int 1
abbrev Il:=zK aL FQ<|mC<|.int 0
abbrev Ic:=zK aL FQ<|mC<|.int 2
abbrev Ul:=wI<|zA (zD 1)<|zA (zK kR (zD 2) Ic) zM
abbrev Ut:=zK kR (zD 1)<|zK aL FQ<|mC<|.int 1
noncomputable abbrev Ub:=wI<|zA (zD 1)<|zA (mC .aE) zM
def wR:MS:=(yA (xB 1<|mC<|.int 0)
 (yA (xB 2<|mC<|.int 1)
 (yA (mP (yI 3) (eG<|zD 0)
 (yA (xB 1 Ut)
 (yA (aR (aP<|zK c_ Il As)
 (xE Ul)
 zV)
 (xB 2<|zK kR (zD 2) iP))))
 (xE Ub))))
def xG:MF:=eW 1 4 wR
abbrev e_:=zK aL (zD 1)<|mC<|.int 1
abbrev Mn:=aP<|zK c_ iV<|zD 0
def qI:MS:=(xE<|xQ<|xW [1] 2 (eG fG) (yI 1) Mn e_)
def wA:MF:=eW 2 2 qI
def vU:MS:=(yA (aR (kY<|aU (j7 "int")<|zD 0)
 (xE A3)
 zV)
 (xE CQ))
def y0:MF:=eW 1 1 vU
noncomputable abbrev MQ:=wI<|zA (zD 1)<|zA (JS (uE<|zD 0)<|zD 1) zM
def qY:MS:=(yA (mO 3<|o8<|AE<|zD 0)
 (yA (mQ 3 (zD 1)<|zD 2)
 (By 3<|xE<|wI<|zA Ar<|zA (uS<|xX [3] 2 (eG<|xQ<|cH<|uE<|zD 3) (yI 1) MQ) zM)))
def jJ:MF:=eW 3 4 qY
abbrev l8:=zK aL (zD 2)<|mC<|.int 0
abbrev FL:=mC<|.str [119,105,116,104]
abbrev FI:=zK c_ (zP 1 y0<|zA (zD 3) zM) z_
noncomputable abbrev UC:=mC<|.str [108,101,115,115]
abbrev UA:=aP<|zK (neN 400) (zK (AZ 400) (zP 2 wA<|zA (zD 3)<|zA (zD 1) zM)<|xQ<|yL zM)<|zK c_ (zD 0) FL
noncomputable abbrev Ie:=mC<|.str [110,101,118,101,114]
abbrev Ia:=aP<|zK (neN 400) iV<|zD 0
noncomputable abbrev MK:=wI<|zA Ar<|zA (uS<|AE<|zD 4) zM
abbrev MI:=mC<|.str [103,101,116]
abbrev UD:=zK aL (zP 2 wA<|zA (zD 3)<|zA (zD 1) zM)<|mC<|.int 0
abbrev Mr:=mC<|.str [116,97,103]
abbrev Mo:=zK (neN 400) iP<|zD 1
abbrev Ux:=aP<|zK lC (zP 1 y0<|zA (zD 3) zM) Ar
abbrev Us:=zK aL (zD 2)<|aU XS<|mC<|.int 1
abbrev Mm:=aP<|zK c_ (zD 0) UC
abbrev Ml:=zK Gd l8<|zD 3
abbrev Mj:=zK Bt l8<|zD 3
abbrev Mi:=zK kR l8<|zD 3
noncomputable abbrev TV:=mC<|.str [119,105,100,101]
def yT:MS:=(yA (xB 3 Us)
 (yA (aR (aP<|zK c_ (zD 0) Mr)
 (xE<|wI<|zA z_<|zA (zD 1)<|zA (zD 3) zM)
 zV)
 (yA (aR (aP<|zK (inD false) (zD 0)<|wI<|A8 [[103,101,116],[108,101,115,115],[119,105,116,104],[112,117,116]])
 (yA (aR (XT Ux UA)
 (xE<|mC .aE)
 zV)
 (yA (aR (aP<|zK c_ (zD 0) MI)
 (xE UD)
 zV)
 (yA (xB 4<|xQ<|xW [1] 2 (eG iP) (yI 1) Ia<|zD 1)
 (yA (aR Mm
 (xE MK)
 zV)
 (xE<|zP 3 jJ<|zA (zD 4)<|zA (zD 1)<|zA l8 zM)))))
 zV)
 (yA (aR (aP<|zK c_ (zD 0) TV)
 (xE<|zK aL (xQ<|yL<|zA (mC .aE)<|zA (zD 3) zM)<|aU bW<|dG FI Mo)
 zV)
 (yA (aR (XT (aP<|zK c_ (zD 0) Ie)<|XT (aP<|zK lC (zP 1 y0<|zA l8 zM) A3)<|aP<|zK lC (zP 1 y0<|zA (zD 3) zM) A3)
 (xE<|mC .aE)
 zV)
 (yA (aR (aP<|zK c_ (zD 0)<|mC<|.str [60])
 (xE<|aU bW<|zK p_ l8<|zD 3)
 zV)
 (xE<|zK bT (JS (uE<|rA<|Gx [(Mg,Mi),(Mh,Ml),(Mf,Mj)])<|zD 0) Io)))))))
def yJ:MF:=eW 3 5 yT
noncomputable abbrev B9:=mC<|.str [118,97,108,117,101]
abbrev MP:=zK aL (zK aL (zD 0)<|mC<|.int 3)<|mC<|.int 2
abbrev FG:=zK C8 (zD 1)<|mC .aE
abbrev MG:=aP<|zK C8 (zD 7)<|mC .aE
abbrev TQ:=aP<|zK Bs (zD 8)<|mC .aE
def x3:MS:=(yA (xB 3<|uS<|sY (sY (yL<|zA (zD 0) zM)<|AE<|fR (xQ<|yL<|zA (zD 1) zM) kN<|wZ<|aU bW FG)<|xX [] 1 (eG<|zD 2) (yI 0) CQ)
 (yA (xB 4<|zK kR (mC<|.int 1)<|cG<|xX [] 1 (eG<|zD 2) (yI 0) fG)
 (yA (xB 5<|zK kR (mC<|.int 1)<|YK<|xX [] 1 (eG<|zD 2) (yI 0) D_)
 (yA (XQ (zP 1 xG<|zA (zD 2) zM)<|jE 2<|yH (yI 6)<|yH (yI 7) jY)
 (yA (aR MG
 (xE<|wI<|zA (zD 3)<|zA (zD 4)<|zA (zD 5)<|zA (wI<|zA As<|zA (zD 6)<|zA (zD 7) zM)<|zA (mC .aE) zM)
 zV)
 (yA (xB 8<|zP 3 yJ<|zA (zD 0)<|zA (zD 1)<|zA (xQ<|xX [] 1 (eG<|zD 2) (yI 0) MP) zM)
 (yA (aR TQ
 (xE<|wI<|zA (zD 3)<|zA (zD 4)<|zA (zD 5)<|zA (wI<|zA As<|zA (zD 6)<|zA (mC<|.int 0) zM)<|zA (mC .aE) zM)
 zV)
 (xE<|wI<|zA (zD 3)<|zA (zD 4)<|zA (zD 5)<|zA (wI<|zA B9<|zA (zD 6)<|zA (zD 8) zM)<|zA (mC .aE) zM))))))))
def xA:MF:=eW 3 9 x3
abbrev A4:=zK aL (zD 1)<|mC<|.int 2
abbrev Bp:=zK aL (zD 0)<|mC<|.int 4
abbrev UH:=wI<|zA (zD 2)<|zA (zK kR (zK kR (mC<|.int 1) fG) e_)<|zA (zK kR (mC<|.int 1)<|Ek<|zA D_<|zA A4 zM)<|zA (zD 5)<|zA (mC .aE) zM
abbrev DV:=aP<|zK Bs (zD 4)<|mC .aE
abbrev UE:=zK kR (zK kR (zD 3)<|mC<|.int 1)<|zK aL Bp<|mC<|.int 1
noncomputable abbrev Uo:=wI<|zA As<|zA (zD 3)<|zA (mC<|.int 0) zM
noncomputable abbrev Uw:=wI<|zA As<|zA (zD 3)<|zA (zD 4) zM
def vJ:MS:=(yA (xB 2<|wI<|zA (mC<|.str [100,111])<|zA CQ<|zA iV zM)
 (yA (XQ (zP 1 xG<|zA (xQ<|yL<|zA (zD 0)<|zA (zD 1) zM) zM)<|jE 2<|yH (yI 3)<|yH (yI 4) jY)
 (yA (xB 5 Uw)
 (yA (aR (y3 DV<|aP<|zK Bs Bp<|mC .aE)
 (xB 5 Uo)
 (aR (y3 DV<|aP<|zK c_ (zK aL Bp<|mC<|.int 0) As)
 (xB 5<|wI<|zA As<|zA UE<|zA (zK kR (mC<|.int 2)<|zK aL Bp<|mC<|.int 2) zM)
 (aR DV
 (xB 5<|wI<|zA B9<|zA UE<|zA (zK aL Bp<|mC<|.int 2) zM)
 zV)))
 (xE UH)))))
def bA:MF:=eW 2 6 vJ
abbrev UO:=wI<|zA (zD 0)<|zA (zD 5)<|zA (zD 6)<|zA (wI<|zA (zD 7)<|zA (zK kR (zD 3)<|zD 8)<|zA (zD 9) zM)<|zA (mC .aE) zM
abbrev UJ:=wI<|zA (zD 0)<|zA (zD 5)<|zA (zD 6)<|zA Uo<|zA (mC .aE) zM
noncomputable abbrev UB:=wI<|zA (zD 0)<|zA (zD 5)<|zA (zD 6)<|zA Uw<|zA (mC .aE) zM
abbrev CP:=zK c_ (zD 7) As
abbrev Ug:=zK kR (zD 9)<|mC<|.int 1
abbrev Uz:=zK kR Ug<|cG<|xX [] 1 (eG<|fR (zD 1) kN<|wZ<|zD 2) (yI 0) fG
abbrev MN:=zK aL (zK aL (zD 1)<|zD 2)<|mC<|.int 3
abbrev MC:=aP<|zK Bs (zD 2)<|mC .aE
abbrev TU:=aP<|zK C8 (zD 4)<|mC .aE
def qX:MS:=(yA (XQ (zP 1 xG<|zA (fR (zD 1) kN<|wZ<|mC<|.int 1) zM)<|jE 2<|yH (yI 3)<|yH (yI 4) jY)
 (yA (xB 5<|zK kR (mC<|.int 1)<|cG<|xX [] 1 (eG<|zD 1) (yI 0) fG)
 (yA (xB 6<|zK kR (mC<|.int 1)<|YK<|xX [] 1 (eG<|zD 1) (yI 0) D_)
 (yA (aR TU
 (xE UB)
 zV)
 (yA (aR MC
 (xE UJ)
 zV)
 (yA (XQ MN<|jE 3<|yH (yI 7)<|yH (yI 8)<|yH (yI 9) jY)
 (yA (aR (aP CP)
 (xB 9 Uz)
 zV)
 (xE UO))))))))
def wE:MF:=eW 3 10 qX
abbrev B8:=zK bT (zD 0)<|mC<|.int 5
abbrev FP:=zK aL (zD 6)<|mC<|.int 0
abbrev My:=zK aL (zD 2)<|mC<|.int 2
abbrev Mx:=zK aL (zD 2)<|mC<|.int 1
abbrev M9:=wI<|zA (mC<|.str [105,102])<|zA (zK aL l8<|mC<|.int 0)<|zA (zK aL Mx<|mC<|.int 0)<|zA (zK aL My<|mC<|.int 0) zM
abbrev MR:=zK aL (zD 6)<|mC<|.int 2
abbrev Mq:=zK aL MR<|mC<|.int 1
abbrev Nd:=zK aL (xQ<|yL<|zA (mC<|.int 2)<|zA (mC<|.int 1) zM)<|aU bW<|zK c_ Mq<|zD 3
abbrev M2:=zK aL (xQ<|yL<|zA (mC<|.int 1)<|zA (mC<|.int 2) zM)<|aU bW<|zK c_ MR<|mC<|.int 0
abbrev UI:=wI<|zA (mC<|.str [99,97,115,101])<|zA (zK aL l8<|mC<|.int 0)<|zA (zD 3)<|zA (zD 4)<|zA (zK aL Mx<|mC<|.int 0)<|zA (zD 5)<|zA (zK aL My<|mC<|.int 0) zM
abbrev Mv:=zK gV (zD 0)<|mC<|.int 5
abbrev M6:=zK aL (zD 1)<|zK bT Mv<|mC<|.int 5
abbrev DW:=zK c_ B8<|mC<|.int 0
abbrev y_:=zK c_ FP B9
abbrev B7:=zK c_ (zD 7) z_
abbrev Ih:=zK gV (zD 0)<|mC<|.int 25
abbrev Ij:=aP<|zK c_ (zD 7) A3
abbrev MA:=aP<|zK B0 B8<|mC<|.int 1
abbrev Mu:=aP<|zK lC (dG y_ B7) DW
def qG:MS:=(yA (xB 3 M6)
 (yA (xB 4<|zK aL (zD 1)<|zK bT Ih<|mC<|.int 5)
 (yA (xB 5<|zK aL (zD 1)<|zK bT (zK gV (zD 0)<|mC<|.int 125)<|mC<|.int 5)
 (yA (xB 6<|zK aL l8<|mC<|.int 3)
 (yA (xB 7<|zP 1 y0<|zA MR zM)
 (yA (aR (y3 (aP y_)<|y3 (aP B7) MA)
 (xB 3 Mq)
 zV)
 (yA (aR Mu
 (yA (xB 8<|mC .aE)
 (yA (aR (y3 (aP y_)<|aP B7)
 (xB 8 Nd)
 zV)
 (yA (xB 9 UI)
 (xE<|zP 3 wE<|zA (zD 9)<|zA (zD 2)<|zA (zD 8) zM))))
 zV)
 (yA (xB 8<|mC .aE)
 (yA (aR (y3 (aP y_) Ij)
 (xB 8 M2)
 zV)
 (xE<|zP 3 wE<|zA M9<|zA (zD 2)<|zA (zD 8) zM))))))))))
def qK:MF:=eW 3 10 qG
abbrev FO:=zK bT Ih<|mC<|.int 2
abbrev FM:=zK aL (zD 2)<|mC<|.int 3
abbrev MJ:=mC<|.str [112,117,116]
abbrev M_:=zK aL (xQ<|yL<|zA MJ<|zA FL zM)<|aU bW<|zK (AZ 400) (zP 2 wA<|zA Ic<|zA (zD 4) zM)<|xQ<|yL zM
abbrev CT:=aP<|zK c_ (zP 1 y0<|zA Ic zM) Ar
abbrev CS:=aP<|zK c_ Il B9
abbrev FJ:=aP<|zK c_ (zK aL FM<|mC<|.int 0) B9
abbrev Ip:=aP<|zK C8 (zK aL (zD 2)<|mC<|.int 4)<|mC .aE
abbrev Im:=zK aL FM<|mC<|.int 2
abbrev M5:=aP<|zK (AZ 400) Im HW
abbrev UF:=zK aL (xQ<|yL<|A8 [[43],[45],[42],[60]])<|zK bT Ih<|mC<|.int 4
abbrev Ik:=zK c_ B8<|mC<|.int 1
abbrev Ib:=aP<|zK B0 B8<|mC<|.int 2
abbrev Uu:=zK aL (xQ<|yL<|zA FL<|zA MJ zM) FO
def kF:MS:=(yA (xB 4 M6)
 (yA (aR (XT Ip<|y3 (aP DW)<|bV<|y3 FJ M5)
 (xE<|zP 2 bA<|zA (zD 2)<|zA (zD 3) zM)
 zV)
 (yA (aR (XT (y3 CS CT)<|aP Ik)
 (yA (xB 5 Uu)
 (yA (aR (y3 Ib<|y3 CS CT)
 (xB 5 M_)
 zV)
 (xE<|zP 3 xA<|zA (zD 5)<|zA (zD 4)<|zA (xQ<|yL<|zA (zD 2)<|zA (zD 3) zM) zM)))
 zV)
 (xE<|zP 3 xA<|zA UF<|zA (mC .aE)<|zA (xQ<|yL<|zA (zD 2)<|zA (zD 3) zM) zM))))
def jH:MF:=eW 4 6 kF
abbrev Ea:=zK aL Im<|mC<|.int 1
abbrev UQ:=wI<|zA (wI<|zA Bo<|zA (zD 3)<|zA l8 zM)<|zA (zK kR Mx<|mC<|.int 1)<|zA (zK kR My<|mC<|.int 1)<|zA (mC<|.tup [(.str [118,97,108,117,101]),(.int 0),(.tup [(.str [102,110])])])<|zA FM zM
abbrev A2:=aP<|zK B0 B8<|mC<|.int 0
abbrev Iq:=zK aL (xQ<|yL<|zA Bo<|zA Mr zM) FO
abbrev M0:=zK aL (xQ<|yL<|zA TV<|zA Mr zM) FO
abbrev MY:=zK aL (zK aL Ea<|zK bT Mv<|aU tS Ea)<|mC<|.int 0
abbrev MT:=aP<|zK (neN 400) Ea<|wI zM
abbrev Uv:=zK aL (xQ<|yL<|zA MI<|zA UC zM) FO
def kG:MS:=(yA (xB 3 M6)
 (yA (xB 4<|mC<|.str [])
 (yA (aR FJ
 (xB 4<|zP 1 y0<|zA Im zM)
 zV)
 (yA (xB 5<|zK aL (xQ<|yL<|A8 [[103,101,116],[108,101,115,115],[119,105,100,101],[116,97,103],[110,101,118,101,114]])<|zK bT Ih<|mC<|.int 5)
 (yA (aR (y3 (aP<|zK c_ (zD 4) Ar)<|y3 MT A2)
 (yA (xB 3 MY)
 (xB 5 Uv))
 (aR (y3 (aP<|zK c_ (zD 4) z_) A2)
 (xB 5 M0)
 (aR A2
 (xB 5 Iq)
 zV)))
 (yA (aR (aP<|zK c_ (zD 5) Bo)
 (xE UQ)
 zV)
 (yA (aR (aP<|zK c_ (zD 5) Ie)
 (xB 3<|mC .aE)
 zV)
 (xE<|zP 3 xA<|zA (zD 5)<|zA (zD 3)<|zA (xQ<|yL<|zA (zD 2) zM) zM))))))))
def jI:MF:=eW 3 6 kG
abbrev D':=aP<|zK B0 (zD 5)<|zK aL (xQ<|yL<|zA (mC<|.int 9)<|zA (mC<|.int 2)<|zA (mC<|.int 4)<|zA (mC<|.int 6) zM)<|zD 6
abbrev M':=zK kR (zD 0)<|xQ<|yL<|zA (wI<|zA (wI<|zA A3<|zA (zD 9) zM)<|zA (mC<|.int 1)<|zA (mC<|.int 0)<|zA (wI<|zA B9<|zA (mC<|.int 0)<|zA (zD 9) zM)<|zA (mC .aE) zM) zM
noncomputable abbrev UP:=mC<|.tup [(.tup [(.str [101,109,112,116,121])]),(.int 1),(.int 0),(.tup [(.str [118,97,108,117,101]),(.int 0),(.tup [(.str [114,101,99]),(.tup [])])]),.aE]
abbrev Ir:=zK p_ (YK<|xX [] 1 (eG<|zD 7) (yI 0) D_)<|mC<|.int 20
abbrev DZ:=zK aL (zD 7)<|mC<|.int 0
abbrev DY:=aP<|zK LR (aU tS<|zD 0)<|zD 6
abbrev DR:=zK bT (zD 4)<|mC<|.int 3
abbrev Uc:=zK IG (mC<|.int 10)<|mC<|.int 6
abbrev MU:=zK bT (zK kR (zD 1)<|zD 4) Uc
abbrev Mz:=zK aL (zD 7)<|mC<|.int 1
abbrev UN:=zK kR (fR (zD 0) kN<|wZ<|aU XS<|mC<|.int 2)<|xQ<|yL<|zA (zP 4 jH<|zA (zD 4)<|zA (zD 3)<|zA DZ<|zA Mz zM) zM
abbrev UL:=zK kR (fR (zD 0) kN<|wZ<|aU XS<|mC<|.int 3)<|xQ<|yL<|zA (zP 3 qK<|zA (zD 4)<|zA (zD 3)<|zA (zD 7) zM) zM
abbrev UK:=zK kR (fR (zD 0) kN<|wZ<|aU XS<|mC<|.int 1)<|xQ<|yL<|zA (zP 3 jI<|zA (zD 4)<|zA (zD 3)<|zA DZ zM) zM
abbrev Uy:=zK bT (zP 2 xV<|zA (zD 1)<|zA (zK kR (zD 2)<|mC<|.int 300) zM)<|mC<|.int 9
abbrev Up:=zK bT (zK gV (zD 4)<|mC<|.int 3)<|mC<|.int 3
abbrev HY:=mC<|.int 60
abbrev Ue:=zK kR (zD 0)<|xQ<|yL<|zA UP zM
abbrev Ua:=aP<|zK c_ (zD 6)<|mC<|.int 3
abbrev T_:=aP<|zK c_ (zD 6)<|mC<|.int 2
def xT:MS:=(yA (xB 4<|zP 2 xV<|zA (zD 1)<|zA (zD 2) zM)
 (yA (xB 5 Uy)
 (yA (mP (yI 6) (eG<|xQ<|yL<|zA (mC<|.int 3)<|zA (mC<|.int 2)<|zA (mC<|.int 1) zM)
 (yA (xB 7<|fR (zD 0) (wZ<|aU XS<|zD 6) kN)
 (yA (xB 8<|dG (zK p_ (cG<|xX [] 1 (eG<|zD 7) (yI 0) fG) HY) Ir)
 (aR (y3 D'<|y3 DY<|kY<|zD 8)
 (yA (aR Ua
 (xE UL)
 zV)
 (yA (aR T_
 (xE UN)
 zV)
 (xE UK)))
 zV))))
 (yA (xB 9 MU)
 (yA (aR (aP<|zK c_ DR<|mC<|.int 0)
 (xE Ue)
 zV)
 (yA (aR (aP<|zK c_ DR<|mC<|.int 1)
 (xB 9 Up)
 zV)
 (xE M')))))))
def jT:MF:=eW 4 10 xT
def nD(i j:Nat):Stmt:=match top i with
 |.ClassDef _ _ _ body _ _ _ _ _ _ _=>body.getD j<|.Pass ⟨0,0,0,0⟩
 |s=>s
structure Dm(K:Fg)(n q:Str)(st:Stmt)(ps:List Str) where
 a:Addr
 d:FuncData
 F:j_ K n q st a d
 b:Binds K d ps []
noncomputable def AH:List (List Nat×List Int):=[([100,111],[1,2]),([103,101,116],[2]),([119,105,116,104],[2,3]),([112,117,116],[2,3]),([108,101,115,115],[2]),([116,97,103],[2]),([119,105,100,101],[2]),([99,97,115,101],[1]),([110,101,118,101,114],[1]),([105,102],[1]),([43],[1,2]),([45],[1,2]),([42],[1,2]),([60],[1,2])]
def yM(st:aF):List D->Option (D×aF)
 |[e,b]=>if st.wait.length<ae then aA (.aE,AG st<|.tup [e,b,.bl false]) else aD
 |_=>aD
def y6(st:aF):List D->Option (D×aF)
 |[v]=>if st.fB.length<ae then aA (.aE,Cg st v) else aD
 |_=>aD
noncomputable def ZL:D:=.tup [.str [116,105,114,101,100],.aE]
def qU(st:aF):List D->Option (D×aF)
 |[]=>if st.most<=st.steps then aA (.bl false,{ st with ended:=ZL }) else aA (.bl true,{ st with steps:=st.steps+1 })
 |_=>aD
def Z4(e b:D):List Int->aF->Option aF
 |[],st=>aA st
 |i::t,st=>(aL e<|.int i).bind λp=>(yM st [p,b]).bind λq=>Z4 e b t q.2
def cN:D->Option (List Int)
 |.tup (.str s::_)=>aA<|(wY AH s).getD []
 |_=>aD
def yP(st:aF):List D->Option (D×aF)
 |[e,b]=>if st.wait.length<ae then (cN e).bind λl=>(Z4 e b l.reverse<|AG st<|.tup [e,b,.bl true]).map λs=>(.aE,s) else aD
 |_=>aD
def yX(st:aF):List D->Option (D×aF)
 |[e]=>(cN e).bind λl=>if l.length<=st.fB.length/\l.length<ae then aA (.lst<|st.fB.drop<|st.fB.length-l.length,{ st with fB:=st.fB.take (st.fB.length-l.length) }) else aD
 |_=>aD
def j9(st:aF):List D->Option (D×aF)
 |[.tup [_,v,_],_,_]=>y6 st [v]
 |_=>aD
def w8(st:aF):List D->Option (D×aF)
 |[.tup [_,.str s,_],.aI ks l,_]=>match xS ks l (.inr ⟨s.toArray⟩) with
  |some v=>y6 st [v]
  |none=>(qU st []).bind λp=>match p.1,p.2.defs with
   |.bl true,.aI ks l=>(xS ks l<|.inr ⟨s.toArray⟩).bind λd=>yM p.2 [d,.aI [] []]
   |.bl false,_=>aA (.aE,p.2)
   |_,_=>aD
 |_=>aD
noncomputable def iD:List Nat:=[115,116,117,99,107]
def yC(st:aF):List D->Option (D×aF)
 |[.tup l]=>(l.getLast?).map λm=>(.aE,{ st with ended:=.tup [.str iD,m] })
 |_=>aD
noncomputable def n8:D->Option (List Nat)
 |.int _=>aA [110,117,109]
 |.tup (.str w::_)=>aA w
 |_=>aD
def mU(st:aF)(e v:D)(k:List Nat):Option (D×aF):=(n8 v).bind λw=>if w=k then aD else yC st [e]
noncomputable def C5:D->Option (List Key×List D)
 |.tup [.str w,.aI ks l]=>if w=[114,101,99] then aA (ks,l) else aD
 |_=>aD
noncomputable def GF:D->Option (List Nat×D)
 |.tup [.str w,.str s,v]=>if w=[111,110,101] then aA (s,v) else aD
 |_=>aD
noncomputable def isFn:D->Option (List Nat×D×List Key×List D)
 |.tup [.str w,.str x,e,.aI ks l]=>if w=[102,110] then aA (x,e,ks,l) else aD
 |_=>aD
def qP(st:aF):List D->Option (D×aF)
 |[.tup [a,q,x,y,m],b,.lst [v]]=>match v with
  |.int i=>if i=0 then yM st [y,b] else yM st [x,b]
  |v=>mU st (.tup [a,q,x,y,m]) v [110,117,109]
 |_=>aD
def jV(st:aF):List D->Option (D×aF)
 |[.tup [_,x,e,_],b,_]=>y6 st [.tup [.str [102,110],x,e,b]]
 |_=>aD
def jW(st:aF):List D->Option (D×aF)
 |[e,_,.lst [f,v]]=>match isFn f with
  |some (x,body,ks,l)=>if ks.length<ae then (qU st []).bind λp=>match p.1 with
   |.bl true=>yM p.2 [body,.aI (jK ks l (.inr ⟨x.toArray⟩) v).1 (jK ks l (.inr ⟨x.toArray⟩) v).2]
   |.bl false=>aA (.aE,p.2)
   |_=>aD
   else aD
  |none=>mU st e f [102,110]
 |_=>aD
def wV(st:aF):List D->Option (D×aF)
 |[_,_,_]=>y6 st [.tup [.str [114,101,99],.aI [] []]]
 |_=>aD
def qO(st:aF):List D->Option (D×aF)
 |[.tup [_,s,_,_],_,.lst [v]]=>y6 st [.tup [.str [111,110,101],s,v]]
 |_=>aD
def w6(st:aF):List D->Option (D×aF)
 |[.tup [a,.str s,c,m],_,.lst [v]]=>match GF v with
  |some (s2,_)=>if s2≠s then y6 st [v] else yC st [.tup [a,.str s,c,m]]
  |none=>mU st (.tup [a,.str s,c,m]) v [111,110,101]
 |_=>aD
def x0(st:aF):List D->Option (D×aF)
 |[.tup [a,.str s,c,d,m],_,.lst [v,r]]=>match C5 r with
  |some (ks,l)=>if xS ks l (.inr ⟨s.toArray⟩)=aD then if ks.length<ae then y6 st [.tup [.str [114,101,99],.aI (jK ks l (.inr ⟨s.toArray⟩) v).1 (jK ks l (.inr ⟨s.toArray⟩) v).2]] else aD else yC st [.tup [a,.str s,c,d,m]]
  |none=>mU st (.tup [a,.str s,c,d,m]) r [114,101,99]
 |_=>aD
def wT(st:aF):List D->Option (D×aF)
 |[.tup [a,.str s,c,d,m],_,.lst [v,r]]=>match C5 r with
  |some (ks,l)=>if xS ks l (.inr ⟨s.toArray⟩)=aD then yC st [.tup [a,.str s,c,d,m]] else if ks.length<ae then y6 st [.tup [.str [114,101,99],.aI (jK ks l (.inr ⟨s.toArray⟩) v).1 (jK ks l (.inr ⟨s.toArray⟩) v).2]] else aD
  |none=>mU st (.tup [a,.str s,c,d,m]) r [114,101,99]
 |_=>aD
def qQ(st:aF):List D->Option (D×aF)
 |[.tup [a,.str s,c,m],_,.lst [v]]=>match C5 v with
  |some (ks,l)=>match xS ks l (.inr ⟨s.toArray⟩) with
   |some u=>y6 st [u]
   |none=>yC st [.tup [a,.str s,c,m]]
  |none=>mU st (.tup [a,.str s,c,m]) v [114,101,99]
 |_=>aD
def wL(st:aF):List D->Option (D×aF)
 |[.tup [a,.str s,c,m],_,.lst [v]]=>match C5 v with
  |some (ks,l)=>match xS ks l (.inr ⟨s.toArray⟩) with
   |some _=>y6 st [.tup [.str [114,101,99],.aI (jA ks l<|.inr ⟨s.toArray⟩).1 (jA ks l<|.inr ⟨s.toArray⟩).2]]
   |none=>yC st [.tup [a,.str s,c,m]]
  |none=>mU st (.tup [a,.str s,c,m]) v [114,101,99]
 |_=>aD
def xL(st:aF):List D->Option (D×aF)
 |[.tup [a,q,.str s,.str x,e1,.str y,e2,m],.aI ks l,.lst [v]]=>match GF v with
  |some (s2,u)=>if ks.length<ae then if s2=s then yM st [e1,.aI (jK ks l (.inr ⟨x.toArray⟩) u).1 (jK ks l (.inr ⟨x.toArray⟩) u).2] else yM st [e2,.aI (jK ks l (.inr ⟨y.toArray⟩) v).1 (jK ks l (.inr ⟨y.toArray⟩) v).2] else aD
  |none=>mU st (.tup [a,q,.str s,.str x,e1,.str y,e2,m]) v [111,110,101]
 |_=>aD
def wU(st:aF):List D->Option (D×aF)
 |[e,_,_]=>yC st [e]
 |_=>aD
noncomputable def wk(w:List Nat)(i j:Int):Int:=if w=[43] then (i+j) % 1000000 else if w=[45] then (i-j) % 1000000 else if w=[42] then i*j % 1000000 else if i<j then 1 else 0
def vM(i:Int):Prop:=0<=i/\i<1000000
instance (i:Int):Decidable (vM i):=inferInstanceAs<|Decidable<|_/\_
def yU(st:aF):List D->Option (D×aF)
 |[.tup [.str w,x,y,m],_,.lst [u,v]]=>match u,v with
  |.int i,.int j=>if vM i/\vM j then y6 st [.int<|wk w i j] else aD
  |.int _,v=>mU st (.tup [.str w,x,y,m]) v [110,117,109]
  |u,v=>(n8 v).bind λ_=>mU st (.tup [.str w,x,y,m]) u [110,117,109]
 |_=>aD
def ways(w:List Nat):Option (aF->List D->Option (D×aF)):=if w=[110,117,109] then aA j9 else if w=[110,97,109,101] then aA w8 else if w=[102,110] then aA jV else if w=[100,111] then aA jW else if w=[101,109,112,116,121] then aA wV else if w=[103,101,116] then aA qQ else if w=[119,105,116,104] then aA x0 else if w=[112,117,116] then aA wT else if w=[108,101,115,115] then aA wL else if w=[116,97,103] then aA qO else if w=[119,105,100,101] then aA w6 else if w=[99,97,115,101] then aA xL else if w=[110,101,118,101,114] then aA wU else if w=[105,102] then aA qP else if w=[43]\/w=[45]\/w=[42]\/w=[60] then aA yU else aD
def qR(st:aF):List D->Option (D×aF)
 |[.tup (.str w::r),b,ps]=>(ways w).bind λmm=>(mm st [.tup (.str w::r),b,ps]).map λq=>(.aE,q.2)
 |_=>aD
def nW(st:aF):Option aF:=match st.wait.getLast? with
 |some (.tup [e,b,.bl true])=>(yX { st with wait:=st.wait.dropLast } [e]).bind λp=>(qR p.2 [e,b,p.1]).map (·.2)
 |some (.tup [e,b,.bl false])=>(yP { st with wait:=st.wait.dropLast } [e,b]).map (·.2)
 |_=>aD
def mZ:Nat->aF->Option aF
 |0,_=>aD
 |n+1,st=>if st.wait.isEmpty=false/\lY st.ended=true then (nW st).bind (mZ n) else aA st
def j8(st:aF):List D->Option (D×aF)
 |[]=>(mZ WF st).map λs=>(.aE,s)
 |_=>aD
abbrev MZ:=wI<|zA (zD 0)<|zA (zP 3 (kA RF)<|zA (zD 1)<|zA (zD 0)<|zA (mC<|.int 0) zM) zM
def Fz:ME:=(rA<|o8<|xX [] 2 (eG<|zD 1) (jE 2<|yH (yI 0)<|yH (yI 1) jY) MZ)
def dd(pd:D):Option D:=Fz [.un,.v pd,.v<|.int 0]
def F4(st:aF):Option D:=match st.ended with
 |.aE=>(st.fB.getLast?).bind λv=>(JQ [.v v]).bind λq=>match q.1 with
  |.v d=>aA<|.tup [.str [118,97,108,117,101],.int st.steps,d]
  |_=>aD
 |.tup [a,b]=>aA<|.tup [a,.int st.steps,b]
 |_=>aD
def IH(m:Int)(d:D):Option D:=match d with
 |.aI ks l=>(xS ks l<|.inr ⟨([109,97,105,110]:List Nat).toArray⟩).bind λe=>(mZ WF ⟨m,0,[.tup [e,.aI [] [],.bl false]],[],.aE,d⟩).bind F4
 |_=>aD
def bX:MF:=λas=>match as with
 |[.v pd,.v<|.int m]=>(dd pd).bind λd=>(IH m d).map λx=>(.v x,[.v pd,.v<|.int m])
 |_=>aD
noncomputable abbrev Ig:=mC<|.str [122,113]
abbrev Na:=wI<|zA (zD 7)<|zA (zK kR (zD 8)<|mC<|.int 1)<|zA (zK aL (xQ<|yL<|zA (wI<|zA z_<|zA (mC<|.str [97])<|zA (zD 9) zM)<|zA (wI<|zA Ig<|zA (zD 9) zM) zM)<|aU bW CP) zM
abbrev FK:=mC<|.str [109,97,105,110]
abbrev M8:=wI<|zA (zD 7)<|zA (zD 8)<|zA (zK aL (xQ<|yL<|zA (zD 9)<|zA (wI<|zA FK<|zA (zD 9) zM) zM)<|aU bW CP) zM
noncomputable abbrev M7:=mC<|.tup [(.str [109,97,105,110]),(.tup [(.str [100,111]),(.tup [(.str [110,97,109,101]),(.str [122,113])]),(.tup [(.str [110,117,109]),(.int 1)])])]
abbrev Uf:=zK kR (zD 8)<|mC<|.int 2
abbrev Nc:=wI<|zA (zD 7)<|zA Uf<|zA (wI<|zA Ig<|zA Ug zM) zM
noncomputable abbrev Nb:=mC<|.tup [(.str [109,97,105,110]),(.tup [(.str [116,97,103]),(.str [97]),(.tup [(.str [110,97,109,101]),(.str [122,113])])])]
abbrev MW:=wI<|zA Ig<|zA (wI<|zA Bo<|zA l8<|zA FP zM) zM
abbrev MV:=wI<|zA (zD 7)<|zA Uf<|zA (zD 9) zM
abbrev M4:=zK bT (zP 2 xV<|zA (zD 1)<|zA (zD 4) zM)<|mC<|.int 3
abbrev H_:=zK aL (zD 6)<|mC<|.int 3
abbrev FE:=mC<|.int 1000
abbrev Mt:=wI<|zA Ig<|zA FP zM
abbrev Ms:=wI<|zA FK<|zA FP zM
abbrev HZ:=mC<|.int 101
def ED:MS:=(yA (xB 1<|zP 2 xV<|zA (zP 2 v5<|zA (zD 0)<|zA (mC<|.int 0) zM)<|zA (mC<|.int 900) zM)
 (yA (xB 2<|zP 1 kB<|zA (zD 1) zM)
 (yA (xB 3<|xQ<|yL<|zA UP zM)
 (yA (mP (jE 2<|yH (yI 4)<|yH (yI 5) jY) (YL<|fR (zD 0) (wZ<|mC<|.int 1)<|wZ HZ)
 (xB 3<|zP 4 jT<|zA (zD 3)<|zA (zD 5)<|zA (zD 4)<|zA (zD 2) zM))
 (yA (mP (jE 2<|yH (yI 4)<|yH (yI 6) jY) (YL<|zD 3)
 (yA (XQ H_<|jE 3<|yH (yI 7)<|yH (yI 8)<|yH (yI 9) jY)
 (yA (xB 10<|xQ<|yL<|zA Ms zM)
 (yA (xB 11 M8)
 (yA (aR (aP<|zK c_ M4<|mC<|.int 1)
 (yA (xB 10<|xQ<|yL<|zA MW<|zA M7 zM)
 (yA (xB 11 MV)
 (aR (aP CP)
 (xB 11 Nc)
 zV)))
 zV)
 (yA (aR (aP<|zK c_ M4<|mC<|.int 0)
 (yA (xB 10<|xQ<|yL<|zA Mt<|zA Nb zM)
 (xB 11 Na))
 zV)
 (aR (bV<|kY<|zP 2 (yV jF)<|zA (zP 2 bX<|zA (zD 10)<|zA FE zM)<|zA (zD 11) zM)
 (xE B6)
 zV)))))))
 (xE HX))))))
def XM:MF:=eW 1 12 ED
structure De(K:Fg)(mg:Str->Option Value)(n:Str)(i:Nat)(ps:List Str) where
 a:Addr
 d:FuncData
 F:j_ K n n (top i) a d
 m:mg n=aA (.ref a)
 b:Binds K d ps []
abbrev Ok(P:Program)(w:World){K:Fg}{mg:Str->Option Value}(base:Heap){n:Str}{i:Nat}{ps:List Str}(D:De K mg n i ps)(k m:Nat)(F:MF):Prop:=eA P w K mg base eJ k D.a D.d ps<|iY K m F
set_option genInjectivity false in
set_option genSizeOf false in
structure Txt(K:Fg)(mg:Str->Option Value)(Ps:Params) where
 Sh:De K mg "inner" 2 ["expression"]
 Sj:De K mg "places" 1 ["E"]
 SO:De K mg "inner_numbers" 4 ["expression", "number"]
 So:De K mg "sort_of" 9 ["value"]
 Sn:De K mg "binding" 10 ["bound", "name", "value"]
 Si:De K mg "worked" 11 ["word", "first", "second"]
 Sm:De K mg "held_in" 38 ["value"]
 Sy:De K mg "told_part" 39 ["value", "held"]
 E8:De K mg "told" 37 ["value"]
 E_:De K mg "marked" 15 ["expression", "name", "number"]
 Sx:De K mg "has_field" 17 Dd
 SM:De K mg "has_no_field" 18 Dd
 SI:De K mg "with_field" 19 ["record", "label", "value"]
 SN:De K mg "without_field" 20 ["record", "label"]
 Sw:De K mg "_law_cell" 41 ["_law_script", "_law_k"]
 SH:De K mg "_law_mixed" 42 ["_law_cell_here", "_law_k"]
 SG:De K mg "_law_alike" 43 ["_law_found", "_law_due"]
 SK:De K mg "_law_labels" 44 ["_law_cell_here"]
 SJ:De K mg "_law_strict" 45 ["_law_items"]
 SF:De K mg "_law_field" 46 ["_law_record", "_law_label"]
 Sv:De K mg "_law_sort" 47 ["_law_value"]
 Su:De K mg "_law_laid" 49 ["_law_rest", "_law_label", "_law_value"]
 SE:De K mg "_law_comes" 48 ["_law_word", "_law_label", "_law_values"]
 SD:De K mg "_law_plain" 50 ["_law_word", "_law_label", "_law_items"]
 Sk:De K mg "_law_do" 51 ["_law_one_here", "_law_other"]
 Ss:De K mg "_law_ways" 52 ["_law_told", "_law_items", "_law_takes"]
 SA:De K mg "_law_three" 53 ["_law_number", "_law_labels_here", "_law_items"]
 Sr:De K mg "_law_two" 54 ["_law_number", "_law_labels_here", "_law_one_here", "_law_other"]
 Sq:De K mg "_law_one" 55 ["_law_number", "_law_labels_here", "_law_item"]
 Sz:De K mg "_law_grown" 56 ["_law_pile", "_law_cell_here", "_law_k", "_law_labels_here"]
 Sf:De K mg "law" 57 ["_law_script"]
 C:Addr
 B:Addr
 mC:mg "Plain" = aA (.ref C)
 mB:mg "Reckoner" = aA (.ref B)
 cl:f9 K C
 Hv:fP K C "most"
 Cz:fP K C "steps"
 Dr:fP K C "waiting"
 Do:fP K C "come"
 BH:fP K C "ended"
 E7:fP K C "defs"
 Cy:Dm K "__init__" "Reckoner.__init__" (nD 8 0) ["self", "most"]
 Cw:Dm K "__init__" "Plain.__init__" (nD 16 0) ["self", "program", "most"]
 Cv:Dm K "begin" "Reckoner.begin" (nD 8 1) Cp
 Dl:Dm K "tell" "Reckoner.tell" (nD 8 2) ["self", "value"]
 Dk:Dm K "step" "Reckoner.step" (nD 8 3) ["self"]
 CA:Dm K "run_on" "Reckoner.run_on" (nD 8 4) ["self"]
 Dt:Dm K "begin_parts" "Reckoner.begin_parts" (nD 8 5) Cp
 Ds:Dm K "parts_come" "Reckoner.parts_come" (nD 8 6) BB
 Dq:Dm K "go_on" "Plain.go_on" (nD 16 1) ["self", "expression", "bound", "parts"]
 Dp:Dm K "stick" "Plain.stick" (nD 16 2) BB
 Td:Meth K C "begin" Cv.a
 qf7:Meth K C "tell" Dl.a
 qf9:Meth K C "step" Dk.a
 qg0:Meth K C "run_on" CA.a
 qg3:Meth K C "begin_parts" Dt.a
 qg1:Meth K C "parts_come" Ds.a
 qg2:Meth K C "go_on" Dq.a
 qf8:Meth K C "stick" Dp.a
 mkC:Mk K C Cw.a
 cm:UY K B "__init__" Cy.a
 Hu:De K mg "run" 14 ["program", "most"]
 BL:De K mg "of_num" 21 eE
 BQ:De K mg "of_name" 22 eE
 BG:De K mg "of_fn" 23 eE
 BF:De K mg "of_do" 24 eE
 BS:De K mg "of_empty" 25 eE
 BK:De K mg "of_get" 26 eE
 BP:De K mg "of_with" 27 eE
 BJ:De K mg "of_put" 28 eE
 BO:De K mg "of_less" 29 eE
 BI:De K mg "of_tag" 30 eE
 BN:De K mg "of_wide" 31 eE
 BM:De K mg "of_case" 32 eE
 BR:De K mg "of_never" 33 eE
 BE:De K mg "of_if" 34 eE
 lD:De K mg "of_working" 35 eE
 wt:List (List Nat×Addr)
 ways:JP mg K Ps "WAYS" wt
 ahead:Oe mg K Ps "AHEAD" AH
 j6u:qS wt [110,117,109]=aA BL.a
 j6b:qS wt [110,97,109,101]=aA BQ.a
 ϣ:qS wt [102,110]=aA BG.a
 Ϥ:qS wt [100,111]=aA BF.a
 j4w:qS wt [101,109,112,116,121]=aA BS.a
 j6v:qS wt [103,101,116]=aA BK.a
 j6c:qS wt [119,105,116,104]=aA BP.a
 j6w:qS wt [112,117,116]=aA BJ.a
 j6d:qS wt [108,101,115,115]=aA BO.a
 j6x:qS wt [116,97,103]=aA BI.a
 j6e:qS wt [119,105,100,101]=aA BN.a
 j6f:qS wt [99,97,115,101]=aA BM.a
 j4x:qS wt [110,101,118,101,114]=aA BR.a
 Ϣ:qS wt [105,102]=aA BE.a
 j6y:qS wt [43]=aA lD.a
 j6z:qS wt [45]=aA lD.a
 j7a:qS wt [42]=aA lD.a
 j7b:qS wt [60]=aA lD.a
 K2:mg "bool" = aD
 E6:mg "dict" = aD
 K_:mg "enumerate" = aD
 Ht:mg "int" = aD
 La:mg "isinstance" = aD
 Hs:mg "len" = aD
 KZ:mg "list" = aD
 E5:mg "max" = aD
 K7:mg "range" = aD
 Hw:mg "reversed" = aD
 K9:mg "sorted" = aD
 KW:mg "str" = aD
 KU:mg "sum" = aD
 E9:mg "tuple" = aD
 Hr:mg "zip" = aD
 Lc:∃t,mg "END_OF_NUMBERS" = aA (.int 1000000 t)
 K':∃t,mg "MOST_PARTS" = aA (.int 200 t)
section
variable{P:Program}{w:World}{K:Fg}{mg:Str->Option Value}{base:Heap}
set_option hygiene false
local macro_rules | `(tactic| walk_at "f")=>`(tactic| (show eA P w K mg base eJ _ _ _ _<|iY K _ _;with_reducible first|exact Η T|exact W0 T|exact r8 T|exact tJ T|exact hV T|exact uA T|exact G|exact c8 T|exact mE T|exact dA T|exact mG T|exact bZ T|exact dB T|exact mD T|exact tL T|exact c7 T|exact c6 T|exact oW T|exact oX T|exact tK T|exact WY T|exact uO T|exact cZ T|exact hZ T|exact v9 T|exact mH T|exact b0 T|exact c9 T|exact Ym T|exact vP jF T))
local macro_rules | `(tactic| walk_at "m")=>`(tactic| (show eA P w K mg base eJ _ _ _ _<|fD K T.C _ _;with_reducible first|exact YC T|exact Ĥ T|exact ģ T|exact ϊ T|exact c5 T|exact Ζ T|exact bY T))
local macro_rules | `(tactic| walk_at "h")=>`(tactic| first|exact T.Td|exact T.qf7|exact T.qf9|exact T.qf8|exact T.qg1|exact T.qg2|exact T.qg3)
local macro_rules | `(tactic| walk_at "o")=>`(tactic| with_reducible first|exact Ġ|exact Xx|exact Zh|exact Zm|exact Zi|exact Zg|exact Vv|exact Ğ|exact Zj|exact Vw false|exact Xy|exact Zk|exact ğ|exact Xz|exact Vu|exact Zl)
local macro_rules | `(tactic| walk_at "d")=>`(tactic| first|(guard_target=DE _ _ _;first|(guard_target=DE _ _ (zD _);exact uC _<|pv _)|(guard_target=DE _ _ (mC<|.int _);exact pO)|(guard_target=DE _ _ (zK aL _ _);refine Nq ?_ ?_)|(guard_target=DE _ _ (mC<|.str _);exact ZB<|by rfl)|(guard_target=DE _ (.BinOp _ _ _ _) _;refine Wc ?_ (by walk_at "o") ?_ ?_)|(guard_target=DE _ _ (zP _ _ _);refine Po (by walk_at "f") ?_ ?_ ?_ ?_ ?_ ?_)|(guard_target=DE _ _ (wI _);refine Jr ?_)|with_reducible refine qi0 ?_|(guard_target=DE _ _ (mC .aE);exact Oa)|(guard_target=DE _ (.Compare _ _ _ _) _;refine Wd ?_ (by walk_at "o") ?_ ?_ ?_)|(guard_target=DE _ _ (aU _ _);first|refine Q7 (by rfl) T.La ?_ ?_|refine å (by rfl) T.Ht ?_|refine Wg (by rfl) T.Hs ?_|refine Wi ?_|refine Wl ?_|refine ã T.ahead (by rfl) ?_ ?_|refine Wj ?_)|(guard_target=DE _ _ (mC<|.bl _);exact Np)|(guard_target=DE _ _ (fR _ _ _);refine Vf ?_ ?_ ?_)|(guard_target=DE _ _ (dG _ _);refine Wa ?_ ?_)|with_reducible refine IU ?_|(guard_target=DE _ _ (JS _ _);refine Wb (GX hr) ?_ ?_)|(guard_target=DE _ _ (mC<|.tup _);refine We ?_)|(guard_target=DE _ _ (uS _);refine t9 (by rfl) T.E9 ?_)|(guard_target=DE _ _ (cG _);refine é (by rfl) (by rfl) T.KU ?_)|(guard_target=DE _ _ (mC _);first|exact Pq T.Lc (by rfl)|exact qj6|exact Pq T.K'<|by rfl)|(guard_target=DE _ _ (E3 _ _ _);refine Ve ?_ ?_ ?_)|(guard_target=DE _ _ (Ce _ _);refine Wf ?_ ?_)|(guard_target=DE _ _ (YK _);first|refine è (by rfl) (by rfl) T.E5 ?_|refine Ŵ (by rfl) (by rfl) T.E5 ?_ oM)|(guard_target=DE _ _ (GB _ _);refine Q6 rfl (by rfl) T.E9 (by rfl) T.Hr ?_ ?_)|(guard_target=DE _ _ (I_ _);refine ç (by rfl) T.Hs ?_)|(guard_target=DE _ _ (EI _ _ _);first|refine ä ?_ ?_|refine ZC ?_ ?_)|(guard_target=DE _ _ (Gz _ _);refine æ ?_ ?_)|(guard_target=DE _ _ (Ek _);refine Wh (by rfl) (by rfl) T.E5 ?_)|refine Wk ?_)|(guard_target=DA _ _ _;first|refine qi3 ?_ ?_|exact pR|exact pQ (ss:=[[43],[45],[42],[60]])<|by rfl)|(guard_target=sV _ _ _;first|refine Ć ?_ ?_|refine Wt ?_|exact Ws)|(guard_target=DS _ _ _;first|(guard_target=DS _ _ (xE _);refine Wv ?_)|(guard_target=DS _ _ (xB _ _);refine Wx _ ?_ ?_ ?_ ?_ ?_ ?_)|(guard_target=DS _ _ (aR _ _ _);refine Vl ?_ ?_ ?_)|(guard_target=DS _ _ (sX _);refine qh7 ?_)|(guard_target=DS _ _ (sW _ _);refine Wu _ ?_ ?_)|(guard_target=DS _ _ (mP _ _ _);refine Wr ue rfl ?_ ?_ ?_)|(guard_target=DS _ _ (XQ _ _);refine Wq ?_ ?_)|(guard_target=DS _ _ (mO _ _);refine ò _ ?_ ?_)|(guard_target=DS _ _ (mQ _ _ _);refine ñ _ (GX hr) (pv _) ?_ ?_)|(guard_target=DS _ _ (By _ _);refine Vk _ ?_)|(guard_target=DS _ _ (kK _ _ _);refine Μ WF ue ?_ ?_)|(guard_target=DS _ _ (gE _);exact Q2 _<|pv _)|(guard_target=DS _ _ (J9 _ _);refine ô _ ?_ ?_)|(guard_target=DS _ _ (WL _ _);refine ą _ ?_ ?_)|(guard_target=DS _ _ (GL _);exact ó _<|pv _)|(guard_target=DS _ _ (sZ _ _);refine qh6 _ ?_))|(guard_target=DT _ _ _;first|refine Wy ?_ (by walk_at "o") ?_ ?_ ?_|refine W_ ?_|refine Wz ?_|refine ö ?_|refine õ ?_ ?_|refine qh5 ?_)|(guard_target=iF _ _ _ _ _;first|refine YH ?_|refine PD (pv _) T.cl (by walk_at "h") (λ_ _ _ _ _ _=>rfl) (by walk_at "m") ?_ ?_ ?_|refine Ĭ (pv _) T.cl T.Dr ?_|refine YI (pv _) T.cl (by walk_at "h") (λ_ _ _ _ _ _=>rfl) (by walk_at "m") ?_ ?_|refine Ď (pv _) T.cl T.Do ?_|exact dE (pv _) T.cl T.Cz nH|exact dE (pv _) T.cl T.Hv ď|refine PB (GX hr) (pv _) T.cl T.E7 ?_|exact dE (pv _) T.cl T.BH dN|exact Į (pv _) T.cl T.Dr)|(guard_target=Bq _ _ _ _ _;first|refine kO ?_ ?_|exact tQ)|(guard_target=sE _ _ _ _ _;first|refine oY ?_ ?_|refine QF ?_|exact OI)|(guard_target=AA _ _ _ _ _;first|refine GI ?_|refine NB ?_ ?_ ?_|refine Jw ?_|refine Xq (pv _) T.cl T.BH ?_|exact ı (pv _) T.cl T.Cz|refine Xr _ ue rfl ?_ ?_ ?_|refine Xs _ ?_ ?_|refine Β WF ue ?_ ?_)|(guard_target=DF _ _ _;first|refine Wn ?_|refine cL (N':=["_law_item"]) (cap:=[]) rfl uD ?_ (λ_ _ _ _=>(jB _ (show(["_law_item"]:List Str).Nodup by decide +kernel))) (λ_ _ _ _=>?_) _|refine ë rfl (by rfl) T.K9 ?_|refine Wm ?_ ?_|refine ê (by walk_at "f") ?_ ?_ ?_ ?_ ?_ ?_)|(guard_target=PW _ _ _;first|refine ú ?_|refine X' ?_|refine X_ ?_ ?_|refine Vn ?_ ?_)|(guard_target=DG _ _ _;first|refine jB _ ?_|refine Oc rfl ?_)|(guard_target=FY _ _ _;first|refine nK ?_ ?_|exact P6)|(guard_target=DI _ _ _ _;first|refine Od ?_|refine í (by rfl) T.K7 ?_|refine ì (by rfl) T.K_ ?_|refine ŵ (by rfl) T.Hw ?_|refine î (by rfl) T.Hr ?_ ?_)|(guard_target=DB _ _ _;first|exact Xc _ (pv _)|with_reducible refine qi2 ?_|refine TC ?_)|(guard_target=DO _ _ _;first|refine ă ?_|exact Ă)|(guard_target=Az _ _ _ _ _;first|refine ė ?_|refine VS ?_|refine VT ?_ ?_ rfl|exact Ę (pv _) T.cl T.Dr|refine OG ?_|refine Xt ?_ ?_)|(guard_target=DX _ _ _;first|exact Yb _ (pv _)|refine Q0 _ (pv _) ?_|refine tX _ (pv _) ?_|refine QZ _ (pv _) ?_|refine Ν (by walk_at "f") ?_ ?_ ?_ ?_ ?_ ?_|exact û _ (pv _)|refine ü _ (pv _) ?_)|(guard_target=PE _ _ _;first|exact gH (by rfl) T.E9 boot_tuple rfl|exact gH (by rfl) T.Ht boot_int rfl|exact gH (by rfl) T.KZ boot_list rfl|exact gH (by rfl) T.K2 boot_bool rfl|exact gH (by rfl) T.KW boot_str rfl)|(guard_target=Ca _ _ _;with_reducible refine qi1 ?_)|(guard_target=B' _ _ _;first|refine þ (by walk_at "f") ?_ ?_ ?_ ?_ ?_ ?_|exact Oq|refine Y6 rfl (by rfl) T.E6 ?_|refine Ā ?_|refine ÿ (by rfl) T.E6 ?_)|(guard_target=FV _ _ _;first|refine Ρ ?_|refine Ο ?_ ?_)|(guard_target=FX _ _ _ _ _;first|refine Κ ?_ ?_ ?_|exact Ą)|(guard_target=Iz _ _ _ _;refine Wp (by rfl) T.Hw ?_)|(guard_target=DK _ _ _;exact qh9 _<|pv _)|(guard_target=eY _ _ _;first|exact Ľ|exact Yp hr.Qe|exact Yv|exact Y'|exact Yw|exact Yt|exact VB|exact Ī|exact Yx hr.Qe|exact WX|exact Yr (n:=400) (N8 hr<|by decide)|exact Yz (n:=400) (N8 hr<|by decide)|exact ī|exact Ys|exact NF|exact Y_)|(guard_target=eS _ _;exact hr.mono<|by first|decide|omega)|(guard_target=gr _ _=_;first|exact Xv _|rfl)|rfl|exact nd|exact De.m _|exact(De.F _).kp|exact De.b _|exact Dm.b _|exact Or.inl rfl|exact Or.inr rfl)
local macro_rules | `(tactic| walk_at "a")=>`(tactic| (intro nd eI A outer s H E hr;repeat' walk_at "d"))
variable(T:Txt K mg w.params)
def Η:Ok P w base T.Sh 1 1 v4:=by
 refine fH T.Sh.F ["expression"] 1 1 (g:=gR) ?_;unfold gR;intro nd eI A outer s H E hr
 repeat' first|(guard_target=DF _ _ (xW _ _ _ _ _ _);refine pM (N':=["part"]) (cap:=[]) rfl uD ?_ (λ_ _ _ _=>(jB _ (show(["part"]:List Str).Nodup by decide +kernel))) (λ_ _ _ _=>?_) (λ_ _ _ _=>?_) _)|walk_at "d"
def W0:Ok P w base T.Sj 2 1 kZ:=by
 refine fH T.Sj.F ["E", "found", "waiting", "place"] 1 4 (g:=vS) ?_;unfold vS
 walk_at "a"
def uA:Ok P w base T.SO 3 2 xO:=by
 refine fH T.SO.F ["expression", "number", "found", "behind", "part"] 2 5 (g:=xK) ?_;unfold xK
 walk_at "a"
def r8:Ok P w base T.So 1 1 xN:=by
 refine fH T.So.F ["value"] 1 1 (g:=dJ) ?_;unfold dJ
 walk_at "a"
def tK:Ok P w base T.Sn 1 3 wG:=by
 refine fH T.Sn.F ["bound", "name", "value", "more"] 3 4 (g:=vI) ?_;unfold vI
 walk_at "a"
def WY:Ok P w base T.Si 1 3 vZ:=by
 refine fH T.Si.F ["word", "first", "second"] 3 3 (g:=bN) ?_;unfold bN
 walk_at "a"
def tJ:Ok P w base T.Sm 2 1 xP:=by
 refine fH T.Sm.F ["value"] 1 1 (g:=vH) ?_;unfold vH;intro nd eI A outer s H E hr
 repeat' first|(guard_target=DF _ _ (xX _ _ _ _ _);refine cL (N':=Dd) (cap:=[0]) rfl uD ?_ (λ_ _ _ _=>(jB _ (show(Dd:List Str).Nodup by decide +kernel))) (λ_ _ _ _=>?_) _)|walk_at "d"
def hV:Ok P w base T.Sy 2 2 wC:=by
 refine fH T.Sy.F ["value", "held"] 2 2 (g:=qW) ?_;unfold qW
 walk_at "a"
def ĥ:Ok P w base T.E8 3 1 JQ:=by
 refine fH T.E8.F ["value", "found", "waiting", "done", "part"] 1 5 (g:=tV) ?_;unfold tV;intro nd eI A outer s H E hr
 repeat' first|(guard_target=DX _ _ (b6 _ _ _ _ _);refine Ξ (N':=["done", "held"]) rfl uD ?_ (λ_ _ _ _=>(jB _ (show(["done", "held"]:List Str).Nodup by decide +kernel))) (λ_ _ _ _=>?_) Ĺ _)|walk_at "d"
theorem oV:∀(k:Nat) (T:Txt K mg w.params),Ok P w base T.E_ (k+3) 3 (kA k)
 |0,T=>To 3
 |k+1,T=>by
  have G:=oV k T;rw[show k+1+3=(k+3)+1 by omega];refine fH T.E_.F ["expression", "name", "number", "below", "parts", "part"] 3 6 (g:=bO<|kA k) ?_;unfold bO
  walk_at "a"
def hZ:Ok P w base T.Sx 2 2 qC:=by
 refine fH T.Sx.F Dd 2 2 (g:=vT) ?_;unfold vT
 walk_at "a"
def uO:Ok P w base T.SM 2 2 qA:=by
 refine fH T.SM.F Dd 2 2 (g:=jL) ?_;unfold jL
 walk_at "a"
def cZ:Ok P w base T.SI 1 3 xU:=by
 refine fH T.SI.F ["record", "label", "value", "fields"] 3 4 (g:=qF) ?_;unfold qF
 walk_at "a"
def v9:Ok P w base T.SN 1 2 wO:=by
 refine fH T.SN.F ["record", "label", "fields"] 2 3 (g:=xZ) ?_;unfold xZ
 walk_at "a"
def mH:Ok P w base T.Sw 1 2 v5:=by
 refine fH T.Sw.F ["_law_script", "_law_k"] 2 2 (g:=qZ) ?_;unfold qZ
 walk_at "a"
def c8:Ok P w base T.SH 1 2 xV:=by
 refine fH T.SH.F ["_law_cell_here", "_law_k", "_law_number"] 2 3 (g:=qH) ?_;unfold qH
 walk_at "a"
theorem vP:∀(k:Nat) (T:Txt K mg w.params),Ok P w base T.SG (k+0) 2 (yV k)
 |0,T=>To 2
 |k+1,T=>by
  have G:=vP k T;rw[show k+1+0=(k+0)+1 by omega];refine fH T.SG.F ["_law_found", "_law_due", "_law_one_here", "_law_other"] 2 4 (g:=xJ<|yV k) ?_;unfold xJ
  walk_at "a"
def b0:Ok P w base T.SK 2 1 kB:=by
 refine fH T.SK.F ["_law_cell_here", "_law_base", "_law_at"] 1 3 (g:=wS) ?_;unfold wS;intro nd eI A outer s H E hr
 repeat' first|(guard_target=DF _ _ (xX _ _ _ _ _);refine cL (N':=["_law_cell_here", "_law_k"]) (cap:=[0]) rfl uD ?_ (λ_ _ _ _=>(jB _ (show(["_law_cell_here", "_law_k"]:List Str).Nodup by decide +kernel))) (λ_ _ _ _=>?_) _)|(guard_target=DF _ _ (xX _ _ _ _ _);refine cL (N':=["_law_base", "_law_at", "_law_k"]) (cap:=[1,2]) rfl uD ?_ (λ_ _ _ _=>(jB _ (show(["_law_base", "_law_at", "_law_k"]:List Str).Nodup by decide +kernel))) (λ_ _ _ _=>?_) _)|walk_at "d"
def bZ:Ok P w base T.SJ 1 1 xG:=by
 refine fH T.SJ.F ["_law_items", "_law_steps", "_law_at", "_law_item"] 1 4 (g:=wR) ?_;unfold wR
 walk_at "a"
def dA:Ok P w base T.SF 1 2 wA:=by
 refine fH T.SF.F ["_law_record", "_law_label"] 2 2 (g:=qI) ?_;unfold qI;intro nd eI A outer s H E hr
 repeat' first|(guard_target=DF _ _ (xW _ _ _ _ _ _);refine pM (N':=["_law_label", "_law_pair"]) (cap:=[1]) rfl uD ?_ (λ_ _ _ _=>(jB _ (show(["_law_label", "_law_pair"]:List Str).Nodup by decide +kernel))) (λ_ _ _ _=>?_) (λ_ _ _ _=>?_) _)|walk_at "d"
def mE:Ok P w base T.Sv 1 1 y0:=by
 refine fH T.Sv.F ["_law_value"] 1 1 (g:=vU) ?_;unfold vU
 walk_at "a"
def mG:Ok P w base T.Su 1 3 jJ:=by
 refine fH T.Su.F ["_law_rest", "_law_label", "_law_value", "_law_fields"] 3 4 (g:=qY) ?_;unfold qY;intro nd eI A outer s H E hr
 repeat' first|(guard_target=DF _ _ (xX _ _ _ _ _);refine cL (N':=["_law_fields", "_law_one_here"]) (cap:=[3]) rfl uD ?_ (λ_ _ _ _=>(jB _ (show(["_law_fields", "_law_one_here"]:List Str).Nodup by decide +kernel))) (λ_ _ _ _=>?_) _)|walk_at "d"
def dB:Ok P w base T.SE 22 3 yJ:=by
 refine fH T.SE.F ["_law_word", "_law_label", "_law_values", "_law_last", "_law_rest"] 3 5 (g:=yT) ?_;unfold yT;intro nd eI A outer s H E hr
 repeat' first|(guard_target=DA _ _ (A8 _);exact pQ (ss:=[[103,101,116],[108,101,115,115],[119,105,116,104],[112,117,116]])<|by rfl)|(guard_target=DS _ _ (xB _<|xQ<|xW _ _ _ _ _ _);refine Q3 _ (N':=["_law_label", "_law_pair"]) (cap:=[1]) rfl uD ?_ (λ_ _ _ _=>(jB _ (show(["_law_label", "_law_pair"]:List Str).Nodup by decide +kernel))) (λ_ _ _ _=>?_) (λ_ _ _ _=>?_) _ ?_)|walk_at "d"
def c7:Ok P w base T.SD 23 3 xA:=by
 refine fH T.SD.F ["_law_word", "_law_label", "_law_items", "_law_told", "_law_size", "_law_deep", "_law_steps", "_law_at", "_law_value"] 3 9 (g:=x3) ?_;unfold x3
 walk_at "a"
def tL:Ok P w base T.Sk 2 2 bA:=by
 refine fH T.Sk.F ["_law_one_here", "_law_other", "_law_told", "_law_steps", "_law_at", "_law_state"] 2 6 (g:=vJ) ?_;unfold vJ
 walk_at "a"
def mD:Ok P w base T.Ss 2 3 wE:=by
 refine fH T.Ss.F ["_law_told", "_law_items", "_law_takes", "_law_steps", "_law_at", "_law_size", "_law_deep", "_law_word", "_law_more", "_law_what"] 3 10 (g:=qX) ?_;unfold qX
 walk_at "a"
def c6:Ok P w base T.SA 3 3 qK:=by
 refine fH T.SA.F ["_law_number", "_law_labels_here", "_law_items", "_law_label", "_law_x", "_law_y", "_law_first", "_law_sort_here", "_law_takes", "_law_told"] 3 10 (g:=qG) ?_;unfold qG
 walk_at "a"
def oW:Ok P w base T.Sr 44 4 jH:=by
 refine fH T.Sr.F ["_law_number", "_law_labels_here", "_law_one_here", "_law_other", "_law_label", "_law_word"] 4 6 (g:=kF) ?_;unfold kF
 walk_at "a"
def oX:Ok P w base T.Sq 44 3 jI:=by
 refine fH T.Sq.F ["_law_number", "_law_labels_here", "_law_item", "_law_label", "_law_sort_here", "_law_word"] 3 6 (g:=kG) ?_;unfold kG;intro nd eI A outer s H E hr
 repeat' first|(guard_target=DA _ _ (A8 _);exact pQ (ss:=[[103,101,116],[108,101,115,115],[119,105,100,101],[116,97,103],[110,101,118,101,114]])<|by rfl)|walk_at "d"
def c9:Ok P w base T.Sz 45 4 jT:=by
 refine fH T.Sz.F ["_law_pile", "_law_cell_here", "_law_k", "_law_labels_here", "_law_number", "_law_kind", "_law_many", "_law_top", "_law_small", "_law_drawn"] 4 10 (g:=xT) ?_;unfold xT
 walk_at "a"
def d8:eQ:=(a_<|EA<|wI<|zA (zD 1)<|zA (zD 2)<|zA B6 zM)
def sz2:(2:Nat)<=ae:=by decide
def G1:(3:Nat)<=ae:=by decide
def ŧ(st:aF)(ds:List D)(p:D×aF)(hl:ds.length=2)(h:yM st ds=aA p):fW 2 3 d8 st ds=aA p:=by
 match ds,hl with
 |[e,b],_=>
  have h:(if st.wait.length<ae then aA (D.aE,AG st<|.tup [e,b,.bl false]) else aD)=aA p:=h;by_cases hs:st.wait.length<ae
  .rw[if_pos hs] at h;cases h;show(d8 st [.un,.v e,.v b]).bind _=_;unfold d8 a_;simp[EA,wI,zA,zM,zD,mC,hs,G1]
  .rw[if_neg hs] at h;cases h
def YC:eA P w K mg base eJ 1 T.Cv.a T.Cv.d Cp (fD K T.C 2 yM):=by
 refine yY (iG (k:=0) T.Cv.F Cp 2 3 (g:=d8) ?_) ŧ;unfold d8
 walk_at "a"
def rO:eQ:=(a_<|NU<|zD 1)
def Ô(st:aF)(ds:List D)(p:D×aF)(hl:ds.length=1)(h:y6 st ds=aA p):fW 1 2 rO st ds=aA p:=by
 match ds,hl with
 |[e],_=>
  have h:(if st.fB.length<ae then aA (D.aE,Cg st e) else aD)=aA p:=h;by_cases hs:st.fB.length<ae
  .rw[if_pos hs] at h;cases h;show(rO st [.un,.v e]).bind _=_;unfold rO a_;simp[NU,zD,hs]
  .rw[if_neg hs] at h;cases h
def Ĥ:eA P w K mg base eJ 1 T.Dl.a T.Dl.d ["self", "value"] (fD K T.C 1 y6):=by
 refine yY (iG (k:=0) T.Dl.F ["self", "value"] 1 2 (g:=rO) ?_) Ô;unfold rO
 walk_at "a"
noncomputable def rP:eQ:=(XO (eU Kn (XO (C1<|wI<|zA (mC<|.str [116,105,114,101,100])<|zA (mC .aE) zM)<|Ah<|yE B6) ZH)<|XO N6<|Ah<|yE HX)
def É(st:aF)(ds:List D)(p:D×aF)(hl:ds.length=0)(h:qU st ds=aA p):fW 0 1 rP st ds=aA p:=by
 match ds,hl with
 |[],_=>
  have h:(if st.most<=st.steps then aA (D.bl false,{ st with ended:=ZL }) else aA (.bl true,{ st with steps:=st.steps+1 }))=aA p:=h;show(rP st [.un]).bind _=_;unfold rP XO eU;by_cases hs:st.most<=st.steps
  .rw[if_pos hs] at h;cases h;simp[hs,Kn,C1,Ah,yE,wI,zA,zM,mC,XO,ZL,sz2]
  .rw[if_neg hs] at h;cases h;simp[hs,Kn,C1,Ah,yE,wI,zA,zM,mC,XO,ZL,ZH,N6]
def ģ:eA P w K mg base eJ 1 T.Dk.a T.Dk.d ["self"] (fD K T.C 0 qU):=by
 refine yY (iG (k:=0) T.Dk.F ["self"] 0 1 (g:=rP) ?_) É;unfold rP
 walk_at "a"
abbrev Ii:=zK aL (zD 1)<|zD 3
noncomputable abbrev Uq:=wI<|zA (zD 1)<|zA (zD 2)<|zA HX zM
def wQ:eQ:=(XO (a_<|EA Uq)<|IS 0 3 (Gg<|aU (Ef AH) iV)<|a_<|yW 2 yM<|zL (yE Ii)<|zL (yE<|zD 2) yO)
def jD{st:aF}{e b:D}{q:D×aF}(h:yM st [e,b]=aA q):q=(.aE,AG st<|.tup [e,b,.bl false]):=by
 have h:(if st.wait.length<ae then aA (D.aE,AG st<|.tup [e,b,.bl false]) else aD)=aA q:=h;by_cases hs:st.wait.length<ae
 .rw[if_pos hs] at h;cases h;rfl
 .rw[if_neg hs] at h;cases h
def L_{α:Type}{x:α}{l:List α}:iC (x::l) 0=aA x:=by
 unfold iC Bg;simp
def Of{e:D}{l:List Int}(h:cN e=aA l){r:En}{i:Nat}(hr:r[i]?=aA (.v e)):aU (Ef AH) (zK aL (zD i)<|mC<|.int 0) r=aA (.tup<|l.map .int):=by
 unfold cN at h;split at h
 .rename_i s' r';cases h;have e3:zK aL (zD i) (mC<|.int 0) r=aA (.str s'):=by
   unfold zK zD;rw[hr];exact L_
  unfold aU;rw[e3];rfl
 .cases h
def cP(st:aF)(ds:List D)(p:D×aF)(hl:ds.length=2)(h:yP st ds=aA p):fW 2 4 wQ st ds=aA p:=by
 match ds,hl with
 |[e,b],_=>
  have h:(if st.wait.length<ae then (cN e).bind λl=>(Z4 e b l.reverse<|AG st<|.tup [e,b,.bl true]).map λs=>(D.aE,s) else aD)=aA p:=h;by_cases hs:st.wait.length<ae
  .rw[if_pos hs] at h;obtain⟨l,e1,h⟩:=aG h;obtain⟨s,e2,rfl⟩:=aY h;show(wQ st [.un,.v e,.v b,.un]).bind _=_;have loop:∀(l:List Int) (st s:aF) (x:Sl),(x=.un\/∃i,x=.v (.int i))->Z4 e b l st=aA s->∃x',ZI 0 3 (a_<|yW 2 yM<|zL (yE Ii)<|zL (yE<|zD 2) yO) (l.map D.int) st [.un,.v e,.v b,x]=aA (.nx s [.un,.v e,.v b,x']):=by
    intro l
    induction l with
    |nil=>intro st s x _ h;cases h;exact⟨x,rfl⟩
    |cons i l ih=>
     intro st s x hx h;obtain⟨q,h1,h2⟩:=aG (show(aL e<|.int i).bind (λp=>(yM st [p,b]).bind λq=>Z4 e b l q.2)=aA s from h);obtain⟨q2,h3,h4⟩:=aG h2;obtain⟨x',q_⟩:=ih q2.2 s (.v<|.int i) (.inr ⟨i,rfl⟩) h4;refine⟨x',?_⟩;have Lo:yI 3 (.int i) [.un,.v e,.v b,x]=aA [.un,.v e,.v b,.v<|.int i]:=by
      rcases hx with rfl|⟨j,rfl⟩<;>rfl
     have hm:yW 2 yM (zL (yE Ii)<|zL (yE<|zD 2) yO) st [.un,.v e,.v b,.v<|.int i]=aA q2:=by
      have e1:Ii [.un,.v e,.v b,.v<|.int i]=aA q:=h1;have e2:zD 2 [.un,.v e,.v b,.v<|.int i]=aA b:=rfl;unfold yW;simp only[zL,yE,yO,e1,e2,ba,aa,am,bv,if_true];exact h3
     rw[au];unfold ZI;rw[if_neg<|by decide,Lo,aa];unfold a_;rw[hm];exact q_
   obtain⟨x',q_⟩:=loop l.reverse _ s .un (.inl rfl) e2;have ea:Gg (aU (Ef AH) iV) [.un,.v e,.v b,.un]=aA (l.reverse.map D.int):=by
    unfold Gg Hi;rw[Of e1 rfl];show aA ((l.map D.int).reverse)=_;rw[List.map_reverse]
   unfold wQ XO;have e4:a_ (EA Uq) st [.un,.v e,.v b,.un]=aA (.nx (AG st<|.tup [e,b,.bl true]) [.un,.v e,.v b,.un]):=by
    unfold a_;simp[EA,wI,zA,zM,zD,mC,hs,G1]
   rw[e4,aa];unfold IS;dsimp only;rw[ea,aa];show(ZI _ _ _ _ _ _).bind _=_;rw[q_];rfl
  .rw[if_neg hs] at h;cases h
def bY:eA P w K mg base eJ 2 T.Dt.a T.Dt.d Cp (fD K T.C 2 yP):=by
 refine yY (iG (k:=1) T.Dt.F ["self", "expression", "around", "at"] 2 4 (g:=wQ) ?_) cP;unfold wQ
 walk_at "a"
def qD:eQ:=(Ah<|Jh<|aU (Ef AH) iV)
def g0(st:aF)(ds:List D)(p:D×aF)(hl:ds.length=1)(h:yX st ds=aA p):fW 1 2 qD st ds=aA p:=by
 match ds,hl with
 |[e],_=>
  obtain⟨l,e1,h⟩:=aG (show(cN e).bind _=aA p from h);show(qD st [.un,.v e]).bind _=_;unfold qD Ah Jh;rw[Of e1 rfl,aa];dsimp only;rw[ag,h];rfl
def c5:eA P w K mg base eJ 1 T.Ds.a T.Ds.d BB (fD K T.C 1 yX):=by
 refine yY (iG (k:=0) T.Ds.F BB 1 2 (g:=qD) ?_) g0;unfold qD;intro nd eI A outer s H E hr
 repeat' first|refine į (N':=["self", "at"]) rfl uD ?_ rfl (λ_ _ _ _=>(YA (show(["self", "at"]:List Str).Nodup by decide +kernel) rfl<|Or.inl rfl)) (λ_ _ _ _=>pv 0) T.cl T.Do (λ_ _ _ _=>rfl) (λ_ _ _ _=>rfl)|walk_at "d"
abbrev MH:=zK aL (zD 1)<|aU XS<|mC<|.int 1
def d0:eQ:=(C1<|wI<|zA As<|zA MH zM)
def ŝ(st:aF)(ds:List D)(p:D×aF)(hl:ds.length=1)(h:yC st ds=aA p):fW 1 2 d0 st ds=aA p:=by
 match ds,hl with
 |[e],_=>
  cases e<;>first|(cases h;done)|skip
  rename_i l _;obtain⟨m,e1,rfl⟩:=aY (show(l.getLast?).map _=aA p from h);obtain⟨l',rfl⟩:∃l',l=l'++[m]:=List.getLast?_eq_some_iff.mp e1;show(d0 st [.un,.v<|.tup<|l'++[m]]).bind _=_;have e2:MH [.un,.v<|.tup<|l'++[m]]=aA m:=by
   show iC (l'++[m]) (-1)=_;exact XI ..
  have e3:wI (zA As<|zA MH zM) [.un,.v<|.tup<|l'++[m]]=aA (.tup [.str iD,m]):=wH (zB zE<|zB e2 zQ) (by show 2<=100;decide);unfold d0 C1;rw[e3];rfl
def ϊ:eA P w K mg base eJ 1 T.Dp.a T.Dp.d BB (fD K T.C 1 yC):=by
 refine yY (iG (k:=0) T.Dp.F BB 1 2 (g:=d0) ?_) ŝ;unfold d0
 walk_at "a"
def Ŋ{v:D}{w:List Nat}(h:n8 v=aA w):∃as,xN [.v v]=aA (.v<|.str w,as):=by
 unfold n8 at h;split at h
 .cases h;exact⟨_,rfl⟩
 .cases h;rename_i r;refine wF (r':=[.v<|.tup (.str w::r)])<|yG ?_;show(aA false).bind _=_;rw[aa,if_neg<|by decide];exact L_
 .cases h
def uI{v:D}{w:List Nat}{f:ME}{r:En}(hf:f r=aA v)(h:n8 v=aA w):zP 1 xN (zA f zM) r=aA (.str w):=yN (p:=.v<|.str w) (zB hf zQ) rfl<|Ŋ h
def ZY{v:D}{w k:List Nat}{f:ME}{r:En}(hf:f r=aA v)(h:n8 v=aA w):aP (zK lC (zP 1 xN<|zA f zM)<|mC<|.str k) r=aA (!decide (w=k)):=wN<|zO (uI hf h) zE rfl
def nZ{v:D}{w k:List Nat}{f:ME}{r:En}(hf:f r=aA v)(h:n8 v=aA w):aP (zK c_ (zP 1 xN<|zA f zM)<|mC<|.str k) r=aA (decide (w=k)):=wN<|zO (uI hf h) zE rfl
def wM{st:aF}{e v:D}{k:List Nat}{p:D×aF}(h:mU st e v k=aA p):∃w,n8 v=aA w/\w≠k/\yC st [e]=aA p:=by
 obtain⟨w,e1,h⟩:=aG h;by_cases z:w=k
 .rw[if_pos z] at h;cases h
 .rw[if_neg z] at h;exact⟨w,e1,z,h⟩
def bG{st:aF}{e:D}{p:D×aF}(h:yC st [e]=aA p):p=(.aE,p.2):=by
 cases e<;>first|(cases h;done)|skip
 rename_i l;obtain⟨m,_,rfl⟩:=aY (show(l.getLast?).map _=aA p from h);rfl
def vF{v:D}{ks:List Key}{l:List D}(h:C5 v=aA (ks,l)):v=.tup [.str [114,101,99],.aI ks l]:=by
 unfold C5 at h;split at h
 .split at h
  .rename_i hw;cases h;rw[hw]
  .cases h
 .cases h
def gN{v u:D}{s:List Nat}(h:GF v=aA (s,u)):v=.tup [.str [111,110,101],.str s,u]:=by
 unfold GF at h;split at h
 .split at h
  .rename_i hw;cases h;rw[hw]
  .cases h
 .cases h
def QR{v e:D}{x:List Nat}{ks:List Key}{l:List D}(h:isFn v=aA (x,e,ks,l)):v=.tup [.str [102,110],.str x,e,.aI ks l]:=by
 unfold isFn at h;split at h
 .split at h
  .rename_i hw;cases h;rw[hw]
  .cases h
 .cases h
def mY{st:aF}{e b ps:D}{p:D×aF}(h:yC st [e]=aA p):a_ (yW 1 yC<|zL (yE<|zD 1) yO) st [.un,.v e,.v b,.v ps]=aA (.nx p.2 [.un,.v e,.v b,.v ps]):=by
 have e1:zD 1 [.un,.v e,.v b,.v ps]=aA e:=rfl;unfold a_ yW;simp only[zL,yO,yE,e1,ba,aa,am,bv,if_true];rw[h];rfl
def vG{st:aF}{e b ps:D}{p:D×aF}{c:MB}{a:eQ}(hc:c [.un,.v e,.v b,.v ps]=aA false)(h:yC st [e]=aA p):fW 3 4 (eU (wP c) a<|a_<|yW 1 yC<|zL (yE<|zD 1) yO) st [e,b,ps]=aA p:=by
 show(eU _ _ _ st [.un,.v e,.v b,.v ps]).bind _=_;unfold eU;simp only[wP,hc,ba,aa,cf,if_false];rw[mY h,bG h];rfl
def Jt{st:aF}{e b ps:D}{p:D×aF}{c:MB}{a:eQ}(hc:c [.un,.v e,.v b,.v ps]=aA true)(h:yC st [e]=aA p):fW 3 4 (eU (wP c) (a_<|yW 1 yC<|zL (yE<|zD 1) yO) a) st [e,b,ps]=aA p:=by
 show(eU _ _ _ st [.un,.v e,.v b,.v ps]).bind _=_;unfold eU;simp only[wP,hc,ba,aa,if_true];rw[mY h,bG h];rfl
def IY(ks:List Key)(l:List D)(x:List Nat):∃as,qC [.v<|.tup [.str [114,101,99],.aI ks l],.v<|.str x]=aA (.v<|.bl (xS ks l<|.inr ⟨x.toArray⟩).isSome,as):=by
 have e2:B_ [.v<|.tup [.str [114,101,99],.aI ks l],.v<|.str x]=aA (.bl true):=rfl;refine wF (r':=[.v<|.tup [.str [114,101,99],.aI ks l],.v<|.str x])<|yG ?_;show dG _ _ [.v<|.tup [.str [114,101,99],.aI ks l],.v<|.str x]=_;unfold dG;rw[e2,aa];rfl
def đ(ks:List Key)(l:List D)(x:List Nat):∃as,qA [.v<|.tup [.str [114,101,99],.aI ks l],.v<|.str x]=aA (.v<|.bl<|!(xS ks l<|.inr ⟨x.toArray⟩).isSome,as):=by
 have e2:B_ [.v<|.tup [.str [114,101,99],.aI ks l],.v<|.str x]=aA (.bl true):=rfl;refine wF (r':=[.v<|.tup [.str [114,101,99],.aI ks l],.v<|.str x])<|yG ?_;show dG _ _ [.v<|.tup [.str [114,101,99],.aI ks l],.v<|.str x]=_;unfold dG;rw[e2,aa];rfl
def IZ{v:D}{w:List Nat}(hs:n8 v=aA w)(hw:w≠[114,101,99])(x:D):∃as,qC [.v v,.v x]=aA (.v<|.bl false,as):=by
 have e2:B_ [.v v,.v x]=aA (.bl false):=zO (uI rfl hs) zE (by show aA (D.bl<|decide (w=_))=_;rw[decide_eq_false hw]);refine wF (r':=[.v v,.v x])<|yG ?_;show dG _ _ [.v v,.v x]=_;unfold dG;rw[e2];rfl
def Ē{v:D}{w:List Nat}(hs:n8 v=aA w)(hw:w≠[114,101,99])(x:D):∃as,qA [.v v,.v x]=aA (.v<|.bl false,as):=by
 have e2:B_ [.v v,.v x]=aA (.bl false):=zO (uI rfl hs) zE (by show aA (D.bl<|decide (w=_))=_;rw[decide_eq_false hw]);refine wF (r':=[.v v,.v x])<|yG ?_;show dG _ _ [.v v,.v x]=_;unfold dG;rw[e2];rfl
def j5{n:Nat}{m:MF}{fs:ML}{r:En}{ds:List D}{b:Bool}(h1:fs r=aA ds)(h2:ds.length=n)(h:∃as,m (ds.map .v)=aA (.v<|.bl b,as)):kY (zP n m fs) r=aA b:=by
 unfold kY;rw[yN (p:=.v<|.bl b) h1 h2 h];rfl
def bF:eQ:=(a_<|yW 1 y6<|zL (yE e_) yO)
def ϔ(st:aF)(ds:List D)(p:D×aF)(hl:ds.length=3)(h:j9 st ds=aA p):fW 3 4 bF st ds=aA p:=by
 unfold j9 at h;split at h
 .rename_i a v c b ps;show(bF st [.un,.v<|.tup [a,v,c],.v b,.v ps]).bind _=_;have e1:e_ [.un,.v<|.tup [a,v,c],.v b,.v ps]=aA v:=rfl;unfold bF a_ yW;simp only[zL,yE,yO,e1,ba,aa,am,bv,if_true];rw[h];have h:(if st.fB.length<ae then aA (D.aE,Cg st v) else aD)=aA p:=h;by_cases hs:st.fB.length<ae
  .rw[if_pos hs] at h;cases h;rfl
  .rw[if_neg hs] at h;cases h
 .cases h
def W3:eA P w K mg base eJ 3 T.BL.a T.BL.d eE (fD K T.C 3 j9):=by
 refine yY (iG (k:=2) T.BL.F eE 3 4 (g:=bF) ?_) ϔ;unfold bF
 walk_at "a"
def kI:eQ:=(eU (wP<|Gy false e_<|uE<|zD 2) (a_<|yW 1 y6<|zL (yE<|JS (uE<|zD 2) e_) yO)<|eU (GV<|hE qU) (a_<|yW 2 yM<|zL (X6 e_)<|zL (yE<|rA Ct) yO) ZH)
def J8(st:aF):qU st []=if st.most<=st.steps then aA (D.bl false,{ st with ended:=ZL }) else aA (.bl true,{ st with steps:=st.steps+1 }):=rfl
def wK{st:aF}{v:D}{q:D×aF}(h:y6 st [v]=aA q):q=(.aE,Cg st v):=by
 have h:(if st.fB.length<ae then aA (D.aE,Cg st v) else aD)=aA q:=h;by_cases hs:st.fB.length<ae
 .rw[if_pos hs] at h;cases h;rfl
 .rw[if_neg hs] at h;cases h
def X2(st:aF)(ds:List D)(p:D×aF)(hl:ds.length=3)(h:w8 st ds=aA p):fW 3 4 kI st ds=aA p:=by
 unfold w8 at h;split at h
 .rename_i a s c Cu l0 ps;show(kI st [.un,.v<|.tup [a,.str s,c],.v<|.aI Cu l0,.v ps]).bind _=_;have e2:e_ [.un,.v<|.tup [a,.str s,c],.v<|.aI Cu l0,.v ps]=aA (.str s):=rfl;have e3:Gy false e_ (uE<|zD 2) [.un,.v<|.tup [a,.str s,c],.v<|.aI Cu l0,.v ps]=aA (xS Cu l0<|.inr ⟨s.toArray⟩).isSome:=rfl;have e6:JS (uE<|zD 2) e_ [.un,.v<|.tup [a,.str s,c],.v<|.aI Cu l0,.v ps]=xS Cu l0 (.inr ⟨s.toArray⟩):=rfl;split at h
  .rename_i v hv;have hb:=wK h;rw[hv] at e3 e6;unfold kI eU;simp only[wP,e3,e6,rh,ba,aa,if_true,a_,yW,zL,yO,yE,am,bv];rw[h];subst hb;rfl
  rename_i hv;obtain⟨q,e1,h⟩:=aG h;rw[hv] at e3;unfold kI eU;simp only[wP,e3,Option.isSome_none,ba,aa,cf,if_false,GV,hE,e1];rw[J8] at e1;by_cases hs:st.most<=st.steps
  .rw[if_pos hs] at e1;cases e1;cases h;rfl
  .rw[if_neg hs] at e1;cases e1;dsimp only at h;split at h
   .rename_i ks l _ hd;obtain⟨d,e4,h⟩:=aG h;have hb:=jD h;subst hb;have e5:X6 e_ { st with steps:=st.steps+1 } [.un,.v<|.tup [a,.str s,c],.v<|.aI Cu l0,.v ps]=aA (d,{ st with steps:=st.steps+1 }):=by
     unfold X6;rw[e2,aa];show(match st.defs with | .aI ks l=>(xS ks l<|.inr ⟨s.toArray⟩).map λd=>(d,{ st with steps:=st.steps+1 })|_=>aD)=_;rw[hd];dsimp only;rw[e4];rfl
    dsimp only[aa];simp only[if_true,a_,yW,zL,yO,e5,aa,ba,yE,rA,Ct,am,bv];rw[h];rfl
   .rename_i z;cases z
   .cases h
 .cases h
def tF:eA P w K mg base eJ 3 T.BQ.a T.BQ.d eE (fD K T.C 3 w8):=by
 refine yY (iG (k:=2) T.BQ.F eE 3 4 (g:=kI) ?_) X2;unfold kI
 walk_at "a"
def kC:eQ:=(a_<|yW 1 yC<|zL (yE<|zD 1) yO)
def rM(st:aF)(ds:List D)(p:D×aF)(hl:ds.length=3)(h:wU st ds=aA p):fW 3 4 kC st ds=aA p:=by
 match ds,hl with
 |[e,b,ps],_=>
  have h:yC st [e]=aA p:=h;show(kC st [.un,.v e,.v b,.v ps]).bind _=_;unfold kC;rw[mY h,bG h];rfl
def oS:eA P w K mg base eJ 3 T.BR.a T.BR.d eE (fD K T.C 3 wU):=by
 refine yY (iG (k:=2) T.BR.F eE 3 4 (g:=kC) ?_) rM;unfold kC
 walk_at "a"
abbrev fX:=zK aL (zD 3)<|mC<|.int 0
abbrev FH:=zK aL (zD 1)<|mC<|.int 3
abbrev T4:=zK lC (zP 1 xN<|zA fX zM) A3
abbrev TR:=aP<|zK lC fX<|mC<|.int 0
def cB:eQ:=(eU (wP<|aP T4) (a_<|yW 1 yC<|zL (yE<|zD 1) yO)<|eU (wP TR) (a_<|yW 2 yM<|zL (yE A4)<|zL (yE<|zD 2) yO)<|a_<|yW 2 yM<|zL (yE FH)<|zL (yE<|zD 2) yO)
def Ŝ(st:aF)(ds:List D)(p:D×aF)(hl:ds.length=3)(h:qP st ds=aA p):fW 3 4 cB st ds=aA p:=by
 unfold qP at h;split at h
 .rename_i a q x y m b v;split at h
  .rename_i i;show(cB st [.un,.v<|.tup [a,q,x,y,m],.v b,.v<|.lst [.int i]]).bind _=_;have e1:aP T4 [.un,.v<|.tup [a,q,x,y,m],.v b,.v<|.lst [.int i]]=aA false:=rfl;have e2:TR [.un,.v<|.tup [a,q,x,y,m],.v b,.v<|.lst [.int i]]=aA (!decide (i=0)):=rfl;have e3:A4 [.un,.v<|.tup [a,q,x,y,m],.v b,.v<|.lst [.int i]]=aA x:=rfl;have e4:FH [.un,.v<|.tup [a,q,x,y,m],.v b,.v<|.lst [.int i]]=aA y:=rfl;have e5:zD 2 [.un,.v<|.tup [a,q,x,y,m],.v b,.v<|.lst [.int i]]=aA b:=rfl;unfold cB eU;by_cases z:i=0
   .rw[if_pos z] at h;rw[decide_eq_true z] at e2;have hb:=jD h;simp only[wP,e1,e2,e4,e5,ba,aa,cf,vm,if_false,a_,yW,zL,yO,yE,am,bv,if_true];rw[h];subst hb;rfl
   .rw[if_neg z] at h;rw[decide_eq_false z] at e2;have hb:=jD h;simp only[wP,e1,e2,e3,e5,ba,aa,cf,Bool.not_false,if_false,a_,yW,zL,yO,yE,am,bv,if_true];rw[h];subst hb;rfl
  .obtain⟨w,h1,h2,h3⟩:=wM h;unfold cB;exact Jt (by rw[ZY (v:=v) rfl h1,decide_eq_false h2];rfl) h3
 .cases h
def χ:eA P w K mg base eJ 3 T.BE.a T.BE.d eE (fD K T.C 3 qP):=by
 refine yY (iG (k:=2) T.BE.F eE 3 4 (g:=cB) ?_) Ŝ;unfold cB
 walk_at "a"
def bR(ks:List Key)(l:List D)(x:List Nat)(v:D)(h:ks.length<ae):∃as,wG [.v<|.aI ks l,.v<|.str x,.v v]=aA (.g (jK ks l (.inr ⟨x.toArray⟩) v).1 (jK ks l (.inr ⟨x.toArray⟩) v).2,as):=by
 refine⟨[.v<|.aI ks l,.v<|.str x,.v v],?_⟩;have e1:mQ 3 (zD 1) (zD 2) [.v<|.aI ks l,.v<|.str x,.v v,.d false ks l]=aA (.nx [.v<|.aI ks l,.v<|.str x,.v v,.d false (jK ks l (.inr ⟨x.toArray⟩) v).1 (jK ks l (.inr ⟨x.toArray⟩) v).2]):=if_pos h;have e0:mO 3 (uE<|zD 0) [.v<|.aI ks l,.v<|.str x,.v v,.un]=aA (.nx [.v<|.aI ks l,.v<|.str x,.v v,.d false ks l]):=rfl;show(vI [.v<|.aI ks l,.v<|.str x,.v v,.un]).bind _=_;unfold vI yA;rw[e0,aa];show(((mQ 3 (zD 1) (zD 2) [.v<|.aI ks l,.v<|.str x,.v v,.d false ks l]).bind _)).bind _=_;rw[e1];rfl
abbrev Um:=wI<|zA Bo<|zA e_<|zA A4<|zA (zD 2) zM
def d6:eQ:=(a_<|yW 1 y6<|zL (yE Um) yO)
def ś(st:aF)(ds:List D)(p:D×aF)(hl:ds.length=3)(h:jV st ds=aA p):fW 3 4 d6 st ds=aA p:=by
 unfold jV at h;split at h
 .rename_i a x e c b ps;show(d6 st [.un,.v<|.tup [a,x,e,c],.v b,.v ps]).bind _=_;have e1:Um [.un,.v<|.tup [a,x,e,c],.v b,.v ps]=aA (.tup [.str [102,110],x,e,b]):=rfl;have hb:=wK h;unfold d6 a_ yW;simp only[zL,yE,yO,e1,ba,aa,am,bv,if_true];rw[h];subst hb;rfl
 .cases h
def Ι:eA P w K mg base eJ 3 T.BG.a T.BG.d eE (fD K T.C 3 jV):=by
 refine yY (iG (k:=2) T.BG.F eE 3 4 (g:=d6) ?_) ś;unfold d6
 walk_at "a"
abbrev Bn:=zK aL fX<|mC<|.int 1
abbrev FF:=zK aL fX<|mC<|.int 2
abbrev Mp:=zK aL fX<|mC<|.int 3
abbrev T6:=zK lC (zP 1 xN<|zA fX zM) Bo
def cC:eQ:=(eU (wP<|aP T6) (a_<|yW 1 yC<|zL (yE<|zD 1) yO)<|eU (GV<|hE qU) (a_<|yW 2 yM<|zL (yE FF)<|zL (yE<|rA<|uT 3 wG<|zA Mp<|zA Bn<|zA iP zM) yO) ZH)
def Ś(st:aF)(ds:List D)(p:D×aF)(hl:ds.length=3)(h:jW st ds=aA p):fW 3 4 cC st ds=aA p:=by
 unfold jW at h;split at h
 .rename_i ex b fv v;split at h
  case h_2=>
   obtain⟨w,h1,h2,h3⟩:=wM h;unfold cC;exact Jt (by rw[ZY (v:=fv) rfl h1,decide_eq_false h2];rfl) h3
  rename_i x e ks l hf;have hf:=QR hf;subst hf;split at h
  case isFalse=>cases h
  rename_i hk;obtain⟨q,e1,h⟩:=aG h;show(cC st [.un,.v ex,.v b,.v<|.lst [.tup [.str [102,110],.str x,e,.aI ks l],v]]).bind _=_;have e2:aP T6 [.un,.v ex,.v b,.v<|.lst [.tup [.str [102,110],.str x,e,.aI ks l],v]]=aA false:=rfl;have e3:FF [.un,.v ex,.v b,.v<|.lst [.tup [.str [102,110],.str x,e,.aI ks l],v]]=aA e:=rfl;have e4:rA (uT 3 wG<|zA Mp<|zA Bn<|zA iP zM) [.un,.v ex,.v b,.v<|.lst [.tup [.str [102,110],.str x,e,.aI ks l],v]]=aA (.aI (jK ks l (.inr ⟨x.toArray⟩) v).1 (jK ks l (.inr ⟨x.toArray⟩) v).2):=by
   obtain⟨as,hb⟩:=bR ks l x v hk;have ea:zA Mp (zA Bn<|zA iP zM) [.un,.v ex,.v b,.v<|.lst [.tup [.str [102,110],.str x,e,.aI ks l],v]]=aA [.aI ks l,.str x,v]:=rfl;unfold rA uT;rw[ea];show((wG [.v<|.aI ks l,.v<|.str x,.v v]).bind _).map _=_;rw[hb];rfl
  unfold cC eU;simp only[wP,e2,ba,aa,cf,if_false,GV,hE,e1];rw[J8] at e1;by_cases hs:st.most<=st.steps
  .rw[if_pos hs] at e1;cases e1;cases h;rfl
  .rw[if_neg hs] at e1;cases e1;dsimp only at h;have hb:=jD h;subst hb;dsimp only[aa];simp only[if_true,a_,yW,zL,yO,e3,e4,aa,ba,yE,am,bv];rw[h];rfl
 .cases h
def Θ:eA P w K mg base eJ 3 T.BF.a T.BF.d eE (fD K T.C 3 jW):=by
 refine yY (iG (k:=2) T.BF.F eE 3 4 (g:=cC) ?_) Ś;unfold cC
 walk_at "a"
abbrev TZ:=zK c_ (zP 1 xN<|zA iP zM) A3
abbrev TX:=zK c_ (zP 1 xN<|zA fX zM) A3
def x2:eQ:=(eU (wP<|y3 (aP TX)<|aP TZ) (a_<|yW 1 y6<|zL (yE<|zP 3 vZ<|zA iV<|zA fX<|zA iP zM) yO)<|a_<|yW 1 yC<|zL (yE<|zD 1) yO)
def QB{i j:Int}(hi:vM i):(-(2 ^ 64)<i/\i<2 ^ 64)\/(-(2 ^ 64)<j/\j<2 ^ 64):=by
 unfold vM at hi;left;omega
def XY(w:List Nat)(i j:Int)(hi:vM i)(hj:vM j):∃as,vZ [.v<|.str w,.v<|.int i,.v<|.int j]=aA (.v<|.int<|wk w i j,as):=by
 unfold vZ eW;have e:∀k:List Nat,aP (zK c_ (zD 0)<|mC<|.str k) [.v<|.str w,.v<|.int i,.v<|.int j]=aA (decide (w=k)):=λk=>rfl
 have m6:∀a:Int,bT (.int a) (.int 1000000)=aA (.int<|a % 1000000):=λa=>rfl
 show ∃as,(bN [.v<|.str w,.v<|.int i,.v<|.int j]).bind _=_;unfold bN wk;by_cases h1:w=[43]
 .refine⟨[.v<|.str w,.v<|.int i,.v<|.int j],?_⟩;subst h1;simp only[yA,aR,e,decide_true,aa,if_true];rfl
 .by_cases h2:w=[45]
  .refine⟨[.v<|.str w,.v<|.int i,.v<|.int j],?_⟩;subst h2;simp only[yA,aR,e,decide_true,aa,if_true];rfl
  .by_cases h3:w=[42]
   .refine⟨[.v<|.str w,.v<|.int i,.v<|.int j],?_⟩;have hm:T9 [.v<|.str w,.v<|.int i,.v<|.int j]=aA (.int<|i*j % 1000000):=by
     show((if (-(2 ^ 64)<i/\i<2 ^ 64)\/(-(2 ^ 64)<j/\j<2 ^ 64) then aA (D.int<|i*j) else aD).bind _)=_;rw[if_pos<|QB hi];rfl
    have d1:decide (w=[43])=false:=decide_eq_false h1;have d2:decide (w=[45])=false:=decide_eq_false h2;have d3:decide (w=[42])=true:=decide_eq_true h3;rw[if_neg h1,if_neg h2,if_pos h3];simp only[yA,aR,e,d1,d2,d3,aa,if_true,if_false,cf,zV,xE,hm];rfl
   .refine⟨[.v<|.str w,.v<|.int i,.v<|.int j],?_⟩;have hm:E3 (aP<|zK p_ (zD 1)<|zD 2) (mC<|.int 1) (mC<|.int 0) [.v<|.str w,.v<|.int i,.v<|.int j]=aA (.int (if i<j then 1 else 0)):=by
     show(aA<|decide (i<j)).bind _=_;by_cases hq:i<j<;>simp[hq,mC]
    have d1:decide (w=[43])=false:=decide_eq_false h1;have d2:decide (w=[45])=false:=decide_eq_false h2;have d3:decide (w=[42])=false:=decide_eq_false h3;rw[if_neg h1,if_neg h2,if_neg h3];simp only[yA,aR,e,d1,d2,d3,aa,if_false,cf,zV,xE,hm];rfl
def hC(st:aF)(ds:List D)(p:D×aF)(hl:ds.length=3)(h:yU st ds=aA p):fW 3 4 x2 st ds=aA p:=by
 unfold yU at h;split at h
 .rename_i w x y m b u v;split at h
  .rename_i i j;split at h
   case isFalse=>cases h
   rename_i hs;obtain⟨as,hw⟩:=XY w i j hs.1 hs.2;show(x2 st [.un,.v<|.tup [.str w,x,y,m],.v b,.v<|.lst [.int i,.int j]]).bind _=_;have e1:y3 (aP TX) (aP TZ) [.un,.v<|.tup [.str w,x,y,m],.v b,.v<|.lst [.int i,.int j]]=aA true:=rfl;have e2:zP 3 vZ (zA iV<|zA fX<|zA iP zM) [.un,.v<|.tup [.str w,x,y,m],.v b,.v<|.lst [.int i,.int j]]=aA (.int<|wk w i j):=by
    show(vZ [.v<|.str w,.v<|.int i,.v<|.int j]).map _=_;rw[hw];rfl
   have hb:=wK h;unfold x2 eU;simp only[wP,e1,e2,ba,aa,a_,yW,zL,yO,yE,am,bv,if_true];rw[h];subst hb;rfl
  .rename_i i _;obtain⟨k,h1,h2,h3⟩:=wM h;unfold x2;refine vG ?_ h3;unfold y3;rw[nZ (v:=.int i) (w:=[110,117,109]) rfl rfl,decide_eq_true rfl,aa,if_pos rfl,nZ (v:=v) rfl h1,decide_eq_false h2]
  .obtain⟨k2,hk2,h⟩:=aG h;obtain⟨k,h1,h2,h3⟩:=wM h;unfold x2;refine vG ?_ h3;unfold y3;rw[nZ (v:=u) rfl h1,decide_eq_false h2];rfl
 .cases h
def qM:eA P w K mg base eJ 3 T.lD.a T.lD.d eE (fD K T.C 3 yU):=by
 refine yY (iG (k:=2) T.lD.F eE 3 4 (g:=x2) ?_) hC;unfold x2
 walk_at "a"
noncomputable abbrev TW:=wI<|zA Ar<|zA (rA Ct) zM
def kD:eQ:=(a_<|yW 1 y6<|zL (yE TW) yO)
def rN(st:aF)(ds:List D)(p:D×aF)(hl:ds.length=3)(h:wV st ds=aA p):fW 3 4 kD st ds=aA p:=by
 unfold wV at h;split at h
 .rename_i x b ps;show(kD st [.un,.v x,.v b,.v ps]).bind _=_;have e1:TW [.un,.v x,.v b,.v ps]=aA (.tup [.str [114,101,99],.aI [] []]):=rfl;have hb:=wK h;unfold kD a_ yW;simp only[zL,yE,yO,e1,ba,aa,am,bv,if_true];rw[h];subst hb;rfl
 .cases h
def oU:eA P w K mg base eJ 3 T.BS.a T.BS.d eE (fD K T.C 3 wV):=by
 refine yY (iG (k:=2) T.BS.F eE 3 4 (g:=kD) ?_) rN;unfold kD
 walk_at "a"
abbrev T8:=wI<|zA z_<|zA e_<|zA fX zM
def bE:eQ:=(a_<|yW 1 y6<|zL (yE T8) yO)
def ϖ(st:aF)(ds:List D)(p:D×aF)(hl:ds.length=3)(h:qO st ds=aA p):fW 3 4 bE st ds=aA p:=by
 unfold qO at h;split at h
 .rename_i a s c d b v;show(bE st [.un,.v<|.tup [a,s,c,d],.v b,.v<|.lst [v]]).bind _=_;have e1:T8 [.un,.v<|.tup [a,s,c,d],.v b,.v<|.lst [v]]=aA (.tup [.str [111,110,101],s,v]):=rfl;have hb:=wK h;unfold bE a_ yW;simp only[zL,yE,yO,e1,ba,aa,am,bv,if_true];rw[h];subst hb;rfl
 .cases h
def W1:eA P w K mg base eJ 3 T.BI.a T.BI.d eE (fD K T.C 3 qO):=by
 refine yY (iG (k:=2) T.BI.F eE 3 4 (g:=bE) ?_) ϖ;unfold bE
 walk_at "a"
abbrev TY:=zK c_ (zP 1 xN<|zA fX zM) z_
def jN:eQ:=(eU (wP<|y3 (aP TY)<|aP<|zK lC Bn e_) (a_<|yW 1 y6<|zL (yE fX) yO)<|a_<|yW 1 yC<|zL (yE<|zD 1) yO)
def X1(st:aF)(ds:List D)(p:D×aF)(hl:ds.length=3)(h:w6 st ds=aA p):fW 3 4 jN st ds=aA p:=by
 unfold w6 at h;split at h
 .rename_i a s c d b v;split at h
  .rename_i s2 u ho;have ho:=gN ho;subst ho;have e1:y3 (aP TY) (aP<|zK lC Bn e_) [.un,.v<|.tup [a,.str s,c,d],.v b,.v<|.lst [.tup [.str [111,110,101],.str s2,u]]]=aA (!decide (s2=s)):=rfl;split at h
   .rename_i h_;rw[decide_eq_false h_] at e1;show(jN st [.un,.v<|.tup [a,.str s,c,d],.v b,.v<|.lst [.tup [.str [111,110,101],.str s2,u]]]).bind _=_;have e2:fX [.un,.v<|.tup [a,.str s,c,d],.v b,.v<|.lst [.tup [.str [111,110,101],.str s2,u]]]=aA (.tup [.str [111,110,101],.str s2,u]):=rfl;have hb:=wK h;unfold jN eU;simp only[wP,e1,e2,ba,aa,a_,yW,zL,yO,yE,am,bv,Bool.not_false,if_true];rw[h];subst hb;rfl
   .rename_i h_;rw[decide_eq_true<|Classical.not_not.mp h_] at e1;unfold jN;exact vG e1 h
  .obtain⟨w,h1,h2,h3⟩:=wM h;unfold jN;refine vG ?_ h3;unfold y3;rw[nZ (v:=v) rfl h1,decide_eq_false h2];rfl
 .cases h
def tE:eA P w K mg base eJ 3 T.BN.a T.BN.d eE (fD K T.C 3 w6):=by
 refine yY (iG (k:=2) T.BN.F eE 3 4 (g:=jN) ?_) X1;unfold jN
 walk_at "a"
def jM:eQ:=(eU (wP<|kY<|zP 2 qA<|zA iP<|zA e_ zM) (a_<|yW 1 y6<|zL (yE<|zP 3 xU<|zA iP<|zA e_<|zA fX zM) yO)<|a_<|yW 1 yC<|zL (yE<|zD 1) yO)
def J0(w:D)(ks:List Key)(l:List D)(x:List Nat)(v:D)(h:ks.length<ae):∃as,xU [.v<|.tup [w,.aI ks l],.v<|.str x,.v v]=aA (.v<|.tup [.str [114,101,99],.aI (jK ks l (.inr ⟨x.toArray⟩) v).1 (jK ks l (.inr ⟨x.toArray⟩) v).2],as):=by
 refine⟨[.v<|.tup [w,.aI ks l],.v<|.str x,.v v],?_⟩;have e1:mQ 3 (zD 1) (zD 2) [.v<|.tup [w,.aI ks l],.v<|.str x,.v v,.d false ks l]=aA (.nx [.v<|.tup [w,.aI ks l],.v<|.str x,.v v,.d false (jK ks l (.inr ⟨x.toArray⟩) v).1 (jK ks l (.inr ⟨x.toArray⟩) v).2]):=if_pos h;have e0:mO 3 (uE fG) [.v<|.tup [w,.aI ks l],.v<|.str x,.v v,.un]=aA (.nx [.v<|.tup [w,.aI ks l],.v<|.str x,.v v,.d false ks l]):=rfl;show(qF [.v<|.tup [w,.aI ks l],.v<|.str x,.v v,.un]).bind _=_;unfold qF yA;rw[e0,aa];show(((mQ 3 (zD 1) (zD 2) [.v<|.tup [w,.aI ks l],.v<|.str x,.v v,.d false ks l]).bind _)).bind _=_;rw[e1];rfl
def X0(st:aF)(ds:List D)(p:D×aF)(hl:ds.length=3)(h:x0 st ds=aA p):fW 3 4 jM st ds=aA p:=by
 unfold x0 at h;split at h
 .rename_i a s c d m b v r;split at h
  .rename_i ks l hr;have hr:=vF hr;subst hr;have e1:=j5 (n:=2) (fs:=zA iP<|zA e_ zM) (r:=[.un,.v<|.tup [a,.str s,c,d,m],.v b,.v<|.lst [v,.tup [.str [114,101,99],.aI ks l]]]) (zB rfl<|zB rfl zQ) rfl<|đ ks l s;split at h
   .rename_i hn;rw[hn] at e1;have e1:=e1.trans (show aA (!(aD:Option D).isSome)=aA true from rfl);split at h
    case isFalse=>cases h
    rename_i hk;show(jM st [.un,.v<|.tup [a,.str s,c,d,m],.v b,.v<|.lst [v,.tup [.str [114,101,99],.aI ks l]]]).bind _=_;have e2:zP 3 xU (zA iP<|zA e_<|zA fX zM) [.un,.v<|.tup [a,.str s,c,d,m],.v b,.v<|.lst [v,.tup [.str [114,101,99],.aI ks l]]]=aA (.tup [.str [114,101,99],.aI (jK ks l (.inr ⟨s.toArray⟩) v).1 (jK ks l (.inr ⟨s.toArray⟩) v).2]):=by
     obtain⟨as,hq⟩:=J0 (.str [114,101,99]) ks l s v hk;show(xU [.v<|.tup [.str [114,101,99],.aI ks l],.v<|.str s,.v v]).map _=_;rw[hq];rfl
    have hb:=wK h;unfold jM eU;simp only[wP,e1,e2,ba,aa,a_,yW,zL,yO,yE,am,bv,if_true];rw[h];subst hb;rfl
   .rename_i hn;rw[show(xS ks l<|.inr ⟨s.toArray⟩).isSome=true by cases q:xS ks l (.inr ⟨s.toArray⟩) with|none=>exact absurd q hn|some _=>rfl] at e1;unfold jM;exact vG e1 h
  .obtain⟨w,h1,h2,h3⟩:=wM h;unfold jM;exact vG (j5 (n:=2) (zB rfl<|zB rfl zQ) rfl<|Ē h1 h2<|.str s) h3
 .cases h
def tD:eA P w K mg base eJ 3 T.BP.a T.BP.d eE (fD K T.C 3 x0):=by
 refine yY (iG (k:=2) T.BP.F eE 3 4 (g:=jM) ?_) X0;unfold jM
 walk_at "a"
def kW:eQ:=(eU (wP<|kY<|zP 2 qC<|zA fX<|zA e_ zM) (a_<|yW 1 y6<|zL (yE<|JS (uE Bn) e_) yO)<|a_<|yW 1 yC<|zL (yE<|zD 1) yO)
def ϓ(st:aF)(ds:List D)(p:D×aF)(hl:ds.length=3)(h:qQ st ds=aA p):fW 3 4 kW st ds=aA p:=by
 unfold qQ at h;split at h
 .rename_i a s c d b v;split at h
  .rename_i ks l hr;have hr:=vF hr;subst hr;have e1:=j5 (n:=2) (fs:=zA fX<|zA e_ zM) (r:=[.un,.v<|.tup [a,.str s,c,d],.v b,.v<|.lst [.tup [.str [114,101,99],.aI ks l]]]) (zB rfl<|zB rfl zQ) rfl<|IY ks l s;split at h
   .rename_i u hu;rw[hu] at e1;show(kW st [.un,.v<|.tup [a,.str s,c,d],.v b,.v<|.lst [.tup [.str [114,101,99],.aI ks l]]]).bind _=_;have e2:JS (uE Bn) e_ [.un,.v<|.tup [a,.str s,c,d],.v b,.v<|.lst [.tup [.str [114,101,99],.aI ks l]]]=aA u:=by
     show xS ks l (.inr ⟨s.toArray⟩)=_;exact hu
    have hb:=wK h;unfold kW eU;simp only[wP,e1,e2,rh,ba,aa,a_,yW,zL,yO,yE,am,bv,if_true];rw[h];subst hb;rfl
   .rename_i hu;rw[hu] at e1;unfold kW;exact vG e1 h
  .obtain⟨w,h1,h2,h3⟩:=wM h;unfold kW;exact vG (j5 (n:=2) (zB rfl<|zB rfl zQ) rfl<|IZ h1 h2<|.str s) h3
 .cases h
def W4:eA P w K mg base eJ 3 T.BK.a T.BK.d eE (fD K T.C 3 qQ):=by
 refine yY (iG (k:=2) T.BK.F eE 3 4 (g:=kW) ?_) ϓ;unfold kW
 walk_at "a"
def kU:eQ:=(eU (wP<|kY<|zP 2 qC<|zA iP<|zA e_ zM) (a_<|yW 1 y6<|zL (yE<|zP 3 xU<|zA iP<|zA e_<|zA fX zM) yO)<|a_<|yW 1 yC<|zL (yE<|zD 1) yO)
def ϕ(st:aF)(ds:List D)(p:D×aF)(hl:ds.length=3)(h:wT st ds=aA p):fW 3 4 kU st ds=aA p:=by
 unfold wT at h;split at h
 .rename_i a s c d m b v r;split at h
  .rename_i ks l hr;have hr:=vF hr;subst hr;have e1:=j5 (n:=2) (fs:=zA iP<|zA e_ zM) (r:=[.un,.v<|.tup [a,.str s,c,d,m],.v b,.v<|.lst [v,.tup [.str [114,101,99],.aI ks l]]]) (zB rfl<|zB rfl zQ) rfl<|IY ks l s;split at h
   .rename_i hn;rw[hn] at e1;unfold kU;exact vG e1 h
   .rename_i hn;rw[show(xS ks l<|.inr ⟨s.toArray⟩).isSome=true by cases q:xS ks l (.inr ⟨s.toArray⟩) with|none=>exact absurd q hn|some _=>rfl] at e1;split at h
    case isFalse=>cases h
    rename_i hk;show(kU st [.un,.v<|.tup [a,.str s,c,d,m],.v b,.v<|.lst [v,.tup [.str [114,101,99],.aI ks l]]]).bind _=_;have e2:zP 3 xU (zA iP<|zA e_<|zA fX zM) [.un,.v<|.tup [a,.str s,c,d,m],.v b,.v<|.lst [v,.tup [.str [114,101,99],.aI ks l]]]=aA (.tup [.str [114,101,99],.aI (jK ks l (.inr ⟨s.toArray⟩) v).1 (jK ks l (.inr ⟨s.toArray⟩) v).2]):=by
     obtain⟨as,hq⟩:=J0 (.str [114,101,99]) ks l s v hk;show(xU [.v<|.tup [.str [114,101,99],.aI ks l],.v<|.str s,.v v]).map _=_;rw[hq];rfl
    have hb:=wK h;unfold kU eU;simp only[wP,e1,e2,ba,aa,a_,yW,zL,yO,yE,am,bv,if_true];rw[h];subst hb;rfl
  .obtain⟨w,h1,h2,h3⟩:=wM h;unfold kU;exact vG (j5 (n:=2) (zB rfl<|zB rfl zQ) rfl<|IZ h1 h2<|.str s) h3
 .cases h
def W2:eA P w K mg base eJ 3 T.BJ.a T.BJ.d eE (fD K T.C 3 wT):=by
 refine yY (iG (k:=2) T.BJ.F eE 3 4 (g:=kU) ?_) ϕ;unfold kU
 walk_at "a"
def jO:eQ:=(eU (wP<|kY<|zP 2 qC<|zA fX<|zA e_ zM) (a_<|yW 1 y6<|zL (yE<|zP 2 wO<|zA fX<|zA e_ zM) yO)<|a_<|yW 1 yC<|zL (yE<|zD 1) yO)
def ċ(w:D)(ks:List Key)(l:List D)(x:List Nat)(v:D)(h:xS ks l (.inr ⟨x.toArray⟩)=aA v):∃as,wO [.v<|.tup [w,.aI ks l],.v<|.str x]=aA (.v<|.tup [.str [114,101,99],.aI (jA ks l<|.inr ⟨x.toArray⟩).1 (jA ks l<|.inr ⟨x.toArray⟩).2],as):=by
 refine⟨[.v<|.tup [w,.aI ks l],.v<|.str x],?_⟩;have e1:sX (GA 2<|zD 1) [.v<|.tup [w,.aI ks l],.v<|.str x,.d false ks l]=aA (.nx [.v<|.tup [w,.aI ks l],.v<|.str x,.d false (jA ks l<|.inr ⟨x.toArray⟩).1 (jA ks l<|.inr ⟨x.toArray⟩).2]):=by
  refine rG (d:=v) ?_;show((xS ks l<|.inr ⟨x.toArray⟩).map λv=>(v,_))=_;rw[h];rfl
 have e0:mO 2 (uE fG) [.v<|.tup [w,.aI ks l],.v<|.str x,.un]=aA (.nx [.v<|.tup [w,.aI ks l],.v<|.str x,.d false ks l]):=rfl;show(xZ [.v<|.tup [w,.aI ks l],.v<|.str x,.un]).bind _=_;unfold xZ yA;rw[e0,aa];show(((sX (GA 2<|zD 1) [.v<|.tup [w,.aI ks l],.v<|.str x,.d false ks l]).bind _)).bind _=_;rw[e1];rfl
def X3(st:aF)(ds:List D)(p:D×aF)(hl:ds.length=3)(h:wL st ds=aA p):fW 3 4 jO st ds=aA p:=by
 unfold wL at h;split at h
 .rename_i a s c d b v;split at h
  .rename_i ks l hr;have hr:=vF hr;subst hr;have e1:=j5 (n:=2) (fs:=zA fX<|zA e_ zM) (r:=[.un,.v<|.tup [a,.str s,c,d],.v b,.v<|.lst [.tup [.str [114,101,99],.aI ks l]]]) (zB rfl<|zB rfl zQ) rfl<|IY ks l s;split at h
   .rename_i u hv;rw[hv] at e1;show(jO st [.un,.v<|.tup [a,.str s,c,d],.v b,.v<|.lst [.tup [.str [114,101,99],.aI ks l]]]).bind _=_;have e2:zP 2 wO (zA fX<|zA e_ zM) [.un,.v<|.tup [a,.str s,c,d],.v b,.v<|.lst [.tup [.str [114,101,99],.aI ks l]]]=aA (.tup [.str [114,101,99],.aI (jA ks l<|.inr ⟨s.toArray⟩).1 (jA ks l<|.inr ⟨s.toArray⟩).2]):=yN (p:=.v<|.tup [.str [114,101,99],.aI (jA ks l<|.inr ⟨s.toArray⟩).1 (jA ks l<|.inr ⟨s.toArray⟩).2]) (zB (x:=.tup [.str [114,101,99],.aI ks l]) rfl<|zB (x:=.str s) rfl zQ) rfl<|ċ (.str [114,101,99]) ks l s u hv;have hb:=wK h;unfold jO eU;simp only[wP,e1,e2,rh,ba,aa,a_,yW,zL,yO,yE,am,bv,if_true];rw[h];subst hb;rfl
   .rename_i hu;rw[hu] at e1;unfold jO;exact vG e1 h
  .obtain⟨w,h1,h2,h3⟩:=wM h;unfold jO;exact vG (j5 (n:=2) (zB rfl<|zB rfl zQ) rfl<|IZ h1 h2<|.str s) h3
 .cases h
def tG:eA P w K mg base eJ 3 T.BO.a T.BO.d eE (fD K T.C 3 wL):=by
 refine yY (iG (k:=2) T.BO.F eE 3 4 (g:=jO) ?_) X3;unfold jO
 walk_at "a"
abbrev Mw:=zK aL (zD 1)<|mC<|.int 5
abbrev Ui:=zK aL (zD 1)<|mC<|.int 6
abbrev Uh:=zK aL (zD 1)<|mC<|.int 4
abbrev T5:=zK lC (zP 1 xN<|zA fX zM) z_
def kJ:eQ:=(eU (wP<|aP T5) (a_<|yW 1 yC<|zL (yE<|zD 1) yO)<|eU (wP<|aP<|zK c_ Bn A4) (a_<|yW 2 yM<|zL (yE Uh)<|zL (yE<|rA<|uT 3 wG<|zA (zD 2)<|zA FH<|zA FF zM) yO)<|a_<|yW 2 yM<|zL (yE Ui)<|zL (yE<|rA<|uT 3 wG<|zA (zD 2)<|zA Mw<|zA fX zM) yO)
def X4(st:aF)(ds:List D)(p:D×aF)(hl:ds.length=3)(h:xL st ds=aA p):fW 3 4 kJ st ds=aA p:=by
 unfold xL at h;split at h
 .rename_i a c s x e1 y e2 d ks l ov;split at h
  case h_2=>
   obtain⟨w,h1,h2,h3⟩:=wM h;unfold kJ;exact Jt (by rw[ZY (v:=ov) rfl h1,decide_eq_false h2];rfl) h3
  rename_i s2 v ho;have ho:=gN ho;subst ho;split at h
  case isFalse=>cases h
  rename_i hk;show(kJ st [.un,.v<|.tup [a,c,.str s,.str x,e1,.str y,e2,d],.v<|.aI ks l,.v<|.lst [.tup [.str [111,110,101],.str s2,v]]]).bind _=_;generalize hr:([.un,.v<|.tup [a,c,.str s,.str x,e1,.str y,e2,d],.v<|.aI ks l,.v<|.lst [.tup [.str [111,110,101],.str s2,v]]]:En)=r;have f1:aP T5 r=aA false:=by subst hr;rfl
  have f2:aP (zK c_ Bn A4) r=aA (decide (s2=s)):=by subst hr;rfl
  have f3:Uh r=aA e1:=by subst hr;rfl
  have f4:Ui r=aA e2:=by subst hr;rfl
  have f5:rA (uT 3 wG<|zA (zD 2)<|zA FH<|zA FF zM) r=aA (.aI (jK ks l (.inr ⟨x.toArray⟩) v).1 (jK ks l (.inr ⟨x.toArray⟩) v).2):=by
   obtain⟨as,hb⟩:=bR ks l x v hk;have ea:zA (zD 2) (zA FH<|zA FF zM) r=aA [.aI ks l,.str x,v]:=by subst hr;rfl
   unfold rA uT;rw[ea];show((wG [.v<|.aI ks l,.v<|.str x,.v v]).bind _).map _=_;rw[hb];rfl
  have f6:rA (uT 3 wG<|zA (zD 2)<|zA Mw<|zA fX zM) r=aA (.aI (jK ks l (.inr ⟨y.toArray⟩)<|.tup [.str [111,110,101],.str s2,v]).1 (jK ks l (.inr ⟨y.toArray⟩)<|.tup [.str [111,110,101],.str s2,v]).2):=by
   obtain⟨as,hb⟩:=bR ks l y (.tup [.str [111,110,101],.str s2,v]) hk;have ea:zA (zD 2) (zA Mw<|zA fX zM) r=aA [.aI ks l,.str y,.tup [.str [111,110,101],.str s2,v]]:=by subst hr;rfl
   unfold rA uT;rw[ea];show((wG [.v<|.aI ks l,.v<|.str y,.v<|.tup [.str [111,110,101],.str s2,v]]).bind _).map _=_;rw[hb];rfl
  unfold kJ eU;by_cases hi:s2=s
  .rw[if_pos hi] at h;rw[decide_eq_true hi] at f2;have hb:=jD h;simp only[wP,f1,f2,f3,f5,ba,aa,cf,if_false,a_,yW,zL,yO,yE,am,bv,if_true];rw[h];subst hb;rfl
  .rw[if_neg hi] at h;rw[decide_eq_false hi] at f2;have hb:=jD h;simp only[wP,f1,f2,f4,f6,ba,aa,cf,if_false,a_,yW,zL,yO,yE,am,bv,if_true];rw[h];subst hb;rfl
 .cases h
def tH:eA P w K mg base eJ 3 T.BM.a T.BM.d eE (fD K T.C 3 xL):=by
 refine yY (iG (k:=2) T.BM.F eE 3 4 (g:=kJ) ?_) X4;unfold kJ
 walk_at "a"
def JT{c:Prop}[Decidable c]{a b v:Option α}(h:(if c then a else b)=v):c/\a=v\/¬c/\b=v:=by
 by_cases hc:c
 .exact .inl ⟨hc,by rwa [if_pos hc] at h⟩
 .exact .inr ⟨hc,by rwa [if_neg hc] at h⟩
def G3{N P:List Str}{sc:Scope}(a:sc.kind=.function:=by rfl)(b:sc.isCoroutine=false:=by rfl)(c:sc.isGenerator=false:=by rfl)(d:N.Nodup:=by decide +kernel)(e:N.take P.length=P:=by rfl)(f:∀x∈P,sc.names.lookup x=aA .local\/sc.names.lookup x=aA .cell:=by decide +kernel)(g:∀y∈sc.names,y.2≠.free:=by decide +kernel):sU N P sc:=⟨a,b,c,d,e,f,g⟩
def ο:sU ["self", "expression", "bound", "parts"] ["self", "expression", "bound", "parts"] (yF<|nD 16 1):=G3
def d7:eQ:=(a_<|Ji 3 ways iV<|Pg<|zA (zD 1)<|zA (zD 2)<|zA (zD 3) zM)
def ř(st:aF)(ds:List D)(p:D×aF)(hl:ds.length=3)(h:qR st ds=aA p):fW 3 4 d7 st ds=aA p:=by
 unfold qR at h;split at h
 .rename_i w r b ps;obtain⟨mm,e1,h⟩:=aG h;have e2:iV [.un,.v<|.tup (.str w::r),.v b,.v ps]=aA (.str w):=by
   show iC (.str w::r) 0=_;exact L_
  have e3:zA (zD 1) (zA (zD 2)<|zA (zD 3) zM) [.un,.v<|.tup (.str w::r),.v b,.v ps]=aA [.tup (.str w::r),b,ps]:=rfl;show(d7 st [.un,.v<|.tup (.str w::r),.v b,.v ps]).bind _=_;unfold d7 a_ Ji;rw[e2,aa];dsimp only;rw[e1,aa];simp only[Pg,e3,ba,aa,am,bv,if_true];obtain⟨q,h1,rfl⟩:=aY h;rw[h1];rfl
 .cases h
def Ζ:eA P w K mg base eJ 4 T.Dq.a T.Dq.d ["self", "expression", "bound", "parts"] (fD K T.C 3 qR):=by
 refine yY (Tl (k:=3) T.Dq.F ο 3 4 rfl rfl (g:=d7) λeI A outer s H E hr=>?_) ř;unfold d7;exact(by refine QF ?_;exact(GI (İ (k:=3) (n:=3) (ways:=ways) T.ways (by rfl) (Nq (uC 1<|pv 1) pO) (pv 0) (Č<|jX (uC 1<|pv 1)<|jX (uC 2<|pv 2)<|jX (uC 3<|pv 3) pR) (λkey mm e=>by
  unfold ways at e;rcases JT e with⟨hk,e⟩|⟨_,e⟩
  .subst hk;cases e;exact⟨_,_,_,T.j6u,W3 T,T.BL.b,T.BL.F.kp⟩
  rcases JT e with⟨hk,e⟩|⟨_,e⟩
  .subst hk;cases e;exact⟨_,_,_,T.j6b,tF T,T.BQ.b,T.BQ.F.kp⟩
  rcases JT e with⟨hk,e⟩|⟨_,e⟩
  .subst hk;cases e;exact⟨_,_,_,T.ϣ,Ι T,T.BG.b,T.BG.F.kp⟩
  rcases JT e with⟨hk,e⟩|⟨_,e⟩
  .subst hk;cases e;exact⟨_,_,_,T.Ϥ,Θ T,T.BF.b,T.BF.F.kp⟩
  rcases JT e with⟨hk,e⟩|⟨_,e⟩
  .subst hk;cases e;exact⟨_,_,_,T.j4w,oU T,T.BS.b,T.BS.F.kp⟩
  rcases JT e with⟨hk,e⟩|⟨_,e⟩
  .subst hk;cases e;exact⟨_,_,_,T.j6v,W4 T,T.BK.b,T.BK.F.kp⟩
  rcases JT e with⟨hk,e⟩|⟨_,e⟩
  .subst hk;cases e;exact⟨_,_,_,T.j6c,tD T,T.BP.b,T.BP.F.kp⟩
  rcases JT e with⟨hk,e⟩|⟨_,e⟩
  .subst hk;cases e;exact⟨_,_,_,T.j6w,W2 T,T.BJ.b,T.BJ.F.kp⟩
  rcases JT e with⟨hk,e⟩|⟨_,e⟩
  .subst hk;cases e;exact⟨_,_,_,T.j6d,tG T,T.BO.b,T.BO.F.kp⟩
  rcases JT e with⟨hk,e⟩|⟨_,e⟩
  .subst hk;cases e;exact⟨_,_,_,T.j6x,W1 T,T.BI.b,T.BI.F.kp⟩
  rcases JT e with⟨hk,e⟩|⟨_,e⟩
  .subst hk;cases e;exact⟨_,_,_,T.j6e,tE T,T.BN.b,T.BN.F.kp⟩
  rcases JT e with⟨hk,e⟩|⟨_,e⟩
  .subst hk;cases e;exact⟨_,_,_,T.j6f,tH T,T.BM.b,T.BM.F.kp⟩
  rcases JT e with⟨hk,e⟩|⟨_,e⟩
  .subst hk;cases e;exact⟨_,_,_,T.j4x,oS T,T.BR.b,T.BR.F.kp⟩
  rcases JT e with⟨hk,e⟩|⟨_,e⟩
  .subst hk;cases e;exact⟨_,_,_,T.Ϣ,χ T,T.BE.b,T.BE.F.kp⟩
  rcases JT e with⟨hk,e⟩|⟨_,e⟩
  .cases e;rcases hk with rfl|rfl|rfl|rfl
   .exact⟨_,_,_,T.j6y,qM T,T.lD.b,T.lD.F.kp⟩
   .exact⟨_,_,_,T.j6z,qM T,T.lD.b,T.lD.F.kp⟩
   .exact⟨_,_,_,T.j7a,qM T,T.lD.b,T.lD.F.kp⟩
   .exact⟨_,_,_,T.j7b,qM T,T.lD.b,T.lD.F.kp⟩
  cases e) hr)))
def bC:eQ:=(cQ WF (Gi GQ<|Cj<|sG λst=>st.ended)<|XO (Em 0 1 GP)<|eU (wP<|kY A4) (a_<|yW 3 qR<|zL (yE iV)<|zL (yE e_)<|zL (yW 1 yX<|zL (yE iV) yO) yO)<|a_<|yW 2 yP<|zL (yE iV)<|zL (yE e_) yO)
def Es:eQ:=(XO (Em 0 1 GP)<|eU (wP<|kY A4) (a_<|yW 3 qR<|zL (yE iV)<|zL (yE e_)<|zL (yW 1 yX<|zL (yE iV) yO) yO)<|a_<|yW 2 yP<|zL (yE iV)<|zL (yE e_) yO)
def ū{st s:aF}{x:Sl}(hx:x=.un\/∃d,x=.v d)(h:nW st=aA s):∃d,Es st [.un,x]=aA (.nx s [.un,.v d]):=by
 unfold nW at h;have Lo:∀d,yI 1 d [.un,x]=aA [.un,.v d]:=λd=>by rcases hx with rfl|⟨d',rfl⟩<;>rfl
 have pop:∀d,st.wait.getLast?=aA d->Em 0 1 GP st [.un,x]=aA (.nx { st with wait:=st.wait.dropLast } [.un,.v d]):=λd e=>by
  unfold Em GP;rw[e];show(if 1=0 then aD else (yI 1 d [.un,x]).map λr'=>FT.nx { st with wait:=st.wait.dropLast } r')=_;rw[if_neg<|by decide,Lo];rfl
 split at h
 .rename_i e b hl;refine⟨.tup [e,b,.bl true],?_⟩;obtain⟨p,h1,h⟩:=aG h;obtain⟨q,h2,rfl⟩:=aY h;have e0:iV [.un,.v<|.tup [e,b,.bl true]]=aA e:=rfl;have e1:e_ [.un,.v<|.tup [e,b,.bl true]]=aA b:=rfl;have e2:kY A4 [.un,.v<|.tup [e,b,.bl true]]=aA true:=rfl;unfold Es XO;rw[pop _ hl,aa];dsimp only;unfold eU;simp only[wP,e2,ba,aa,if_true];unfold a_ yW;simp only[zL,yO,yE,e0,e1,ba,aa,am,bv,if_true];rw[h1];simp only[ba,aa,am,bv,if_true];rw[h2];rfl
 .rename_i e b hl;refine⟨.tup [e,b,.bl false],?_⟩;obtain⟨q,h2,rfl⟩:=aY h;have e0:iV [.un,.v<|.tup [e,b,.bl false]]=aA e:=rfl;have e1:e_ [.un,.v<|.tup [e,b,.bl false]]=aA b:=rfl;have e2:kY A4 [.un,.v<|.tup [e,b,.bl false]]=aA false:=rfl;unfold Es XO;rw[pop _ hl,aa];dsimp only;unfold eU;simp only[wP,e2,ba,aa,if_false,cf];unfold a_ yW;simp only[zL,yO,yE,e0,e1,ba,aa,am,bv,if_true];rw[h2];rfl
 .cases h
def XZ:∀(n:Nat) (st s:aF) (x:Sl),(x=.un\/∃d,x=.v d)->mZ n st=aA s->∃x',cQ n (Gi GQ<|Cj<|sG λst=>st.ended) Es st [.un,x]=aA (.nx s [.un,x']):=by
 intro n
 induction n with
 |zero=>intro st s x _ h;cases h
 |succ n ih=>
  intro st s x hx h;have h:(if st.wait.isEmpty=false/\lY st.ended=true then (nW st).bind (mZ n) else aA st)=aA s:=h;have ht:Gi GQ (Cj<|sG λst=>st.ended) st [.un,x]=aA (!st.wait.isEmpty && lY st.ended,st):=by
   show(if (!st.wait.isEmpty)=true then aA (lY st.ended,st) else aA (false,st))=_;cases st.wait.isEmpty<;>simp
  unfold cQ;rw[ht,aa];by_cases hc:st.wait.isEmpty=false/\lY st.ended=true
  .rw[if_pos hc] at h;obtain⟨eV,h1,h2⟩:=aG h;obtain⟨d,hb⟩:=ū hx h1;obtain⟨x',q_⟩:=ih eV s (.v d) (.inr ⟨d,rfl⟩) h2;refine⟨x',?_⟩;rw[if_pos<|by simp[hc.1,hc.2],hb,aa];exact q_
  .rw[if_neg hc] at h;cases h;refine⟨x,?_⟩;rw[if_neg<|by simpa using hc]
def ϗ(st:aF)(ds:List D)(p:D×aF)(hl:ds.length=0)(h:j8 st ds=aA p):fW 0 2 bC st ds=aA p:=by
 match ds,hl with
 |[],_=>
  obtain⟨s,h1,rfl⟩:=aY (show(mZ WF st).map (λs=>(D.aE,s))=aA p from h);obtain⟨x',q_⟩:=XZ WF st s .un (.inl rfl) h1;show(bC st [.un,.un]).bind _=_;have e:bC=cQ WF (Gi GQ<|Cj<|sG λst=>st.ended) Es:=rfl;rw[e,q_];rfl
def WZ:eA P w K mg base eJ 5 T.CA.a T.CA.d ["self"] (fD K T.C 0 j8):=by
 refine yY (iG (k:=4) T.CA.F ["self", "task"] 0 2 (g:=bC) ?_) ϗ;unfold bC
 walk_at "a"
def ρ:sU ["self", "most"] ["self", "most"] (yF<|nD 8 0):=G3
def ω:eA P w K mg base eJ 1 T.Cy.a T.Cy.d ["self", "most"] (IM K T.C):=by
 refine j_.ok (k:=0) T.Cy.F ρ (λvs H Q E h=>?_) λeI A outer s H vs Q E hr h=>⟨_,j6 (hJ (pv 0) (pv 1) rfl)<|j6 (hJ (pv 0) oM rfl)<|j6 (hJ (pv 0) (Ka xH) rfl)<|j6 (hJ (pv 0) (Ka xH) rfl)<|oG<|hJ (pv 0) OJ rfl,ν rfl T.cl T.Hv T.Cz T.Dr T.Do T.BH h⟩;obtain⟨x,dx,m,rfl,_⟩:=h;rfl
def π:sU ["self", "program", "most"] ["self", "program", "most"] (yF<|nD 16 0):=G3
def ψ:eA P w K mg base eJ 44 T.Cw.a T.Cw.d ["self", "program", "most"] (IL K T.C dd):=by
 refine j_.ok (k:=43) T.Cw.F π (λvs H Q E h=>?_) λeI A outer s H vs Q E hr h=>⟨_,j6 (Z7<|ύ (dvs:=[]) (E:=E0) T.cm (ω T) (hr.mono<|by omega) (by rfl) T.mB T.Cy.b .nil oN<|yK (pv 0)<|yK (pv 2) xH)<|oG<|hJ (tv:=lE K Fz) (pv 0) (show DE _ _ Fz by unfold Fz;exact(IU<|Y6 rfl (by rfl) T.E6 (by refine TC ?_;exact(cL (N':=["name", "E"]) (cap:=[]) rfl uD (Od<|uC 1<|pv 1) (λ_ _ _ _=>(Oc rfl<|nK (jB 0 (show(["name", "E"]:List Str).Nodup by decide +kernel))<|nK (jB 1 (show(["name", "E"]:List Str).Nodup by decide +kernel)) P6)) (λ_ _ _ _=>by exact(by refine Jr ?_;exact(by refine jX ?_ ?_;exact(uC 0<|pv 0);refine jX ?_ ?_;exact(Po (oV RF T) (hr.mono<|by decide) (by rfl) T.E_.m T.E_.F.kp T.E_.b (by refine jX ?_ ?_;exact(uC 1<|pv 1);refine jX ?_ ?_;exact(uC 0<|pv 0);refine jX ?_ ?_;exact pO;exact pR));exact pR))) 2)))) rfl,Ω rfl T.cl T.E7 (λpd d e m=>e) h⟩;obtain⟨O,x,dx,pd,pv,m,d,rfl,_⟩:=h;rfl
def Sg:sU ["program", "most", "plain"] ["program", "most"] (yF<|top 14):=G3
def EB:eQ:=(XO (a_<|yW 2 yM<|zL (X6 FK)<|zL (yE<|rA Ct) yO)<|XO (a_<|hE j8)<|XO (eU (Cj<|sG λst=>st.ended) (Ah<|Gh<|zL (yE B9)<|zL (sG λst=>.int st.steps)<|zL (Pf 1 JQ<|zL N7 yO) yO) ZH)<|Ah<|Gh<|zL (Ko (sG λst=>st.ended)<|mC<|.int 0)<|zL (sG λst=>.int st.steps)<|zL (Ko (sG λst=>st.ended)<|mC<|.int 1) yO)
def EE:MS:=Gc 2 (zD 0) (zD 1) dd EB
def Δ{l:List D}:lY (.tup l)=false:=rfl
def VX(as:List Sl)(p:Rs×List Sl)(hl:as.length=2)(h:bX as=aA p):eW 2 3 EE as=aA p:=by
 unfold bX at h;split at h
 .rename_i pd m;obtain⟨d,e1,h⟩:=aG h;obtain⟨x,e2,rfl⟩:=aY h;unfold IH at e2;split at e2
  case h_2=>cases e2
  rename_i ks l;obtain⟨e,e3,h⟩:=aG e2;obtain⟨s,e4,e5⟩:=aG h;show(EE [.v pd,.v<|.int m,.un]).bind _=_;obtain⟨s',key⟩:∃s',EB ⟨m,0,[],[],.aE,.aI ks l⟩ [.v pd,.v<|.int m,.un]=aA (.rt x s' [.v pd,.v<|.int m,.un]):=by
   have b1:a_ (yW 2 yM<|zL (X6 FK)<|zL (yE<|rA Ct) yO) ⟨m,0,[],[],.aE,.aI ks l⟩ [.v pd,.v<|.int m,.un]=aA (.nx ⟨m,0,[.tup [e,.aI [] [],.bl false]],[],.aE,.aI ks l⟩ [.v pd,.v<|.int m,.un]):=by
    have d1:X6 FK ⟨m,0,[],[],.aE,.aI ks l⟩ [.v pd,.v<|.int m,.un]=aA (e,⟨m,0,[],[],.aE,.aI ks l⟩):=by
     show(xS ks l<|.inr ⟨([109,97,105,110]:List Nat).toArray⟩).map _=_;rw[e3];rfl
    unfold a_ yW;simp only[zL,yO,d1,yE,rA,Ct,ba,aa,am,bv,if_true];rfl
   have b2:a_ (hE j8) ⟨m,0,[.tup [e,.aI [] [],.bl false]],[],.aE,.aI ks l⟩ [.v pd,.v<|.int m,.un]=aA (.nx s [.v pd,.v<|.int m,.un]):=by
    unfold a_ hE;show((mZ WF _).map _).map _=_;rw[e4];rfl
   unfold EB XO;rw[b1,aa];dsimp only;rw[b2,aa];dsimp only;unfold F4 at e5;split at e5
   .rename_i he;obtain⟨v,f1,e5⟩:=aG e5;obtain⟨⟨q,f_⟩,f2,e5⟩:=aG e5;cases q<;>first|(cases e5;done)|skip
    cases e5;unfold eU;simp only[Cj,sG,he,lY,ba,aa,if_true];unfold Ah;simp only[Gh,zL,yO,yE,mC,sG,Pf,N7,f1,ba,aa,am,bv,au,oz,f2,if_true];rw[if_pos G1];exact⟨_,rfl⟩
   .rename_i a b he;cases e5;unfold eU;simp only[Cj,sG,he,Δ,ba,aa,cf,if_false,ZH];unfold Ah;have i0:aL (.tup [a,b]) (.int 0)=aA a:=rfl;have i1:aL (.tup [a,b]) (.int 1)=aA b:=rfl;simp only[Gh,zL,yO,Ko,mC,sG,he,i0,i1,ba,aa,am,bv];rw[if_pos G1];exact⟨_,rfl⟩
   .cases e5
  unfold EE Gc;rw[if_pos ⟨rfl,rfl⟩];have v0:zD 0 [.v pd,.v<|.int m,.un]=aA pd:=rfl;have v1:zD 1 [.v pd,.v<|.int m,.un]=aA (.int m):=rfl;simp only[v0,v1,aa,e1,key];rfl
 .cases h
def Ym:Ok P w base T.Hu 46 2 bX:=by
 refine ϝ (Tn (k:=45) T.Hu.F Sg 2 3 rfl rfl (g:=EE) λeI A outer s H E hr=>?_) VX;unfold EE;exact(Ww 2 T.mkC (ψ T) (hr.mono<|by omega) (by rfl) T.mC T.Cw.b (uC 0<|pv 0) (uC 1<|pv 1) (show sE _ _ 2 _ EB by unfold EB;exact(by refine oY ?_ ?_;exact(GI<|PD (pv 2) T.cl T.Td (λ_ _ _ _ _ _=>rfl) (YC T) (hr.mono<|by omega) T.Cv.b<|kO (PB (GX hr) (pv 2) T.cl T.E7 ZB)<|kO (YH<|IU Oq) tQ);exact(by refine oY ?_ ?_;exact(GI<|YI (pv 2) T.cl T.qg0 (λ_ _ _ _ _ _=>rfl) (WZ T) (hr.mono<|by omega) T.CA.b);exact(by refine oY ?_ ?_;exact(NB (OG<|dE (pv 2) T.cl T.BH dN) (by refine QF ?_;exact(Jw<|OH<|kO (YH ZB)<|kO (dE (pv 2) T.cl T.Cz nH)<|kO (Α (ĥ T) (hr.mono<|by omega) (by rfl) T.E8.m T.E8.F.kp T.E8.b<|kO (ĭ (pv 2) T.cl T.Do) tQ) tQ)) OI);exact(by refine QF ?_;exact(Jw<|OH<|kO (NA (dE (pv 2) T.cl T.BH dN) pO)<|kO (dE (pv 2) T.cl T.Cz nH)<|kO (NA (dE (pv 2) T.cl T.BH dN) pO) tQ)))))) Sg.nd)
def Yj:Ok P w base T.Sf 201 1 XM:=by
 refine fH T.Sf.F ["_law_script", "_law_first", "_law_labels_here", "_law_pile", "_law_k", "_law_cell_here", "_law_item", "_law_word", "_law_steps", "_law_what", "_law_program", "_law_due"] 1 12 (g:=ED) ?_;unfold ED
 walk_at "a"
end
def bI(c k:Int):∃n:Int,0<=n/\∃as,xV [.v<|.int c,.v<|.int k]=aA (.v<|.int n,as):=by
 let n1:Int:=(c % 2147483647+16807*k+7) % 2147483629
 let n2:Int:=n1*n1 % 2147483587
 have h1:0<=n1/\n1<2147483629:=⟨jd _<|by decide,je _<|by decide⟩;have h2:0<=n2/\n2<2147483587:=⟨jd _<|by decide,je _<|by decide⟩;refine⟨n2*(n2+48271) % 2147483579 / 5,?_,?_⟩
 .exact Int.ediv_nonneg (jd _<|by decide) (by decide)
 .refine wF (r':=[.v<|.int c,.v<|.int k,.v<|.int n2]) ?_;show qH [.v<|.int c,.v<|.int k,.un]=_;unfold qH;rw[yB<|xF (d:=.int n1) (r2:=[.v<|.int c,.v<|.int k,.v<|.int n1]) (qE (xD (xD (qE rfl zE<|by decide)<|QC zE rfl<|by decide) zE) zE<|by decide)<|by rfl];rw[yB<|xF (d:=.int n2) (r2:=[.v<|.int c,.v<|.int k,.v<|.int n2]) (qE (QC rfl rfl<|by lia) zE<|by decide)<|by rfl];exact yG (gU (qE (QC rfl (xD rfl zE)<|by lia) zE<|by decide) zE<|by decide)
def ð(ns:List Int)(k:Nat):∃c:Int,∃as,v5 [.v<|.lst<|ns.map .int,.v<|.int (k:Int)]=aA (.v<|.int c,as):=by
 let R:En:=[.v<|.lst<|ns.map .int,.v<|.int (k:Int)]
 have t:Ud R=aA (decide ((k:Int)<(ns.length:Int))):=wN<|zO (x:=.int (k:Int)) (y:=.int (ns.length:Int)) rfl (vL (x:=.lst<|ns.map .int) rfl (by show aA (D.int ((ns.map D.int).length:Int))=_;rw[ag])) rfl;by_cases h:k<ns.length
 .rw[decide_eq_true<|by lia] at t;refine⟨ns[k],wF (r':=R) ?_⟩;show qZ R=_;unfold qZ;refine xR t<|yG<|zO (x:=.lst<|ns.map .int) (y:=.int (k:Int)) rfl rfl<|gY ?_;rw[bw,bx h];rfl
 .rw[decide_eq_false<|by lia] at t;exact⟨0,wF (r':=R)<|yR t<|yG zE⟩
theorem Pl{x:ME}{j:Nat}{mk:Sl->En}{p:Nat->Prop}(hj:∀s d,eM s->yI j d (mk s)=aA (mk<|.v d)):∀(L:List D) (s:Sl),eM s->(∀a∈L,∃c,p c/\x (mk<|.v a)=aA (.str [c]))->∃cs:List Nat,cs.length=L.length/\(∀c∈cs,p c)/\kQ (yI j) o7 x L (mk s)=aA (cs.map λc=>D.str [c])
 |[],s,hs,h=>⟨[],rfl,(λ_ h=>by cases h),rfl⟩
 |a::L,s,hs,h=>by
  obtain⟨c,hc,e⟩:=h a (by simp);obtain⟨cs,h1,h2,h3⟩:=Pl hj L (.v a) trivial λb hb=>h b (by simp[hb])
  refine⟨c::cs,by simp[h1],λd hd=>?_,?_⟩
  .rcases bq.mp hd with rfl|hd
   .exact hc
   .exact h2 d hd
  .unfold kQ;rw[hj s a hs,aa,show o7 (mk<|.v a)=aA true from rfl,aa,if_pos rfl,e,aa,h3];rfl
theorem dQ{α:Type}{x:ME}{j:Nat}{mk:Sl->En}{g y:α->D}(hj:∀s d,eM s->yI j d (mk s)=aA (mk<|.v d)):∀(L:List α) (s:Sl),eM s->(∀a∈L,x (mk<|.v<|g a)=aA (y a))->kQ (yI j) o7 x (L.map g) (mk s)=aA (L.map y)
 |[],s,hs,h=>rfl
 |a::L,s,hs,h=>by
  have ih:=dQ (y:=y) hj L (.v<|g a) trivial λb hb=>h b (by simp[hb])
  rw[au];unfold kQ;rw[hj s _ hs,aa,show o7 (mk<|.v<|g a)=aA true from rfl,aa,if_pos rfl,h a<|by simp,aa,ih];rfl
theorem ZM:∀cs:List Nat,WD (cs.map λc=>D.str [c])=aA (cs.map λc=>[c])
 |[]=>rfl
 |c::cs=>by simp[WD,ZM cs]
theorem YT:∀cs:List Nat,C6 [] (cs.map λc=>[c])=cs
 |[]=>rfl
 |[c]=>rfl
 |c::d::cs=>by
  have ih:=YT (d::cs);rw[au,au] at *;unfold C6;rw[ih];rfl
def No(hl:l.length<=100)(h0:0<=i)(h:i<l.length):∃c,c∈l/\aL (.str l) (.int i)=aA (.str [c]):=by
 obtain⟨j,rfl⟩:=sy h0;have hj:j<l.length:=by lia
 refine⟨l[j],ww hj,?_⟩;show(if l.length<=ae then (iC l (j:Int)).map λc=>D.str [c] else aD)=_;rw[if_pos<|cg hl<|by decide,gY<|bx hj];rfl
def ű(s:List α)(k:Nat):mV s (aA (k:Int)) aD=s.drop k:=by
 unfold mV;rw[HT.G5,HT.G4];by_cases h:k<=s.length
 .rw[xg h,ma (by rw[jf];lia)]
 .have e1:s.drop (min k s.length)=[]:=pe (by lia);have e2:s.drop k=[]:=pe (by lia);rw[e1,e2];simp
def WH{lo:Option Int}(h:s.length<=100):Cn (.str s) lo hi=aA (.str<|mV s lo hi):=if_pos (cg h<|by decide)
inductive Ex where
 |num (n:Int)
 |nm (s:List Nat)
 |emp
 |lab (w l:List Nat) (e:Ex)
 |Am (e:Ex)
 |fld (w l:List Nat) (a e:Ex)
 |bin (w:List Nat) (a b:Ex)
 |ite (a b c:Ex)
 |w_ (a:Ex) (l x:List Nat) (b:Ex) (y:List Nat) (c:Ex)
noncomputable def toD:Ex->D
 |.num n=>.tup [.str [110,117,109],.int n]
 |.nm s=>.tup [.str [110,97,109,101],.str s]
 |.emp=>.tup [.str [101,109,112,116,121]]
 |.lab w l e=>.tup [.str w,.str l,toD e]
 |.Am e=>.tup [.str [110,101,118,101,114],toD e]
 |.fld w l a e=>.tup [.str w,.str l,toD a,toD e]
 |.bin w a b=>.tup [.str w,toD a,toD b]
 |.ite a b c=>.tup [.str [105,102],toD a,toD b,toD c]
 |.w_ a l x b y c=>.tup [.str [99,97,115,101],toD a,.str l,.str x,toD b,.str y,toD c]
noncomputable def dp:Ex->Nat
 |.num _=>0
 |.nm _=>0
 |.emp=>0
 |.lab _ _ e=>1+dp e
 |.Am e=>1+dp e
 |.fld _ _ a e=>1+max (dp a) (dp e)
 |.bin _ a b=>1+max (dp a) (dp b)
 |.ite a b c=>1+max (max (dp a)<|dp b) (dp c)
 |.w_ a _ _ b _ c=>1+max (max (dp a)<|dp b) (dp c)
noncomputable def nd:Ex->Nat
 |.num _=>1
 |.nm _=>1
 |.emp=>1
 |.lab _ _ e=>1+nd e
 |.Am e=>1+nd e
 |.fld _ _ a e=>1+nd a+nd e
 |.bin _ a b=>1+nd a+nd b
 |.ite a b c=>1+nd a+nd b+nd c
 |.w_ a _ _ b _ c=>1+nd a+nd b+nd c
inductive Pt where
 |pl (d:D)
 |ex (e:Ex)
def Ba:Pt->D
 |.pl d=>d
 |.ex e=>toD e
noncomputable def AM:Pt->Option Ex
 |.pl _=>aD
 |.ex e=>aA e
noncomputable def lV:Ex->List Pt
 |.num n=>[.pl<|.str [110,117,109],.pl<|.int n]
 |.nm s=>[.pl<|.str [110,97,109,101],.pl<|.str s]
 |.emp=>[.pl<|.str [101,109,112,116,121]]
 |.lab w l e=>[.pl<|.str w,.pl<|.str l,.ex e]
 |.Am e=>[.pl<|.str [110,101,118,101,114],.ex e]
 |.fld w l a e=>[.pl<|.str w,.pl<|.str l,.ex a,.ex e]
 |.bin w a b=>[.pl<|.str w,.ex a,.ex b]
 |.ite a b c=>[.pl<|.str [105,102],.ex a,.ex b,.ex c]
 |.w_ a l x b y c=>[.pl<|.str [99,97,115,101],.ex a,.pl<|.str l,.pl<|.str x,.ex b,.pl<|.str y,.ex c]
def plain(d:D):Prop:=j7 "tuple" d=aA (.bl false)
def Eb(l:List Pt):Prop:=∀d,Pt.pl d∈l->plain d
def ZK(e:Ex):toD e=.tup ((lV e).map Ba):=by cases e<;>rfl
def O9(e:Ex):Eb (lV e):=by
 intro d h;cases e<;>simp[lV] at h
 all_goals first|(subst h;rfl)|(rcases h with rfl|rfl<;>rfl)|(rcases h with rfl|rfl|rfl|rfl<;>rfl)
def Pu(e:Ex):j7 "tuple" (toD e)=aA (.bl true):=by rw[ZK];rfl
def ch(e:Ex):List Ex:=(lV e).filterMap AM
def Eb.tail(h:Eb (p::l)):Eb l:=λd hd=>h d<|bh _ hd
theorem bM:∀(l:List Pt) (s:Sl),eM s->Eb l->kQ (yI 0) (kY<|aU (j7 "tuple")<|zD 0) (zD 0) (l.map Ba) [s]=aA ((l.filterMap AM).map toD)
 |[],s,hs,h=>rfl
 |.pl d::l,s,hs,h=>by
  have ih:=bM l (.v d) trivial h.tail;have e1:yI 0 d [s]=aA [.v d]:=zY (r:=[s]) rfl hs;have e2:kY (aU (j7 "tuple")<|zD 0) [.v d]=aA false:=by
   unfold kY;rw[vL (f:=zD 0) (r:=[.v d]) (x:=d) rfl<|h d<|by simp];rfl
  show kQ _ _ _ (d::l.map Ba) [s]=_;unfold kQ;rw[e1,aa,e2,aa,if_neg<|by decide,ih];rfl
 |.ex e::l,s,hs,h=>by
  have ih:=bM l (.v<|toD e) trivial h.tail;have e1:yI 0 (toD e) [s]=aA [.v<|toD e]:=zY (r:=[s]) rfl hs;have e2:kY (aU (j7 "tuple")<|zD 0) [.v<|toD e]=aA true:=by
   unfold kY;rw[vL (f:=zD 0) (r:=[.v<|toD e]) (x:=toD e) rfl<|Pu e];rfl
  have e3:zD 0 [.v<|toD e]=aA (toD e):=rfl;show kQ _ _ _ (toD e::l.map Ba) [s]=_;unfold kQ;rw[e1,aa,e2,aa,if_pos rfl,e3,aa,ih];rfl
def Z5(e:Ex):(lV e).length<=7:=by cases e<;>simp[lV]
def YY(e:Ex):∃as,v4 [.v<|toD e]=aA (.v<|.lst<|(ch e).map toD,as):=by
 refine wF (r':=[.v<|toD e]) ?_;show gR [.v<|toD e]=_;unfold gR;refine yG ?_;unfold xQ xW;have it:eG (zD 0) [.v<|toD e]=aA ((lV e).map Ba):=by
  unfold eG;rw[show zD 0 [.v<|toD e]=aA (toD e) from rfl,ZK];rfl
 have:=Z5 e
 rw[it,aa,if_pos (by rw[ag];exact bb (show _<100 by lia)<|by decide),show ZE [] 1 [.v<|toD e]=[.un] from rfl,bM _ .un trivial<|O9 e];rfl
def tn(es:List Ex):Nat:=(es.map nd).sum
def WB(a b:List Ex):tn (a++b)=tn a+tn b:=by simp[tn]
def GG(e:Ex):nd e=1+tn (ch e):=by cases e<;>simp[nd,tn,ch,lV,AM,List.filterMap]<;>lia
def O6(l:List Ex):l.length<=tn l:=by
 induction l with
 |nil=>exact ah 0
 |cons a l ih=>have:=GG a;show l.length+1<=nd a+(l.map nd).sum;unfold tn at ih;lia
def Jm:MS:=(yA (J9 3<|rJ 2)<|yA (sX<|AD 1<|zD 3)<|sX<|Cd 2<|aU Bu<|zP 1 v4<|zA (zD 3) zM)
theorem cF(x:Sl):∀(n:Nat) (es:List Ex) (F:List D) (s:Sl),eM s->tn es<=n->F.length+n<=10000->∃F' s',F'.length=F.length+tn es/\∀m,kK (n+1+m) (YJ<|JR 2) Jm [x,.o F,.o<|es.map toD,s]=aA (.nx [x,.o F',.o [],s'])
 |n,[],F,s,hs,h1,h2=>⟨F,s,rfl,λm=>by rw[show n+1+m=(n+m)+1 by lia];exact nQ rfl⟩
 |0,e::es,F,s,hs,h1,h2=>by
  have:=GG e
  have:tn (e::es)=nd e+tn es:=by simp[tn]
  lia
 |n+1,e0::LV,F,s,hs,h1,h2=>by
  obtain⟨es,e,he⟩:∃es e,e0::LV=es++[e]:=⟨(e0::LV).dropLast,(e0::LV).getLast<|by simp,(xl<|by simp).symm⟩;rw[he] at h1 ⊢;rw[WB] at h1;have hn:=GG e;have Th:tn es+nd e<=n+1:=by simpa [tn] using h1
  have hc:tn ((ch e).reverse)=tn (ch e):=by simp[tn,List.sum_reverse]
  have cl:=O6<|ch e;have le:=O6 es;obtain⟨F',s',q1,q2⟩:=cF x n (es++(ch e).reverse) (F++[toD e]) (.v<|toD e) trivial (by rw[WB,hc];lia) (by simp;lia);refine⟨F',s',by rw[WB,hc,bc,aad] at q1;rw[q1,WB];simp[tn] at *;lia,λm=>?_⟩;rw[show n+1+1+m=(n+1+m)+1 by lia];have em:(es++[e]).map toD=es.map toD++[toD e]:=by simp
  have cd:YJ (JR 2) [x,.o F,.o<|(es++[e]).map toD,s]=aA true:=by rw[em];show aA (!(es.map toD++[toD e]).isEmpty)=_;simp
  rw[ZG (r':=[x,.o<|F++[toD e],.o<|(es++(ch e).reverse).map toD,.v<|toD e]) cd ?_,q2 m];unfold Jm;rw[em];have p1:J9 3 (rJ 2) [x,.o F,.o<|es.map toD++[toD e],s]=aA (.nx [x,.o F,.o<|es.map toD,.v<|toD e]):=by
   unfold J9;rw[OS (S:=es.map toD) (d:=toD e) rfl,aa];show(yI 3 (toD e) [x,.o F,.o<|es.map toD,s]).map Fl.nx=_;rw[zY (r:=[x,.o F,.o<|es.map toD,s]) (x:=s) rfl hs];rfl
  rw[yB p1];have p2:sX (AD 1<|zD 3) [x,.o F,.o<|es.map toD,.v<|toD e]=aA (.nx [x,.o<|F++[toD e],.o<|es.map toD,.v<|toD e]):=rG (Jp (S:=F) rfl rfl<|bb (show F.length<20000 by lia)<|by decide);rw[yB p2];refine rG (d:=.aE) ?_;unfold Cd;have ci:zP 1 v4 (zA (zD 3) zM) [x,.o<|F++[toD e],.o<|es.map toD,.v<|toD e]=aA (.lst<|(ch e).map toD):=yN (p:=.v<|.lst<|(ch e).map toD) (zB (x:=toD e) rfl zQ) rfl<|YY e;rw[vL (d:=.lst ((ch e).map toD).reverse) ci rfl,aa];show(aA ((ch e).map toD).reverse).bind _=_;rw[aa];show(aA<|es.map toD).bind _=_;rw[aa,if_pos (by simp;exact cg (show _<=20000 by lia)<|by decide)];show aA (D.aE,[x,Sl.o<|F++[toD e],.o<|es.map toD++((ch e).map toD).reverse,.v<|toD e])=_;simp
def WR(h:nd e<=5000):∃F:List D,F.length=nd e/\∃as,kZ [.v<|toD e]=aA (.f F,as):=by
 have t1:tn [e]=nd e:=by simp[tn]
 obtain⟨F',s',q1,q2⟩:=cF (.v<|toD e) (nd e) [e] [] .un trivial (by lia) (by simp;lia);refine⟨F',by rw[q1,t1];simp,?_⟩;have w:=q2<|WF-(nd e+1);rw[show nd e+1+(WF-(nd e+1))=WF by unfold WF;lia] at w;unfold Jm at w;refine⟨([.v<|toD e,.o F',.o [],s']:En).take 1,?_⟩;unfold kZ eW;have b:vS [.v<|toD e,.un,.un,.un]=aA (.rf F' [.v<|toD e,.o F',.o [],s']):=by
  unfold vS;rw[yB (r':=[.v<|toD e,.o [],.un,.un])<|by rfl,yB (r':=[.v<|toD e,.o [],.o<|[e].map toD,.un])<|by rfl,yB w];rfl
 show(vS [.v<|toD e,.un,.un,.un]).bind _=_;rw[b];rfl
def Jl:MS:=(yA (sX<|AD 2<|zD 3)<|WL 3<|aU tS<|xQ<|dF 1 kZ<|zA (zD 4) zM)
def W6:Int->List Ex->List Int
 |_,[]=>[]
 |i,e::es=>i::W6 (i+(nd e:Int)) es
theorem uP(x y:Sl):∀(es:List Ex) (F:List Int) (i:Int) (s:Sl),eM s->(∀e∈es,nd e<=5000)->F.length+es.length<=1000->∃(i':Int) (s':Sl),dL (yI 4) Jl (es.map toD) [x,y,.o<|F.map D.int,.v<|.int i,s]=aA (.nx [x,y,.o<|(F++W6 i es).map D.int,.v<|.int i',s'])
 |[],F,i,s,hs,h,hl=>⟨i,s,by unfold W6;rw[ie];rfl⟩
 |e::es,F,i,s,hs,h,hl=>by
  obtain⟨P,p1,as,p2⟩:=WR (h e<|by simp);obtain⟨i',s',q2⟩:=uP x y es (F++[i]) (i+(nd e:Int)) (.v<|toD e) trivial (λa ha=>h a<|by simp[ha]) (by simp at hl ⊢;lia);refine⟨i',s',?_⟩;rw[au,b9 (r1:=[x,y,.o<|F.map D.int,.v<|.int i,.v<|toD e]) (zY (i:=4) (x:=s) rfl hs) (r':=[x,y,.o<|(F++[i]).map D.int,.v<|.int<|i+(nd e:Int),.v<|toD e]) ?_,q2,jt];rfl;unfold Jl;rw[yB<|rG<|Jp (i:=2) (S:=F.map D.int) (d:=.int i) rfl rfl (by rw[ag];exact bb (show F.length<2000 by simp at hl;lia)<|by decide)];have l1:aU tS (xQ<|dF 1 kZ<|zA (zD 4) zM) [x,y,.o<|F.map D.int++[D.int i],.v<|.int i,.v<|toD e]=aA (.int (nd e:Int)):=by
   refine vL (x:=.lst P) ?_ (by rw[<-p1];rfl);have p2':kZ (([toD e]:List D).map Sl.v)=aA (.f P,as):=p2;unfold xQ dF;rw[zB (x:=toD e) (l:=[]) rfl zQ,aa,if_pos (show([toD e]:List D).length=1 from rfl),p2'];rfl
  show WL 3 _ [x,y,.o<|F.map D.int++[D.int i],.v<|.int i,.v<|toD e]=_;unfold WL;show(aU tS _ _).bind _=_;rw[l1,jb];rfl
def tM(e:Ex)(i:Int)(h:nd e<=5000):∃as,xO [.v<|toD e,.v<|.int i]=aA (.f<|(W6 (i+1)<|ch e).map D.int,as):=by
 have hn:=GG e;have cm:∀(l:List Ex),∀a∈l,nd a<=tn l:=λl=>by
  induction l with
  |nil=>intro a ha;cases ha
  |cons b l ih=>
   intro a ha;have e0:tn (b::l)=nd b+tn l:=by simp[tn]
   rcases bq.mp ha with rfl|ha
   .lia
   .have:=ih a ha;lia
 have cl:(ch e).length<=7:=cg (List.length_filterMap_le ..)<|Z5 e;obtain⟨i',s',q2⟩:=uP (.v<|toD e) (.v<|.int i) (ch e) [] (i+1) .un trivial (λa ha=>by have:=cm _ a ha;lia) (by simp;lia);rw[xi] at q2;refine⟨([.v<|toD e,.v<|.int i,.o<|(W6 (i+1)<|ch e).map D.int,.v<|.int i',s']:En).take 2,?_⟩;unfold xO eW;have b:xK [.v<|toD e,.v<|.int i,.un,.un,.un]=aA (.rf ((W6 (i+1)<|ch e).map D.int) [.v<|toD e,.v<|.int i,.o<|(W6 (i+1)<|ch e).map D.int,.v<|.int i',s']):=by
  unfold xK;rw[yB (r':=[.v<|toD e,.v<|.int i,.o [],.un,.un])<|by rfl];refine zT (.int<|i+1) (r2:=[.v<|toD e,.v<|.int i,.o [],.v<|.int<|i+1,.un]) (xD rfl zE) (by rfl) ?_;rw[yB (r':=[.v<|toD e,.v<|.int i,.o<|(W6 (i+1)<|ch e).map D.int,.v<|.int i',s']) ?_]
  .rfl
  .unfold mP;have it:eG (zP 1 v4<|zA (zD 0) zM) [.v<|toD e,.v<|.int i,.o [],.v<|.int<|i+1,.un]=aA ((ch e).map toD):=by
    have ci:zP 1 v4 (zA (zD 0) zM) [.v<|toD e,.v<|.int i,.o [],.v<|.int<|i+1,.un]=aA (.lst<|(ch e).map toD):=yN (p:=.v<|.lst<|(ch e).map toD) (zB (x:=toD e) rfl zQ) rfl<|YY e;unfold eG;rw[ci];rfl
   rw[it];unfold Jl at q2;exact q2
 show(xK [.v<|toD e,.v<|.int i,.un,.un,.un]).bind _=_;rw[b];rfl
def b_(N:D):Ex->Int->D
 |.num n,i=>.tup [.str [110,117,109],.int n,.tup [N,.int i]]
 |.nm s,i=>.tup [.str [110,97,109,101],.str s,.tup [N,.int i]]
 |.emp,i=>.tup [.str [101,109,112,116,121],.tup [N,.int i]]
 |.lab w l e,i=>.tup [.str w,.str l,b_ N e<|i+1,.tup [N,.int i]]
 |.Am e,i=>.tup [.str [110,101,118,101,114],b_ N e<|i+1,.tup [N,.int i]]
 |.fld w l a e,i=>.tup [.str w,.str l,b_ N a<|i+1,b_ N e<|i+1+(nd a:Int),.tup [N,.int i]]
 |.bin w a b,i=>.tup [.str w,b_ N a<|i+1,b_ N b<|i+1+(nd a:Int),.tup [N,.int i]]
 |.ite a b c,i=>.tup [.str [105,102],b_ N a<|i+1,b_ N b<|i+1+(nd a:Int),b_ N c<|i+1+(nd a:Int)+(nd b:Int),.tup [N,.int i]]
 |.w_ a l x b y c,i=>.tup [.str [99,97,115,101],b_ N a<|i+1,.str l,.str x,b_ N b<|i+1+(nd a:Int),.str y,b_ N c<|i+1+(nd a:Int)+(nd b:Int),.tup [N,.int i]]
def Bd(N:D):List Pt->Int->List D
 |[],_=>[]
 |.pl d::l,j=>d::Bd N l j
 |.ex e::l,j=>b_ N e j::Bd N l (j+(nd e:Int))
def Xo(N:D)(e:Ex)(i:Int):b_ N e i=.tup (Bd N (lV e) (i+1)++[.tup [N,.int i]]):=by cases e<;>rfl
theorem YG(N:D):∀(l:List Pt) (j:Int),(Bd N l j).length=l.length
 |[],_=>rfl
 |.pl d::l,j=>by show(Bd N l j).length+1=_;rw[YG N l j];rfl
 |.ex e::l,j=>by show(Bd N l _).length+1=_;rw[YG N l];rfl
def Er(m:MF):MS:=(aR (kY<|aU (j7 "tuple")<|zD 5) (sX<|mS 4<|k9 3 m<|kH (zD 5)<|kH (zD 1)<|uF<|EJ 3)<|sX<|AD 4<|zD 5)
theorem Ja:∀(l:List Pt) (j:Int) (P:List D) (s:Sl),eM s->Eb l->P.length+l.length<=1000->(∀e,Pt.ex e∈l->∀i:Int,∃as,m [.v<|toD e,.v N,.v<|.int i]=aA (.v<|b_ N e i,as)) ->
  ∃s':Sl,dL (yI 5) (Er m) (l.map Ba) [E,.v N,I,.o<|(W6 j<|l.filterMap AM).map D.int,.o P,s]=aA (.nx [E,.v N,I,.o [],.o<|P++Bd N l j,s'])
 |[],j,P,s,hs,h1,h3,h4=>⟨s,by unfold Bd;rw[ie];rfl⟩
 |.pl d::l,j,P,s,hs,h1,h3,h4=>by
  obtain⟨s',q2⟩:=Ja (E:=E) (I:=I) l j (P++[d]) (.v d) trivial h1.tail (by simp at h3 ⊢;lia) (λe he=>h4 e<|by simp[he]);refine⟨s',?_⟩;show dL _ _ (d::l.map Ba) [E,.v N,I,.o<|(W6 j<|l.filterMap AM).map D.int,.o P,s]=_;rw[b9 (r1:=[E,.v N,I,.o<|(W6 j<|l.filterMap AM).map D.int,.o P,.v d]) (zY (i:=5) (x:=s) rfl hs) (r':=[E,.v N,I,.o<|(W6 j<|l.filterMap AM).map D.int,.o<|P++[d],.v d]) ?_,q2,jt];rfl;have e2:kY (aU (j7 "tuple")<|zD 5) [E,.v N,I,.o<|(W6 j<|l.filterMap AM).map D.int,.o P,.v d]=aA false:=by
   unfold kY;rw[vL (f:=zD 5) (r:=[E,.v N,I,.o<|(W6 j<|l.filterMap AM).map D.int,.o P,.v d]) (x:=d) rfl<|h1 d<|by simp];rfl
  unfold Er;rw[wX e2];exact rG (Jp (i:=4) (S:=P) rfl rfl<|bb (show P.length<2000 by simp at h3;lia)<|by decide)
 |.ex e::l,j,P,s,hs,h1,h3,h4=>by
  obtain⟨as,ey⟩:=h4 e (by simp) j;obtain⟨s',q2⟩:=Ja (E:=E) (I:=I) l (j+(nd e:Int)) (P++[b_ N e j]) (.v<|toD e) trivial h1.tail (by simp at h3 ⊢;lia) (λe he=>h4 e<|by simp[he]);refine⟨s',?_⟩
  let B:List Int:=W6 (j+(nd e:Int))<|l.filterMap AM
  let R:En:=[E,.v N,I,.o<|(j::B).map D.int,.o P,.v<|toD e]
  show dL _ _ (toD e::l.map Ba) [E,.v N,I,.o<|(j::B).map D.int,.o P,s]=_;rw[b9 (r1:=R) (zY (i:=5) (x:=s) rfl hs) (r':=[E,.v N,I,.o<|B.map D.int,.o<|P++[b_ N e j],.v<|toD e]) ?_,q2,jt];rfl;have e2:kY (aU (j7 "tuple")<|zD 5) R=aA true:=by
   unfold kY;rw[vL (f:=zD 5) (r:=R) (x:=toD e) rfl<|Pu e];rfl
  unfold Er;rw[vC e2];have cx:k9 3 m (kH (zD 5)<|kH (zD 1)<|uF<|EJ 3) R=aA (b_ N e j,[E,.v N,I,.o<|B.map D.int,.o P,.v<|toD e]):=by
   have xa:kH (zD 5) (kH (zD 1)<|uF<|EJ 3) R=aA ([toD e,N,.int j],[E,.v N,I,.o<|B.map D.int,.o P,.v<|toD e]):=rfl;have ey':m (([toD e,N,.int j]:List D).map Sl.v)=aA (.v<|b_ N e j,as):=ey;unfold k9;rw[xa,aa,if_pos (show([toD e,N,.int j]:List D).length=3 from rfl),ey'];rfl
  refine rG (d:=.aE) ?_;unfold mS;rw[cx,aa];show(aA P).bind _=_;rw[aa];show(aA P).bind _=_;rw[aa,if_pos<|bb (show P.length<2000 by simp at h3;lia)<|by decide];rfl
def Vc(h:Pt.ex a∈lV e):dp a<dp e/\nd a<nd e:=by
 cases e<;>simp[lV] at h
 all_goals first|(subst h;simp[dp,nd];done)|(subst h;simp[dp,nd];lia)|(rcases h with rfl|rfl<;>simp[dp,nd]<;>lia)|(rcases h with rfl|rfl|rfl<;>simp[dp,nd]<;>lia)
theorem o6(N:D):∀(k:Nat) (e:Ex) (i:Int),dp e<k->nd e<=5000->∃as,kA k [.v<|toD e,.v N,.v<|.int i]=aA (.v<|b_ N e i,as)
 |0,e,i,h,_=>by lia
 |k+1,e,i,h,hn=>by
  obtain⟨fs,f2⟩:=tM e i hn;have pl:=Z5 e
  let B:List Int:=W6 (i+1)<|ch e
  let ys:List D:=Bd N (lV e)<|i+1
  obtain⟨s',q2⟩:=Ja (m:=kA k) (E:=.v<|toD e) (I:=.v<|.int i) (N:=N) (lV e) (i+1) [] .un trivial (O9 e) (by simp;lia) (λa ha j=>by
   have:=Vc ha
   exact o6 N k a j (by lia)<|by lia)
  have yl:ys.length=(lV e).length:=YG N _ _
  let M:D:=.tup [N,.int i]
  rw[Xo];refine wF (r':=[.v<|toD e,.v N,.v<|.int i,.o [],.o ys,s']) ?_;show bO (kA k) [.v<|toD e,.v N,.v<|.int i,.un,.un,.un]=_;unfold bO;have f2':xO (([toD e,.int i]:List D).map Sl.v)=aA (.f<|B.map D.int,fs):=f2;have s1:sW 3 (dF 2 xO<|zA (zD 0)<|zA (zD 2) zM) [.v<|toD e,.v N,.v<|.int i,.un,.un,.un]=aA (.nx [.v<|toD e,.v N,.v<|.int i,.o<|B.map D.int,.un,.un]):=by
   unfold sW dF;rw[zB (x:=toD e) (l:=[.int i]) rfl<|zB rfl zQ,aa,if_pos (show([toD e,.int i]:List D).length=2 from rfl),f2'];rfl
  rw[yB s1,yB (r':=[.v<|toD e,.v N,.v<|.int i,.o<|B.map D.int,.o [],.un])<|by rfl];have s2:mP (yI 5) (eG<|zD 0) (Er<|kA k) [.v<|toD e,.v N,.v<|.int i,.o<|B.map D.int,.o [],.un]=aA (.nx [.v<|toD e,.v N,.v<|.int i,.o [],.o ys,s']):=by
   unfold mP;have it:eG (zD 0) [.v<|toD e,.v N,.v<|.int i,.o<|B.map D.int,.o [],.un]=aA ((lV e).map Ba):=by
    unfold eG;rw[show zD 0 [.v<|toD e,.v N,.v<|.int i,.o<|B.map D.int,.o [],.un]=aA (toD e) from rfl,ZK];rfl
   rw[it];exact q2
  unfold Er at s2;rw[yB s2];refine yG ?_;unfold uS sY;have o4:JR 4 [.v<|toD e,.v N,.v<|.int i,.o [],.o ys,s']=aA ys:=rfl;have l1:yL (zA T7 zM) [.v<|toD e,.v N,.v<|.int i,.o [],.o ys,s']=aA [M]:=rfl;rw[o4,aa,l1,aa,if_pos<|cg (show ys.length+([M]:List D).length<=100 by show ys.length+1<=100;lia)<|by decide];rfl
noncomputable abbrev eP(d e:D)(b:Bool):D:=.tup [d,e,.bl b]
def ky(s:List Nat):Key:=.inr ⟨s.toArray⟩
def pF(h:ky s=ky t):s=t:=by
 have h1:(⟨s.toArray⟩:Str)=⟨t.toArray⟩:=Sum.inr.inj h;have h2:=congrArg (λx:Str=>x.cps.toList) h1;simpa using h2
def Z1{st:aF}(h:nW ⟨mo,s,w++[t],c,.aE,df⟩=aA st):mZ (n+1) ⟨mo,s,w++[t],c,.aE,df⟩=mZ n st:=by
 show(if (w++[t]).isEmpty=false/\lY .aE=true then (nW _).bind (mZ n) else _)=_;rw[if_pos ⟨by simp,rfl⟩,h];rfl
def Â:nW ⟨mo,s,w++[eP e env false],c,.aE,df⟩=(yP ⟨mo,s,w,c,.aE,df⟩ [e,env]).map (·.2):=by
 unfold nW;rw[show(w++[eP e env false]).getLast?=aA (eP e env false) by simp];show(yP ⟨mo,s,(w++[eP e env false]).dropLast,c,.aE,df⟩ _).map _=_;rw[aan]
def Ã:nW ⟨mo,s,w++[eP e env true],c,.aE,df⟩=(yX ⟨mo,s,w,c,.aE,df⟩ [e]).bind λp=>(qR p.2 [e,env,p.1]).map (·.2):=by
 unfold nW;rw[show(w++[eP e env true]).getLast?=aA (eP e env true) by simp];show(yX ⟨mo,s,(w++[eP e env true]).dropLast,c,.aE,df⟩ _).bind _=_;rw[aan]
def wB(h:n<=100000):n<ae:=Nat.lt_of_le_of_lt h (by decide)
def L7(h:w.length<=100000):yM ⟨mo,s,w,c,.aE,df⟩ [e,env]=aA (.aE,⟨mo,s,w++[eP e env false],c,.aE,df⟩):=if_pos<|wB h
def qg5{s:Int}{w c:List D}{W:List Nat}{r:List D}{n:Nat}{l:List Int}{ps:List D}(hl:(wY AH W).getD []=l)(hp:l.reverse.map (λi=>aL (.tup (.str W::r))<|.int i)=ps.map aA)(hw:w.length+l.length<=90000):mZ (n+1) ⟨mo,s,w++[eP (.tup (.str W::r)) env false],c,.aE,df⟩=mZ n ⟨mo,s,w++eP (.tup (.str W::r)) env true::ps.map (eP · env false),c,.aE,df⟩:=by
 refine Z1 ?_;rw[Â];unfold yP;show Option.map _ (if w.length<ae then _ else aD)=_;rw[if_pos (show w.length<ae from wB<|by lia)];show((aA<|(wY AH W).getD []).bind _).map _=_;rw[hl,aa];have hll:l.reverse.length=l.length:=gx;have push:∀(is:List Int) (ps w:List D),is.map (λi=>aL (.tup (.str W::r))<|.int i)=ps.map aA->w.length+is.length<=95000->Z4 (.tup (.str W::r)) env is ⟨mo,s,w,c,.aE,df⟩=aA ⟨mo,s,w++ps.map (eP · env false),c,.aE,df⟩:=by
  intro is
  induction is with
  |nil=>intro ps w h _;cases ps with
   |nil=>simp[Z4]
   |cons=>cases h
  |cons i is ih=>
   intro ps w h hw;cases ps with
   |nil=>cases h
   |cons p ps=>
    rw[au,au] at h;obtain⟨h1,h2⟩:=List.cons.inj h;rw[am] at hw;unfold Z4;rw[h1,aa,L7<|by lia,aa,ih ps _ h2 (by simp;lia)];simp
 rw[show AG ⟨mo,s,w,c,.aE,df⟩ (.tup [.tup (.str W::r),env,.bl true])=⟨mo,s,w++[eP (.tup (.str W::r)) env true],c,.aE,df⟩ from rfl,push _ ps _ hp (by simp;lia)];simp
def qg4{st:aF}(hl:(wY AH W).getD []=l)(hq:q.length=l.length)(h4:l.length<=4)(hm:ways W=aA mm)(h:mm ⟨mo,s,w,c,.aE,df⟩ [.tup (.str W::r),env,.lst q]=aA (x,st)):mZ (n+1) ⟨mo,s,w++[eP (.tup (.str W::r)) env true],c++q,.aE,df⟩=mZ n st:=by
 refine Z1 ?_;rw[Ã];unfold yX;show((aA<|(wY AH W).getD []).bind _).bind _=_;rw[hl,aa,if_pos ⟨by show l.length<=(c++q).length;rw[bc];lia,wB<|by lia⟩,aa];have e1:(c++q).length-l.length=c.length:=by rw[bc];lia
 show(qR ⟨mo,s,w,(c++q).take<|(c++q).length-l.length,.aE,df⟩ [_,_,.lst<|(c++q).drop<|(c++q).length-l.length]).map _=_;rw[e1,List.take_left,List.drop_left];unfold qR;show(((ways W).bind λmm=>(mm _ _).map _)).map _=_;rw[hm,aa,h];rfl
def Ϯ(h:c.length<=100000):y6 ⟨mo,s,w,c,.aE,df⟩ [v]=aA (.aE,⟨mo,s,w,c++[v],.aE,df⟩):=if_pos<|wB h
theorem ZR:∀ss:List (List Nat),ZT (ss.map ky)=aA ss
 |[]=>rfl
 |s::ss=>by
  show(ZT<|ss.map ky).map _=_;rw[ZR ss];simp
def jP(l:List (List Nat)):(kS l).Perm l:=by
 unfold kS;split
 .rename_i h;exact h.choose_spec.1
 .exact List.Perm.refl _
noncomputable abbrev Fs(α:Type):=List<|List Nat×α
def aZ(fs:Fs α):List Key:=fs.map λp=>ky p.1
noncomputable def eK(g:α->D)(fs:Fs α):List D:=fs.map λp=>g p.2
noncomputable def aN(fs:Fs α):List (List Nat):=fs.map (·.1)
noncomputable def aK:Fs α->List Nat->Option α
 |[],_=>aD
 |p::fs,s=>if p.1=s then aA p.2 else aK fs s
noncomputable def eD:Fs α->List Nat->α->Fs α
 |[],s,v=>[(s,v)]
 |p::fs,s,v=>if p.1=s then (s,v)::fs else p::eD fs s v
noncomputable def eT:Fs α->List Nat->Fs α
 |[],_=>[]
 |p::fs,s=>if p.1=s then eT fs s else p::eT fs s
def Gs(fs:Fs α):aZ fs=(aN fs).map ky:=by unfold aZ aN;rw[jx];rfl
theorem uU(g:α->D)(s:List Nat):∀fs:Fs α,xS (aZ fs) (eK g fs) (ky s)=(aK fs s).map g
 |[]=>rfl
 |p::fs=>by
  have ih:=uU g s fs;show(if ky p.1=ky s then aA (g p.2) else xS (aZ fs) (eK g fs)<|ky s)=_;unfold aK;by_cases h:p.1=s
  .rw[if_pos h,if_pos<|by rw[h]];rfl
  .rw[if_neg h,if_neg λz=>h<|pF z,ih]
theorem KS:∀{fs:Fs α},aK fs s=aD↔s∉aN fs
 |[]=>by simp[aK,aN]
 |p::fs=>by
  have ih:=KS (s:=s) (fs:=fs);unfold aK;by_cases h:p.1=s
  .rw[if_pos h];simp[aN,h]
  .rw[if_neg h,ih];have h':¬s=p.1:=λz=>h z.symm
   simp[aN,h']
def uV(h:s∈aN fs):∃v,aK fs s=aA v:=by
 cases e:aK fs s with
 |none=>exact absurd h<|KS.mp e
 |some v=>exact⟨v,rfl⟩
def Vb(s:List Nat)(fs:Fs α):((aZ fs).any λj=>decide (j=ky s))=decide (s∈aN fs):=by
 rw[qt,List.any_eq_true,decide_eq_true_iff];constructor
 .rintro ⟨k,hk,e⟩;obtain⟨p,hp,rfl⟩:=gh.mp hk;exact gh.mpr ⟨p,hp,pF<|of_decide_eq_true e⟩
 .intro h;obtain⟨p,hp,e⟩:=gh.mp h;exact⟨ky p.1,gh.mpr ⟨p,hp,rfl⟩,decide_eq_true<|by rw[e]⟩
theorem Kc:∀{fs:Fs α},s∉aN fs->eD fs s v=fs++[(s,v)]
 |[],_=>rfl
 |p::fs,h=>by
  have h1:¬p.1=s:=λz=>h (by simp[aN,z])
  have h2:s∉aN fs:=λz=>h (by show s∈p.1::aN fs;exact bh _ z)
  unfold eD;rw[if_neg h1,Kc h2];rfl
theorem JW(g:α->D)(s:List Nat)(d:D):∀{fs:Fs α},s∉aN fs->lw (λj e=>if j=ky s then d else e) (aZ fs) (eK g fs)=eK g fs
 |[],_=>rfl
 |p::fs,h=>by
  have h1:¬ky p.1=ky s:=λz=>h (by simp[aN,pF z])
  have h2:s∉aN fs:=λz=>h (by show s∈p.1::aN fs;exact bh _ z)
  show(if ky p.1=ky s then d else g p.2)::lw _ (aZ fs) (eK g fs)=_;rw[if_neg h1,JW g s d h2];rfl
theorem OR(g:α->D):∀{fs:Fs α},(aN fs).Nodup->s∈aN fs->aZ (eD fs s v)=aZ fs/\eK g (eD fs s v)=lw (λj e=>if j=ky s then g v else e) (aZ fs) (eK g fs)
 |[],_,h=>by simp[aN] at h
 |p::fs,hn,h=>by
  have t_:p.1∉aN fs/\(aN fs).Nodup:=dm.mp hn;have hz:lw (λj e=>if j=ky s then g v else e) (aZ (p::fs)) (eK g (p::fs))=(if ky p.1=ky s then g v else g p.2)::lw (λj e=>if j=ky s then g v else e) (aZ fs) (eK g fs):=rfl;rw[hz];unfold eD;by_cases e:p.1=s
  .rw[if_pos e,if_pos<|by rw[e],JW g s (g v) (by rw[<-e];exact t_.1)];exact⟨by show ky s::aZ fs=ky p.1::aZ fs;rw[e],rfl⟩
  .have hs:s∈aN fs:=by
    rcases bq.mp h with z|z
    .exact absurd z.symm e
    .exact z
   obtain⟨i1,i2⟩:=OR g (v:=v) t_.2 hs;rw[if_neg e,if_neg λz=>e<|pF z,<-i2];exact⟨by show ky p.1::aZ (eD fs s v)=_;rw[i1];rfl,rfl⟩
def C9(g:α->D)(hn:(aN fs).Nodup):jK (aZ fs) (eK g fs) (ky s) (g v)=(aZ<|eD fs s v,eK g<|eD fs s v):=by
 unfold jK;rw[Vb];by_cases h:s∈aN fs
 .obtain⟨e1,e2⟩:=OR g (v:=v) hn h;rw[if_pos<|decide_eq_true h,e1,e2]
 .rw[if_neg (by rw[decide_eq_false h];decide),Kc h];unfold aZ eK;rw[jb,jb];rfl
theorem Oy(g:α->D)(s:List Nat):∀fs:Fs α,jA (aZ fs) (eK g fs) (ky s)=(aZ<|eT fs s,eK g<|eT fs s)
 |[]=>rfl
 |p::fs=>by
  have ih:=Oy g s fs;show(if ky p.1=ky s then jA (aZ fs) (eK g fs) (ky s) else (ky p.1::(jA (aZ fs) (eK g fs)<|ky s).1,g p.2::(jA (aZ fs) (eK g fs)<|ky s).2))=_;unfold eT;by_cases h:p.1=s
  .rw[if_pos h,if_pos<|by rw[h],ih]
  .rw[if_neg h,if_neg λz=>h<|pF z,ih];rfl
theorem Q4(s:List Nat):∀fs:Fs α,(aN<|eT fs s).Sublist (aN fs)
 |[]=>List.Sublist.refl _
 |p::fs=>by
  unfold eT;by_cases h:p.1=s
  .rw[if_pos h];exact(Q4 s fs).cons _
  .rw[if_neg h];exact(Q4 s fs).cons_cons _
theorem EK:∀(fs:Fs α),aN (eD fs s v)=if s∈aN fs then aN fs else aN fs++[s]
 |[]=>by simp[eD,aN]
 |p::fs=>by
  have ih:=EK (s:=s) (v:=v) fs;unfold eD;by_cases h:p.1=s
  .rw[if_pos h,if_pos<|by simp[aN,h]];simp[aN,h]
  .rw[if_neg h];show p.1::aN (eD fs s v)=_;have h':¬s=p.1:=λz=>h z.symm
   have hm:s∈aN (p::fs)↔s∈aN fs:=by simp[aN,h']
   rw[ih];by_cases q:s∈aN fs
   .rw[if_pos q,if_pos<|hm.mpr q];rfl
   .rw[if_neg q,if_neg λz=>q<|hm.mp z];rfl
def m7(h:(aN fs).Nodup):(aN<|eD fs s v).Nodup:=by
 rw[EK];by_cases q:s∈aN fs
 .rw[if_pos q];exact h
 .rw[if_neg q];exact List.nodup_append.mpr ⟨h,by simp,λx hx y hy z=>q (by rw[ck.mp hy] at z;exact z ▸ hx)⟩
theorem OQ:∀{fs:Fs α},(t,w)∈eD fs s v->(t,w)=(s,v)\/(t,w)∈fs
 |[],h=>by left;simpa [eD] using h
 |p::fs,h=>by
  unfold eD at h;by_cases e:p.1=s
  .rw[if_pos e] at h;rcases bq.mp h with h|h
   .exact .inl h
   .exact .inr<|bh _ h
  .rw[if_neg e] at h;rcases bq.mp h with h|h
   .exact .inr (by rw[h];exact dz)
   .exact(OQ h).imp id (bh _)
theorem Jz:∀{fs:Fs α},x∈eT fs s->x∈fs
 |[],h=>by simp[eT] at h
 |p::fs,h=>by
  unfold eT at h;by_cases e:p.1=s
  .rw[if_pos e] at h;exact bh _<|Jz h
  .rw[if_neg e] at h;rcases bq.mp h with h|h
   .rw[h];exact dz
   .exact bh _<|Jz h
theorem Jv:∀{fs:Fs α},aK fs s=aA v->(s,v)∈fs
 |[],h=>by cases h
 |p::fs,h=>by
  unfold aK at h;by_cases e:p.1=s
  .rw[if_pos e] at h;cases h;rw[<-e];exact dz
  .rw[if_neg e] at h;exact bh _<|Jv h
def sv(fs:Fs α):List α:=(kS<|aN fs).filterMap<|aK fs
theorem Ki(fs:Fs α):∀(ss:List (List Nat)),(∀s∈ss,s∈aN fs)->(ss.filterMap<|aK fs).map aA=ss.map (aK fs)
 |[],_=>rfl
 |s::ss,h=>by
  obtain⟨v,e⟩:=uV (h s<|by simp);have ih:=Ki fs ss λt ht=>h t (by simp[ht])
  rw[cq,e,au,au,ih,e]
def v7:∀s∈kS (aN fs),s∈aN fs:=λs h=>(jP _).mem_iff.mp h
def O5(fs:Fs α):(sv fs).length=fs.length:=by
 have h:=congrArg jg<|Ki fs (kS<|aN fs) v7;rw[ag,ag,qL] at h;unfold sv;rw[h];unfold aN;rw[ag]
def lQ(T:Nat)(a b:aF):Prop:=∃k,k<=T/\∀n,mZ (k+n) a=mZ n b
def lQ.trans(h1:lQ T a b)(h2:lQ U b c):lQ (T+U) a c:=by
 obtain⟨k,hk,e⟩:=h1;obtain⟨j,hj,f⟩:=h2;exact⟨k+j,by lia,λn=>by rw[Nat.add_assoc,e,f]⟩
def lQ.le(h:lQ T a b)(hT:T<=U):lQ U a b:=by
 obtain⟨k,hk,e⟩:=h;exact⟨k,by lia,e⟩
def lQ.one(h:∀n,mZ (n+1) a=mZ n b):lQ 1 a b:=⟨1,ah _,λn=>by rw[qw];exact h n⟩
inductive Rt where
 |val (v:D)
 |aO (m:D)
def Fi(df:D)(mo s0:Int)(w cm:List D)(c:Nat)(E:Rt)(st:aF):Prop:=
 if mo<s0+c then ∃w' c',st=⟨mo,mo,w',c',ZL,df⟩ else match E with
 |.val v=>st=⟨mo,s0+c,w,cm++[v],.aE,df⟩
 |.aO m=>∃w' c',st=⟨mo,s0+c,w',c',.tup [.str iD,m],df⟩
def Tr(df:D)(p q:List D)(c:Nat)(E:Rt)(T:Nat):Prop:=1<=T/\∀(mo s0:Int) (w cm:List D),s0<=mo->w.length+p.length+2*T<=85000->cm.length+q.length+2*T<=85000->∃st,lQ T ⟨mo,s0,w++p,cm++q,.aE,df⟩ st/\Fi df mo s0 w cm c E st
def One(df:D)(p q:List D)(f:Int->Int->List D->List D->aF):Prop:=∀(mo s0:Int) (w cm:List D) (n:Nat),s0<=mo->w.length+p.length<=85000->cm.length+q.length<=85000->mZ (n+1) ⟨mo,s0,w++p,cm++q,.aE,df⟩=mZ n (f mo s0 w cm)
section
variable{df:D}{p q p' q':List D}{E:Rt}
def Tr.free(h:One df p q λmo s0 w cm=>⟨mo,s0,w++p',cm++q',.aE,df⟩)(hp:p'.length<=p.length+2)(hq:q'.length<=q.length+2)(t:Tr df p' q' c E T):Tr df p q c E (T+1):=⟨by lia,λmo s0 w cm h1 h2 h3=>by
 obtain⟨st,r,f⟩:=t.2 mo s0 w cm h1 (by lia) (by lia);exact⟨st,by rw[qw];exact(lQ.one λn=>h mo s0 w cm n h1 (by lia)<|by lia).trans r,f⟩⟩
def Tr.tell(h:One df p q λmo s0 w cm=>⟨mo,s0,w,cm++[v],.aE,df⟩):Tr df p q 0 (.val v) 1:=⟨by lia,λmo s0 w cm h1 h2 h3=>by
 refine⟨_,lQ.one λn=>h mo s0 w cm n h1 (by lia)<|by lia,?_⟩;unfold Fi;rw[if_neg<|by lia]
 simp⟩
def Tr.stick(h:One df p q λmo s0 w cm=>⟨mo,s0,w,cm,.tup [.str iD,m],df⟩):Tr df p q 0 (.aO m) 1:=⟨by lia,λmo s0 w cm h1 h2 h3=>by
 refine⟨_,lQ.one λn=>h mo s0 w cm n h1 (by lia)<|by lia,?_⟩;unfold Fi;rw[if_neg<|by lia];exact⟨w,cm,by simp⟩⟩
def Tr.pay(h:One df p q λmo s0 w cm=>if mo<=s0 then ⟨mo,s0,w,cm,ZL,df⟩ else ⟨mo,s0+1,w++p',cm++q',.aE,df⟩)(hp:p'.length<=p.length+2)(hq:q'.length<=q.length+2)(t:Tr df p' q' c E T):Tr df p q (c+1) E (T+1):=⟨by lia,λmo s0 w cm h1 h2 h3=>by
 by_cases z:mo<=s0
 .refine⟨_,(lQ.one λn=>h mo s0 w cm n h1 (by lia)<|by lia).le<|by lia,?_⟩;unfold Fi;dsimp only;rw[if_pos z,if_pos<|by lia];obtain rfl:mo=s0:=by lia
  exact⟨w,cm,rfl⟩
 .obtain⟨st,r,f⟩:=t.2 mo (s0+1) w cm (by lia) (by lia) (by lia);refine⟨st,?_,?_⟩
  .rw[qw];refine(lQ.one λn=>?_).trans r;rw[h mo s0 w cm n h1 (by lia)<|by lia];dsimp only;rw[if_neg z]
  .unfold Fi at f ⊢;rw[show s0+1+(c:Int)=s0+((c+1:Nat):Int) by lia] at f;exact f⟩
def Tr.go{x:D}(h:Tr df [x] [] c E T)(mo s0:Int)(w cm:List D)(U:Nat)(hU:T<=U)(h1:s0<=mo)(h2:w.length+(p++[x]).length+2*U<=85000)(h3:cm.length+q.length+2*U<=85000):∃st,lQ T ⟨mo,s0,w++(p++[x]),cm++q,.aE,df⟩ st/\Fi df mo s0 (w++p) (cm++q) c E st:=by
 rw[bc] at h2;obtain⟨st,r,f⟩:=h.2 mo s0 (w++p) (cm++q) h1 (by rw[bc];lia) (by rw[bc];show _+0+_<=_;lia);rw[ie,jt] at r;exact⟨st,r,f⟩
def nO{x:D}(h:Tr df [x] [] c (.aO m) T):Tr df (p++[x]) q c (.aO m) T:=⟨h.1,λmo s0 w cm h1 h2 h3=>h.go mo s0 w cm T (ah _) h1 h2 h3⟩
def Tr.sub{x:D}(h:Tr df [x] [] c1 (.val v) T1)(k:Tr df p (q++[v]) c2 E T2):Tr df (p++[x]) q (c1+c2) E (T1+T2):=⟨by have:=h.1;lia,λmo s0 w cm h1 h2 h3=>by
 have hT:=h.1;obtain⟨st,r,f⟩:=h.go mo s0 w cm (T1+T2) (by lia) h1 h2 h3;unfold Fi at f;by_cases z:mo<s0+c1
 .rw[if_pos z] at f;obtain⟨w',c',rfl⟩:=f;refine⟨_,r.le<|by lia,?_⟩;unfold Fi;rw[if_pos<|by lia];exact⟨w',c',rfl⟩
 .rw[if_neg z] at f;cases (show st=_ from f);rw[bc] at h2;have h4:([x]:List D).length=1:=rfl;obtain⟨fU,r2,f2⟩:=k.2 mo (s0+c1) w cm (by lia) (by lia) (by rw[bc];show _+(_+1)+_<=_;lia);rw[<-jt] at r2;refine⟨fU,r.trans r2,?_⟩;unfold Fi at f2 ⊢;rw[show s0+(c1:Int)+(c2:Int)=s0+((c1+c2:Nat):Int) by lia] at f2;exact f2⟩
def C2{W:List Nat}{r:List D}{l:List Int}{ps:List D}{env:D}(hl:(wY AH W).getD []=l)(hp:l.reverse.map (λi=>aL (.tup (.str W::r))<|.int i)=ps.map aA)(h2:ps.length<=2)(t:Tr df (eP (.tup (.str W::r)) env true::ps.map (eP · env false)) [] c E n):Tr df [eP (.tup (.str W::r)) env false] [] c E (n+1):=by
 have HF:l.length=ps.length:=by have:=congrArg jg hp;simpa using this
 refine Tr.free (λmo s0 w cm n h1 h5 h3=>?_) (by simp;lia) (by simp) t;have h6:w.length+l.length<=90000:=by simp at h5;lia
 dsimp only;rw[ie];exact qg5 hl hp h6
def ended{W:List Nat}{r:List D}{l:List Int}{env x:D}{f:Int->Int->List D->List D->aF}(hl:(wY AH W).getD []=l)(hq:q.length=l.length)(h4:l.length<=4)(hm:ways W=aA mm)(h:∀(mo s0:Int) (w cm:List D),w.length<=90000->cm.length<=90000->mm ⟨mo,s0,w,cm,.aE,df⟩ [.tup (.str W::r),env,.lst q]=aA (x,f mo s0 w cm)):One df [eP (.tup (.str W::r)) env true] q f:=λmo s0 w cm n h1 h2 h3=>qg4 hl hq h4 hm (h mo s0 w cm (by lia)<|by lia)
end
theorem OB:∀{l m:List (List Nat)},l.Nodup->(∀x∈l,x∈m)->l.length<=m.length
 |[],_,_,_=>fg _
 |x::l,m,hn,h=>by
  obtain⟨h1,h2⟩:=dm.mp hn;have hx:=h x (by simp)
  have:=OB (m:=m.erase x) h2 λy hy=>(List.mem_erase_of_ne λe:y=x=>h1 (by rw[<-e];exact hy)).mpr (h y<|by simp[hy])
  rw[List.length_erase_of_mem hx] at this
  have:=List.length_pos_of_mem hx
  rw[am];lia
noncomputable def mF(f:α->β)(fs:Fs α):Fs β:=fs.map λp=>(p.1,f p.2)
def mR(f:α->β)(fs:Fs α):aN (mF f fs)=aN fs:=by unfold aN mF;rw[jx];rfl
theorem YN(f:α->β)(s:List Nat):∀fs:Fs α,aK (mF f fs) s=(aK fs s).map f
 |[]=>rfl
 |p::fs=>by
  show(if p.1=s then aA (f p.2) else aK (mF f fs) s)=(if p.1=s then aA p.2 else aK fs s).map f;by_cases h:p.1=s
  .rw[if_pos h,if_pos h];rfl
  .rw[if_neg h,if_neg h];exact YN f s fs
theorem Je(f:α->β)(s:List Nat)(v:α):∀fs:Fs α,mF f (eD fs s v)=eD (mF f fs) s (f v)
 |[]=>rfl
 |p::fs=>by
  show mF f (eD (p::fs) s v)=eD ((p.1,f p.2)::mF f fs) s (f v);unfold eD;by_cases h:p.1=s
  .rw[if_pos h,if_pos h];rfl
  .rw[if_neg h,if_neg h,<-Je f s v fs];rfl
theorem Gq(f:α->β)(s:List Nat):∀fs:Fs α,mF f (eT fs s)=eT (mF f fs) s
 |[]=>rfl
 |p::fs=>by
  show mF f (eT (p::fs) s)=eT ((p.1,f p.2)::mF f fs) s;unfold eT;by_cases h:p.1=s
  .rw[if_pos h,if_pos h];exact Gq f s fs
  .rw[if_neg h,if_neg h,<-Gq f s fs];rfl
def lW(g:Fs D):List D:=(kS<|aN g).filterMap λs=>(aK g s).map λv=>.tup [.str s,v]
noncomputable def ev(G:Fs D):D:=.aI (aZ G)<|eK id G
inductive Wo where
 |int (n:Int)
 |one (l:List Nat) (w:Wo)
 |fn (x:List Nat) (d:D) (G:Fs D)
 |rc (fs:List (List Nat×Wo))
mutual
noncomputable def mv:Wo->D
 |.int n=>.int n
 |.one l w=>.tup [.str [111,110,101],.str l,mv w]
 |.fn x d G=>.tup [.str [102,110],.str x,d,ev G]
 |.rc fs=>.tup [.str [114,101,99],.aI (aZ fs)<|Cs fs]
noncomputable def Cs:List (List Nat×Wo)->List D
 |[]=>[]
 |(_,w)::fs=>mv w::Cs fs
end
mutual
noncomputable def du:Wo->D
 |.int n=>.int n
 |.one l w=>.tup [.str [111,110,101],.str l,du w]
 |.fn _ _ _=>.tup [.str [102,110]]
 |.rc fs=>.tup [.str [114,101,99],.tup<|lW<|i9 fs]
noncomputable def i9:List (List Nat×Wo)->Fs D
 |[]=>[]
 |(s,w)::fs=>(s,du w)::i9 fs
end
mutual
noncomputable def er:Wo->Wo
 |.int n=>.int n
 |.one l w=>.one l<|er w
 |.fn _ _ _=>.fn [] .aE []
 |.rc fs=>.rc<|iB fs
noncomputable def iB:List (List Nat×Wo)->List (List Nat×Wo)
 |[]=>[]
 |(s,w)::fs=>(s,er w)::iB fs
end
mutual
noncomputable def ps:Wo->Nat
 |.int _=>1
 |.one _ w=>1+ps w
 |.fn _ _ _=>1
 |.rc fs=>1+eR fs
noncomputable def eR:List (List Nat×Wo)->Nat
 |[]=>0
 |(_,w)::fs=>ps w+eR fs
end
mutual
def gw(L:List (List Nat)):Wo->Prop
 |.int n=>vM n
 |.one l w=>l∈L/\gw L w
 |.fn _ _ _=>True
 |.rc fs=>(aN fs).Nodup/\(∀s∈aN fs,s∈L)/\sR L fs
def sR(L:List (List Nat)):List (List Nat×Wo)->Prop
 |[]=>True
 |(_,w)::fs=>gw L w/\sR L fs
end
theorem W9:∀fs:Fs Wo,Cs fs=eK mv fs
 |[]=>rfl
 |(s,w)::fs=>by show mv w::Cs fs=_;rw[W9 fs];rfl
theorem Q1:∀fs:Fs Wo,i9 fs=mF du fs
 |[]=>rfl
 |(s,w)::fs=>by show(s,du w)::i9 fs=_;rw[Q1 fs];rfl
theorem cA:∀fs:Fs Wo,iB fs=mF er fs
 |[]=>rfl
 |(s,w)::fs=>by show(s,er w)::iB fs=_;rw[cA fs];rfl
theorem OX:∀fs:Fs Wo,eR fs=(fs.map λp=>ps p.2).sum
 |[]=>rfl
 |(s,w)::fs=>by show ps w+eR fs=_;rw[OX fs];rfl
theorem CL{L:List (List Nat)}:∀{fs:Fs Wo},sR L fs↔∀p∈fs,gw L p.2
 |[]=>⟨λ_ _ h=>(by cases h),λ_=>trivial⟩
 |(s,w)::fs=>by
  show gw L w/\sR L fs↔_;rw[CL (fs:=fs)];exact⟨λh p hp=>(bq.mp hp).elim (λe=>by rw[e];exact h.1)<|h.2 p,λh=>⟨h _<|.head _,λp hp=>h p<|.tail _ hp⟩⟩
def fF:Wo->List Wo
 |.int _=>[]
 |.one _ w=>[w]
 |.rc fs=>sv fs
 |.fn _ _ _=>[]
def ZW(h:f r=aA (ss.map ky,l))(hl:ss.length<64):cH f r=aA ((kS ss).map .str):=by
 unfold cH;rw[h,aa];show((ZT<|ss.map ky).bind _)=_;rw[ZR,aa,if_pos hl]
def Ź(g:α->D)(hl:fs.length<=63):∃as,xP [.v<|.tup [.str [114,101,99],.aI (aZ fs)<|eK g fs]]=aA (.v<|.lst<|(sv fs).map g,as):=by
 let W:D:=.tup [.str [114,101,99],.aI (aZ fs)<|eK g fs]
 refine wF (r':=[.v W]) ?_;show vH [.v W]=_;unfold vH;refine xR (by rfl)<|yG ?_;have nl:(aN fs).length=fs.length:=by unfold aN;rw[ag]
 have sd:cH (uE fG) [.v W]=aA ((kS<|aN fs).map .str):=ZW (l:=eK g fs) (by rw[<-Gs];rfl) (by lia);have it:eG (xQ<|cH<|uE fG) [.v W]=aA ((kS<|aN fs).map .str):=by
  unfold eG xQ;rw[sd];rfl
 have e:xQ (xX [0] 2 (eG<|xQ<|cH<|uE fG) (yI 1)<|JS (uE fG)<|zD 1) [.v W]=Option.map D.lst (xX [0] 2 (eG<|xQ<|cH<|uE fG) (yI 1) (JS (uE fG)<|zD 1) [.v W]):=rfl;rw[e];unfold xX xW;rw[it,aa,if_pos (by rw[ag,qL];exact wB<|by lia),show ZE [0] 2 [.v W]=[.v W,.un] from rfl]
 let y:List Nat->D:=λs=>((aK fs s).map g).getD .aE
 have:=dQ (x:=JS (uE fG)<|zD 1) (j:=1) (mk:=λs=>[.v W,s]) (g:=D.str) (y:=y) (λs d hs=>zY (i:=1) (x:=s) rfl hs) (kS<|aN fs) .un trivial (λs hs=>by
  show xS (aZ fs) (eK g fs) (ky s)=_;obtain⟨v,e⟩:=uV<|v7 s hs;rw[uU,e];show _=aA (((aK fs s).map g).getD .aE);rw[e];rfl)
 rw[this];have q:(kS<|aN fs).map y=(sv fs).map g:=by
  have h:=Ki fs (kS<|aN fs) v7;have h2:(kS<|aN fs).map y=((kS<|aN fs).map<|aK fs).map λo=>(o.map g).getD .aE:=by rw[jx];rfl
  rw[h2,<-h,jx];rfl
 rw[q];rfl
def oC{fs:Fs Wo}(h:gw L (.rc fs)):fs.length<=L.length:=by
 have:=OB h.1 h.2.1
 unfold aN at this
 rwa [ag] at this
def P_(hL:L.length<=63):∀w:Wo,gw L w->∃as,xP [.v<|mv w]=aA (.v<|.lst<|(fF w).map mv,as)
 |.int n,_=>⟨_,rfl⟩
 |.one l n,_=>⟨_,rfl⟩
 |.fn x d G,_=>⟨_,rfl⟩
 |.rc fs,h=>by
  show ∃as,xP [.v<|.tup [.str [114,101,99],.aI (aZ fs)<|Cs fs]]=_;rw[W9];exact Ź (fs:=fs) mv<|cg (oC h) hL
def ό(g:α->D)(hl:fs.length<=63)(hh:hs.length=fs.length):∃as,wC [.v<|.tup [.str [114,101,99],.aI (aZ fs)<|eK g fs],.v<|.lst hs]=aA (.v<|.tup [.str [114,101,99],.tup<|XX ((kS<|aN fs).map .str) hs],as):=by
 let W:D:=.tup [.str [114,101,99],.aI (aZ fs)<|eK g fs]
 refine wF (r':=[.v W,.v<|.lst hs]) ?_;show qW [.v W,.v<|.lst hs]=_;unfold qW;refine xR (by rfl)<|yG<|wH (zB zE<|zB ?_ zQ) (by show 2<=100;decide);have nl:(aN fs).length=fs.length:=by unfold aN;rw[ag]
 have sd:xQ (cH<|uE fG) [.v W,.v<|.lst hs]=aA (.lst<|(kS<|aN fs).map .str):=by
  unfold xQ;rw[ZW (ss:=aN fs) (l:=eK g fs) (by rw[<-Gs];rfl)<|by lia];rfl
 unfold GB;rw[sd,aa];show(if ((kS<|aN fs).map D.str).length=hs.length/\((kS<|aN fs).map D.str).length<1000 then aA (D.tup<|XX ((kS<|aN fs).map .str) hs) else aD)=_;rw[if_pos ⟨by rw[ag,qL,nl,hh],by rw[ag,qL];lia⟩]
theorem Pd(fs:Fs α)(g:α->D):∀ss:List (List Nat),(∀s∈ss,s∈aN fs)->XX (ss.map .str) ((ss.filterMap<|aK fs).map g)=ss.filterMap λs=>(aK fs s).map λv=>.tup [.str s,g v]
 |[],_=>rfl
 |s::ss,h=>by
  obtain⟨v,e⟩:=uV (h s<|by simp);have ih:=Pd fs g ss λt ht=>h t (by simp[ht])
  rw[cq,e,cq,e];show D.tup [.str s,g v]::XX (ss.map .str) ((ss.filterMap<|aK fs).map g)=_;rw[ih];rfl
def VG(g:α->D)(fs:Fs α):lW (mF g fs)=(kS<|aN fs).filterMap λs=>(aK fs s).map λv=>.tup [.str s,g v]:=by
 unfold lW;rw[mR]
 congr 1
 funext s
 rw[YN];cases aK fs s<;>rfl
def ľ(hL:L.length<=63):∀w:Wo,gw L w->∃as,wC [.v<|mv w,.v<|.lst<|(fF w).map du]=aA (.v<|du w,as)
 |.int n,_=>⟨_,rfl⟩
 |.one l n,_=>⟨_,rfl⟩
 |.fn x d G,_=>⟨_,rfl⟩
 |.rc fs,h=>by
  obtain⟨as,e⟩:=ό (fs:=fs) mv (hs:=(sv fs).map du) (cg (oC h) hL) (by rw[ag,O5]);refine⟨as,?_⟩;show wC [.v<|.tup [.str [114,101,99],.aI (aZ fs)<|Cs fs],.v<|.lst<|(sv fs).map du]=aA (.v<|.tup [.str [114,101,99],.tup<|lW<|i9 fs],as);rw[W9,Q1,VG];refine e.trans ?_;unfold sv;rw[Pd fs du _ v7]
inductive PL:List Wo->List Wo->Prop
 |nil:PL [] []
 |cons (w:Wo) {ts l:List Wo}:PL (fF w++ts) l->PL (w::ts) (w::l)
def tp(ts:List Wo):Nat:=(ts.map ps).sum
def O7(a b:List Wo):tp (a++b)=tp a+tp b:=by simp[tp]
def tR{p:List Nat×α}{fs:Fs α}(h:s≠p.1):aK (p::fs) s=aK fs s:=if_neg<|ki h
theorem Y4{f g:α->Option β}:∀{l:List α},(∀a∈l,f a=g a)->l.filterMap f=l.filterMap g
 |[],_=>rfl
 |a::l,h=>by rw[cq,cq,h a<|.head _,Y4 λb hb=>h b<|.tail _ hb]
def J6:∀(fs:Fs α),(aN fs).Nodup->(sv fs).Perm (fs.map (·.2)):=λfs hn=>by
 have key:∀(fs:Fs α) (ss:List (List Nat)),(aN fs).Nodup->ss=aN fs->ss.filterMap (aK fs)=fs.map (·.2):=λfs=>by
  induction fs with
  |nil=>intro ss _ e;subst e;rfl
  |cons p fs ih=>
   intro ss hn e;subst e;have t_:(p.1::aN fs).Nodup:=hn;rw[dm] at t_;show(p.1::aN fs).filterMap (aK (p::fs))=p.2::fs.map (·.2);have e1:aK (p::fs) p.1=aA p.2:=if_pos rfl;rw[cq,e1];show p.2::_=_;rw[<-ih (aN fs) t_.2 rfl]
   congr 1
   exact Y4 λs hs=>tR λz=>t_.1<|z ▸ hs
 have:=(jP<|aN fs).filterMap<|aK fs
 rw[key fs _ hn rfl] at this;exact this
def Kk(w:Wo)(h:gw L w):ps w=1+tp (fF w):=by
 cases w with
 |int n=>rfl
 |one l w=>show 1+ps w=1+(ps w+0);rfl
 |fn x d G=>rfl
 |rc fs=>
  show 1+eR fs=1+((sv fs).map ps).sum;rw[OX,((J6 fs h.1).map ps).sum_nat,jx];rfl
def Yf(w:Wo)(h:gw L w):∀v∈fF w,gw L v:=by
 intro v hv;cases w with
 |int n=>cases hv
 |one l w=>rw[ck.mp hv];exact h.2
 |fn x d G=>cases hv
 |rc fs=>
  obtain⟨p,hp,e⟩:=gh.mp<|(J6 fs h.1).mem_iff.mp hv;rw[<-e];exact CL.mp h.2.2 p hp
theorem NJ:∀(n:Nat) (ts:List Wo),tp ts<=n->(∀w∈ts,gw L w)->∃l,PL ts l/\l.length=tp ts/\∀w∈l,gw L w
 |n,[],_,_=>⟨[],.nil,rfl,λ_ h=>by cases h⟩
 |0,w::ts,h,g=>by
  have:=Kk w (g w<|by simp)
  have:tp (w::ts)=ps w+tp ts:=by simp[tp]
  lia
 |n+1,w::ts,h,g=>by
  have h1:=Kk w (g w<|by simp);have h2:tp (w::ts)=ps w+tp ts:=by simp[tp]
  obtain⟨l,p,e,q⟩:=NJ n (fF w++ts) (by rw[O7];lia) λv hv=>(ja.mp hv).elim (Yf w (g w<|by simp) v) λz=>g v (by simp[z])
  refine⟨w::l,.cons w p,by rw[am,e,O7];lia,λv hv=>(bq.mp hv).elim (λz=>by rw[z];exact g w<|by simp)<|q v⟩
def OO{ts l:List Wo}(p:PL ts l):ts.length<=l.length:=by
 induction p with
 |nil=>exact ah _
 |@cons w ts l p ih=>rw[bc] at ih;rw[am,am];lia
def Gn:MS:=(yA (sX<|mS 1<|rJ 2)<|yA (aR MM (xE Uj) zV)<|sX<|Cd 2<|aU Bu<|zP 1 xP<|zA (Ce (JR 1)<|aU XS<|mC<|.int 1) zM)
def aO(ts:List Wo):List D:=(ts.map mv).reverse
def ZU(w:Wo)(ts:List Wo):aO (w::ts)=aO ts++[mv w]:=by simp[aO]
def ō(a b:List Wo):aO (a++b)=aO b++aO a:=by simp[aO]
def rT(w:Wo)(ts:List Wo)(F:List D)(hF:F.length<=200):sX (mS 1<|rJ 2) [v0,.o F,.o<|aO (w::ts),.un,.un]=aA (.nx [v0,.o<|F++[mv w],.o<|aO ts,.un,.un]):=by
 refine rG (d:=.aE) ?_;unfold mS;rw[ZU,OS (i:=2) (S:=aO ts) (d:=mv w) rfl,aa];show(if F.length<ae then aA (D.aE,[v0,Sl.o<|F++[mv w],.o<|aO ts,.un,.un]) else aD)=_;rw[if_pos<|wB<|by lia]
def Qa(w:Wo)(h:gw L w)(hL:L.length<=63):(fF w).length<=63:=by
 cases w with
 |int n=>simp[fF]
 |one l w=>simp[fF]
 |fn x d G=>simp[fF]
 |rc fs=>show(sv fs).length<=63;rw[O5];exact cg (oC h) hL
def WA(hL:L.length<=63)(w:Wo)(hg:gw L w)(ts:List Wo)(hts:ts.length<=1000)(F:List D)(hF:F.length<200):Gn [v0,.o F,.o<|aO (w::ts),.un,.un]=aA (.nx [v0,.o<|F++[mv w],.o<|aO<|fF w++ts,.un,.un]):=by
 unfold Gn;rw[yB<|rT w ts F<|by lia];have c1:MM [v0,.o<|F++[mv w],.o<|aO ts,.un,.un]=aA (decide ((200:Int)<((F++[mv w]).length:Int))):=QV rfl zE;rw[decide_eq_false (by rw[bc];show ¬(200:Int)<((F.length+1:Nat):Int);lia)] at c1;refine yR c1<|rG (d:=.aE) ?_;have ix:Ce (JR 1) (aU XS<|mC<|.int 1) [v0,.o<|F++[mv w],.o<|aO ts,.un,.un]=aA (mv w):=by
  show iC (F++[mv w]) (-1)=_;exact XI ..
 have ci:zP 1 xP (zA (Ce (JR 1)<|aU XS<|mC<|.int 1) zM) [v0,.o<|F++[mv w],.o<|aO ts,.un,.un]=aA (.lst<|(fF w).map mv):=yN (p:=.v<|.lst<|(fF w).map mv) (zB ix zQ) rfl<|P_ hL w hg;unfold Cd;rw[vL (d:=.lst ((fF w).map mv).reverse) ci rfl,aa];show(aA ((fF w).map mv).reverse).bind _=_;rw[aa];show(aA<|aO ts).bind _=_;have Dz:=Qa w hg hL;have sl:(aO ts).length=ts.length:=by simp[aO]
 rw[aa,if_pos (by rw[gx,ag,sl];exact cg (show _<=20000 by lia)<|by decide),ō];rfl
def Ť:YJ (JR 2) [v0,a,.o<|aO (w::ts),b,c]=aA true:=by
 rw[ZU];show aA (!(aO ts++[mv w]).isEmpty)=_;simp
def rS(hL:L.length<=63){ts l:List Wo}(p:PL ts l):(∀w∈l,gw L w)->∀F:List D,F.length+l.length<=200->ts.length<=l.length->∀m,kK (l.length+1+m) (YJ<|JR 2) Gn [v0,.o F,.o<|aO ts,.un,.un]=aA (.nx [v0,.o<|F++l.map mv,.o [],.un,.un]):=by
 induction p with
 |nil=>
  intro g F h h2 m;rw[show([]:List Wo).length+1+m=m+1 by simp[qw],show F++([]:List Wo).map mv=F by simp];exact nQ rfl
 |@cons w ts l p ih=>
  intro g F h h2 m;rw[am] at h;have hg:=g w (by simp);have h3:(fF w++ts).length<=l.length:=OO p;rw[bc] at h3;rw[show(w::l).length+1+m=(l.length+1+m)+1 by rw[am];lia,ZG Ť<|WA hL w hg ts (by lia) F<|by lia,ih (λv hv=>g v<|by simp[hv]) (F++[mv w]) (by rw[bc];show F.length+1+_<=200;lia) (by rw[bc];exact h3) m];simp
def C3:MS:=(sX<|mS 3<|k9 2 wC<|kH (zD 4)<|uF<|b6 3 2 (eG<|zP 1 xP<|zA (zD 4) zM) (yI 1)<|rJ 0)
def VF:rJ 0 [.p<|S++[d],x]=aA (d,[.p S,x]):=by
 show(((S++[d])[(S++[d]).length-1]?).bind λe=>aA (e,[Sl.p (S++[d]).dropLast,x]))=_;simp
theorem XD:∀(K L:List D) (S:List D) (x:Sl),eM x->L.length=K.length->∃x',dR (yI 1) (rJ 0) L [.p<|S++K.reverse,x]=aA (K,[.p S,x'])
 |[],[],S,x,_,_=>⟨x,by simp[dR]⟩
 |[],_::_,S,x,_,h=>by cases h
 |_::_,[],S,x,_,h=>by cases h
 |k::K,d::L,S,x,hx,h=>by
  obtain⟨x',e⟩:=XD K L S (.v d) trivial (by simpa using h);refine⟨x',?_⟩;rw[kt,<-jt];unfold dR;rw[zY (i:=1) (r:=[.p<|S++K.reverse++[k],x]) (x:=x) rfl hx,aa];show(rJ 0 [.p<|S++K.reverse++[k],.v d]).bind _=_;rw[VF,aa];show(dR (yI 1) (rJ 0) L [.p<|S++K.reverse,.v d]).map _=_;rw[e];rfl
def WW{z1 z2:Sl}(hL:L.length<=63)(w:Wo)(hg:gw L w)(S:List D)(hS:S.length<=1000):C3 [v0,z1,z2,.o<|S++((fF w).map du).reverse,.v<|mv w]=aA (.nx [v0,z1,z2,.o<|S++[du w],.v<|mv w]):=by
 unfold C3;refine rG (d:=.aE) ?_
 let R:En:=[v0,z1,z2,.o<|S++((fF w).map du).reverse,.v<|mv w]
 have ci:zP 1 xP (zA (zD 4) zM) R=aA (.lst<|(fF w).map mv):=yN (p:=.v<|.lst<|(fF w).map mv) (zB (x:=mv w) rfl zQ) rfl<|P_ hL w hg;have it:eG (zP 1 xP<|zA (zD 4) zM) R=aA ((fF w).map mv):=by
  unfold eG;rw[ci];rfl
 have Dz:=Qa w hg hL;obtain⟨x,cp⟩:=XD ((fF w).map du) ((fF w).map mv) S .un trivial (by rw[ag,ag]);have cx:b6 3 2 (eG<|zP 1 xP<|zA (zD 4) zM) (yI 1) (rJ 0) R=aA (.lst<|(fF w).map du,[v0,z1,z2,.o S,.v<|mv w]):=by
  unfold b6;rw[it,aa];show(aA<|S++((fF w).map du).reverse).bind _=_;rw[aa,if_pos (by rw[ag];exact wB<|by lia)];show(dR (yI 1) (rJ 0) ((fF w).map mv) [.p<|S++((fF w).map du).reverse,.un]).bind _=_;rw[cp];rfl
 have xa:kH (zD 4) (uF<|b6 3 2 (eG<|zP 1 xP<|zA (zD 4) zM) (yI 1)<|rJ 0) R=aA ([mv w,.lst<|(fF w).map du],[v0,z1,z2,.o S,.v<|mv w]):=by
  unfold kH uF;rw[cx];rfl
 obtain⟨as,hp⟩:=ľ hL w hg;have hp':wC (([mv w,.lst<|(fF w).map du]:List D).map Sl.v)=aA (.v<|du w,as):=hp;have cc:k9 2 wC (kH (zD 4)<|uF<|b6 3 2 (eG<|zP 1 xP<|zA (zD 4) zM) (yI 1)<|rJ 0) R=aA (du w,[v0,z1,z2,.o S,.v<|mv w]):=by
  unfold k9;rw[xa,aa,if_pos (show([mv w,.lst<|(fF w).map du]:List D).length=2 from rfl),hp'];rfl
 unfold mS;rw[cc,aa];show(aA<|S++((fF w).map du).reverse).bind _=_;rw[aa];show(aA S).bind _=_;rw[aa,if_pos<|wB<|by lia];rfl
def Œ(hL:L.length<=63){z1 z2:Sl}{ts l:List Wo}(p:PL ts l):(∀w∈l,gw L w)->l.length<=200->∀(qT:List D) (s:Sl),eM s->∃s',eM s'/\dL (yI 4) C3 (l.reverse.map mv++qT) [v0,z1,z2,.o [],s]=dL (yI 4) C3 qT [v0,z1,z2,.o (ts.map du).reverse,s']:=by
 induction p with
 |nil=>intro _ _ qT s hs;exact⟨s,hs,rfl⟩
 |@cons w ts l p ih=>
  intro g h qT s hs;rw[am] at h;have hg:=g w (by simp);have h3:(fF w++ts).length<=l.length:=OO p;rw[bc] at h3;obtain⟨s',BW,e⟩:=ih (λv hv=>g v<|by simp[hv]) (by lia) ([w].map mv++qT) s hs;refine⟨.v<|mv w,trivial,?_⟩;rw[kt,jb,jt,e,jb,List.reverse_append];show dL _ _ (mv w::qT) _=_;rw[b9 (zY (i:=4) (x:=s') rfl BW)<|WW hL w hg _ (by rw[gx,ag];lia)];rw[au,kt]
def ő(hL:L.length<=63)(w:Wo)(hg:gw L w)(hp:ps w<=200):∃as,JQ [.v<|mv w]=aA (.v<|du w,as):=by
 obtain⟨l,p,pl,gl⟩:=NJ (L:=L) (tp [w]) [w] (ah _) λv hv=>by rw[ck.mp hv];exact hg
 have t1:tp [w]=ps w:=by simp[tp]
 rw[t1] at pl
 let F:List D:=l.map mv
 have h0:1<=l.length:=by have:=Kk w hg;lia
 have s1:=rS (v0:=.v<|mv w) hL p gl [] (by show 0+_<=_;lia) h0<|WF-(l.length+1);rw[show l.length+1+(WF-(l.length+1))=WF by unfold WF;lia,xi] at s1;obtain⟨s',BW,e⟩:=Œ (v0:=.v<|mv w) (z1:=.z F) (z2:=.o []) hL p gl (by lia) [] .un trivial;refine wF (r':=[.v<|mv w,.o F,.o [],.o [du w],s']) ?_;show tV [.v<|mv w,.un,.un,.un,.un]=_;unfold tV;rw[yB (r':=[.v<|mv w,.o [],.un,.un,.un])<|by rfl,yB (r':=[.v<|mv w,.o [],.o [mv w],.un,.un])<|by rfl];unfold Gn at s1;have G7:kK WF _ _ [.v<|mv w,.o [],.o [mv w],.un,.un]=aA (.nx [.v<|mv w,.o F,.o [],.un,.un]):=s1;rw[yB G7,yB (r':=[.v<|mv w,.o F,.o [],.o [],.un])<|by rfl];have s2:sZ 1 (mP (yI 4) (QH<|E2 1) C3) [.v<|mv w,.o F,.o [],.o [],.un]=aA (.nx [.v<|mv w,.o F,.o [],.o [du w],s']):=by
  unfold sZ;show((mP _ _ _ [.v<|mv w,.z F,.o [],.o [],.un])).bind _=_;unfold mP;rw[show QH (E2 1) [.v<|mv w,.z F,.o [],.o [],.un]=aA F.reverse from rfl,aa];rw[ie,List.map_reverse] at e;rw[e];rfl
 unfold C3 at s2;rw[yB s2];exact yG rfl
section
variable{df:D}{p q:List D}{E:Rt}{W:List Nat}{r:List D}{l:List Int}{env:D}{mm:aF->List D->Option (D×aF)}
def rF(hl:(wY AH W).getD []=l)(hq:q.length=l.length)(h4:l.length<=4)(hm:ways W=aA mm)(h:∀st:aF,mm st [.tup (.str W::r),env,.lst q]=y6 st [v]):Tr df [eP (.tup (.str W::r)) env true] q 0 (.val v) 1:=Tr.tell (ended (x:=.aE) hl hq h4 hm λmo s0 w cm h1 h2=>(h _).trans<|Ϯ<|by lia)
def rV{r0:List D}(hl:(wY AH W).getD []=l)(hq:q.length=l.length)(h4:l.length<=4)(hm:ways W=aA mm)(h:∀st:aF,mm st [.tup (.str W::r),env,.lst q]=yC st [.tup (.str W::r)])(hr : .str W::r=r0++[m]):Tr df [eP (.tup (.str W::r)) env true] q 0 (.aO m) 1:=Tr.stick<|ended (x:=.aE) hl hq h4 hm λmo s0 w cm h1 h2=>(h _).trans (by rw[hr];unfold yC;simp)
def Oh{e' env':D}(hl:(wY AH W).getD []=l)(hq:q.length=l.length)(h4:l.length<=4)(hm:ways W=aA mm)(h:∀st:aF,mm st [.tup (.str W::r),env,.lst q]=yM st [e',env'])(t:Tr df [eP e' env' false] [] c E n):Tr df [eP (.tup (.str W::r)) env true] q c E (n+1):=Tr.free (ended (x:=.aE) hl hq h4 hm λmo s0 w cm h1 h2=>(h _).trans (by rw[ie];exact L7<|by lia)) (by simp) (by simp) t
def IE{e' env':D}(hl:(wY AH W).getD []=l)(hq:q.length=l.length)(h4:l.length<=4)(hm:ways W=aA mm)(h:∀(mo s0:Int) (w cm:List D),w.length<=90000->mm ⟨mo,s0,w,cm,.aE,df⟩ [.tup (.str W::r),env,.lst q]=if mo<=s0 then aA (.aE,⟨mo,s0,w,cm,ZL,df⟩) else yM ⟨mo,s0+1,w,cm,.aE,df⟩ [e',env'])(t:Tr df [eP e' env' false] [] c E n):Tr df [eP (.tup (.str W::r)) env true] q (c+1) E (n+1):=Tr.pay (ended (x:=.aE) hl hq h4 hm λmo s0 w cm h1 h2=>(h _ _ _ _ h1).trans (by
 by_cases z:mo<=s0
 .rw[if_pos z,if_pos z]
 .rw[if_neg z,if_neg z,ie];exact L7<|by lia)) (by simp) (by simp) t
def W7(hl:(wY AH W).getD []=[])(t:Tr df [eP (.tup (.str W::r)) env true] [] c E n):Tr df [eP (.tup (.str W::r)) env false] [] c E (n+1):=C2 (ps:=[]) hl rfl (by simp) t
def oR{i:Int}{x:D}(hl:(wY AH W).getD []=[i])(hx:aL (.tup (.str W::r)) (.int i)=aA x)(h:Tr df [eP x env false] [] c (.aO m) T):Tr df [eP (.tup (.str W::r)) env false] [] c (.aO m) (T+1):=
 C2 (ps:=[x]) hl (by show[aL (.tup (.str W::r))<|.int i]=[aA x];rw[hx]) (by simp) (nO (p:=[_]) h)
def uN{i:Int}{x:D}(hl:(wY AH W).getD []=[i])(hx:aL (.tup (.str W::r)) (.int i)=aA x)(h:Tr df [eP x env false] [] c (.val v) T)(k:Tr df [eP (.tup (.str W::r)) env true] [v] c2 E T2):Tr df [eP (.tup (.str W::r)) env false] [] (c+c2) E (T+T2+1):=
 C2 (ps:=[x]) hl (by show[aL (.tup (.str W::r))<|.int i]=[aA x];rw[hx]) (by simp) (Tr.sub (p:=[_]) h k)
def Kf{i j:Int}{x y:D}(hx:aL (.tup (.str W::r)) (.int i)=aA x)(hy:aL (.tup (.str W::r)) (.int j)=aA y):([i,j]:List Int).reverse.map (λi=>aL (.tup (.str W::r))<|.int i)=[y,x].map aA:=by
 show[aL (.tup (.str W::r))<|.int j,aL (.tup (.str W::r))<|.int i]=[aA y,aA x];rw[hx,hy]
def ϐ{i j:Int}{x y:D}(hl:(wY AH W).getD []=[i,j])(hx:aL (.tup (.str W::r)) (.int i)=aA x)(hy:aL (.tup (.str W::r)) (.int j)=aA y)(h:Tr df [eP x env false] [] c (.aO m) T):Tr df [eP (.tup (.str W::r)) env false] [] c (.aO m) (T+1):=
 C2 (ps:=[y,x]) hl (Kf hx hy) (by simp) (nO (p:=[_,_]) h)
def ϑ{i j:Int}{x y:D}(hl:(wY AH W).getD []=[i,j])(hx:aL (.tup (.str W::r)) (.int i)=aA x)(hy:aL (.tup (.str W::r)) (.int j)=aA y)(h1:Tr df [eP x env false] [] c1 (.val u) T1)(h:Tr df [eP y env false] [] c (.aO m) T):Tr df [eP (.tup (.str W::r)) env false] [] (c1+c) (.aO m) (T1+T+1):=
 C2 (ps:=[y,x]) hl (Kf hx hy) (by simp) (Tr.sub (p:=[_,_]) h1<|nO (p:=[_]) (q:=[u]) h)
def d9{i j:Int}{x y:D}(hl:(wY AH W).getD []=[i,j])(hx:aL (.tup (.str W::r)) (.int i)=aA x)(hy:aL (.tup (.str W::r)) (.int j)=aA y)(h1:Tr df [eP x env false] [] c1 (.val u) T1)(h2:Tr df [eP y env false] [] c2 (.val v) T2)(k:Tr df [eP (.tup (.str W::r)) env true] [u,v] c3 E T3):Tr df [eP (.tup (.str W::r)) env false] [] (c1+(c2+c3)) E (T1+(T2+T3)+1):=
 C2 (ps:=[y,x]) hl (Kf hx hy) (by simp) (Tr.sub (p:=[_,_]) h1<|Tr.sub (p:=[_]) (q:=[u]) h2 k)
end
mutual
theorem rK{L:List (List Nat)}:∀w:Wo,gw L (er w)↔gw L w
 |.int n=>ql
 |.one l w=>by show _/\gw L (er w)↔_/\gw L w;rw[rK w]
 |.fn x d G=>ql
 |.rc fs=>by
  show(aN<|iB fs).Nodup/\(∀s∈aN (iB fs),s∈L)/\sR L (iB fs)↔(aN fs).Nodup/\(∀s∈aN fs,s∈L)/\sR L fs;rw[OE fs,cA,mR]
theorem OE{L:List (List Nat)}:∀fs:List (List Nat×Wo),sR L (iB fs)↔sR L fs
 |[]=>ql
 |(s,w)::fs=>by show gw L (er w)/\sR L (iB fs)↔gw L w/\sR L fs;rw[rK w,OE fs]
end
mutual
theorem EL:∀w:Wo,ps (er w)=ps w
 |.int n=>rfl
 |.one l w=>by show 1+ps (er w)=1+ps w;rw[EL w]
 |.fn x d G=>rfl
 |.rc fs=>by show 1+eR (iB fs)=1+eR fs;rw[OY fs]
theorem OY:∀fs:List (List Nat×Wo),eR (iB fs)=eR fs
 |[]=>rfl
 |(s,w)::fs=>by show ps (er w)+eR (iB fs)=ps w+eR fs;rw[EL w,OY fs]
end
mutual
theorem Et:∀w:Wo,du (er w)=du w
 |.int n=>rfl
 |.one l w=>by show D.tup [_,_,du<|er w]=D.tup [_,_,du w];rw[Et w]
 |.fn x d G=>rfl
 |.rc fs=>by show D.tup [_,.tup<|lW<|i9<|iB fs]=D.tup [_,.tup<|lW<|i9 fs];rw[Oj fs]
theorem Oj:∀fs:List (List Nat×Wo),i9 (iB fs)=i9 fs
 |[]=>rfl
 |(s,w)::fs=>by show(s,du<|er w)::i9 (iB fs)=(s,du w)::i9 fs;rw[Et w,Oj fs]
end
structure lU(G:Fs D)(n:Nat):Prop where
 EW:(aN G).Nodup
 len:G.length+n<=1000
def lU.le(h:lU G n)(hn:m<=n):lU G m:=⟨h.EW,by have:=h.len;lia⟩
def Í:∀(G:Fs α),(eD G s v).length<=G.length+1:=λG=>by
 have h:=congrArg jg<|EK (s:=s) (v:=v) G;unfold aN at h;rw[ag] at h;rw[h];split
 .rw[ag];lia
 .rw[bc,ag];show _+1<=_;lia
def lU.put(h:lU G n)(hn:m+1<=n):lU (eD G s v) m:=⟨m7 h.EW,by have:=h.len;have:=Í (s:=s) (v:=v) G;lia⟩
def lU.lt(h:lU G n):(aZ G).length<ae:=wB (by unfold aZ;rw[ag];have:=h.len;lia)
inductive Rz where
 |val (c:Nat) (w:Wo)
 |aO (c k:Nat)
def Sem(L:List (List Nat))(e:Ex):Rz->Prop
 |.val c w0=>gw L w0/\ps w0<=nd e/\c<=nd e/\∀(df N:D) (i:Int) (G:Fs D),lU G (nd e)->∃T w,T<=3*nd e/\er w=w0/\Tr df [eP (b_ N e i) (ev G) false] [] c (.val<|mv w) T
 |.aO c k=>c<=nd e/\∀(df N:D) (i:Int) (G:Fs D),lU G (nd e)->∃T,T<=3*nd e/\Tr df [eP (b_ N e i) (ev G) false] [] c (.aO<|.tup [N,.int<|i+(k:Int)]) T
def ņ(h:vM n):Sem L (.num n) (.val 0<|.int n):=⟨h,ah _,fg _,λdf N i G g=>⟨2,.int n,by show 2<=3*1;lia,rfl,W7 rfl<|rF (l:=[]) rfl rfl (by decide) rfl λ_=>rfl⟩⟩
def Ń:Sem L .emp (.val 0<|.rc []):=⟨⟨ri,(λ_ h=>by(cases h)),trivial⟩,ah _,fg _,λdf N i G g=>⟨2,.rc [],by show 2<=3*1;lia,rfl,W7 rfl<|rF (l:=[]) rfl rfl (by decide) rfl λ_=>rfl⟩⟩
noncomputable def FN:List Nat:=[102,110]
def Zy:Sem L (.lab FN l e) (.val 0<|.fn [] .aE []):=⟨trivial,by show 1<=1+nd e;lia,fg _,λdf N i G g=>⟨2,.fn l (b_ N e<|i+1) G,by show 2<=3*(1+nd e);lia,rfl,W7 rfl<|rF (l:=[]) (mm:=jV) rfl rfl (by decide) rfl λ_=>rfl⟩⟩
noncomputable def l_:List Nat:=[103,101,116]
noncomputable def Ad:List Nat:=[108,101,115,115]
noncomputable def JU:List Nat:=[119,105,100,101]
noncomputable def sC:List Nat:=[116,97,103]
noncomputable def rB:List Nat:=[119,105,116,104]
noncomputable def lR:List Nat:=[112,117,116]
noncomputable def F5(l:List Nat):Wo->Option Wo
 |.rc fs=>aK fs l
 |_=>aD
noncomputable def Gu(l:List Nat):Wo->Option Wo
 |.rc fs=>if aK fs l=aD then aD else aA<|.rc<|eT fs l
 |_=>aD
noncomputable def Jj(l:List Nat):Wo->Option Wo
 |.one l2 v=>if l2≠l then aA (.one l2 v) else aD
 |_=>aD
noncomputable def EC(l:List Nat)(a:Wo):Wo->Option Wo
 |.rc fs=>if aK fs l=aD then aA (.rc<|eD fs l a) else aD
 |_=>aD
noncomputable def El(l:List Nat)(a:Wo):Wo->Option Wo
 |.rc fs=>if aK fs l=aD then aD else aA<|.rc<|eD fs l a
 |_=>aD
def JZ(w:List Nat):Wo->Wo->Option Wo
 |.int i,.int j=>aA<|.int<|wk w i j
 |_,_=>aD
noncomputable def ro(c:Nat):Option Wo->Rz
 |some w=>.val c w
 |none=>.aO c 0
def NX{fs:Fs Wo}(h:er w=.rc fs):∃gs,w=.rc gs/\fs=mF er gs:=by
 cases w with
 |rc gs=>refine⟨gs,rfl,?_⟩;have:=(Wo.rc.inj h).symm;rw[this,cA]
 |int n=>cases h
 |one l w=>cases h
 |fn x d G=>cases h
def J'(h:er w=.one l v):∃u,w=.one l u/\er u=v:=by
 cases w with
 |one l w=>obtain⟨rfl,rfl⟩:=Wo.one.inj h;exact⟨w,rfl,rfl⟩
 |int n=>cases h
 |rc fs=>cases h
 |fn x d G=>cases h
def J_(h:er w=.int n):w=.int n:=by
 cases w with
 |int m=>cases h;rfl
 |one l w=>cases h
 |rc fs=>cases h
 |fn x d G=>cases h
def NV{H:Fs D}(h:er w=.fn y d H):∃x d' G,w=.fn x d' G:=by
 cases w with
 |int m=>cases h
 |one l w=>cases h
 |rc fs=>cases h
 |fn x d G=>exact⟨x,d,G,rfl⟩
def QA(fs:Fs Wo):mv (.rc fs)=.tup [.str [114,101,99],.aI (aZ fs)<|eK mv fs]:=by show D.tup [_,.aI _<|Cs fs]=_;rw[W9]
theorem Gv:∀{fs:Fs Wo},aK fs s=aA w->ps w<=eR fs
 |(t,v)::fs,h=>by
  have h:(if t=s then aA v else aK fs s)=aA w:=h;split at h
  .rw[<-bu h];show ps v<=ps v+eR fs;lia
  .have:=Gv h;show _<=ps v+eR fs;lia
theorem Nu(s:List Nat):∀fs:Fs Wo,eR (eT fs s)<=eR fs
 |[]=>ah _
 |(t,w)::fs=>by
  have ih:=Nu s fs;show eR (if t=s then eT fs s else (t,w)::eT fs s)<=ps w+eR fs;split
  .lia
  .show ps w+eR (eT fs s)<=_;lia
theorem Jf(s:List Nat)(v:Wo):∀fs:Fs Wo,eR (eD fs s v)<=eR fs+ps v
 |[]=>by show ps v+0<=0+ps v;lia
 |(t,w)::fs=>by
  have ih:=Jf s v fs;show eR (if t=s then (s,v)::fs else (t,w)::eD fs s v)<=ps w+eR fs+ps v;split
  .show ps v+eR fs<=_;lia
  .show ps w+eR (eD fs s v)<=_;lia
section
variable{L:List (List Nat)}{l:List Nat}
def IX{fs:Fs Wo}(h:gw L (.rc fs))(e:aK fs s=aA w):gw L w:=CL.mp h.2.2 _<|Jv e
def Vq{fs:Fs Wo}(h:gw L (.rc fs)):gw L (.rc<|eT fs s):=⟨h.1.sublist<|Q4 s fs,λt ht=>h.2.1 t<|(Q4 s fs).subset ht,CL.mpr λp hp=>CL.mp h.2.2 p<|Jz hp⟩
def N5{fs:Fs Wo}(h:gw L (.rc fs))(hs:s∈L)(hv:gw L v):gw L (.rc<|eD fs s v):=⟨m7 h.1,λt ht=>by
 rw[EK] at ht;split at ht
 .exact h.2.1 t ht
 .rcases ja.mp ht with z|z
  .exact h.2.1 t z
  .rw[ck.mp z];exact hs,CL.mpr λp hp=>by
 obtain⟨a,b⟩:=p;rcases OQ hp with e|e
 .cases e;exact hv
 .exact CL.mp h.2.2 _ e⟩
def pE{W:List Nat}(hl:(wY AH W).getD []=[2])(h:Sem L e (.aO c k)):Sem L (.lab W l e) (.aO c<|k+1):=⟨by show c<=1+nd e;have:=h.1;lia,λdf N i G g=>by
 obtain⟨T,hT,t⟩:=h.2 df N (i+1) G<|g.le (by show nd e<=1+nd e;lia);refine⟨T+1,by show T+1<=3*(1+nd e);lia,?_⟩;rw[show i+1+(k:Int)=i+((k+1:Nat):Int) by lia] at t;exact oR (i:=2) hl rfl t⟩
def pC{W:List Nat}{mm:aF->List D->Option (D×aF)}{f:Wo->Option Wo}(hl:(wY AH W).getD []=[2])(hm:ways W=aA mm)(hg:∀w u,gw L w->f w=aA u->gw L u/\ps u<=1+ps w)(hf:∀(w:Wo) (x m env:D),(∃u,f (er w)=aA (er u)/\∀st,mm st [.tup [.str W,.str l,x,m],env,.lst [mv w]]=y6 st [mv u])\/(f (er w)=aD/\∀st,mm st [.tup [.str W,.str l,x,m],env,.lst [mv w]]=yC st [.tup [.str W,.str l,x,m]]))(h:Sem L e (.val c w)):Sem L (.lab W l e) (ro c<|f w):=by
 obtain⟨h1,h2,h3,h4⟩:=h;have n1:nd (.lab W l e)=1+nd e:=rfl;cases ef:f w with
 |some u0=>
  obtain⟨g1,g2⟩:=hg w u0 h1 ef;refine⟨g1,by rw[n1];lia,by rw[n1];lia,λdf N i G g=>?_⟩;obtain⟨T,v,hT,ev,t⟩:=h4 df N (i+1) G<|g.le (by rw[n1];lia);rcases hf v (b_ N e<|i+1) (.tup [N,.int i]) (K45.ev G) with⟨u,e1,e2⟩|⟨e1,_⟩
  .rw[ev,ef] at e1;exact⟨T+1+1,u,by rw[n1];lia,(bu e1).symm,uN (i:=2) (c2:=0) hl rfl t<|rF (l:=[2]) hl rfl (by decide) hm e2⟩
  .rw[ev,ef] at e1;cases e1
 |none=>
  refine⟨by rw[n1];lia,λdf N i G g=>?_⟩;obtain⟨T,v,hT,ev,t⟩:=h4 df N (i+1) G<|g.le (by rw[n1];lia);rcases hf v (b_ N e<|i+1) (.tup [N,.int i]) (K45.ev G) with⟨u,e1,e2⟩|⟨_,e2⟩
  .rw[ev,ef] at e1;cases e1
  .refine⟨T+1+1,by rw[n1];lia,uN (i:=2) (c2:=0) hl rfl t ?_⟩;rw[show i+((0:Nat):Int)=i by lia];exact rV (l:=[2]) (r0:=[_,_,_]) hl rfl (by decide) hm e2 rfl
def ň(hl:l∈L)(h:Sem L e (.val c w)):Sem L (.lab sC l e) (.val c<|.one l w):=pC (mm:=qO) (f:=λw=>aA<|.one l w) rfl rfl (λw u g e=>by cases e;exact⟨⟨hl,g⟩,ah _⟩) (λw x m env=>.inl ⟨.one l w,rfl,λ_=>rfl⟩) h
def ń(h:Sem L e (.val c w)):Sem L (.lab l_ l e) (ro c<|F5 l w):=pC (mm:=qQ) rfl rfl (λw u g e=>by
  cases w with
  |rc fs=>exact⟨IX g e,by have:=Gv e;show _<=1+(1+eR fs);lia⟩
  |int n=>cases e
  |one l w=>cases e
  |fn x d G=>cases e) (λw x m env=>by
  cases w with
  |int n=>exact .inr ⟨rfl,λ_=>rfl⟩
  |one l w=>exact .inr ⟨rfl,λ_=>rfl⟩
  |fn x d G=>exact .inr ⟨rfl,λ_=>rfl⟩
  |rc fs=>
   have lk:=uU mv l fs;have sh:∀st:aF,qQ st [.tup [.str l_,.str l,x,m],env,.lst [mv<|.rc fs]]=match xS (aZ fs) (eK mv fs) (ky l) with|some u=>y6 st [u]|none=>yC st [.tup [.str l_,.str l,x,m]]:=λst=>by rw[QA];rfl
   have el:F5 l (er<|.rc fs)=(aK fs l).map er:=by show aK (iB fs) l=_;rw[cA,YN]
   cases e:aK fs l with
   |none=>rw[e] at lk el;exact .inr ⟨el,λst=>by rw[sh,lk];rfl⟩
   |some u=>rw[e] at lk el;exact .inl ⟨u,el,λst=>by rw[sh,lk];rfl⟩) h
def ς(h:Sem L e (.val c w)):Sem L (.lab Ad l e) (ro c<|Gu l w):=pC (mm:=wL) rfl rfl (λw u g e=>by
  cases w with
  |rc fs=>
   have e:(if aK fs l=aD then aD else aA<|Wo.rc<|eT fs l)=aA u:=e;split at e
   .cases e
   .cases e;exact⟨Vq g,by have:=Nu l fs;show 1+eR _<=1+(1+eR fs);lia⟩
  |int n=>cases e
  |one l w=>cases e
  |fn x d G=>cases e) (λw x m env=>by
  cases w with
  |int n=>exact .inr ⟨rfl,λ_=>rfl⟩
  |one l w=>exact .inr ⟨rfl,λ_=>rfl⟩
  |fn x d G=>exact .inr ⟨rfl,λ_=>rfl⟩
  |rc fs=>
   have lk:=uU mv l fs;have sh:∀st:aF,wL st [.tup [.str Ad,.str l,x,m],env,.lst [mv<|.rc fs]]=match xS (aZ fs) (eK mv fs) (ky l) with|some u=>y6 st [.tup [.str [114,101,99],.aI (jA (aZ fs) (eK mv fs)<|ky l).1 (jA (aZ fs) (eK mv fs)<|ky l).2]]|none=>yC st [.tup [.str Ad,.str l,x,m]]:=λst=>by rw[QA];rfl
   have el:Gu l (er<|.rc fs)=if aK fs l=aD then aD else aA (er<|.rc<|eT fs l):=by
    show(if aK (iB fs) l=aD then aD else aA<|Wo.rc<|eT (iB fs) l)=if aK fs l=aD then aD else aA (Wo.rc<|iB<|eT fs l)
    rw[cA,cA,YN,Gq];cases aK fs l<;>rfl
   cases e:aK fs l with
   |none=>rw[e] at lk el;exact .inr ⟨el,λst=>by rw[sh,lk];rfl⟩
   |some u=>rw[e] at lk el;exact .inl ⟨.rc<|eT fs l,el,λst=>by rw[sh,lk,Oy,QA];rfl⟩) h
def τ(h:Sem L e (.val c w)):Sem L (.lab JU l e) (ro c<|Jj l w):=pC (mm:=w6) rfl rfl (λw u g e=>by
  cases w with
  |one l2 v=>
   have e:(if l2≠l then aA (Wo.one l2 v) else aD)=aA u:=e;split at e
   .cases e;exact⟨g,by lia⟩
   .cases e
  |int n=>cases e
  |rc fs=>cases e
  |fn x d G=>cases e) (λw x m env=>by
  cases w with
  |int n=>exact .inr ⟨rfl,λ_=>rfl⟩
  |rc fs=>exact .inr ⟨rfl,λ_=>rfl⟩
  |fn x d G=>exact .inr ⟨rfl,λ_=>rfl⟩
  |one l2 v=>
   by_cases z:l2≠l
   .exact .inl ⟨.one l2 v,if_pos z,λst=>if_pos z⟩
   .exact .inr ⟨if_neg z,λst=>if_neg z⟩) h
def Ņ(h:Sem L e (.val c w)):Sem L (.Am e) (.aO c 0):=by
 have n1:nd (.Am e)=1+nd e:=rfl;refine⟨by rw[n1];have:=h.2.2.1;lia,λdf N i G g=>?_⟩;obtain⟨T,v,hT,ev,t⟩:=h.2.2.2 df N (i+1) G<|g.le (by rw[n1];lia);refine⟨T+1+1,by rw[n1];lia,uN (i:=1) (c2:=0) rfl rfl t ?_⟩;rw[show i+((0:Nat):Int)=i by lia];exact rV (l:=[1]) (mm:=wU) (r0:=[_,_]) rfl rfl (by decide) rfl (λ_=>rfl) rfl
def ě(h:Sem L e (.aO c k)):Sem L (.Am e) (.aO c<|k+1):=by
 have n1:nd (.Am e)=1+nd e:=rfl;refine⟨by rw[n1];have:=h.1;lia,λdf N i G g=>?_⟩;obtain⟨T,hT,t⟩:=h.2 df N (i+1) G<|g.le (by rw[n1];lia);rw[show i+1+(k:Int)=i+((k+1:Nat):Int) by lia] at t;exact⟨T+1,by rw[n1];lia,oR (i:=1) rfl rfl t⟩
end
section
variable{L:List (List Nat)}{l:List Nat}
structure A1(X:Ex)(a b:Ex)(W:List Nat)(i1 i2:Int)(mid:List D):Prop where
 n:nd X=1+nd a+nd b
 m:∀(N:D) (i:Int),b_ N X i=.tup (.str W::(mid++[b_ N a<|i+1,b_ N b<|i+1+(nd a:Int),.tup [N,.int i]]))
 l:(wY AH W).getD []=[i1,i2]
 x:∀p q r:D,aL (.tup (.str W::(mid++[p,q,r]))) (.int i1)=aA p
 y:∀p q r:D,aL (.tup (.str W::(mid++[p,q,r]))) (.int i2)=aA q
def A1.Q_(t:A1 X a b W i1 i2 mid)(h:Sem L a (.aO c k)):Sem L X (.aO c<|k+1):=by
 have n1:=t.n;refine⟨by have:=h.1;lia,λdf N i G g=>?_⟩;obtain⟨T,hT,r⟩:=h.2 df N (i+1) G (g.le<|by lia);rw[show i+1+(k:Int)=i+((k+1:Nat):Int) by lia] at r;rw[t.m];exact⟨T+1,by lia,ϐ t.l (t.x ..) (t.y ..) r⟩
def A1.Qz(t:A1 X a b W i1 i2 mid)(h0:Sem L a (.val c0 w))(h:Sem L b (.aO c k)):Sem L X (.aO (c0+c)<|1+nd a+k):=by
 have n1:=t.n;refine⟨by have:=h.1;have:=h0.2.2.1;lia,λdf N i G g=>?_⟩;obtain⟨T0,v,LM,ev,r0⟩:=h0.2.2.2 df N (i+1) G (g.le<|by lia);obtain⟨T,hT,r⟩:=h.2 df N (i+1+(nd a:Int)) G (g.le<|by lia);rw[show i+1+(nd a:Int)+(k:Int)=i+((1+nd a+k:Nat):Int) by lia] at r;rw[t.m];exact⟨T0+T+1,by lia,ϑ t.l (t.x ..) (t.y ..) r0 r⟩
def A1.val{f:Wo->Wo->Option Wo}{mm:aF->List D->Option (D×aF)}(t:A1 X a b W i1 i2 mid)(hm:ways W=aA mm)(hg:∀w v u,gw L w->gw L v->f w v=aA u->gw L u/\ps u<=1+ps w+ps v)(hf:∀(w v:Wo) (p q m env:D),gw L w->gw L v->(∃u,f (er w) (er v)=aA (er u)/\∀st,mm st [.tup (.str W::(mid++[p,q,m])),env,.lst [mv w,mv v]]=y6 st [mv u])\/(f (er w) (er v)=aD/\∀st,mm st [.tup (.str W::(mid++[p,q,m])),env,.lst [mv w,mv v]]=yC st [.tup (.str W::(mid++[p,q,m]))]))(h0:Sem L a (.val c0 w))(h:Sem L b (.val c v)):Sem L X (ro (c0+c)<|f w v):=by
 have n1:=t.n;obtain⟨a1,a2,a3,a4⟩:=h0;obtain⟨b1,b2,b3,b4⟩:=h;cases ef:f w v with
 |some u0=>
  obtain⟨g1,g2⟩:=hg w v u0 a1 b1 ef;refine⟨g1,by lia,by lia,λdf N i G g=>?_⟩;obtain⟨T0,w',LM,ew,r0⟩:=a4 df N (i+1) G (g.le<|by lia);obtain⟨T,v',hT,AY,r⟩:=b4 df N (i+1+(nd a:Int)) G (g.le<|by lia);rcases hf w' v' (b_ N a<|i+1) (b_ N b<|i+1+(nd a:Int)) (.tup [N,.int i]) (ev G) ((rK _).mp<|ew ▸ a1) ((rK _).mp<|AY ▸ b1) with⟨u,e1,e2⟩|⟨e1,_⟩
  .rw[ew,AY,ef] at e1;rw[t.m];exact⟨T0+(T+1)+1,u,by lia,(bu e1).symm,d9 (c3:=0) t.l (t.x ..) (t.y ..) r0 r<|rF (l:=[i1,i2]) t.l rfl (by simp) hm e2⟩
  .rw[ew,AY,ef] at e1;cases e1
 |none=>
  refine⟨by lia,λdf N i G g=>?_⟩;obtain⟨T0,w',LM,ew,r0⟩:=a4 df N (i+1) G (g.le<|by lia);obtain⟨T,v',hT,AY,r⟩:=b4 df N (i+1+(nd a:Int)) G (g.le<|by lia);rcases hf w' v' (b_ N a<|i+1) (b_ N b<|i+1+(nd a:Int)) (.tup [N,.int i]) (ev G) ((rK _).mp<|ew ▸ a1) ((rK _).mp<|AY ▸ b1) with⟨u,e1,_⟩|⟨_,e2⟩
  .rw[ew,AY,ef] at e1;cases e1
  .rw[t.m];refine⟨T0+(T+1)+1,by lia,d9 (c3:=0) t.l (t.x ..) (t.y ..) r0 r ?_⟩;rw[show i+((0:Nat):Int)=i by lia];exact rV (l:=[i1,i2]) (r0:=.str W::(mid++[b_ N a<|i+1,b_ N b<|i+1+(nd a:Int)])) t.l rfl (by simp) hm e2 (by simp)
def nV(hl:(wY AH W).getD []=[2,3]):A1 (.fld W l a b) a b W 2 3 [.str l]:=⟨rfl,λ_ _=>rfl,hl,λ_ _ _=>rfl,λ_ _ _=>rfl⟩
def ZJ(hl:(wY AH W).getD []=[1,2]):A1 (.bin W a b) a b W 1 2 []:=⟨rfl,λ_ _=>rfl,hl,λ_ _ _=>rfl,λ_ _ _=>rfl⟩
def NQ{fs:Fs Wo}(hL:L.length<=63)(h:gw L (.rc fs)):(aZ fs).length<ae:=wB (by unfold aZ;rw[ag];have:=oC h;lia)
def NW(fs:Fs Wo)(a:Wo):Wo.rc (eD (mF er fs) l<|er a)=er (.rc<|eD fs l a):=by
 show _=Wo.rc (iB<|eD fs l a);rw[cA,Je]
def υ(hL:L.length<=63)(hl:l∈L)(h0:Sem L a (.val c0 w))(h:Sem L b (.val c v)):Sem L (.fld rB l a b) (ro (c0+c)<|EC l w v):=(nV rfl).val (mm:=x0) (f:=EC l) rfl (λw v u g1 g2 e=>by
  cases v with
  |rc fs=>
   have e:(if aK fs l=aD then aA (Wo.rc<|eD fs l w) else aD)=aA u:=e;split at e
   .cases e;exact⟨N5 g2 hl g1,by have:=Jf l w fs;show 1+eR _<=1+ps w+(1+eR fs);lia⟩
   .cases e
  |int n=>cases e
  |one l w=>cases e
  |fn x d G=>cases e) (λw v p q m env g1 g2=>by
  cases v with
  |int n=>exact .inr ⟨rfl,λ_=>rfl⟩
  |one l w=>exact .inr ⟨rfl,λ_=>rfl⟩
  |fn x d G=>exact .inr ⟨rfl,λ_=>rfl⟩
  |rc fs=>
   have lk:=uU mv l fs;have sh:∀st:aF,x0 st [.tup [.str rB,.str l,p,q,m],env,.lst [mv w,mv<|.rc fs]]=if xS (aZ fs) (eK mv fs) (ky l)=aD then if (aZ fs).length<ae then y6 st [.tup [.str [114,101,99],.aI (jK (aZ fs) (eK mv fs) (ky l)<|mv w).1 (jK (aZ fs) (eK mv fs) (ky l)<|mv w).2]] else aD else yC st [.tup [.str rB,.str l,p,q,m]]:=λst=>by rw[QA];rfl
   have el:EC l (er w) (er<|.rc fs)=if aK fs l=aD then aA (er<|.rc<|eD fs l w) else aD:=by
    show(if aK (iB fs) l=aD then aA (Wo.rc<|eD (iB fs) l<|er w) else aD)=_;rw[cA,YN,NW];cases aK fs l<;>rfl
   cases e:aK fs l with
   |none=>rw[e] at lk el;exact .inl ⟨.rc<|eD fs l w,el,λst=>by show x0 st [.tup [.str rB,.str l,p,q,m],env,.lst [mv w,mv<|.rc fs]]=_;rw[sh,if_pos (show xS _ _ _=aD by rw[lk];rfl),if_pos<|NQ hL g2,C9 mv g2.1,QA]⟩
   |some u=>rw[e] at lk el;exact .inr ⟨el,λst=>by show x0 st [.tup [.str rB,.str l,p,q,m],env,.lst [mv w,mv<|.rc fs]]=_;rw[sh,lk,if_neg<|by simp];rfl⟩) h0 h
def Ň(hL:L.length<=63)(hl:l∈L)(h0:Sem L a (.val c0 w))(h:Sem L b (.val c v)):Sem L (.fld lR l a b) (ro (c0+c)<|El l w v):=(nV rfl).val (mm:=wT) (f:=El l) rfl (λw v u g1 g2 e=>by
  cases v with
  |rc fs=>
   have e:(if aK fs l=aD then aD else aA<|Wo.rc<|eD fs l w)=aA u:=e;split at e
   .cases e
   .cases e;exact⟨N5 g2 hl g1,by have:=Jf l w fs;show 1+eR _<=1+ps w+(1+eR fs);lia⟩
  |int n=>cases e
  |one l w=>cases e
  |fn x d G=>cases e) (λw v p q m env g1 g2=>by
  cases v with
  |int n=>exact .inr ⟨rfl,λ_=>rfl⟩
  |one l w=>exact .inr ⟨rfl,λ_=>rfl⟩
  |fn x d G=>exact .inr ⟨rfl,λ_=>rfl⟩
  |rc fs=>
   have lk:=uU mv l fs;have sh:∀st:aF,wT st [.tup [.str lR,.str l,p,q,m],env,.lst [mv w,mv<|.rc fs]]=if xS (aZ fs) (eK mv fs) (ky l)=aD then yC st [.tup [.str lR,.str l,p,q,m]] else if (aZ fs).length<ae then y6 st [.tup [.str [114,101,99],.aI (jK (aZ fs) (eK mv fs) (ky l)<|mv w).1 (jK (aZ fs) (eK mv fs) (ky l)<|mv w).2]] else aD:=λst=>by rw[QA];rfl
   have el:El l (er w) (er<|.rc fs)=if aK fs l=aD then aD else aA (er<|.rc<|eD fs l w):=by
    show(if aK (iB fs) l=aD then aD else aA<|Wo.rc<|eD (iB fs) l<|er w)=_;rw[cA,YN,NW];cases aK fs l<;>rfl
   cases e:aK fs l with
   |none=>rw[e] at lk el;exact .inr ⟨el,λst=>by show wT st [.tup [.str lR,.str l,p,q,m],env,.lst [mv w,mv<|.rc fs]]=_;rw[sh,if_pos (show xS _ _ _=aD by rw[lk];rfl)];rfl⟩
   |some u=>rw[e] at lk el;exact .inl ⟨.rc<|eD fs l w,el,λst=>by show wT st [.tup [.str lR,.str l,p,q,m],env,.lst [mv w,mv<|.rc fs]]=_;rw[sh,lk,if_neg<|by simp,if_pos<|NQ hL g2,C9 mv g2.1,QA]⟩) h0 h
def Ϙ(w:List Nat)(i j:Int):vM (wk w i j):=by
 unfold wk vM;have q:∀z:Int,0<=z % 1000000/\z % 1000000<1000000:=λz=>⟨jd _<|by decide,je _<|by decide⟩
 split
 .exact q _
 .split
  .exact q _
  .split
   .exact q _
   .split<;>decide
def ϛ(hw:ways W=aA yU)(hl:(wY AH W).getD []=[1,2])(h0:Sem L a (.val c0 w))(h:Sem L b (.val c v)):Sem L (.bin W a b) (ro (c0+c)<|JZ W w v):=(ZJ hl).val (mm:=yU) (f:=JZ W) hw (λw v u g1 g2 e=>by
  cases w with
  |int i=>cases v with
   |int j=>cases e;exact⟨Ϙ ..,by show 1<=_;lia⟩
   |one l w=>cases e
   |rc fs=>cases e
   |fn x d G=>cases e
  |one l w=>cases e
  |rc fs=>cases e
  |fn x d G=>cases e) (λw v p q m env g1 g2=>by
  cases w with
  |int i=>cases v with
   |int j=>exact .inl ⟨.int<|wk W i j,rfl,λst=>if_pos ⟨g1,g2⟩⟩
   |one l w=>exact .inr ⟨rfl,λ_=>rfl⟩
   |rc fs=>exact .inr ⟨rfl,λ_=>rfl⟩
   |fn x d G=>exact .inr ⟨rfl,λ_=>rfl⟩
  |one l w=>cases v<;>exact .inr ⟨rfl,λ_=>rfl⟩
  |rc fs=>cases v<;>exact .inr ⟨rfl,λ_=>rfl⟩
  |fn x d G=>cases v<;>exact .inr ⟨rfl,λ_=>rfl⟩) h0 h
noncomputable def DO:List Nat:=[100,111]
noncomputable def EG:Wo->Bool
 |.fn _ _ _=>true
 |_=>false
def Vj(hn:EG w=false)(h0:Sem L a (.val c0 w))(h:Sem L b (.val c v)):Sem L (.bin DO a b) (.aO (c0+c) 0):=by
 have n1:nd (.bin DO a b)=1+nd a+nd b:=rfl;obtain⟨a1,a2,a3,a4⟩:=h0;obtain⟨b1,b2,b3,b4⟩:=h;refine⟨by lia,λdf N i G g=>?_⟩;obtain⟨T0,w',LM,ew,r0⟩:=a4 df N (i+1) G (g.le<|by lia);obtain⟨T,v',hT,AY,r⟩:=b4 df N (i+1+(nd a:Int)) G (g.le<|by lia);refine⟨T0+(T+1)+1,by lia,d9 (i:=1) (j:=2) (c3:=0) rfl rfl rfl r0 r ?_⟩;rw[show i+((0:Nat):Int)=i by lia];refine rV (l:=[1,2]) (mm:=jW) (r0:=[_,_,_]) rfl rfl (by decide) rfl (λst=>?_) rfl;cases w' with
 |int n=>rfl
 |one l w=>rfl
 |rc fs=>rfl
 |fn x d G=>subst ew;cases hn
noncomputable def Dc(o c0:Nat):Rz->Rz
 |.val c w=>.val (c0+c) w
 |.aO c k=>.aO (c0+c)<|o+k
def Vi(hb:Sem L e z)(h:Sem L b (.val c v)):Sem L (.bin DO (.lab FN x e) b) (Dc 2 (c+1) z):=by
 have n1:nd (.bin DO (.lab FN x e) b)=1+(1+nd e)+nd b:=rfl;obtain⟨b1,b2,b3,b4⟩:=h;have key:∀(df N:D) (i:Int) (G:Fs D),lU G (nd<|.bin DO (.lab FN x e) b)->∃T v',T<=3*nd b/\∀(E:Rt) (cb T3:Nat),Tr df [eP (b_ N e<|i+1+1) (ev<|eD G x<|mv v') false] [] cb E T3->Tr df [eP (b_ N (.bin DO (.lab FN x e) b) i) (ev G) false] [] (c+1+cb) E (2+(T+(T3+1))+1):=λdf N i G g=>by
  obtain⟨T,v',hT,AY,r⟩:=b4 df N (i+1+((1+nd e:Nat):Int)) G (g.le<|by lia);refine⟨T,v',hT,λE cb T3 t=>?_⟩;rw[show c+1+cb=0+(c+(cb+1)) by lia];refine d9 (i:=1) (j:=2) (u:=mv<|.fn x (b_ N e<|i+1+1) G) rfl rfl rfl (W7 rfl<|rF (l:=[]) (mm:=jV) rfl rfl (by decide) rfl λ_=>rfl) r ?_;refine IE (l:=[1,2]) (mm:=jW) (e':=b_ N e<|i+1+1) (env':=ev<|eD G x<|mv v') rfl rfl (by decide) rfl (λmo s0 w cm hw=>?_) t;show(if (aZ G).length<ae then (qU _ []).bind _ else aD)=_;rw[if_pos g.lt];unfold qU;show aaj (if mo<=s0 then _ else _) _=_;by_cases z:mo<=s0
  .rw[if_pos z,if_pos z];rfl
  .rw[if_neg z,if_neg z,aa];show yM _ [_,.aI (jK (aZ G) (eK id G) (ky x)<|id<|mv v').1 (jK (aZ G) (eK id G) (ky x)<|id<|mv v').2]=_;rw[C9 id g.EW];rfl
 cases z with
 |val cb wb=>
  obtain⟨e1,e2,e3,e4⟩:=hb;refine⟨e1,by lia,by lia,λdf N i G g=>?_⟩;obtain⟨T,v',hT,k⟩:=key df N i G g;obtain⟨T3,w3,LL,ew,t⟩:=e4 df N (i+1+1) (eD G x<|mv v')<|g.put (by rw[n1];lia);exact⟨_,w3,by rw[n1];lia,ew,k _ cb T3 t⟩
 |aO cb kb=>
  refine⟨by have:=hb.1;lia,λdf N i G g=>?_⟩;obtain⟨T,v',hT,k⟩:=key df N i G g;obtain⟨T3,LL,t⟩:=hb.2 df N (i+1+1) (eD G x<|mv v')<|g.put (by rw[n1];lia);rw[show i+1+1+(kb:Int)=i+((2+kb:Nat):Int) by lia] at t;exact⟨_,by rw[n1];lia,k _ cb T3 t⟩
section
variable{Z a b:Ex}{W:List Nat}{mm:aF->List D->Option (D×aF)}{R:D->Int->List D}
def Oi(hn:1+nd a<=nd Z)(hl:(wY AH W).getD []=[1])(em:∀N i,b_ N Z i=.tup (.str W::R N i))(ex:∀N i,aL (.tup (.str W::R N i)) (.int 1)=aA (b_ N a<|i+1))(h:Sem L a (.aO c k)):Sem L Z (.aO c<|k+1):=⟨by have:=h.1;lia,λdf N i G g=>by
 obtain⟨T,hT,t⟩:=h.2 df N (i+1) G (g.le<|by lia);rw[show i+1+(k:Int)=i+((k+1:Nat):Int) by lia] at t;rw[em];exact⟨T+1,by lia,oR hl (ex N i) t⟩⟩
def C4(hn:1+nd a<=nd Z)(hl:(wY AH W).getD []=[1])(hm:ways W=aA mm)(em:∀N i,b_ N Z i=.tup (.str W::R N i))(ex:∀N i,aL (.tup (.str W::R N i)) (.int 1)=aA (b_ N a<|i+1))(Bj:∀N i,∃r0,.str W::R N i=r0++[.tup [N,.int i]])(h:Sem L a (.val c w))(go:∀N i w' (G:Fs D) (st:aF),er w'=w->mm st [.tup (.str W::R N i),ev G,.lst [mv w']]=yC st [.tup (.str W::R N i)]):Sem L Z (.aO c 0):=⟨by have:=h.2.2.1;lia,λdf N i G g=>by
 obtain⟨T,w',hT,ew,t⟩:=h.2.2.2 df N (i+1) G (g.le<|by lia);obtain⟨r0,e0⟩:=Bj N i;rw[em,show i+((0:Nat):Int)=i by lia];exact⟨T+1+1,by lia,uN (c2:=0) hl (ex N i) t<|rV (l:=[1]) hl rfl (by decide) hm (λst=>go N i w' G st ew) e0⟩⟩
def JL{o:Nat}(hn:1+nd a+nd b<=nd Z)(hl:(wY AH W).getD []=[1])(hm:ways W=aA mm)(em:∀N i,b_ N Z i=.tup (.str W::R N i))(ex:∀N i,aL (.tup (.str W::R N i)) (.int 1)=aA (b_ N a<|i+1))(h:Sem L a (.val c0 w))(hb:Sem L b z)(go:∀N i w' (G:Fs D),er w'=w->lU G (nd Z)->∃G',lU G' (nd b)/\∀st:aF,mm st [.tup (.str W::R N i),ev G,.lst [mv w']]=yM st [b_ N b<|i+(o:Int),ev G']):Sem L Z (Dc o c0 z):=by
 obtain⟨a1,a2,a3,a4⟩:=h;cases z with
 |val cb wb=>
  obtain⟨e1,e2,e3,e4⟩:=hb;refine⟨e1,by lia,by lia,λdf N i G g=>?_⟩;obtain⟨T,w',hT,ew,t⟩:=a4 df N (i+1) G (g.le<|by lia);obtain⟨G',g',k⟩:=go N i w' G ew g;obtain⟨T3,w3,LL,ew3,t3⟩:=e4 df N (i+(o:Int)) G' g';rw[em];exact⟨T+(T3+1)+1,w3,by lia,ew3,uN hl (ex N i) t<|Oh (l:=[1]) hl rfl (by decide) hm k t3⟩
 |aO cb kb=>
  refine⟨by have:=hb.1;lia,λdf N i G g=>?_⟩;obtain⟨T,w',hT,ew,t⟩:=a4 df N (i+1) G (g.le<|by lia);obtain⟨G',g',k⟩:=go N i w' G ew g;obtain⟨T3,LL,t3⟩:=hb.2 df N (i+(o:Int)) G' g';rw[show i+(o:Int)+(kb:Int)=i+((o+kb:Nat):Int) by lia] at t3;rw[em];exact⟨T+(T3+1)+1,by lia,uN hl (ex N i) t<|Oh (l:=[1]) hl rfl (by decide) hm k t3⟩
end
end
def O3(l:List (List Nat)):∃m,m.Perm l/\rH m:=by
 let le:List Nat->List Nat->Bool:=λa b=>decide (¬b<a)
 refine⟨l.mergeSort le,List.mergeSort_perm l le,?_⟩;refine(List.pairwise_mergeSort (le:=le) (λa b c h1 h2=>?_) (λa b=>?_) l).imp λh=>of_decide_eq_true h
 .exact decide_eq_true<|List.le_trans (l₁:=a) (l₂:=b) (of_decide_eq_true h1)<|of_decide_eq_true h2
 .rw[Bool.or_eq_true];rcases List.le_total a b with h|h
  .exact .inl<|decide_eq_true h
  .exact .inr<|decide_eq_true h
def nY(l:List (List Nat)):rH (kS l):=by
 unfold kS;rw[dif_pos<|O3 l];exact(O3 l).choose_spec.2
def WG(p:l.Perm m):kS l=kS m:=ZV ((jP l).trans p)<|nY l
def rW(p:List Nat->Bool)(l:List (List Nat)):kS (l.filter p)=(kS l).filter p:=(ZV ((jP l).filter p)<|List.Pairwise.filter p<|nY l).symm
def fA(g:Fs D):Fs D:=(kS<|aN g).filterMap λs=>(aK g s).map λv=>(s,v)
noncomputable def pD(p:List Nat×D):D:=.tup [.str p.1,p.2]
def Ð(g:Fs D):lW g=(fA g).map pD:=by
 unfold lW fA;rw[List.map_filterMap]
 congr 1
 funext s
 cases aK g s<;>rfl
section
variable{g g':Fs D}
theorem NZ:∀ss:List (List Nat),(∀s∈ss,s∈aN g)->aN (ss.filterMap λs=>(aK g s).map λv=>(s,v))=ss
 |[],_=>rfl
 |s::ss,h=>by
  obtain⟨v,e⟩:=uV (h s<|by simp);rw[cq,e];show s::aN _=_;rw[NZ ss λt ht=>h t<|by simp[ht]]
theorem NY(t:List Nat):∀ss:List (List Nat),aK (ss.filterMap λs=>(aK g s).map λv=>(s,v)) t=if t∈ss then aK g t else aD
 |[]=>rfl
 |s::ss=>by
  have ih:=NY t ss;cases e:aK g s with
  |none=>
   rw[cq,e];show aK (ss.filterMap _) t=_;rw[ih];by_cases z:t=s
   .subst z;rw[e];simp
   .simp[z]
  |some v=>
   rw[cq,e];show(if s=t then aA v else aK (ss.filterMap _) t)=_;rw[ih];by_cases z:s=t
   .subst z;rw[if_pos rfl,e];simp
   .rw[if_neg z];simp[ki z]
def oI(g:Fs D):aN (fA g)=kS (aN g):=NZ _ v7
def Kd(g:Fs D)(t:List Nat):aK (fA g) t=aK g t:=by
 unfold fA;rw[NY];by_cases h:t∈kS (aN g)
 .rw[if_pos h]
 .rw[if_neg h,KS.mpr λz=>h<|(jP _).mem_iff.mpr z]
def Z8(h:(aN g).Nodup):(aN<|fA g).Nodup:=by rw[oI];exact(jP _).nodup_iff.mpr h
def WP(p:(aN g).Perm (aN g'))(h:∀s,aK g s=aK g' s):fA g=fA g':=by
 unfold fA;rw[WG p]
 congr 1
 funext s
 rw[h]
theorem Gr(s:List Nat):∀g:Fs D,aN (eT g s)=(aN g).filter (·≠s)
 |[]=>rfl
 |p::g=>by
  show aN (if p.1=s then eT g s else p::eT g s)=(p.1::aN g).filter _;by_cases z:p.1=s
  .rw[if_pos z,Gr s g,ji<|by simpa using z]
  .rw[if_neg z,jh<|by simpa using z,<-Gr s g];rfl
theorem IW(s t:List Nat):∀g:Fs D,aK (eT g s) t=if t=s then aD else aK g t
 |[]=>by show aD=if t=s then aD else aD;split<;>rfl
 |p::g=>by
  have ih:=IW s t g;show aK (if p.1=s then eT g s else p::eT g s) t=if t=s then aD else if p.1=t then aA p.2 else aK g t
  by_cases z:p.1=s
  .rw[if_pos z,ih];by_cases y:t=s
   .rw[if_pos y,if_pos y]
   .rw[if_neg y,if_neg y,if_neg λq:p.1=t=>y<|q.symm.trans z]
  .rw[if_neg z];show(if p.1=t then aA p.2 else aK (eT g s) t)=_;rw[ih];by_cases y:p.1=t
   .rw[if_pos y,if_pos y,if_neg λq=>z<|y.trans q]
   .rw[if_neg y,if_neg y]
theorem NK(s t:List Nat)(v:D):∀g:Fs D,aK (eD g s v) t=if t=s then aA v else aK g t
 |[]=>by
  show(if s=t then aA v else aD)=if t=s then aA v else aD
  by_cases z:t=s
  .rw[if_pos z,if_pos z.symm]
  .rw[if_neg z,if_neg<|ki z]
 |p::g=>by
  have ih:=NK s t v g;show aK (if p.1=s then (s,v)::g else p::eD g s v) t=if t=s then aA v else if p.1=t then aA p.2 else aK g t
  by_cases z:p.1=s
  .rw[if_pos z];show(if s=t then aA v else aK g t)=_;by_cases y:t=s
   .rw[if_pos y,if_pos y.symm]
   .rw[if_neg y,if_neg<|ki y,if_neg λq:p.1=t=>y<|q.symm.trans z]
  .rw[if_neg z];show(if p.1=t then aA p.2 else aK (eD g s v) t)=_;rw[ih];by_cases y:p.1=t
   .rw[if_pos y,if_pos y,if_neg λq=>z<|y.trans q]
   .rw[if_neg y,if_neg y]
def OT(s:List Nat)(g:Fs D):fA (eT g s)=(fA g).filter λp=>p.1≠s:=by
 have key:∀ss:List (List Nat),(ss.filter (·≠s)).filterMap (λt=>(aK (eT g s) t).map λv=>(t,v))=(ss.filterMap λt=>(aK g t).map λv=>(t,v)).filter λp=>p.1≠s:=λss=>by
  induction ss with
  |nil=>rfl
  |cons t ss ih=>
   by_cases z:t=s
   .rw[ji<|by simpa using z,ih,cq];cases aK g t with
    |none=>rfl
    |some v=>show _=((t,v)::_).filter _;rw[ji<|by simpa using z]
   .rw[jh<|by simpa using z,cq,cq,IW,if_neg z];cases aK g t with
    |none=>exact ih
    |some v=>show(t,v)::_=((t,v)::_).filter _;rw[jh<|by simpa using z,ih]
 show(kS<|aN<|eT g s).filterMap _=((kS<|aN g).filterMap _).filter _;rw[Gr,rW];exact key _
def Î(s:List Nat)(v:D)(hn:(aN g).Nodup):fA ((fA g).filter (λp=>p.1≠s)++[(s,v)])=fA (eD g s v):=by
 rw[<-OT];have l1:∀t,aK (fA (eT g s)++[(s,v)]) t=aK (eD g s v) t:=λt=>by
  have ap:∀(a b:Fs D),aK (a++b) t=(aK a t).or (aK b t):=λa b=>by
   induction a with
   |nil=>rfl
   |cons p a ih=>
    show(if p.1=t then aA p.2 else aK (a++b) t)=(if p.1=t then aA p.2 else aK a t).or _;by_cases z:p.1=t
    .rw[if_pos z,if_pos z];rfl
    .rw[if_neg z,if_neg z,ih]
  rw[ap,Kd,IW,NK];by_cases z:t=s
  .rw[if_pos z,if_pos z];show(if s=t then aA v else aD)=_;rw[if_pos z.symm]
  .rw[if_neg z,if_neg z];show(aK g t).or (if s=t then aA v else aD)=_;rw[if_neg<|ki z];cases aK g t<;>rfl
 refine WP ?_ l1;have e1:aN (fA (eT g s)++[(s,v)])=kS ((aN g).filter (·≠s))++[s]:=by
  unfold aN;rw[jb];show aN (fA<|eT g s)++[s]=_;rw[oI,Gr];rfl
 rw[e1,EK];refine((jP _).append_right _).trans ?_;by_cases z:s∈aN g
 .rw[if_pos z];refine List.perm_append_comm.trans ?_;show(s::(aN g).filter (·≠s)).Perm (aN g)
  have:=List.perm_cons_erase z
  rw[List.Nodup.erase_eq_filter hn] at this;refine(List.Perm.trans this<|List.Perm.of_eq ?_).symm
  congr 1
  refine List.filter_congr λa _=>?_
  by_cases q:a=s<;>simp[q]
 .rw[if_neg z];refine List.Perm.append_right _<|List.Perm.of_eq<|List.filter_eq_self.mpr λa ha=>?_;simp;exact λe=>z<|e ▸ ha
end
structure Av(s:List Nat):Prop where
 len:s.length<=9
 ch:∀x∈s,x<1114112
def Av.ok(h:Av s):wj ⟨s.toArray⟩=true:=by
 unfold wj;simp;exact h.ch
structure Ly(d:D)(n:Nat):Prop where
 ok:AO d=true
 cl:(fI d).canLay0=true
 dp:(fI d).depth<=n
structure A5(l:List D)(n:Nat):Prop where
 ok:Cf l=true
 cl:PyData.canLayAll0 (Bv l)=true
 dp:PyData.depthAll (Bv l)<=n
def jU:A5 [] n:=⟨rfl,rfl,fg _⟩
def wJ(h:Ly d m)(hl:A5 l n)(hm:m<=n):A5 (d::l) n:=by
 refine⟨?_,?_,?_⟩
 .show(AO d && Cf l)=true;rw[h.ok,hl.ok];rfl
 .show((fI d).canLay0 && PyData.canLayAll0 (Bv l))=true;rw[h.cl,hl.cl];rfl
 .show max (fI d).depth (PyData.depthAll<|Bv l)<=n;have:=h.dp;have:=hl.dp;lia
def b7(h:A5 l n):Ly (.tup l) (n+1):=⟨h.ok,h.cl,su h.dp⟩
def OD(h:A5 l n):Ly (.lst l) (n+1):=⟨h.ok,h.cl,su h.dp⟩
def Xn(i:Int):Ly (.int i) n:=⟨rfl,rfl,fg _⟩
def Nz(b:Bool):Ly (.bl b) n:=⟨rfl,rfl,fg _⟩
def b8(h:wj ⟨s.toArray⟩=true):Ly (.str s) n:=⟨rfl,h,fg _⟩
theorem Ly.n{d:D}{n:Nat}(h:Ly d n)(hn:n<=400):AC 400 d=true:=by
 unfold AC;rw[h.ok,h.cl,decide_eq_true<|cg h.dp hn];rfl
def Ly.le{d:D}{a b:Nat}(h:Ly d a)(hn:a<=b):Ly d b:=⟨h.ok,h.cl,cg h.dp hn⟩
theorem YM:∀{l:List D},(∀d∈l,Ly d n)->A5 l n
 |[],_=>jU
 |d::l,h=>wJ (h d<|by simp) (YM λe he=>h e<|by simp[he])<|ah _
def Hg(s:List Nat)(h:s.length<=9/\∀x∈s,x<1114112:=by decide):wj ⟨s.toArray⟩=true:=Av.ok ⟨h.1,h.2⟩
structure Lb(L:List (List Nat)):Prop where
 len:L.length<=63
 Dh:∀s∈L,Av s
def OU{g:Fs D}(h:d∈lW g):∃s v,d=.tup [.str s,v]/\s∈aN g/\(s,v)∈g:=by
 obtain⟨s,hs,e⟩:=vo.mp h;obtain⟨v,ev⟩:=uV<|v7 s hs;rw[ev] at e;cases e;exact⟨s,v,rfl,v7 s hs,Jv ev⟩
mutual
theorem EH{L:List (List Nat)}(hL:Lb L):∀w:Wo,gw L w->Ly (du w) (3*ps w)
 |.int n,_=>Xn n
 |.one l w,h=>by
  have:=EH hL w h.2
  exact(b7 (n:=3*ps w)<|wJ (b8<|Hg [111,110,101]) (wJ (b8 (hL.Dh l h.1).ok) (wJ this jU<|ah _)<|ah _)<|ah _).le (by show _<=3*(1+ps w);lia)
 |.fn x d G,_=>(b7 (n:=0)<|wJ (b8<|Hg [102,110]) jU<|ah _).le (by show 1<=3*1;lia)
 |.rc fs,h=>by
  have hd:=OC hL fs h.2.2;refine(b7 (n:=3*eR fs+2)<|wJ (b8<|Hg [114,101,99]) (wJ (b7 (n:=3*eR fs+1)<|YM λd hm=>?_) jU<|ah _)<|ah _).le (by show _<=3*(1+eR fs);lia);obtain⟨s,v,rfl,h1,h2⟩:=OU hm;have hs:s∈aN fs:=by rw[Q1,mR] at h1;exact h1
  exact b7 (n:=3*eR fs)<|wJ (b8 (hL.Dh s<|h.2.1 s hs).ok) (wJ (hd _ h2) jU<|ah _)<|ah _
theorem OC{L:List (List Nat)}(hL:Lb L):∀fs:List (List Nat×Wo),sR L fs->∀p∈i9 fs,Ly p.2 (3*eR fs)
 |[],_=>λp hp=>by cases hp
 |(s,w)::fs,h=>λp hp=>by
  have h1:=EH hL w h.1;have h2:=OC hL fs h.2;rcases bq.mp (show p∈(s,du w)::i9 fs from hp) with e|e
  .rw[e];exact h1.le (by show 3*ps w<=3*(ps w+eR fs);lia)
  .exact(h2 p e).le (by show 3*eR fs<=3*(ps w+eR fs);lia)
end
def PF(ha:Av a)(hb:Av b):neN 400 (.str a) (.str b)=aA (.bl<|decide (a≠b)):=by
 unfold neN;rw[if_pos ⟨(b8 (n:=0) ha.ok).n<|by decide,(b8 (n:=0) hb.ok).n<|by decide⟩];show aA (D.bl<|!((⟨a.toArray⟩:Str) == ⟨b.toArray⟩))=_
 congr 2
 by_cases z:a=b
 .subst z;simp
 .have:(⟨a.toArray⟩:Str)≠⟨b.toArray⟩:=λe=>z (by have:=congrArg (λx:Str=>x.cps.toList) e;simpa using this)
  simp[z,this]
def Vs(a b:Bool):neN 400 (.bl a) (.bl b)=aA (.bl<|a != b):=by
 unfold neN;rw[if_pos ⟨(Nz (n:=0) a).n<|by decide,(Nz (n:=0) b).n<|by decide⟩];cases a<;>cases b<;>rfl
def Yc(h:A5 l n)(hn:n+1<=400):AZ 400 (.lst l) (.lst [])=aA (.bl l.isEmpty):=by
 unfold AZ;rw[if_pos ⟨(OD h).n hn,(OD (n:=0) jU).n<|by decide⟩];cases l<;>rfl
def Ě(h:A5 l n)(hn:n+1<=400):neN 400 (.tup l) (.tup [])=aA (.bl<|!l.isEmpty):=by
 unfold neN;rw[if_pos ⟨(b7 h).n hn,(b7 (n:=0) jU).n<|by decide⟩];cases l<;>rfl
noncomputable def f8:List Nat:=[110,117,109]
noncomputable def fT:List Nat:=[111,110,101]
noncomputable def fJ:List Nat:=[114,101,99]
def uJ:Wo->List Nat
 |.int _=>f8
 |.one _ _=>fT
 |.rc _=>fJ
 |.fn _ _ _=>FN
def Ϝ:∀w:Wo,∃as,y0 [.v<|du w]=aA (.v<|.str<|uJ w,as)
 |.int _=>⟨_,rfl⟩
 |.one _ _=>⟨_,rfl⟩
 |.rc _=>⟨_,rfl⟩
 |.fn _ _ _=>⟨_,rfl⟩
theorem P9(l:List Nat):∀(ps:Fs D) (s:Sl),eM s->kQ (yI 1) Mn e_ (ps.map pD) [.v<|.str l,s]=aA ((ps.filter λp=>p.1=l).map (·.2))
 |[],_,_=>rfl
 |p::ps,s,hs=>by
  have ih:=P9 l ps (.v<|pD p) trivial;rw[au];unfold kQ;rw[show yI 1 (pD p) [.v<|.str l,s]=aA [.v<|.str l,.v<|pD p] from zY (i:=1) (x:=s) rfl hs,aa,show Mn [.v<|.str l,.v<|pD p]=aA (decide (p.1=l)) from rfl,aa];by_cases z:p.1=l
  .rw[decide_eq_true z,if_pos rfl,jh<|by simpa using z];show((aA p.2).bind _)=_;rw[aa,ih];rfl
  .rw[decide_eq_false z,if_neg<|by decide,ji<|by simpa using z,ih]
theorem Ot:∀{ps:Fs D},(aN ps).Nodup->(ps.filter λp=>p.1=l).map (·.2)=(aK ps l).toList
 |[],_=>rfl
 |p::ps,h=>by
  have h':(p.1::aN ps).Nodup:=h;rw[dm] at h';show _=(if p.1=l then aA p.2 else aK ps l).toList;by_cases z:p.1=l
  .have:ps.filter (λp=>p.1=l)=[]:=List.filter_eq_nil_iff.mpr λq hq=>by
    simp;exact λe=>h'.1 (by rw[z,<-e];exact gh.mpr ⟨q,hq,rfl⟩)
   rw[jh<|by simpa using z,this,if_pos z];rfl
  .rw[ji<|by simpa using z,if_neg z,Ot h'.2]
section
variable{L:List (List Nat)}{fs:Fs Wo}{l:List Nat}
def Eu(fs:Fs Wo):du (.rc fs)=.tup [.str fJ,.tup<|(fA<|mF du fs).map pD]:=by show D.tup [_,.tup<|lW<|i9 fs]=_;rw[Ð,Q1];rfl
def Ï(hL:Lb L)(h:gw L (.rc fs)):(fA<|mF du fs).length<=63:=by
 have e:=congrArg jg<|oI<|mF du fs;rw[qL,mR] at e;unfold aN at e;rw[ag,ag] at e;rw[e];exact cg (oC h) hL.len
def NL(hL:Lb L)(h:gw L (.rc fs)):((fA<|mF du fs).map pD).length<ae:=by rw[ag];exact wB (by have:=Ï hL h;lia)
def Ŷ(hL:Lb L)(h:gw L (.rc fs))(l:List Nat):∃as,wA [.v<|du<|.rc fs,.v<|.str l]=aA (.v<|.lst ((aK fs l).map du).toList,as):=by
 rw[Eu]
 let W:D:=.tup [.str fJ,.tup<|(fA<|mF du fs).map pD]
 refine wF (r':=[.v W,.v<|.str l]) ?_;show qI [.v W,.v<|.str l]=_;unfold qI;refine yG ?_;unfold xQ xW;rw[show eG fG [.v W,.v<|.str l]=aA ((fA<|mF du fs).map pD) from rfl,aa,if_pos<|NL hL h,show ZE [1] 2 [.v W,.v<|.str l]=[.v<|.str l,.un] from rfl,P9 _ _ .un trivial,Ot<|Z8 (by rw[mR];exact h.1),Kd,YN];rfl
theorem oB(hl:Av l):∀(ps:Fs D) (s:Sl),eM s->(∀p∈ps,Av p.1)->kQ (yI 1) Ia (zD 1) (ps.map pD) [.v<|.str l,s]=aA ((ps.filter λp=>p.1≠l).map pD)
 |[],_,_,_=>rfl
 |p::ps,s,hs,h=>by
  have ih:=oB hl ps (.v<|pD p) trivial λq hq=>h q (by simp[hq])
  rw[au];unfold kQ;have c:Ia [.v<|.str l,.v<|pD p]=aA (decide (p.1≠l)):=wN<|zO (x:=.str p.1) (y:=.str l) rfl rfl<|PF (h p<|by simp) hl;rw[show yI 1 (pD p) [.v<|.str l,s]=aA [.v<|.str l,.v<|pD p] from zY (i:=1) (x:=s) rfl hs,aa,c,aa];by_cases z:p.1≠l
  .rw[decide_eq_true z,if_pos rfl,jh<|by simpa using z];show((aA<|pD p).bind _)=_;rw[aa,ih];rfl
  .rw[decide_eq_false z,if_neg<|by decide,ji<|by simpa using z,ih]
def OV(hL:Lb L)(h:gw L (.rc fs)):∀p∈fA (mF du fs),Av p.1:=λp hp=>by
 have:p.1∈aN (fA<|mF du fs):=gh.mpr ⟨p,hp,rfl⟩
 rw[oI,mR] at this;exact hL.Dh _<|h.2.1 _<|v7 _ this
theorem m8:∀F:Fs D,oP (F.map pD)=aA (F.map λq=>(ky q.1,q.2))
 |[]=>rfl
 |p::F=>by
  have ih:=m8 F;show(oP (pD p::F.map pD))=_;unfold oP;rw[ih];rfl
theorem Y3:∀(q:List (Key×D)) (ks:List Key) (l:List D),(∀p∈q,p.1∉ks)->(q.map (·.1)).Nodup->q.foldl (λz p=>jK z.1 z.2 p.1 p.2) (ks,l)=(ks++q.map (·.1),l++q.map (·.2))
 |[],ks,l,h,hn=>by simp
 |p::q,ks,l,h,hn=>by
  have e:jK ks l p.1 p.2=(ks++[p.1],l++[p.2]):=by
   unfold jK;rw[if_neg];intro z;obtain⟨j,h1,h2⟩:=List.any_eq_true.mp z;exact h p (by simp)<|of_decide_eq_true h2 ▸ h1
  rw[au,dm] at hn;rw[kn,e,Y3 q _ _ (λp' hp hm=>by
   rcases ja.mp hm with z|z
   .exact h p' (by simp[hp]) z
   .have z':p'.1=p.1:=by simpa using z
    exact hn.1<|z' ▸ gh.mpr ⟨p',hp,rfl⟩) hn.2]
  simp
theorem nA:∀{l:List (List Nat)},l.Nodup->(l.map ky).Nodup
 |[],_=>ri
 |a::l,h=>by
  rw[dm] at h;rw[au,dm];refine⟨λz=>?_,nA h.2⟩;obtain⟨b,h1,h2⟩:=gh.mp z;exact h.1<|pF h2 ▸ h1
def gS(F:Fs D)(hn:(aN F).Nodup):QY (F.map λq=>(ky q.1,q.2))=(aZ F,eK id F):=by
 unfold QY;have ek:(F.map λq=>(ky q.1,q.2)).map (·.1)=aZ F:=by rw[jx];rfl
 have el:(F.map λq=>(ky q.1,q.2)).map (·.2)=eK id F:=by rw[jx];rfl
 rw[Y3 _ _ _ (λ_ _ z=>by cases z) (by rw[ek,Gs];exact nA hn),ek,el];rfl
def Ĉ(P:Fs D)(hn:(aN P).Nodup)(hl:P.length<=62)(hs:l∉aN P)(v:D):∃as,jJ [.v<|.lst<|P.map pD,.v<|.str l,.v v]=aA (.v<|.tup [.str fJ,.tup<|(fA<|P++[(l,v)]).map pD],as):=by
 let F:Fs D:=P++[(l,v)]
 have eF:eD P l v=F:=Kc hs;have hnF:(aN F).Nodup:=by rw[<-eF];exact m7 hn
 have lF:(aN F).length<=63:=by unfold aN;rw[ag];show(P++[(l,v)]).length<=63;rw[bc];show P.length+1<=63;lia
 let R:En:=[.v<|.lst<|P.map pD,.v<|.str l,.v v,.un]
 let Z:En:=[.v<|.lst<|P.map pD,.v<|.str l,.v v,.v<|ev F]
 refine wF (r':=Z) ?_;show qY R=_;unfold qY;have s1:mO 3 (o8<|AE<|zD 0) R=aA (.nx [.v<|.lst<|P.map pD,.v<|.str l,.v v,.d false (aZ P)<|eK id P]):=by
  unfold mO o8;rw[show AE (zD 0) R=aA (P.map pD) from rfl,aa,m8];show((aA<|QY<|P.map λq=>(ky q.1,q.2)).bind _)=_;rw[gS P hn];rfl
 rw[yB s1];have lt:(aZ P).length<ae:=wB (by unfold aZ;rw[ag];lia);have s2:mQ 3 (zD 1) (zD 2) [.v<|.lst<|P.map pD,.v<|.str l,.v v,.d false (aZ P)<|eK id P]=aA (.nx [.v<|.lst<|P.map pD,.v<|.str l,.v v,.d false (aZ F)<|eK id F]):=by
  have:=C9 id hn (s:=l) (v:=v)
  unfold mQ;show(if (aZ P).length<ae then aA (Fl.nx [.v<|.lst<|P.map pD,.v<|.str l,.v v,.d false (jK (aZ P) (eK id P) (ky l)<|id v).1 (jK (aZ P) (eK id P) (ky l)<|id v).2]) else aD)=_;rw[if_pos lt,this,eF]
 rw[yB s2];have it:eG (xQ<|cH<|uE<|zD 3) Z=aA ((kS<|aN F).map .str):=by
  have sd:cH (uE<|zD 3) Z=aA ((kS<|aN F).map .str):=ZW (l:=eK id F) (by rw[<-Gs];rfl) (by lia);unfold eG xQ;rw[sd];rfl
 have cm:=dQ (x:=MQ) (j:=1) (mk:=λs=>[.v<|ev F,s]) (g:=D.str) (y:=λs=>pD (s,(aK F s).getD .aE)) (λs d hs=>zY (i:=1) (x:=s) rfl hs) (kS<|aN F) .un trivial (λs hs=>by
  obtain⟨u,e⟩:=uV<|v7 s hs;have a:JS (uE<|zD 0) (zD 1) [.v<|ev F,.v<|.str s]=aA u:=by
   show xS (aZ F) (eK id F) (ky s)=_;rw[uU,e];rfl
  rw[e];exact wH (zB (x:=.str s) rfl<|zB a zQ) (by show 2<=100;decide))
 have q:(kS<|aN F).map (λs=>pD (s,(aK F s).getD .aE))=(fA F).map pD:=by
  unfold fA
  have:∀ss:List (List Nat),(∀s∈ss,s∈aN F)->ss.map (λs=>pD (s,(aK F s).getD .aE))=(ss.filterMap λs=>(aK F s).map λv=>(s,v)).map pD:=λss=>by
   induction ss with
   |nil=>intro _;rfl
   |cons s ss ih=>
    intro h;obtain⟨u,e⟩:=uV (h s<|by simp);rw[au,cq,e,ih λt ht=>h t<|by simp[ht]];rfl
  exact this _ v7
 have c1:xX [3] 2 (eG<|xQ<|cH<|uE<|zD 3) (yI 1) MQ Z=aA ((fA F).map pD):=by
  unfold xX xW;rw[it,aa,if_pos (by rw[ag,qL];exact wB<|by lia),show ZE [3] 2 Z=[.v<|ev F,.un] from rfl,cm,q]
 have lp:((fA F).map pD).length<=63:=by
  rw[<-q,ag,qL];exact lF
 show By 3 _ [.v<|.lst<|P.map pD,.v<|.str l,.v v,.d false (aZ F)<|eK id F]=_;unfold By;show xE _ Z=_;refine yG<|wH (zB zE<|zB (x:=.tup<|(fA F).map pD) ?_ zQ) (by show 2<=100;decide);unfold uS;rw[c1];rfl
end
def GJ{a b:MB}(h:a r=aA true):XT a b r=aA true:=by unfold XT;rw[h];rfl
def YB{a b:MB}(h:a r=aA false):XT a b r=b r:=by unfold XT;rw[h];rfl
def xM{a b:MB}(h:a r=aA true):y3 a b r=b r:=by unfold y3;rw[h];rfl
def j0{a b:MB}(h:a r=aA false):y3 a b r=aA false:=by unfold y3;rw[h];rfl
def oD:Option Wo->D
 |some w=>du w
 |none=>.aE
section
variable{L:List (List Nat)}{fs:Fs Wo}{l:List Nat}{w a:Wo}
def k8{f:ME}{r:En}(h:f r=aA (du w)):zP 1 y0 (zA f zM) r=aA (.str<|uJ w):=yN (p:=.v<|.str<|uJ w) (zB h zQ) rfl<|Ϝ w
def Y5(hL:Lb L)(h:gw L (.rc fs)){f g:ME}{r:En}(hf:f r=aA (du<|.rc fs))(hg:g r=aA (.str l)):zP 2 wA (zA f<|zA g zM) r=aA (.lst ((aK fs l).map du).toList):=yN (p:=.v<|.lst ((aK fs l).map du).toList) (zB hf<|zB hg zQ) rfl<|Ŷ hL h l
def ž(hL:Lb L)(h:gw L (.rc fs))(hp:ps (.rc fs)<=100):A5 ((aK fs l).map du).toList 300:=by
 cases e:aK fs l with
 |none=>exact jU
 |some v=>exact wJ ((EH hL v<|IX h e).le (by have:=Gv e;have:ps (.rc fs)=1+eR fs:=rfl;lia)) jU<|ah _
def isE(o:Option Wo):(o.map du).toList.isEmpty=o.isNone:=by cases o<;>rfl
def PH(hL:Lb L)(h:gw L (.rc fs))(hp:ps (.rc fs)<=100){f g:ME}{r:En}(hf:f r=aA (du<|.rc fs))(hg:g r=aA (.str l)):zK (AZ 400) (zP 2 wA<|zA f<|zA g zM) (xQ<|yL zM) r=aA (.bl (aK fs l).isNone):=zO (Y5 hL h hf hg) (show xQ (yL zM) r=aA (.lst []) from rfl) (by rw[Yc (ž hL h hp)<|by decide,isE])
noncomputable abbrev Rc(W l:List Nat)(vs:List D)(x:D)(y:Sl):En:=[.v<|.str W,.v<|.str l,.v<|.lst vs,.v x,y]
def Gj:MB:=XT Ux UA
def ß(hw:uJ w≠fJ):Gj (Rc W l vs (du w) y)=aA true:=by
 refine GJ<|wN<|zO (k8 (w:=w) rfl) zE ?_;show aA (D.bl<|!decide (uJ w=fJ))=_;rw[decide_eq_false hw];rfl
def XC(hL:Lb L)(h:gw L (.rc fs))(hp:ps (.rc fs)<=100):Gj (Rc W l vs (du<|.rc fs) y)=aA ((aK fs l).isNone != decide (W=rB)):=by
 unfold Gj;rw[YB<|wN (b:=false)<|zO (k8 (w:=.rc fs) rfl) zE rfl];exact wN<|zO (PH hL h hp rfl rfl) (show zK c_ (zD 0) FL (Rc W l vs (du<|.rc fs) y)=aA (.bl<|decide (W=rB)) from rfl)<|Vs ..
def JO:MS:=yA (aR Gj (xE<|mC .aE) zV)
 (yA (aR (aP<|zK c_ (zD 0) MI) (xE UD) zV)
 (yA (xB 4<|xQ<|xW [1] 2 (eG iP) (yI 1) Ia<|zD 1)
 (yA (aR Mm (xE MK) zV)
 (xE<|zP 3 jJ<|zA (zD 4)<|zA (zD 1)<|zA l8 zM))))
def jC(hw:uJ w≠fJ):JO (Rc W l vs (du w) .un)=aA (.rt .aE<|Rc W l vs (du w) .un):=xR (ß hw)<|yG zE
def u7(hL:Lb L)(h:gw L (.rc fs))(hp:ps (.rc fs)<=100)(hc:((aK fs l).isNone != decide (W=rB))=true):JO (Rc W l vs (du<|.rc fs) .un)=aA (.rt .aE<|Rc W l vs (du<|.rc fs) .un):=xR (by rw[XC hL h hp,hc])<|yG zE
def Ū(hL:Lb L)(h:gw L (.rc fs))(hp:ps (.rc fs)<=100)(e:aK fs l=aA a):JO (Rc l_ l vs (du<|.rc fs) .un)=aA (.rt (du a)<|Rc l_ l vs (du<|.rc fs) .un):=by
 have c:=XC (W:=l_) (vs:=vs) (y:=.un) (l:=l) hL h hp;rw[e] at c;refine yR c<|xR (by rfl)<|yG<|zO (Y5 hL h rfl rfl) zE ?_;rw[e];rfl
def qT(fs:Fs Wo)(l:List Nat):Fs D:=(fA<|mF du fs).filter λp=>p.1≠l
def pY(hL:Lb L)(hl:l∈L)(h:gw L (.rc fs))(hp:ps (.rc fs)<=100)(hW:W≠l_)(hc:((aK fs l).isNone != decide (W=rB))=false){z}(k:yA (aR Mm (xE MK) zV)
 (xE<|zP 3 jJ<|zA (zD 4)<|zA (zD 1)<|zA l8 zM) (Rc W l vs (du<|.rc fs)<|.v<|.lst<|(qT fs l).map pD)=z):JO (Rc W l vs (du<|.rc fs) .un)=z:=by
 have c:=XC (W:=W) (vs:=vs) (y:=.un) (l:=l) hL h hp;rw[hc] at c;refine yR c<|yR ?_<|zT (.lst<|(qT fs l).map pD) ?_ (by rfl) k
 .show aA (decide (W=l_))=_;rw[decide_eq_false hW]
 .unfold xQ xW;rw[show eG iP (Rc W l vs (du<|.rc fs) .un)=aA ((fA<|mF du fs).map pD) by rw[Eu];rfl,aa,if_pos<|NL hL h,show ZE [1] 2 (Rc W l vs (du<|.rc fs) .un)=[.v<|.str l,.un] from rfl,oB (hL.Dh l hl) _ .un trivial<|OV hL h];rfl
def JM(hL:Lb L)(hl:l∈L)(h:gw L (.rc fs))(hp:ps (.rc fs)<=100)(e:aK fs l=aA a):∃r',JO (Rc Ad l vs (du<|.rc fs) .un)=aA (.rt (du<|.rc<|eT fs l) r'):=by
 have q:D.tup [.str fJ,.tup<|(qT fs l).map pD]=du (.rc<|eT fs l):=by rw[Eu,Gq,OT];rfl
 rw[<-q];exact⟨_,pY hL hl h hp (by decide) (by rw[e];rfl)<|xR (by rfl)<|yG<|wH (zB zE<|zB (x:=.tup<|(qT fs l).map pD) rfl zQ) (by show 2<=100;decide)⟩
def θ(h:gw L (.rc fs)):(aN<|qT fs l).Nodup:=(Z8 (by rw[mR];exact h.1)).sublist<|List.Sublist.map _ List.filter_sublist
def ι:l∉aN (qT fs l):=λz=>by
 obtain⟨p,hp,e⟩:=gh.mp z
 have:=(xj.mp hp).2
 simp[e] at this
def η(hL:Lb L)(h:gw L (.rc fs))(h5:L.length<=60):(qT fs l).length<=62:=by
 have e:=congrArg jg<|oI<|mF du fs;rw[qL,mR] at e;unfold aN at e;rw[ag,ag] at e
 have:=oC h
 have:=aaf (λp:List Nat×D=>decide (p.1≠l))<|fA<|mF du fs
 unfold qT;lia
def XG(hL:Lb L)(h5:L.length<=60)(hl:l∈L)(h:gw L (.rc fs))(hp:ps (.rc fs)<=100)(hW:W=rB\/W=lR)(hc:((aK fs l).isNone != decide (W=rB))=false):∃r',JO (Rc W l [du a,du<|.rc fs] (du<|.rc fs) .un)=aA (.rt (du<|.rc<|eD fs l a) r'):=by
 obtain⟨as,e⟩:=Ĉ (qT fs l) (θ h) (η hL h h5) ι<|du a;have q:D.tup [.str fJ,.tup<|(fA<|qT fs l++[(l,du a)]).map pD]=du (.rc<|eD fs l a):=by
  rw[Eu,Je,<-Î l (du a) (by rw[mR];exact h.1)];rfl
 rw[q] at e;refine⟨_,pY hL hl h hp (by rcases hW with rfl|rfl<;>decide) hc<|yR (by rcases hW with rfl|rfl<;>rfl)<|yG<|yN (p:=.v<|du<|.rc<|eD fs l a) (zB rfl<|zB rfl<|zB rfl zQ) rfl ⟨as,e⟩⟩
end
section
variable{L:List (List Nat)}{fs:Fs Wo}{l:List Nat}{w a:Wo}
def JA{W:List Nat}{vs:List D}{x d:D}{y:List Nat}(hx:Us [.v<|.str W,.v<|.str l,.v<|.lst vs,.un,.un]=aA x)(hW:W=l_\/W=Ad\/W=rB\/W=lR)(h:∃r',JO (Rc W l vs x .un)=aA (.rt d r')):∃as,yJ [.v<|.str W,.v<|.str l,.v<|.lst vs]=aA (.v d,as):=by
 obtain⟨r',h⟩:=h;refine wF (r':=r') ?_;show yT [.v<|.str W,.v<|.str l,.v<|.lst vs,.un,.un]=_;unfold yT;refine zT x hx (by rfl)<|yR ?_<|xR ?_ h
 .rcases hW with rfl|rfl|rfl|rfl<;>rfl
 .rcases hW with rfl|rfl|rfl|rfl<;>rfl
def Û(hL:Lb L)(h:gw L w)(hp:ps w<=100):∃as,yJ [.v<|.str l_,.v<|.str l,.v<|.lst [du w]]=aA (.v<|oD<|F5 l w,as):=by
 refine JA (x:=du w) (y:=[]) rfl (.inl rfl) ?_;cases w with
 |int n=>exact⟨_,jC (w:=.int n) (by show f8≠fJ;decide)⟩
 |one k v=>exact⟨_,jC (w:=.one k v) (by show fT≠fJ;decide)⟩
 |fn x d G=>exact⟨_,jC (w:=.fn x d G) (by show FN≠fJ;decide)⟩
 |rc fs=>
  show ∃r',_=aA (Fl.rt (oD<|aK fs l) r');cases e:aK fs l with
  |none=>exact⟨_,u7 hL h hp (by rw[e];rfl)⟩
  |some v=>exact⟨_,Ū hL h hp e⟩
def Ŭ(hL:Lb L)(hl:l∈L)(h:gw L w)(hp:ps w<=100):∃as,yJ [.v<|.str Ad,.v<|.str l,.v<|.lst [du w]]=aA (.v<|oD<|Gu l w,as):=by
 refine JA (x:=du w) (y:=[]) rfl (.inr<|.inl rfl) ?_;cases w with
 |int n=>exact⟨_,jC (w:=.int n) (by show f8≠fJ;decide)⟩
 |one k v=>exact⟨_,jC (w:=.one k v) (by show fT≠fJ;decide)⟩
 |fn x d G=>exact⟨_,jC (w:=.fn x d G) (by show FN≠fJ;decide)⟩
 |rc fs=>
  show ∃r',_=aA (Fl.rt (oD (if aK fs l=aD then aD else aA<|.rc<|eT fs l)) r');cases e:aK fs l with
  |none=>rw[if_pos rfl];exact⟨_,u7 hL h hp (by rw[e];rfl)⟩
  |some v=>rw[if_neg<|by simp];exact JM hL hl h hp e
def Ů(hL:Lb L)(h5:L.length<=60)(hl:l∈L)(h:gw L w)(hp:ps w<=100):∃as,yJ [.v<|.str rB,.v<|.str l,.v<|.lst [du a,du w]]=aA (.v<|oD<|EC l a w,as):=by
 refine JA (x:=du w) (y:=[]) rfl (.inr<|.inr<|.inl rfl) ?_;cases w with
 |int n=>exact⟨_,jC (w:=.int n) (by show f8≠fJ;decide)⟩
 |one k v=>exact⟨_,jC (w:=.one k v) (by show fT≠fJ;decide)⟩
 |fn x d G=>exact⟨_,jC (w:=.fn x d G) (by show FN≠fJ;decide)⟩
 |rc fs=>
  show ∃r',_=aA (Fl.rt (oD (if aK fs l=aD then aA (.rc<|eD fs l a) else aD)) r');cases e:aK fs l with
  |none=>rw[if_pos rfl];exact XG hL h5 hl h hp (.inl rfl) (by rw[e];rfl)
  |some v=>rw[if_neg<|by simp];exact⟨_,u7 hL h hp (by rw[e];rfl)⟩
def Ý(hL:Lb L)(h5:L.length<=60)(hl:l∈L)(h:gw L w)(hp:ps w<=100):∃as,yJ [.v<|.str lR,.v<|.str l,.v<|.lst [du a,du w]]=aA (.v<|oD<|El l a w,as):=by
 refine JA (x:=du w) (y:=[]) rfl (.inr<|.inr<|.inr rfl) ?_;cases w with
 |int n=>exact⟨_,jC (w:=.int n) (by show f8≠fJ;decide)⟩
 |one k v=>exact⟨_,jC (w:=.one k v) (by show fT≠fJ;decide)⟩
 |fn x d G=>exact⟨_,jC (w:=.fn x d G) (by show FN≠fJ;decide)⟩
 |rc fs=>
  show ∃r',_=aA (Fl.rt (oD (if aK fs l=aD then aD else aA<|.rc<|eD fs l a)) r');cases e:aK fs l with
  |none=>rw[if_pos rfl];exact⟨_,u7 hL h hp (by rw[e];rfl)⟩
  |some v=>rw[if_neg<|by simp];exact XG hL h5 hl h hp (.inr rfl) (by rw[e];rfl)
def Þ:∃as,yJ [.v<|.str sC,.v<|.str l,.v<|.lst [du w]]=aA (.v<|du<|.one l w,as):=by
 refine wF (r':=Rc sC l [du w] (du w) .un) ?_;show yT [.v<|.str sC,.v<|.str l,.v<|.lst [du w],.un,.un]=_;unfold yT;exact zT (du w) (by rfl) (by rfl)<|xR (by rfl)<|yG rfl
def ŭ(hL:Lb L)(hl:l∈L)(h:gw L w):∃as,yJ [.v<|.str JU,.v<|.str l,.v<|.lst [du w]]=aA (.v<|oD<|Jj l w,as):=by
 refine wF (r':=Rc JU l [du w] (du w) .un) ?_;show yT [.v<|.str JU,.v<|.str l,.v<|.lst [du w],.un,.un]=_;unfold yT;refine zT (du w) (by rfl) (by rfl)<|yR (by rfl)<|yR (by rfl)<|xR (by rfl)<|yG ?_;have key:∀(b:Bool) {c:ME},c (Rc JU l [du w] (du w) .un)=aA (.bl b)->zK aL (xQ<|yL<|zA (mC .aE)<|zA (zD 3) zM) (aU bW c) (Rc JU l [du w] (du w) .un)=aA (if b then du w else .aE):=λb c hc=>by
  refine zO (x:=.lst [.aE,du w]) rfl (vL hc rfl) ?_;cases b<;>rfl
 have no:uJ w≠fT->dG FI Mo (Rc JU l [du w] (du w) .un)=aA (.bl false):=λhn=>by
  unfold dG;rw[show FI (Rc JU l [du w] (du w) .un)=aA (.bl<|decide (uJ w=fT)) from zO (k8 (w:=w) (f:=zD 3) rfl) zE rfl,decide_eq_false hn];rfl
 cases w with
 |int n=>exact key false<|no (by show f8≠fT;decide)
 |rc fs=>exact key false<|no (by show fJ≠fT;decide)
 |fn x d G=>exact key false<|no (by show FN≠fT;decide)
 |one k v=>
  have c:dG FI Mo (Rc JU l [du<|.one k v] (du<|.one k v) .un)=aA (.bl<|decide (k≠l)):=by
   unfold dG;rw[show FI (Rc JU l [du<|.one k v] (du<|.one k v) .un)=aA (.bl true) from zO (k8 (w:=.one k v) (f:=zD 3) rfl) zE rfl,aa];exact zO (x:=.str k) (y:=.str l) rfl rfl<|PF (hL.Dh k h.1)<|hL.Dh l hl
  refine(key _ c).trans ?_;show _=aA (oD (if k≠l then aA (.one k v) else aD));by_cases z:k≠l
  .rw[decide_eq_true z,if_pos rfl,if_pos z];rfl
  .rw[decide_eq_false z,if_neg<|by decide,if_neg z];rfl
noncomputable def Aw:List Nat:=[110,101,118,101,114]
def Ü:∃as,yJ [.v<|.str Aw,.v .aE,.v<|.lst [du w]]=aA (.v .aE,as):=by
 refine wF (r':=[.v<|.str Aw,.v .aE,.v<|.lst [du w],.v<|du w,.un]) ?_;show yT [.v<|.str Aw,.v .aE,.v<|.lst [du w],.un,.un]=_;unfold yT;exact zT (du w) (by rfl) (by rfl)<|yR (by rfl)<|yR (by rfl)<|yR (by rfl)<|xR (by rfl)<|yG zE
def F7(W:List Nat):Prop:=W=[43]\/W=[45]\/W=[42]\/W=[60]
def dO{g f:ME}{r:En}{m:List (Key×Int)}(hg:g r=aA (.str s))(hf:f r=aA (.int n))(ht:Q5 t r=aA m):Q5 ((g,f)::t) r=aA ((ky s,n)::m):=by
 unfold Q5;rw[hg,hf,ht];rfl
def ů(hW:F7 W):∀(u v:Wo),gw L u->gw L v->∃as,yJ [.v<|.str W,.v .aE,.v<|.lst [du u,du v]]=aA (.v<|oD<|JZ W u v,as):=λu v gu gv=>by
 let R:En:=[.v<|.str W,.v .aE,.v<|.lst [du u,du v],.v<|du v,.un]
 refine wF (r':=R) ?_;show yT [.v<|.str W,.v .aE,.v<|.lst [du u,du v],.un,.un]=_;unfold yT;refine zT (du v) (r2:=R) (by rfl) (by rfl)<|yR (by rcases hW with rfl|rfl|rfl|rfl<;>rfl)<|yR (by rcases hW with rfl|rfl|rfl|rfl<;>rfl)<|yR (by rcases hW with rfl|rfl|rfl|rfl<;>rfl) ?_;have ne:∀{w:Wo} {f:ME},f R=aA (du w)->aP (zK lC (zP 1 y0<|zA f zM) A3) R=aA (!decide (uJ w=f8)):=λ{w f} h=>wN<|zO (k8 (w:=w) h) zE rfl
 have i0:l8 R=aA (du u):=rfl;have i3:zD 3 R=aA (du v):=rfl;have nv:aP (zK c_ (zD 0) Ie) R=aA false:=by rcases hW with rfl|rfl|rfl|rfl<;>rfl
 by_cases hu:uJ u=f8
 .by_cases hv:uJ v=f8
  .obtain⟨i,rfl⟩:∃i,u=.int i:=by cases u with
    |int i=>exact⟨i,rfl⟩
    |one k w=>exact absurd hu (by show fT≠f8;decide)
    |rc fs=>exact absurd hu (by show fJ≠f8;decide)
    |fn x d G=>exact absurd hu (by show FN≠f8;decide)
   obtain⟨j,rfl⟩:∃j,v=.int j:=by cases v with
    |int i=>exact⟨i,rfl⟩
    |one k w=>exact absurd hv (by show fT≠f8;decide)
    |rc fs=>exact absurd hv (by show fJ≠f8;decide)
    |fn x d G=>exact absurd hv (by show FN≠f8;decide)
   have si:vM i:=gu;have sj:vM j:=gv;refine yR (by rw[YB nv,YB (by rw[ne i0];rfl),ne i3];rfl) ?_;by_cases LO:W=[60]
   .subst LO;refine xR (by rfl)<|yG<|vL (zO i0 i3 rfl) ?_;show aA (D.int (if decide (i<j)=true then 1 else 0))=aA (.int<|wk [60] i j);rw[show wk [60] i j=if i<j then 1 else 0 from rfl];by_cases z:i<j
    .rw[decide_eq_true z,if_pos rfl,if_pos z]
    .rw[decide_eq_false z,if_neg<|by decide,if_neg z]
   .refine yR (by show aA (decide (W=[60]))=_;rw[decide_eq_false LO])<|yG ?_
    let fs:Fs Int:=[([43],i+j),([45],i-j),([42],i*j)]
    have dp:=dO (s:=[43]) (f:=Mi) (r:=R) zE (xD i0 i3)<|dO (s:=[45]) (f:=Ml) zE (zO i0 i3 rfl)<|dO (s:=[42]) (f:=Mj) zE (QC i0 i3 (by unfold vM at si sj;lia)) (show Q5 [] R=aA [] from rfl);have at':JS (uE<|rA<|Gx [(Mg,Mi),(Mh,Ml),(Mf,Mj)]) (zD 0) R=(aK fs W).map D.int:=by
     unfold JS uE rA Gx;rw[dp,aa,if_pos ⟨by show 3<=15;decide,nA (l:=[[43],[45],[42]])<|by decide⟩];show xS (aZ fs) (eK D.int fs) (ky W)=_;exact uU D.int W fs
    have lk:(aK fs W).map (· % 1000000)=aA (wk W i j):=by
     rcases hW with rfl|rfl|rfl|rfl
     .rfl
     .rfl
     .rfl
     .exact absurd rfl LO
    cases e:aK fs W with
    |none=>rw[e] at lk;cases lk
    |some n=>
     rw[e] at lk at'
     have:n % 1000000=wk W i j:=bu lk
     show _=aA (D.int<|wk W i j);rw[<-this];exact qE at' zE (by decide)
  .have e:JZ W u v=aD:=by cases u<;>cases v<;>first|rfl|exact absurd rfl hv
   rw[e];exact xR (by rw[YB nv,YB (by rw[ne i0,hu];rfl),ne i3,decide_eq_false hv];rfl)<|yG zE
 .have e:JZ W u v=aD:=by cases u<;>cases v<;>first|rfl|exact absurd rfl hu
  rw[e];exact xR (by rw[YB nv];exact GJ (by rw[ne i0,decide_eq_false hu];rfl))<|yG zE
end
noncomputable def lP:List Nat:=[118,97,108,117,101]
def eZ:Rz->D
 |.val c w=>.tup [.str lP,.int (c:Nat),du w]
 |.aO c k=>.tup [.str iD,.int (c:Nat),.int (k:Nat)]
structure It where
 e:Ex
 z:Rz
 b:Option Rz
def bD:Option Rz->D
 |some z=>eZ z
 |none=>.aE
def aJ(t:It):D:=.tup [toD t.e,.int (nd t.e:Nat),.int (dp t.e:Nat),eZ t.z,bD t.b]
def OF(e:Ex)(z:Rz)(b:Option Rz)(n d:Int)(hn:n=(nd e:Nat))(hd:d=(dp e:Nat)):D.tup [toD e,.int n,.int d,eZ z,bD b]=aJ ⟨e,z,b⟩:=by subst hn hd;rfl
def sg:Nat->Nat->List It->Nat×Option Nat
 |s,_,[]=>(s,aD)
 |s,a,t::l=>match t.z with
  |.val c _=>sg (s+c) (a+nd t.e) l
  |.aO c k=>(s+c,aA<|a+k)
noncomputable def iS:Option Nat->D
 |some k=>.int (k:Nat)
 |none=>.aE
def JN:MS:=(yA (xB 1 Ut)
 (yA (aR (aP<|zK c_ Il As)
 (xE Ul)
 zV)
 (xB 2<|zK kR (zD 2) iP)))
theorem cD(x:Sl):∀(l:List It) (s a:Nat) (y:Sl),eM y->∃r',yA (λr=>dL (yI 3) JN (l.map aJ) r) (xE Ub) [x,.v<|.int (s:Nat),.v<|.int (a:Nat),y]=aA (.rt (.tup [.int ((sg s a l).1:Nat),iS (sg s a l).2]) r')
 |[],s,a,y,hy=>⟨_,by rw[yB (r':=[x,.v<|.int (s:Nat),.v<|.int (a:Nat),y]) rfl];exact yG rfl⟩
 |t::l,s,a,y,hy=>by
  cases ez:t.z with
  |val c w=>
   obtain⟨r',ih⟩:=cD x l (s+c) (a+nd t.e) (.v<|aJ t) trivial;refine⟨r',?_⟩;have e:sg s a (t::l)=sg (s+c) (a+nd t.e) l:=by show(match t.z with | .val c _=>sg (s+c) (a+nd t.e) l | .aO c k=>(s+c,aA<|a+k))=_;rw[ez]
   rw[e,<-ih];unfold yA;show(dL (yI 3) JN (aJ t::l.map aJ) _).bind _=(dL (yI 3) JN (l.map aJ) _).bind _;rw[b9 (r1:=[x,.v<|.int (s:Nat),.v<|.int (a:Nat),.v<|aJ t]) (zY (i:=3) (x:=y) rfl hy) (r':=[x,.v<|.int ((s+c:Nat):Int),.v<|.int ((a+nd t.e:Nat):Int),.v<|aJ t])];unfold JN;refine zT (.int ((s+c:Nat):Int)) (r2:=[x,.v<|.int ((s+c:Nat):Int),.v<|.int (a:Nat),.v<|aJ t]) ?_ (by rfl)<|yR ?_ ?_
   .rw[show((s+c:Nat):Int)=(s:Int)+(c:Int) by lia];refine xD rfl ?_;show(aL (eZ t.z)<|.int 1)=_;rw[ez];rfl
   .have:Il [x,.v<|.int ((s+c:Nat):Int),.v<|.int (a:Nat),.v<|aJ t]=aA (.str lP):=by
     show(aL (eZ t.z)<|.int 0)=_;rw[ez];rfl
    exact wN<|zO this zE rfl
   .refine xF (d:=.int ((a+nd t.e:Nat):Int)) ?_ (by rfl);rw[show((a+nd t.e:Nat):Int)=(a:Int)+(nd t.e:Int) by lia];exact xD rfl rfl
  |aO c k=>
   have e:sg s a (t::l)=(s+c,aA<|a+k):=by show(match t.z with | .val c _=>sg (s+c) (a+nd t.e) l | .aO c k=>(s+c,aA<|a+k))=_;rw[ez]
   rw[e]
   let R:En:=[x,.v<|.int ((s+c:Nat):Int),.v<|.int (a:Nat),.v<|aJ t]
   refine⟨R,?_⟩;have i3:∀n:Int,zK aL FQ (mC<|.int n) R=aL (.tup [.str iD,.int (c:Nat),.int (k:Nat)]) (.int n):=λn=>by
    show(aL (eZ t.z)<|.int n)=_;rw[ez];rfl
   have b:JN [x,.v<|.int (s:Nat),.v<|.int (a:Nat),.v<|aJ t]=aA (.rt (.tup [.int ((s+c:Nat):Int),.int ((a+k:Nat):Int)]) R):=by
    unfold JN;refine zT (.int ((s+c:Nat):Int)) (r2:=R) ?_ (by rfl)<|xR ?_<|yG<|wH (zB rfl<|zB ?_ zQ) (by show 2<=100;decide)
    .rw[show((s+c:Nat):Int)=(s:Int)+(c:Int) by lia];refine xD rfl ?_;show(aL (eZ t.z)<|.int 1)=_;rw[ez];rfl
    .exact wN<|zO (x:=.str iD) (i3 0) zE rfl
    .rw[show((a+k:Nat):Int)=(a:Int)+(k:Int) by lia];exact xD rfl<|i3 2
   refine Kh ?_;show(yI 3 (aJ t) [x,.v<|.int (s:Nat),.v<|.int (a:Nat),y]).bind _=_;rw[show yI 3 (aJ t) [x,.v<|.int (s:Nat),.v<|.int (a:Nat),y]=aA [x,.v<|.int (s:Nat),.v<|.int (a:Nat),.v<|aJ t] from zY (i:=3) (x:=y) rfl hy,aa,b];rfl
def WE(l:List It):∃as,xG [.v<|.lst<|l.map aJ]=aA (.v<|.tup [.int ((sg 0 1 l).1:Nat),iS (sg 0 1 l).2],as):=by
 obtain⟨r',h⟩:=cD (.v<|.lst<|l.map aJ) l 0 1 .un trivial;refine wF (r':=r') ?_;show wR [.v<|.lst<|l.map aJ,.un,.un,.un]=_;unfold wR;refine zT (.int 0) zE (by rfl)<|zT (.int 1) zE (r2:=[.v<|.lst<|l.map aJ,.v<|.int 0,.v<|.int 1,.un]) (by rfl) ?_;unfold JN at h;exact h
def cS{f:ME}{r:En}{l:List It}(h:f r=aA (.lst<|l.map aJ)):zP 1 xG (zA f zM) r=aA (.tup [.int ((sg 0 1 l).1:Nat),iS (sg 0 1 l).2]):=yN (p:=.v<|.tup [.int ((sg 0 1 l).1:Nat),iS (sg 0 1 l).2]) (zB h zQ) rfl<|WE l
def pT{g:It->D}{x:ME}(hx:∀t:It,x [.v<|aJ t]=aA (g t))(l:List It)(hl:l.length<=1000){f:ME}{r:En}(hf:f r=aA (.lst<|l.map aJ)):xX [] 1 (eG f) (yI 0) x r=aA (l.map g):=by
 unfold xX xW;have it:eG f r=aA (l.map aJ):=by unfold eG;rw[hf];rfl
 rw[it,aa,if_pos (by rw[ag];exact wB<|by lia),show ZE [] 1 r=[.un] from rfl];exact dQ (x:=x) (j:=0) (mk:=λs=>[s]) (g:=aJ) (y:=g) (λs d hs=>zY (i:=0) (x:=s) rfl hs) l .un trivial λt _=>hx t
theorem nG(g:It->Int):∀l:List It,YX (l.map λt=>.int<|g t)=aA (l.map g)
 |[]=>rfl
 |t::l=>by simp[YX,nG g l]
def cE{f:ME}{r:En}{l:List It}(hl:l.length<=1000)(hf:f r=aA (.lst<|l.map aJ)):cG (xX [] 1 (eG f) (yI 0) fG) r=aA (.int<|(l.map λt=>((nd t.e:Nat):Int)).sum):=by
 unfold cG;rw[pT (g:=λt=>.int ((nd t.e:Nat):Int)) (λt=>rfl) l hl hf,aa,nG];rfl
def Bc:List It->Int
 |[]=>0
 |t::l=>(l.map λt=>((dp t.e:Nat):Int)).foldl max ((dp t.e:Nat):Int)
def pN{f:ME}{r:En}{l:List It}(h0:l≠[])(hl:l.length<=1000)(hf:f r=aA (.lst<|l.map aJ)):YK (xX [] 1 (eG f) (yI 0) D_) r=aA (.int<|Bc l):=by
 unfold YK;rw[pT (g:=λt=>.int ((dp t.e:Nat):Int)) (λt=>rfl) l hl hf,aa,nG];cases l with
 |nil=>exact absurd rfl h0
 |cons t l=>rfl
def wD(t:It):D:=match t.z with
 |.val _ w=>du w
 |.aO _ k=>.int (k:Nat)
def ix2(t:It):MP [.v<|aJ t]=aA (wD t):=by
 show aL (eZ t.z) (.int 2)=_;unfold wD;cases t.z<;>rfl
def Xw:∀o:Option Wo,Bs (oD o) .aE=aA (.bl o.isNone)
 |none=>rfl
 |some (.int _)=>rfl
 |some (.one _ _)=>rfl
 |some (.rc _)=>rfl
 |some (.fn _ _ _)=>rfl
noncomputable def Be:D->List D
 |.aE=>[]
 |d=>[d]
def Z9{W:List Nat}{lab:D}{ts:List It}{X:Ex}{z:Rz}(h0:ts≠[])(hl:ts.length<=3)(hb:lab=.aE\/∃s,lab=.str s)(hX:toD X=.tup (.str W::(Be lab++ts.map λt=>toD t.e)))(hn:((nd X:Nat):Int)=1+(ts.map λt=>((nd t.e:Nat):Int)).sum)(hd:((dp X:Nat):Int)=1+Bc ts)(hz:∀k,(sg 0 1 ts).2=aA k->z=.aO (sg 0 1 ts).1 k)(hc:(sg 0 1 ts).2=aD->∃o:Option Wo,(∃as,yJ [.v<|.str W,.v lab,.v<|.lst<|ts.map wD]=aA (.v<|oD o,as))/\z=ro (sg 0 1 ts).1 o):∃as,xA [.v<|.str W,.v lab,.v<|.lst<|ts.map aJ]=aA (.v<|aJ ⟨X,z,aD⟩,as):=by
 let R0:En:=[.v<|.str W,.v lab,.v<|.lst<|ts.map aJ,.un,.un,.un,.un,.un,.un]
 let R3:En:=[.v<|.str W,.v lab,.v<|.lst<|ts.map aJ,.v<|toD X,.v<|.int ((nd X:Nat):Int),.v<|.int ((dp X:Nat):Int),.un,.un,.un]
 let R4:En:=[.v<|.str W,.v lab,.v<|.lst<|ts.map aJ,.v<|toD X,.v<|.int ((nd X:Nat):Int),.v<|.int ((dp X:Nat):Int),.v<|.int ((sg 0 1 ts).1:Nat),.v<|iS (sg 0 1 ts).2,.un]
 have fin:∀{zz:D},zz=eZ z->∀{y:Sl} {f:ME},f (R4.set 8 y)=aA zz->xE (wI<|zA (zD 3)<|zA (zD 4)<|zA (zD 5)<|zA f<|zA (mC .aE) zM) (R4.set 8 y)=aA (.rt (aJ ⟨X,z,aD⟩)<|R4.set 8 y):=λ{zz} e {y f} hf=>by
  subst e;exact yG<|wH (zB rfl<|zB rfl<|zB rfl<|zB hf<|zB zE zQ) (by show 5<=100;decide)
 have told:uS (sY (sY (yL<|zA (zD 0) zM)<|AE<|fR (xQ<|yL<|zA (zD 1) zM) kN<|wZ<|aU bW FG)<|xX [] 1 (eG<|zD 2) (yI 0) CQ) R0=aA (toD X):=by
  have c:=pT (g:=λt=>toD t.e) (x:=CQ) (λt=>rfl) ts (by lia) (f:=zD 2) (r:=R0) rfl;have m:AE (fR (xQ<|yL<|zA (zD 1) zM) kN<|wZ<|aU bW FG) R0=aA (Be lab):=by
   rcases hb with rfl|⟨s,rfl⟩<;>rfl
  have ll:(Be lab).length<=1:=by rcases hb with rfl|⟨s,rfl⟩<;>simp[Be]
  have m2:sY (yL<|zA (zD 0) zM) (AE<|fR (xQ<|yL<|zA (zD 1) zM) kN<|wZ<|aU bW FG) R0=aA (.str W::Be lab):=by
   unfold sY;rw[show yL (zA (zD 0) zM) R0=aA [.str W] from rfl,aa,m,aa,if_pos (by show 1+(Be lab).length<=_;exact lu<|wB<|by lia)];rfl
  unfold uS;have m3:sY (sY (yL<|zA (zD 0) zM)<|AE<|fR (xQ<|yL<|zA (zD 1) zM) kN<|wZ<|aU bW FG) (xX [] 1 (eG<|zD 2) (yI 0) CQ) R0=aA ((.str W::Be lab)++ts.map λt=>toD t.e):=by
   rw[show ∀a b:ML,sY a b R0=(a R0).bind λl=>(b R0).bind λm=>if l.length+m.length<=ae then aA (l++m) else aD from λa b=>rfl,m2,aa,c,aa,if_pos (by rw[ag,am];exact lu<|wB<|by lia)]
  rw[m3,hX];rfl
 have st:=cS (l:=ts) (f:=zD 2) (r:=R3) rfl;cases ek:(sg 0 1 ts).2 with
 |some k=>
  have e:=hz k ek;refine wF (r':=R4) ?_;show x3 R0=_;unfold x3;refine zT (toD X) told (by rfl)<|zT (.int ((nd X:Nat):Int)) ?_ (by rfl)<|zT (.int ((dp X:Nat):Int)) (r2:=R3) ?_ (by rfl) ?_
  .rw[hn];exact xD zE<|cE (l:=ts) (by lia) rfl
  .rw[hd];exact xD zE<|pN (l:=ts) h0 (by lia) rfl
  .rw[yB (r':=R4) (by unfold XQ;rw[st];rfl)];refine xR ?_<|fin (y:=.un) (zz:=eZ z) rfl ?_
   .show MG R4=_;refine wN<|zO (x:=.int (k:Nat)) ?_ zE rfl;show aA (iS (sg 0 1 ts).2)=_;rw[ek];rfl
   .rw[e];show wI _ R4=_;refine wH (zB zE<|zB rfl<|zB ?_ zQ) (by show 3<=100;decide);show aA (iS (sg 0 1 ts).2)=_;rw[ek];rfl
 |none=>
  obtain⟨o,co,e⟩:=hc ek
  let R5:En:=R4.set 8<|.v<|oD o
  refine wF (r':=R5) ?_;show x3 R0=_;unfold x3;refine zT (toD X) told (by rfl)<|zT (.int ((nd X:Nat):Int)) ?_ (by rfl)<|zT (.int ((dp X:Nat):Int)) (r2:=R3) ?_ (by rfl) ?_
  .rw[hn];exact xD zE<|cE (l:=ts) (by lia) rfl
  .rw[hd];exact xD zE<|pN (l:=ts) h0 (by lia) rfl
  .rw[yB (r':=R4) (by unfold XQ;rw[st];rfl)];refine yR (by show MG R4=_;refine wN<|zO (x:=.aE) ?_ zE rfl;show aA (iS (sg 0 1 ts).2)=_;rw[ek];rfl) ?_;have vs:xQ (xX [] 1 (eG<|zD 2) (yI 0) MP) R4=aA (.lst<|ts.map wD):=by
    unfold xQ;rw[pT (g:=wD) ix2 ts (by lia) rfl];rfl
   refine zT (oD o) (r2:=R5) (yN (p:=.v<|oD o) (zB rfl<|zB rfl<|zB vs zQ) rfl co) (by rfl) ?_;have nn:TQ R5=aA o.isNone:=wN<|zO (x:=oD o) rfl zE<|Xw o;cases o with
   |none=>
    refine xR nn<|fin (y:=.v .aE) (zz:=eZ z) rfl ?_;rw[e];exact wH (zB zE<|zB rfl<|zB zE zQ) (by show 3<=100;decide)
   |some w=>
    refine yR nn<|fin (y:=.v<|du w) (zz:=eZ z) rfl ?_;rw[e];exact wH (zB zE<|zB rfl<|zB rfl zQ) (by show 3<=100;decide)
def č{f g:ME}{r:En}{i j:Int}(h1:f r=aA (.int i))(h2:g r=aA (.int j)):Ek (zA f<|zA g zM) r=aA (.int<|max i j):=by
 unfold Ek;rw[zB h1<|zB h2 zQ];show aA (D.int (if j > i then j else i))=_
 congr 2
 split<;>lia
def sI{f g h:ME}{r:En}{a b c:D}(h1:f r=aA a)(h2:g r=aA b)(h3:h r=aA c):wI (zA f<|zA g<|zA h zM) r=aA (.tup [a,b,c]):=wH (zB h1<|zB h2<|zB h3 zQ) (by show 3<=100;decide)
noncomputable def Fy(s:Nat):Option Rz->Rz
 |none=>.aO s 0
 |some z=>Dc 2 (s+1) z
noncomputable def mN(p:Nat×Option Nat)(k:Nat->Rz):Rz:=match p.2 with
 |some a=>.aO p.1 a
 |none=>k p.1
def Vh(t u:It):∃as,bA [.v<|aJ t,.v<|aJ u]=aA (.v<|aJ ⟨.bin DO t.e u.e,mN (sg 0 1 [t,u]) λs=>Fy s t.b,aD⟩,as):=by
 let T:D:=toD<|.bin DO t.e u.e
 let p:=sg 0 1 [t,u]
 let R3:En:=[.v<|aJ t,.v<|aJ u,.v T,.un,.un,.un]
 let R5:D->En:=λy=>[.v<|aJ t,.v<|aJ u,.v T,.v<|.int (p.1:Nat),.v<|iS p.2,.v y]
 let z:Rz:=mN p λs=>Fy s t.b
 have st:zP 1 xG (zA (xQ<|yL<|zA (zD 0)<|zA (zD 1) zM) zM) R3=aA (.tup [.int (p.1:Nat),iS p.2]):=cS (l:=[t,u]) rfl;refine wF (r':=R5<|eZ z) ?_;show vJ [.v<|aJ t,.v<|aJ u,.un,.un,.un,.un]=_;unfold vJ;refine zT T (r2:=R3) (sI zE rfl rfl) (by rfl) ?_;rw[yB (r':=[.v<|aJ t,.v<|aJ u,.v T,.v<|.int (p.1:Nat),.v<|iS p.2,.un]) (by unfold XQ;rw[st];rfl)];refine zT (.tup [.str iD,.int (p.1:Nat),iS p.2]) (r2:=R5<|.tup [.str iD,.int (p.1:Nat),iS p.2]) (sI zE rfl rfl) (by rfl) ?_;have ret:xE UH (R5<|eZ z)=aA (.rt (aJ ⟨.bin DO t.e u.e,z,aD⟩)<|R5<|eZ z):=by
  rw[<-OF (.bin DO t.e u.e) z aD (1+((nd t.e:Nat):Int)+((nd u.e:Nat):Int)) (1+max ((dp t.e:Nat):Int) ((dp u.e:Nat):Int)) (by show _=((1+nd t.e+nd u.e:Nat):Int);lia) (by show _=((1+max (dp t.e) (dp u.e):Nat):Int);lia)];exact yG<|wH (zB rfl<|zB (xD (xD zE rfl) rfl)<|zB (xD zE<|č rfl rfl)<|zB rfl<|zB zE zQ) (by show 5<=100;decide)
 rw[yB (r':=R5<|eZ z) ?_]
 .exact ret
 .have TJ:∀y,DV (R5 y)=aA p.2.isNone:=λy=>wN<|zO (x:=iS p.2) rfl zE (by cases p.2<;>rfl)
  have b4:∀(y:D) (n:Int),zK aL Bp (mC<|.int n) (R5 y)=aL (bD t.b) (.int n):=λy n=>rfl
  have bn:∀y,aP (zK Bs Bp<|mC .aE) (R5 y)=aA t.b.isNone:=λy=>wN (zO (x:=bD t.b) rfl zE (by cases t.b with
   |none=>rfl
   |some z=>cases z<;>rfl))
  cases e2:p.2 with
  |some k=>
   have ez:z=.aO p.1 k:=by show mN p _=_;unfold mN;rw[e2]
   have a4:∀y,DV (R5 y)=aA false:=λy=>by rw[TJ,e2];rfl
   rw[wX<|j0<|a4 _,wX<|j0<|a4 _,wX<|a4 _,ez];rfl
  |none=>
   have a4:∀y,DV (R5 y)=aA true:=λy=>by rw[TJ,e2];rfl
   cases eb:t.b with
   |none=>
    have ez:z=.aO p.1 0:=by show mN p _=_;unfold mN;rw[e2,eb];rfl
    rw[vC (by rw[xM<|a4 _,bn,eb];rfl)];exact xF (d:=eZ z) (by rw[ez];exact sI zE rfl zE) (by rfl)
   |some zb=>
    rw[wX (by rw[xM<|a4 _,bn,eb];rfl)];cases zb with
    |aO cb kb=>
     have ez:z=.aO (p.1+1+cb) (2+kb):=by show mN p _=_;unfold mN;rw[e2,eb];rfl
     have i4:∀y n,zK aL Bp (mC<|.int n) (R5 y)=aL (.tup [.str iD,.int (cb:Nat),.int (kb:Nat)]) (.int n):=λy n=>by rw[b4,eb];rfl
     rw[vC (by rw[xM<|a4 _];exact wN<|zO (x:=.str iD) (i4 _ 0) zE rfl)];refine xF (d:=eZ z) ?_ (by rfl);rw[ez];show _=aA (D.tup [.str iD,.int ((p.1+1+cb:Nat):Int),.int ((2+kb:Nat):Int)]);rw[show((p.1+1+cb:Nat):Int)=(p.1:Int)+1+(cb:Int) by lia,show((2+kb:Nat):Int)=2+(kb:Int) by lia];exact sI zE (xD (xD rfl zE)<|i4 _ 1)<|xD zE<|i4 _ 2
    |val cb wb=>
     have ez:z=.val (p.1+1+cb) wb:=by show mN p _=_;unfold mN;rw[e2,eb];rfl
     have i4:∀y n,zK aL Bp (mC<|.int n) (R5 y)=aL (.tup [.str lP,.int (cb:Nat),du wb]) (.int n):=λy n=>by rw[b4,eb];rfl
     rw[wX (by rw[xM<|a4 _];exact wN<|zO (x:=.str lP) (i4 _ 0) zE rfl),vC<|a4 _];refine xF (d:=eZ z) ?_ (by rfl);rw[ez];show _=aA (D.tup [.str lP,.int ((p.1+1+cb:Nat):Int),du wb]);rw[show((p.1+1+cb:Nat):Int)=(p.1:Int)+1+(cb:Int) by lia];exact sI zE (xD (xD rfl zE)<|i4 _ 1)<|i4 _ 2
def sH(s:Nat)(t u v:It):Option Bool->Rz
 |none=>.aO s 0
 |some false=>Dc (1+nd t.e) s u.z
 |some true=>Dc (1+nd t.e+nd u.e) s v.z
noncomputable def iQ:Option Bool->D
 |none=>.aE
 |some false=>.int 1
 |some true=>.int 2
def J1(t u v:It){X:Ex}(hn:((nd X:Nat):Int)=1+([t,u,v].map λt=>((nd t.e:Nat):Int)).sum)(hd:((dp X:Nat):Int)=1+Bc [t,u,v])(tk:Option Bool):∃as,wE [.v<|toD X,.v<|.lst<|[t,u,v].map aJ,.v<|iQ tk]=aA (.v<|aJ ⟨X,mN (sg 0 1 [t]) λs=>sH s t u v tk,aD⟩,as):=by
 let p:=sg 0 1 [t]
 let I:D:=.lst<|[t,u,v].map aJ
 let R0:En:=[.v<|toD X,.v I,.v<|iQ tk,.un,.un,.un,.un,.un,.un,.un]
 let R6:Sl->Sl->Sl->En:=λa b c=>[.v<|toD X,.v I,.v<|iQ tk,.v<|.int (p.1:Nat),.v<|iS p.2,.v<|.int ((nd X:Nat):Int),.v<|.int ((dp X:Nat):Int),a,b,c]
 let z:Rz:=mN p λs=>sH s t u v tk
 have st:zP 1 xG (zA (fR (zD 1) kN<|wZ<|mC<|.int 1) zM) R0=aA (.tup [.int (p.1:Nat),iS p.2]):=cS (l:=[t]) rfl;have fin:∀{f:ME} {a b c:Sl},f (R6 a b c)=aA (eZ z)->xE (wI<|zA (zD 0)<|zA (zD 5)<|zA (zD 6)<|zA f<|zA (mC .aE) zM) (R6 a b c)=aA (.rt (aJ ⟨X,z,aD⟩)<|R6 a b c):=λh=>yG<|wH (zB rfl<|zB rfl<|zB rfl<|zB h<|zB zE zQ) (by show 5<=100;decide)
 have start:∀{r':En},(yA (aR TU (xE UB) zV)
 (yA (aR MC
 (xE UJ)
 zV)
 (yA (XQ MN<|jE 3<|yH (yI 7)<|yH (yI 8)<|yH (yI 9) jY)
 (yA (aR (aP CP)
 (xB 9 Uz)
 zV)
 (xE UO))))) (R6 .un .un .un)=aA (.rt (aJ ⟨X,z,aD⟩) r')->∃as,wE [.v<|toD X,.v I,.v<|iQ tk]=aA (.v<|aJ ⟨X,z,aD⟩,as):=λ{r'} h=>by
  refine wF (r':=r') ?_;show qX R0=_;unfold qX;rw[yB (r':=[.v<|toD X,.v I,.v<|iQ tk,.v<|.int (p.1:Nat),.v<|iS p.2,.un,.un,.un,.un,.un]) (by unfold XQ;rw[st];rfl)];refine zT (.int ((nd X:Nat):Int)) ?_ (by rfl)<|zT (.int ((dp X:Nat):Int)) (r2:=R6 .un .un .un) ?_ (by rfl) h
  .rw[hn];exact xD zE<|cE (l:=[t,u,v]) (by show 3<=1000;decide) rfl
  .rw[hd];exact xD zE<|pN (l:=[t,u,v]) (by simp) (by show 3<=1000;decide) rfl
 cases e2:p.2 with
 |some k=>
  have ez:z=.aO p.1 k:=by show mN p _=_;unfold mN;rw[e2]
  have o4:∀{a b c},zD 4 (R6 a b c)=aA (.int (k:Nat)):=λ{a b c}=>by show aA (iS p.2)=_;rw[e2];rfl
  exact start<|xR (wN<|zO o4 zE rfl)<|fin (by rw[ez];exact sI zE rfl o4)
 |none=>
  have o4:∀{a b c},zD 4 (R6 a b c)=aA .aE:=λ{a b c}=>by show aA (iS p.2)=_;rw[e2];rfl
  have ez:z=sH p.1 t u v tk:=by show mN p _=_;unfold mN;rw[e2]
  have take:∀(y:It) (o:Nat) (n:Int),iQ tk=.int n->aL I (.int n)=aA (aJ y)->(cG<|xX [] 1 (eG<|fR (zD 1) kN<|wZ<|zD 2) (yI 0) fG)=(cG<|xX [] 1 (eG<|fR (zD 1) kN<|wZ<|zD 2) (yI 0) fG)->(∀a b c,cG (xX [] 1 (eG<|fR (zD 1) kN<|wZ<|zD 2) (yI 0) fG) (R6 a b c)=aA (.int (o:Nat)))->z=Dc (1+o) p.1 y.z->∃as,wE [.v<|toD X,.v I,.v<|iQ tk]=aA (.v<|aJ ⟨X,z,aD⟩,as):=λy o n hk hi _ hs hz=>by
   have no:MC (R6 .un .un .un)=aA false:=wN<|zO (x:=.int n) (by show aA (iQ tk)=_;rw[hk]) zE rfl;have i3:MN (R6 .un .un .un)=aA (eZ y.z):=zO (x:=aJ y) (zO (x:=I) (y:=.int n) rfl (by show aA (iQ tk)=_;rw[hk]) hi) zE rfl;cases hy:y.z with
   |val c w=>
    rw[hy] at i3 hz;refine start (r':=R6 (.v<|.str lP) (.v<|.int (c:Nat))<|.v<|du w)<|yR (wN<|zO o4 zE rfl)<|yR no ?_;rw[yB (r':=R6 (.v<|.str lP) (.v<|.int (c:Nat))<|.v<|du w) (by unfold XQ;rw[i3];rfl)];refine yR (by rfl)<|fin ?_;rw[hz];show _=aA (D.tup [.str lP,.int ((p.1+c:Nat):Int),du w]);rw[show((p.1+c:Nat):Int)=(p.1:Int)+(c:Int) by lia];exact sI rfl (xD rfl rfl) rfl
   |aO c k=>
    rw[hy] at i3 hz;refine start (r':=R6 (.v<|.str iD) (.v<|.int (c:Nat))<|.v<|.int<|(k:Int)+1+(o:Int))<|yR (wN<|zO o4 zE rfl)<|yR no ?_;rw[yB (r':=R6 (.v<|.str iD) (.v<|.int (c:Nat))<|.v<|.int (k:Nat)) (by unfold XQ;rw[i3];rfl)];rw[yB (r':=R6 (.v<|.str iD) (.v<|.int (c:Nat))<|.v<|.int<|(k:Int)+1+(o:Int)) (by rw[vC<|by rfl];exact xF (xD (xD rfl zE)<|hs _ _ _)<|by rfl)];refine fin ?_;rw[hz];show _=aA (D.tup [.str iD,.int ((p.1+c:Nat):Int),.int ((1+o+k:Nat):Int)]);rw[show((p.1+c:Nat):Int)=(p.1:Int)+(c:Int) by lia,show((1+o+k:Nat):Int)=(k:Int)+1+(o:Int) by lia];exact sI rfl (xD rfl rfl) rfl
  cases tk with
  |none=>exact start<|yR (wN<|zO o4 zE rfl)<|xR (by rfl)<|fin (by rw[ez];exact sI zE rfl zE)
  |some b=>cases b with
   |false=>exact take u (nd t.e) 1 rfl rfl rfl (λa b c=>(cE (l:=[t]) (by show 1<=1000;decide) rfl).trans (by show aA (D.int<|((nd t.e:Nat):Int)+0)=_;rw[Int.add_zero])) ez
   |true=>exact take v (nd t.e+nd u.e) 2 rfl rfl rfl (λa b c=>(cE (l:=[t,u]) (by show 2<=1000;decide) rfl).trans (by show aA (D.int<|((nd t.e:Nat):Int)+(((nd u.e:Nat):Int)+0))=_;rw[Int.add_zero];congr 1)) (by rw[ez,<-Nat.add_assoc];rfl)
structure eC(L:List (List Nat))(t:It):Prop where
 fV:Sem L t.e t.z
 fn:∀zb,t.b=aA zb->∃x e,t.e=.lab FN x e/\Sem L e zb/\t.z=.val 0 (.fn [] .aE [])
 nn:nd t.e<=60
noncomputable def pz(f:Wo->Option Wo):Rz->Rz
 |.val c w=>ro c<|f w
 |.aO c k=>.aO c<|k+1
noncomputable def EU(n1:Nat)(f:Wo->Wo->Option Wo):Rz->Rz->Rz
 |.aO c k,_=>.aO c<|k+1
 |.val c _,.aO c2 k2=>.aO (c+c2)<|1+n1+k2
 |.val c w,.val c2 v=>ro (c+c2)<|f w v
def G2(t:It):sg 0 1 [t]=match t.z with | .val c _=>(c,aD) | .aO c k=>(c,aA<|k+1):=by
 show(match t.z with | .val c _=>sg (0+c) (1+nd t.e) [] | .aO c k=>(0+c,aA<|1+k))=_;cases t.z with
 |val c w=>show(0+c,aD)=(c,aD);rw[ni]
 |aO c k=>show(0+c,aA<|1+k)=(c,aA<|k+1);rw[ni,qw]
def KC(t u:It):sg 0 1 [t,u]=match t.z with | .aO c k=>(c,aA<|k+1) | .val c _=>match u.z with | .val c2 _=>(c+c2,aD) | .aO c2 k2=>(c+c2,aA<|1+nd t.e+k2):=by
 show(match t.z with | .val c _=>(match u.z with | .val c2 _=>sg (0+c+c2) (1+nd t.e+nd u.e) [] | .aO c2 k2=>(0+c+c2,aA<|1+nd t.e+k2)) | .aO c k=>(0+c,aA<|1+k))=_;cases t.z with
 |aO c k=>show(0+c,aA<|1+k)=(c,aA<|k+1);rw[ni,qw]
 |val c w=>cases u.z with
  |val c2 v=>show(0+c+c2,aD)=(c+c2,aD);rw[ni]
  |aO c2 k2=>show(0+c+c2,aA<|1+nd t.e+k2)=(c+c2,aA<|1+nd t.e+k2);rw[ni]
section
variable{L:List (List Nat)}{t u:It}{lab:D}{W:List Nat}{X:Ex}
def eC.gw(h:eC L t)(e:t.z=.val c w):K45.gw L w/\ps w<=60:=by
 have:=h.fV
 rw[e] at this;exact⟨this.1,cg this.2.1 h.nn⟩
def OP{f:Wo->Option Wo}(h:eC L t)(hb:lab=.aE\/∃s,lab=.str s)(hX:toD X=.tup (.str W::(Be lab++[toD t.e])))(hn:nd X=1+nd t.e)(hd:dp X=1+dp t.e)(FA:∀w,gw L w->ps w<=100->∃as,yJ [.v<|.str W,.v lab,.v<|.lst [du w]]=aA (.v<|oD<|f w,as)):∃as,xA [.v<|.str W,.v lab,.v<|.lst [aJ t]]=aA (.v<|aJ ⟨X,pz f t.z,aD⟩,as):=by
 refine Z9 (ts:=[t]) (by simp) (by simp) hb hX (by rw[hn];show _=1+(((nd t.e:Nat):Int)+0);lia) (by rw[hd];show _=1+((dp t.e:Nat):Int);lia) (λk hk=>?_) λhk=>?_
 .rw[G2] at hk ⊢;cases ez:t.z with
  |val c w=>rw[ez] at hk;cases hk
  |aO c k'=>rw[ez] at hk;cases hk;rfl
 .rw[G2] at hk ⊢;cases ez:t.z with
  |val c w=>
   obtain⟨g1,g2⟩:=h.gw ez;refine⟨f w,?_,rfl⟩
   have:[t].map wD=[du w]:=by show[wD t]=_;unfold wD;rw[ez]
   rw[this];exact FA w g1 (by lia)
  |aO c k'=>rw[ez] at hk;cases hk
def Kb{f:Wo->Wo->Option Wo}(h:eC L t)(h2:eC L u)(hb:lab=.aE\/∃s,lab=.str s)(hX:toD X=.tup (.str W::(Be lab++[toD t.e,toD u.e])))(hn:nd X=1+nd t.e+nd u.e)(hd:dp X=1+max (dp t.e) (dp u.e))(FA:∀w v,gw L w->gw L v->ps v<=100->∃as,yJ [.v<|.str W,.v lab,.v<|.lst [du w,du v]]=aA (.v<|oD<|f w v,as)):∃as,xA [.v<|.str W,.v lab,.v<|.lst [aJ t,aJ u]]=aA (.v<|aJ ⟨X,EU (nd t.e) f t.z u.z,aD⟩,as):=by
 refine Z9 (ts:=[t,u]) (by simp) (by simp) hb hX (by rw[hn];show _=1+(((nd t.e:Nat):Int)+(((nd u.e:Nat):Int)+0));lia) (by rw[hd];show _=1+max ((dp t.e:Nat):Int) ((dp u.e:Nat):Int);lia) (λk hk=>?_) λhk=>?_
 .rw[KC] at hk ⊢;cases ez:t.z with
  |aO c k'=>rw[ez] at hk;cases hk;rfl
  |val c w=>
   rw[ez] at hk;cases eu:u.z with
   |val c2 v=>rw[eu] at hk;cases hk
   |aO c2 k2=>rw[eu] at hk;cases hk;rfl
 .rw[KC] at hk ⊢;cases ez:t.z with
  |aO c k'=>rw[ez] at hk;cases hk
  |val c w=>
   rw[ez] at hk;cases eu:u.z with
   |aO c2 k2=>rw[eu] at hk;cases hk
   |val c2 v=>
    obtain⟨g1,g2⟩:=h.gw ez;obtain⟨g3,g4⟩:=h2.gw eu;refine⟨f w v,?_,rfl⟩
    have:[t,u].map wD=[du w,du v]:=by show[wD t,wD u]=_;unfold wD;rw[ez,eu]
    rw[this];exact FA w v g1 g3 (by lia)
def Zo(h:eC L t)(hn:nd t.e<60):eC L ⟨.lab l_ l t.e,pz (F5 l) t.z,aD⟩:=⟨by
 have s:=h.fV;cases ez:t.z with
 |val c w=>rw[ez] at s;exact ń s
 |aO c k=>rw[ez] at s;exact pE rfl s,λzb h=>by(cases h),by show 1+nd t.e<=60;lia⟩
def Ģ(h:eC L t)(hn:nd t.e<60):eC L ⟨.lab Ad l t.e,pz (Gu l) t.z,aD⟩:=⟨by
 have s:=h.fV;cases ez:t.z with
 |val c w=>rw[ez] at s;exact ς s
 |aO c k=>rw[ez] at s;exact pE rfl s,λzb h=>by(cases h),by show 1+nd t.e<=60;lia⟩
def Ħ(h:eC L t)(hn:nd t.e<60):eC L ⟨.lab JU l t.e,pz (Jj l) t.z,aD⟩:=⟨by
 have s:=h.fV;cases ez:t.z with
 |val c w=>rw[ez] at s;exact τ s
 |aO c k=>rw[ez] at s;exact pE rfl s,λzb h=>by(cases h),by show 1+nd t.e<=60;lia⟩
def Yn(hl:l∈L)(h:eC L t)(hn:nd t.e<60):eC L ⟨.lab sC l t.e,pz (λw=>aA<|.one l w) t.z,aD⟩:=⟨by
 have s:=h.fV;cases ez:t.z with
 |val c w=>rw[ez] at s;exact ň hl s
 |aO c k=>rw[ez] at s;exact pE rfl s,λzb h=>by(cases h),by show 1+nd t.e<=60;lia⟩
def Yk(h:eC L t)(hn:nd t.e<60):eC L ⟨.Am t.e,pz (λ_=>aD) t.z,aD⟩:=⟨by
 have s:=h.fV;cases ez:t.z with
 |val c w=>rw[ez] at s;exact Ņ s
 |aO c k=>rw[ez] at s;exact ě s,λzb h=>by(cases h),by show 1+nd t.e<=60;lia⟩
def Vz(h:eC L t)(hn:nd t.e<60):eC L ⟨.lab FN l t.e,.val 0<|.fn [] .aE [],aA t.z⟩:=⟨Zy,λzb e=>by cases e;exact⟨l,t.e,rfl,h.fV,rfl⟩,by show 1+nd t.e<=60;lia⟩
def Ke{X:Ex}{i1 i2:Int}{mid:List D}{f:Wo->Wo->Option Wo}(tw:A1 X t.e u.e W i1 i2 mid)(h:eC L t)(h2:eC L u)(hn:nd t.e+nd u.e<60)(k:∀c c2 w v,t.z=.val c w->u.z=.val c2 v->Sem L X (ro (c+c2)<|f w v)):eC L ⟨X,EU (nd t.e) f t.z u.z,aD⟩:=⟨by
 have s:=h.fV;have s2:=h2.fV;cases ez:t.z with
 |aO c k=>rw[ez] at s;exact tw.Q_ s
 |val c w=>
  rw[ez] at s;cases eu:u.z with
  |aO c2 k2=>rw[eu] at s2;exact tw.Qz s s2
  |val c2 v=>exact k c c2 w v ez eu,λzb h=>by(cases h),by have:=tw.n;show nd X<=60;lia⟩
def ħ(hL:Lb L)(hl:l∈L)(h:eC L t)(h2:eC L u)(hn:nd t.e+nd u.e<60):eC L ⟨.fld rB l t.e u.e,EU (nd t.e) (EC l) t.z u.z,aD⟩:=Ke (nV rfl) h h2 hn λc c2 w v e1 e2=>υ hL.len hl (e1 ▸ h.fV)<|e2 ▸ h2.fV
def Yl(hL:Lb L)(hl:l∈L)(h:eC L t)(h2:eC L u)(hn:nd t.e+nd u.e<60):eC L ⟨.fld lR l t.e u.e,EU (nd t.e) (El l) t.z u.z,aD⟩:=Ke (nV rfl) h h2 hn λc c2 w v e1 e2=>Ň hL.len hl (e1 ▸ h.fV)<|e2 ▸ h2.fV
def Ĩ(hW:F7 W)(h:eC L t)(h2:eC L u)(hn:nd t.e+nd u.e<60):eC L ⟨.bin W t.e u.e,EU (nd t.e) (JZ W) t.z u.z,aD⟩:=by
 have hl:(wY AH W).getD []=[1,2]:=by rcases hW with rfl|rfl|rfl|rfl<;>rfl
 exact Ke (ZJ hl) h h2 hn λc c2 w v e1 e2=>ϛ (by rcases hW with rfl|rfl|rfl|rfl<;>rfl) hl (e1 ▸ h.fV)<|e2 ▸ h2.fV
def Vy(h:eC L t)(h2:eC L u)(hn:nd t.e+nd u.e<60)(hf:t.b≠aD\/∀c w,t.z=.val c w->EG w=false):eC L ⟨.bin DO t.e u.e,mN (sg 0 1 [t,u]) λs=>Fy s t.b,aD⟩:=⟨by
 have s:=h.fV;have s2:=h2.fV;have tw:A1 (.bin DO t.e u.e) t.e u.e DO 1 2 []:=ZJ rfl;show Sem L (.bin DO t.e u.e)<|mN (sg 0 1 [t,u]) λs=>Fy s t.b;rw[KC];cases ez:t.z with
 |aO c k=>rw[ez] at s;exact tw.Q_ s
 |val c w=>
  cases eu:u.z with
  |aO c2 k2=>rw[ez] at s;rw[eu] at s2;exact tw.Qz s s2
  |val c2 v=>
   rw[eu] at s2;show Sem L (.bin DO t.e u.e)<|Fy (c+c2) t.b;cases eb:t.b with
   |none=>rw[ez] at s;exact Vj (hf.resolve_left (λq=>q eb) c w ez) s s2
   |some zb=>
    obtain⟨x,e,e1,e2,e3⟩:=h.fn zb eb;rw[ez] at e3;cases e3;rw[e1,ni];exact Vi e2 s2,λzb h=>by(cases h),by show 1+nd t.e+nd u.e<=60;lia⟩
end
section
variable{L:List (List Nat)}{t u v:It}{l x y:List Nat}
noncomputable def AJ:Rz->Option Bool
 |.val _ (.int n)=>aA<|decide (n=0)
 |_=>aD
noncomputable def AK(l:List Nat):Rz->Option Bool
 |.val _ (.one l2 _)=>aA<|decide (l2≠l)
 |_=>aD
def Yi(h:eC L t)(h2:eC L u)(h3:eC L v)(hn:nd t.e+nd u.e+nd v.e<60):eC L ⟨.ite t.e u.e v.e,mN (sg 0 1 [t]) λs=>sH s t u v<|AJ t.z,aD⟩:=⟨by
 have s:=h.fV;have n1:nd (.ite t.e u.e v.e)=1+nd t.e+nd u.e+nd v.e:=rfl
 let R:D->Int->List D:=λN i=>[b_ N t.e<|i+1,b_ N u.e<|i+1+(nd t.e:Int),b_ N v.e<|i+1+(nd t.e:Int)+(nd u.e:Int),.tup [N,.int i]]
 have em:∀N i,b_ N (.ite t.e u.e v.e) i=.tup (.str [105,102]::R N i):=λ_ _=>rfl
 have ex:∀N i,aL (.tup (.str [105,102]::R N i)) (.int 1)=aA (b_ N t.e<|i+1):=λ_ _=>rfl
 have Bj:∀N i,∃r0,D.str [105,102]::R N i=r0++[.tup [N,.int i]]:=λN i=>⟨[_,_,_,_],rfl⟩
 show Sem L (.ite t.e u.e v.e)<|mN (sg 0 1 [t]) λs=>sH s t u v<|AJ t.z;rw[G2];cases ez:t.z with
 |aO c k=>rw[ez] at s;exact Oi (W:=[105,102]) (R:=R) (by rw[n1];lia) rfl em ex s
 |val c w=>
  rw[ez] at s;show Sem L (.ite t.e u.e v.e)<|sH c t u v<|AJ<|.val c w;cases w with
  |int n=>
   show Sem L _<|sH c t u v<|some<|decide (n=0);by_cases hz:n=0
   .rw[decide_eq_true hz];refine JL (W:=[105,102]) (R:=R) (mm:=qP) (o:=1+nd t.e+nd u.e) (b:=v.e) (by rw[n1];lia) rfl rfl em ex s h3.fV λN i w' G ew g=>⟨G,g.le (by rw[n1];lia),λst=>?_⟩
    rw[J_ ew,show i+((1+nd t.e+nd u.e:Nat):Int)=i+1+(nd t.e:Int)+(nd u.e:Int) by lia];exact if_pos hz
   .rw[decide_eq_false hz];refine JL (W:=[105,102]) (R:=R) (mm:=qP) (o:=1+nd t.e) (b:=u.e) (by rw[n1];lia) rfl rfl em ex s h2.fV λN i w' G ew g=>⟨G,g.le (by rw[n1];lia),λst=>?_⟩
    rw[J_ ew,show i+((1+nd t.e:Nat):Int)=i+1+(nd t.e:Int) by lia];exact if_neg hz
  |one k w=>exact C4 (W:=[105,102]) (R:=R) (mm:=qP) (by rw[n1];lia) rfl rfl em ex Bj s λN i w' G st ew=>by obtain⟨u,rfl,_⟩:=J' ew;rfl
  |rc fs=>exact C4 (W:=[105,102]) (R:=R) (mm:=qP) (by rw[n1];lia) rfl rfl em ex Bj s λN i w' G st ew=>by obtain⟨u,rfl,_⟩:=NX ew;rfl
  |fn a b d=>exact C4 (W:=[105,102]) (R:=R) (mm:=qP) (by rw[n1];lia) rfl rfl em ex Bj s λN i w' G st ew=>by obtain⟨_,_,_,rfl⟩:=NV ew;rfl,λzb h=>by(cases h),by show 1+nd t.e+nd u.e+nd v.e<=60;lia⟩
def Zn(h:eC L t)(h2:eC L u)(h3:eC L v)(hn:nd t.e+nd u.e+nd v.e<60):eC L ⟨.w_ t.e l x u.e y v.e,mN (sg 0 1 [t]) λs=>sH s t u v<|AK l t.z,aD⟩:=⟨by
 have s:=h.fV;have n1:nd (.w_ t.e l x u.e y v.e)=1+nd t.e+nd u.e+nd v.e:=rfl
 let W:List Nat:=[99,97,115,101]
 let R:D->Int->List D:=λN i=>[b_ N t.e<|i+1,.str l,.str x,b_ N u.e<|i+1+(nd t.e:Int),.str y,b_ N v.e<|i+1+(nd t.e:Int)+(nd u.e:Int),.tup [N,.int i]]
 have em:∀N i,b_ N (.w_ t.e l x u.e y v.e) i=.tup (.str W::R N i):=λ_ _=>rfl
 have ex:∀N i,aL (.tup (.str W::R N i)) (.int 1)=aA (b_ N t.e<|i+1):=λ_ _=>rfl
 have Bj:∀N i,∃r0,D.str W::R N i=r0++[.tup [N,.int i]]:=λN i=>⟨[_,_,_,_,_,_,_],rfl⟩
 show Sem L (.w_ t.e l x u.e y v.e)<|mN (sg 0 1 [t]) λs=>sH s t u v<|AK l t.z;rw[G2];cases ez:t.z with
 |aO c k=>rw[ez] at s;exact Oi (W:=W) (R:=R) (by rw[n1];lia) rfl em ex s
 |val c w=>
  rw[ez] at s;show Sem L (.w_ t.e l x u.e y v.e)<|sH c t u v<|AK l<|.val c w;cases w with
  |one k w0=>
   show Sem L _<|sH c t u v<|some<|decide (k≠l);have sh:∀(w':Wo) N i (G:Fs D) (st:aF),lU G (nd<|.w_ t.e l x u.e y v.e)->xL st [.tup (.str W::R N i),ev G,.lst [mv<|.one k w']]=if k=l then yM st [b_ N u.e<|i+1+(nd t.e:Int),ev<|eD G x<|mv w'] else yM st [b_ N v.e<|i+1+(nd t.e:Int)+(nd u.e:Int),ev<|eD G y<|mv<|.one k w']:=λw' N i G st g=>by
    show(if (aZ G).length<ae then if k=l then yM st [_,.aI (jK (aZ G) (eK id G) (ky x)<|id<|mv w').1 (jK (aZ G) (eK id G) (ky x)<|id<|mv w').2] else yM st [_,.aI (jK (aZ G) (eK id G) (ky y)<|id<|mv<|.one k w').1 (jK (aZ G) (eK id G) (ky y)<|id<|mv<|.one k w').2] else aD)=_;rw[if_pos g.lt,C9 id g.EW,C9 id g.EW];rfl
   by_cases hz:k=l
   .rw[decide_eq_false λq:k≠l=>q hz];refine JL (W:=W) (R:=R) (mm:=xL) (o:=1+nd t.e) (b:=u.e) (by rw[n1];lia) rfl rfl em ex s h2.fV λN i w' G ew g=>?_
    obtain⟨w2,rfl,_⟩:=J' ew;refine⟨eD G x<|mv w2,g.put (by rw[n1];lia),λst=>?_⟩;rw[sh w2 N i G st g,if_pos hz,show i+((1+nd t.e:Nat):Int)=i+1+(nd t.e:Int) by lia]
   .rw[decide_eq_true hz];refine JL (W:=W) (R:=R) (mm:=xL) (o:=1+nd t.e+nd u.e) (b:=v.e) (by rw[n1];lia) rfl rfl em ex s h3.fV λN i w' G ew g=>?_
    obtain⟨w2,rfl,_⟩:=J' ew;refine⟨eD G y<|mv<|.one k w2,g.put (by rw[n1];lia),λst=>?_⟩;rw[sh w2 N i G st g,if_neg hz,show i+((1+nd t.e+nd u.e:Nat):Int)=i+1+(nd t.e:Int)+(nd u.e:Int) by lia]
  |int n=>exact C4 (W:=W) (R:=R) (mm:=xL) (by rw[n1];lia) rfl rfl em ex Bj s λN i w' G st ew=>by rw[J_ ew];rfl
  |rc fs=>exact C4 (W:=W) (R:=R) (mm:=xL) (by rw[n1];lia) rfl rfl em ex Bj s λN i w' G st ew=>by obtain⟨u,rfl,_⟩:=NX ew;rfl
  |fn a b d=>exact C4 (W:=W) (R:=R) (mm:=xL) (by rw[n1];lia) rfl rfl em ex Bj s λN i w' G st ew=>by obtain⟨_,_,_,rfl⟩:=NV ew;rfl,λzb h=>by(cases h),by show 1+nd t.e+nd u.e+nd v.e<=60;lia⟩
end
def O4{l:List (List Nat)}{r:En}{f g:ME}{i:Int}(hf:f r=aA (.lst<|l.map .str))(hg:g r=aA (.int i))(h0:0<=i)(h1:i<l.length):∃s∈l,zK aL f g r=aA (.str s):=by
 obtain⟨j,rfl⟩:=sy h0;have hj:j<l.length:=by lia
 refine⟨l[j],ww hj,zO hf hg ?_⟩;show iC (l.map D.str) (j:Int)=_;refine gY ?_;rw[bw,bx hj];rfl
def Nt{f:ME}{r:En}{n a b:Int}(h:f r=aA (.int n))(n0:0<=n)(ha:0<a/\a<1073741824)(hb:0<b):zK bT (zK gV f<|mC<|.int a) (mC<|.int b) r=aA (.int<|n / a % b)/\0<=n / a % b/\n / a % b<b:=⟨qE (gU h zE ha) zE hb,jd _<|by lia,je _ hb⟩
def bK{L:List (List Nat)}{f g:ME}{r:En}{n a:Int}(hL:L.length=5)(hf:f r=aA (.lst<|L.map .str))(hg:g r=aA (.int n))(n0:0<=n)(ha:0<a/\a<1073741824):∃s∈L,zK aL f (zK bT (zK gV g<|mC<|.int a)<|mC<|.int 5) r=aA (.str s):=by
 obtain⟨h1,h2,h3⟩:=Nt (b:=5) hg n0 ha (by decide);exact O4 hf h1 h2 (by lia)
def nP{ws:List (List Nat)}{f g:ME}{r:En}{n a:Int}(hw:0<ws.length)(hf:f r=aA (.lst<|ws.map .str))(hg:g r=aA (.int n))(n0:0<=n)(ha:0<a/\a<1073741824)(b:Int)(hb:b=ws.length):∃s∈ws,zK aL f (zK bT (zK gV g<|mC<|.int a)<|mC<|.int b) r=aA (.str s):=by
 obtain⟨h1,h2,h3⟩:=Nt (b:=b) hg n0 ha (by lia);exact O4 hf h1 h2 (by lia)
section
variable{L:List (List Nat)}{t u v:It}{n:Int}
def Rb(t:It):aL (eZ t.z) (.int 0)=aA (.str (match t.z with | .val _ _=>lP | .aO _ _=>iD)):=by cases t.z<;>rfl
def fU(e:t.z=.val c w):aL (eZ t.z) (.int 2)=aA (du w):=by rw[e];rfl
noncomputable def qN(t:It):Bool:=match t.z with | .val _ _=>true | .aO _ _=>false
def X5{f:ME}{r:En}(h:f r=aA (eZ t.z)):aP (zK c_ (zK aL f<|mC<|.int 0) B9) r=aA (qN t):=by
 refine wN<|zO (x:=.str (match t.z with | .val _ _=>lP | .aO _ _=>iD)) (zO h zE<|Rb t) zE ?_;unfold qN;cases t.z<;>rfl
def gM(h:qN t=true):∃c w,t.z=.val c w:=by
 unfold qN at h;cases e:t.z with
 |val c w=>exact⟨c,w,rfl⟩
 |aO c k=>rw[e] at h;cases h
def Ĕ(h:qN t=false):∃c k,t.z=.aO c k:=by
 unfold qN at h;cases e:t.z with
 |val c w=>rw[e] at h;cases h
 |aO c k=>exact⟨c,k,rfl⟩
abbrev R1(n:Int)(L:List (List Nat))(t:It)(l so w:List Nat):En:=[.v<|.int n,.v<|.lst<|L.map .str,.v<|aJ t,.v<|.str l,.v<|.str so,.v<|.str w]
def Jq:MS:=(aR (y3 (aP<|zK c_ (zD 4) Ar)<|y3 MT A2)
 (yA (xB 3 MY)
 (xB 5 Uv))
 (aR (y3 (aP<|zK c_ (zD 4) z_) A2)
 (xB 5 M0)
 (aR A2
 (xB 5 Iq)
 zV)))
def WS:List (List Nat):=[l_,Ad,JU,sC,Aw,FN]
def JD(hL:Lb L)(h:eC L t)(n0:0<=n)(hl:l∈L)(hw:w∈WS)(Lm:so=[]\/∃c x,t.z=.val c x/\so=uJ x):∃l' w',l'∈L/\w'∈WS/\Jq (R1 n L t l so w)=aA (.nx<|R1 n L t l' so w'):=by
 let r:=R1 n L t l so w
 have m5:B8 r=aA (.int<|n % 5):=qE rfl zE (by decide);have g5:A2 r=aA (decide (0<n % 5)):=QV m5 zE;have wd:∀(a b:List Nat) (l2:List Nat),a∈WS->b∈WS->∃w'∈WS,xB 5 (zK aL (xQ<|yL<|zA (mC<|.str a)<|zA (mC<|.str b) zM) FO) (R1 n L t l2 so w)=aA (.nx<|R1 n L t l2 so w'):=λa b l2 ha hb=>by
  obtain⟨s,hs,e⟩:=nP (ws:=[a,b]) (f:=xQ<|yL<|zA (mC<|.str a)<|zA (mC<|.str b) zM) (g:=zD 0) (r:=R1 n L t l2 so w) (by simp) rfl rfl n0 (a:=25) (by decide) 2 rfl;refine⟨s,?_,xF e<|by rfl⟩;rcases bq.mp hs with rfl|hs
  .exact ha
  .rw[ck.mp hs];exact hb
 have e4:∀k:List Nat,aP (zK c_ (zD 4)<|mC<|.str k) r=aA (decide (so=k)):=λk=>rfl
 have tail:∃l' w',l'∈L/\w'∈WS/\(aR (y3 (aP<|zK c_ (zD 4) z_) A2)
 (xB 5 M0)
 (aR A2
 (xB 5 Iq)
 zV)) r=aA (.nx<|R1 n L t l' so w'):=by
  have two:∃l' w',l'∈L/\w'∈WS/\(aR A2
 (xB 5 Iq)
 zV) r=aA (.nx<|R1 n L t l' so w'):=by
   by_cases z:0<n % 5
   .obtain⟨w',h1,h2⟩:=wd FN sC l (by decide) (by decide);rw[vC<|by rw[g5,decide_eq_true z]];exact⟨l,w',hl,h1,h2⟩
   .rw[wX<|by rw[g5,decide_eq_false z]];exact⟨l,w,hl,hw,rfl⟩
  by_cases y:so=[111,110,101]
  .by_cases z:0<n % 5
   .obtain⟨w',h1,h2⟩:=wd JU sC l (by decide) (by decide);rw[vC<|by rw[xM<|by rw[e4,decide_eq_true y],g5,decide_eq_true z]];exact⟨l,w',hl,h1,h2⟩
   .rw[wX<|by rw[xM<|by rw[e4,decide_eq_true y],g5,decide_eq_false z]];exact two
  .rw[wX<|j0<|by rw[e4,decide_eq_false y]];exact two
 unfold Jq;by_cases y:so=[114,101,99]
 .obtain⟨c,x,ez,es⟩:=Lm.resolve_left (by rw[y];simp);obtain⟨fs,rfl⟩:∃fs,x=.rc fs:=by
   cases x with
   |rc fs=>exact⟨fs,rfl⟩
   |int k=>rw[es] at y;exact absurd y (by show f8≠_;decide)
   |one k w=>rw[es] at y;exact absurd y (by show fT≠_;decide)
   |fn a b d=>rw[es] at y;exact absurd y (by show FN≠_;decide)
  obtain⟨g1,g2⟩:=h.gw ez
  let P:=fA<|mF du fs
  have pr:∀{q:En},zD 2 q=aA (aJ t)->Ea q=aA (.tup<|P.map pD):=λ{q} hq=>zO (x:=du<|.rc fs) (zO (x:=eZ t.z) (zO hq zE rfl) zE<|fU ez) zE (by rw[Eu];rfl)
  have ly:A5 (P.map pD) 300:=YM λd hd=>by
   obtain⟨p,hp,rfl⟩:=gh.mp hd;have lk:aK P p.1=aA p.2:=by
    have:∀{Q:Fs D},(aN Q).Nodup->p∈Q->aK Q p.1=aA p.2:=λ{Q}=>by
     induction Q with
     |nil=>intro _ h;cases h
     |cons a Q ih=>
      intro hn hp;have t_:(a.1::aN Q).Nodup:=hn;rw[dm] at t_;show(if a.1=p.1 then aA a.2 else aK Q p.1)=_;rcases bq.mp hp with e|e
      .rw[e,if_pos rfl]
      .rw[if_neg λz:a.1=p.1=>t_.1 (by rw[z];exact gh.mpr ⟨p,e,rfl⟩)];exact ih t_.2 e
    exact this (Z8 (by rw[mR];exact g1.1)) hp
   rw[Kd,YN] at lk;cases e:aK fs p.1 with
   |none=>rw[e] at lk;cases lk
   |some x=>
    rw[e] at lk;have e2:p.2=du x:=(bu lk).symm
    have:=Gv e
    have g2':1+eR fs<=60:=g2
    have:=b7 (n:=3*ps x)<|wJ (b8 (OV hL g1 p hp).ok) (wJ (EH hL x<|IX g1 e) jU<|ah _)<|ah _
    show Ly (.tup [.str p.1,p.2]) 300;rw[e2];exact this.le (by lia)
  have ne:MT r=aA (!(P.map pD).isEmpty):=wN (zO (pr rfl) (show wI zM r=aA (.tup []) from rfl)<|Ě ly<|by decide);by_cases e0:(P.map pD).isEmpty=true
  .rw[wX (by rw[xM<|by rw[e4,decide_eq_true y]];exact j0 (by rw[ne,e0];rfl))];exact tail
  .have HM:(P.map pD).isEmpty=false:=by simpa using e0
   by_cases z:0<n % 5
   .rw[vC<|by rw[xM<|by rw[e4,decide_eq_true y],xM (by rw[ne,HM];rfl),g5,decide_eq_true z]];have pl:0<P.length:=by
     cases hP:P with
     |nil=>rw[hP] at HM;cases HM
     |cons a b=>simp
    have ln:aU tS Ea r=aA (.int (P.length:Int)):=vL (pr rfl) (by show aA (D.int ((P.map pD).length:Int))=_;rw[ag]);have ix:zK bT Mv (aU tS Ea) r=aA (.int<|n / 5 % (P.length:Int)):=qE (gU rfl zE<|by decide) ln (by lia);have i0:0<=n / 5 % (P.length:Int):=jd _ (by lia);have i1:n / 5 % (P.length:Int)<P.length:=je _ (by lia);obtain⟨j,hj⟩:=sy i0;have S_:j<P.length:=by lia
    have pj:MY r=aA (.str (P[j]).1):=by
     refine zO (x:=pD P[j]) (zO (pr rfl) ix ?_) zE rfl;rw[hj];show iC (P.map pD) (j:Int)=_;refine gY ?_;rw[bw,bx S_];rfl
    have lj:(P[j]).1∈L:=by
     have:(P[j]).1∈aN P:=gh.mpr ⟨_,ww S_,rfl⟩
     rw[oI,mR] at this;exact g1.2.1 _<|v7 _ this
    obtain⟨w',h1,h2⟩:=wd l_ Ad (P[j]).1 (by decide) (by decide);refine⟨(P[j]).1,w',lj,h1,?_⟩;exact zT (.str (P[j]).1) pj (r2:=R1 n L t (P[j]).1 so w) (by rfl) h2
   .rw[wX<|by rw[xM<|by rw[e4,decide_eq_true y],xM (by rw[ne,HM];rfl),g5,decide_eq_false z]];exact tail
 .rw[wX<|j0<|by rw[e4,decide_eq_false y]];exact tail
def Yo(hL:Lb L)(h5:L.length=5)(h:eC L t)(n0:0<=n)(hn:nd t.e<60):∃t',eC L t'/\nd t'.e=1+nd t.e/\dp t'.e=1+dp t.e/\∃as,jI [.v<|.int n,.v<|.lst<|L.map .str,.v<|aJ t]=aA (.v<|aJ t',as):=by
 let R0:En:=[.v<|.int n,.v<|.lst<|L.map .str,.v<|aJ t,.un,.un,.un]
 obtain⟨l0,Fj,e0⟩:=bK (f:=zD 1) (g:=zD 0) (r:=R0) h5 rfl rfl n0 (a:=5) (by decide);have so:∃so,(so=[]\/∃c x,t.z=.val c x/\so=uJ x)/\aR FJ (xB 4<|zP 1 y0<|zA Im zM) zV [.v<|.int n,.v<|.lst<|L.map .str,.v<|aJ t,.v<|.str l0,.v<|.str [],.un]=aA (.nx [.v<|.int n,.v<|.lst<|L.map .str,.v<|aJ t,.v<|.str l0,.v<|.str so,.un]):=by
  let r:En:=[.v<|.int n,.v<|.lst<|L.map .str,.v<|aJ t,.v<|.str l0,.v<|.str [],.un]
  have v:=X5 (t:=t) (f:=FM) (r:=r) rfl;cases hv:qN t with
  |false=>rw[hv] at v;exact⟨[],.inl rfl,by rw[wX v];rfl⟩
  |true=>
   rw[hv] at v;obtain⟨c,x,ez⟩:=gM hv;refine⟨uJ x,.inr ⟨c,x,ez,rfl⟩,?_⟩;rw[vC v];exact xF (k8 (w:=x)<|zO (x:=eZ t.z) rfl zE<|fU ez) (by rfl)
 obtain⟨so,Lm,es⟩:=so
 let R3:En:=[.v<|.int n,.v<|.lst<|L.map .str,.v<|aJ t,.v<|.str l0,.v<|.str so,.un]
 obtain⟨w0,Dx,ew⟩:=nP (ws:=[l_,Ad,JU,sC,Aw]) (f:=xQ<|yL<|A8 [[103,101,116],[108,101,115,115],[119,105,100,101],[116,97,103],[110,101,118,101,114]]) (g:=zD 0) (r:=R3) (by simp) rfl rfl n0 (a:=25) (by decide) 5 rfl;have qd9:w0∈WS:=qp [FN] Dx;obtain⟨l,w,hl,hw,ec⟩:=JD hL h n0 Fj qd9 Lm;have start:∀{t':It} {r':En},(yA (aR (aP<|zK c_ (zD 5) Bo)
 (xE UQ)
 zV)
 (yA (aR (aP<|zK c_ (zD 5) Ie)
 (xB 3<|mC .aE)
 zV)
 (xE<|zP 3 xA<|zA (zD 5)<|zA (zD 3)<|zA (xQ<|yL<|zA (zD 2) zM) zM))) (R1 n L t l so w)=aA (.rt (aJ t') r')->∃as,jI [.v<|.int n,.v<|.lst<|L.map .str,.v<|aJ t]=aA (.v<|aJ t',as):=λ{t' r'} hq=>by
  refine wF (r':=r') ?_;show kG R0=_;unfold kG;refine zT (.str l0) e0 (by rfl)<|zT (.str []) zE (r2:=[.v<|.int n,.v<|.lst<|L.map .str,.v<|aJ t,.v<|.str l0,.v<|.str [],.un]) (by rfl) ?_;rw[yB es];refine zT (.str w0) ew (r2:=R1 n L t l0 so w0) (by rfl) ?_;unfold Jq at ec;rw[yB ec];exact hq
 have lb:∀s:List Nat,(D.str s=.aE\/∃s',D.str s=.str s'):=λs=>.inr ⟨s,rfl⟩
 have pl:∀{W:List Nat} {f:Wo->Option Wo},w=W->W≠FN->W≠Aw->(∀x,gw L x->ps x<=100->∃as,yJ [.v<|.str W,.v<|.str l,.v<|.lst [du x]]=aA (.v<|oD<|f x,as))->eC L ⟨.lab W l t.e,pz f t.z,aD⟩->∃t',eC L t'/\nd t'.e=1+nd t.e/\dp t'.e=1+dp t.e/\∃as,jI [.v<|.int n,.v<|.lst<|L.map .str,.v<|aJ t]=aA (.v<|aJ t',as):=λ{W f} e h1 h2 FA ok=>by
  subst e;have p:=OP (X:=.lab w l t.e) h (lb l) rfl rfl rfl FA;refine⟨_,ok,rfl,rfl,start (r':=R1 n L t l so w)<|yR (by show aA (decide (w=FN))=_;rw[decide_eq_false h1])<|yR (by show aA (decide (w=Aw))=_;rw[decide_eq_false h2])<|yG<|yN (p:=.v _) (zB rfl<|zB rfl<|zB rfl zQ) rfl p⟩
 have hw':w=l_\/w=Ad\/w=JU\/w=sC\/w=Aw\/w=FN:=by unfold WS at hw;simpa using hw
 rcases hw' with e|e|e|e|e|e
 .exact pl e (by decide) (by decide) (λx g p=>Û hL g p)<|Zo h hn
 .exact pl e (by decide) (by decide) (λx g p=>Ŭ hL hl g p)<|Ģ h hn
 .exact pl e (by decide) (by decide) (λx g p=>ŭ hL hl g)<|Ħ h hn
 .exact pl e (by decide) (by decide) (λx g p=>Þ)<|Yn hl h hn
 .subst e;have p:=OP (X:=.Am t.e) (W:=Aw) (lab:=.aE) (f:=λ_=>aD) h (.inl rfl) rfl rfl rfl λx g p=>Ü;refine⟨_,Yk h hn,rfl,rfl,start (r':=[.v<|.int n,.v<|.lst<|L.map .str,.v<|aJ t,.v .aE,.v<|.str so,.v<|.str Aw])<|yR (by rfl) ?_⟩;rw[yB (r':=[.v<|.int n,.v<|.lst<|L.map .str,.v<|aJ t,.v .aE,.v<|.str so,.v<|.str Aw]) (by rw[vC<|by rfl];rfl)];exact yG<|yN (p:=.v _) (zB rfl<|zB rfl<|zB rfl zQ) rfl p
 .subst e;refine⟨⟨.lab FN l t.e,.val 0<|.fn [] .aE [],aA t.z⟩,Vz h hn,rfl,rfl,start (r':=R1 n L t l so FN)<|xR (by rfl)<|yG ?_⟩;rw[<-OF (.lab FN l t.e) _ (aA t.z) (((nd t.e:Nat):Int)+1) (((dp t.e:Nat):Int)+1) (by show _=((1+nd t.e:Nat):Int);lia) (by show _=((1+dp t.e:Nat):Int);lia)];exact wH (zB (sI zE rfl rfl)<|zB (xD rfl zE)<|zB (xD rfl zE)<|zB zE<|zB rfl zQ) (by show 5<=100;decide)
end
section
variable{L:List (List Nat)}{t u v:It}{n:Int}
def Yd{f:ME}{r:En}(hL:Lb L)(h:eC L t)(ez:t.z=.val c w)(hf:f r=aA (du w)):aP (zK (AZ 400) f HW) r=aA (EG w):=by
 obtain⟨g1,g2⟩:=h.gw ez;have l1:=EH hL w g1;refine wN<|zO hf (show HW r=aA (.tup [.str [102,110]]) from rfl) ?_;unfold AZ;rw[if_pos ⟨l1.n<|by lia,(b7 (n:=0)<|wJ (b8<|Hg [102,110]) jU<|ah _).n<|by decide⟩];cases w with
 |int k=>rfl
 |one k w=>
  show aA (D.bl<|xy (fI<|.str [111,110,101]) (fI<|.str [102,110]) && vh [fI<|.str k,fI<|du w] [])=_;rw[show vh [fI<|.str k,fI<|du w] []=false from rfl,uy];rfl
 |rc fs=>
  show aA (D.bl<|xy (fI<|.str [114,101,99]) (fI<|.str [102,110]) && vh [fI<|.tup<|lW<|i9 fs] [])=_;rw[show vh [fI<|.tup<|lW<|i9 fs] []=false from rfl,uy];rfl
 |fn a b d=>
  show aA (D.bl<|((⟨([102,110]:List Nat).toArray⟩:Str) == ⟨([102,110]:List Nat).toArray⟩) && true)=_;rw[beq_self_eq_true];rfl
def Ç(hL:Lb L)(h5:L.length=5)(h:eC L t)(h2:eC L u)(n0:0<=n)(hn:nd t.e+nd u.e<60):∃t',eC L t'/\nd t'.e=1+nd t.e+nd u.e/\dp t'.e=1+max (dp t.e) (dp u.e)/\∃as,jH [.v<|.int n,.v<|.lst<|L.map .str,.v<|aJ t,.v<|aJ u]=aA (.v<|aJ t',as):=by
 let R0:En:=[.v<|.int n,.v<|.lst<|L.map .str,.v<|aJ t,.v<|aJ u,.un,.un]
 obtain⟨l,hl,e0⟩:=bK (f:=zD 1) (g:=zD 0) (r:=R0) h5 rfl rfl n0 (a:=5) (by decide)
 let R1:Sl->En:=λy=>[.v<|.int n,.v<|.lst<|L.map .str,.v<|aJ t,.v<|aJ u,.v<|.str l,y]
 have m5:B8 (R1 .un)=aA (.int<|n % 5):=qE rfl zE (by decide);have start:∀{t':It} {r':En},(yA (aR (XT Ip<|y3 (aP DW)<|bV<|y3 FJ M5)
 (xE<|zP 2 bA<|zA (zD 2)<|zA (zD 3) zM)
 zV)
 (yA (aR (XT (y3 CS CT)<|aP Ik)
 (yA (xB 5 Uu)
 (yA (aR (y3 Ib<|y3 CS CT)
 (xB 5 M_)
 zV)
 (xE<|zP 3 xA<|zA (zD 5)<|zA (zD 4)<|zA (xQ<|yL<|zA (zD 2)<|zA (zD 3) zM) zM)))
 zV)
 (xE<|zP 3 xA<|zA UF<|zA (mC .aE)<|zA (xQ<|yL<|zA (zD 2)<|zA (zD 3) zM) zM))) (R1 .un)=aA (.rt (aJ t') r')->∃as,jH [.v<|.int n,.v<|.lst<|L.map .str,.v<|aJ t,.v<|aJ u]=aA (.v<|aJ t',as):=λ{t' r'} hq=>by
  refine wF (r':=r') ?_;show kF R0=_;unfold kF;exact zT (.str l) e0 (r2:=R1 .un) (by rfl) hq
 have c1:∃b,XT Ip (y3 (aP DW)<|bV<|y3 FJ M5) (R1 .un)=aA b/\(b=true->t.b≠aD\/∀c w,t.z=.val c w->EG w=false):=by
  have b4:Ip (R1 .un)=aA t.b.isSome:=wN (zO (x:=bD t.b) rfl zE (by cases t.b with
   |none=>rfl
   |some z=>cases z<;>rfl))
  cases eb:t.b with
  |some zb=>rw[eb] at b4;exact⟨true,GJ b4,λ_=>.inl<|by simp⟩
  |none=>
   rw[eb] at b4;rw[YB b4];have e5:aP DW (R1 .un)=aA (decide (n % 5=0)):=wN<|zO m5 zE rfl;by_cases z:n % 5=0
   .rw[xM<|by rw[e5,decide_eq_true z]];have v:=X5 (t:=t) (f:=FM) (r:=R1 .un) rfl;cases hv:qN t with
    |false=>
     rw[hv] at v;refine⟨true,by unfold bV;rw[j0 v];rfl,λ_=>.inr λc w e=>?_⟩;obtain⟨c',k,e'⟩:=Ĕ hv;rw[e] at e';cases e'
    |true=>
     rw[hv] at v;obtain⟨c,w,ez⟩:=gM hv;refine⟨!EG w,by unfold bV;rw[xM v];exact congrArg (Option.map λx=>!x)<|Yd hL h ez<|zO (x:=eZ t.z) rfl zE<|fU ez,λhb=>.inr λc' w' e'=>?_⟩;rw[ez] at e';cases e';simpa using hb
   .exact⟨false,j0<|by rw[e5,decide_eq_false z],λh=>by cases h⟩
 obtain⟨b1,e1,hb1⟩:=c1;cases b1 with
 |true=>
  have ok:=Vy h h2 hn<|hb1 rfl;exact⟨_,ok,rfl,rfl,start (r':=R1 .un)<|xR e1<|yG<|yN (p:=.v _) (zB rfl<|zB rfl zQ) rfl<|Vh t u⟩
 |false=>
  have rec_of:∀y,∃b,y3 CS CT (R1 y)=aA b/\(b=true->∃c fs,u.z=.val c (.rc fs)):=λy=>by
   have v:=X5 (t:=u) (f:=FQ) (r:=R1 y) rfl;cases hv:qN u with
   |false=>rw[hv] at v;exact⟨false,j0 v,λh=>by cases h⟩
   |true=>
    rw[hv] at v;obtain⟨c,w,ez⟩:=gM hv;refine⟨decide (uJ w=fJ),by rw[xM v];exact wN<|zO (k8 (w:=w)<|zO (x:=eZ u.z) rfl zE<|fU ez) zE rfl,λhb=>?_⟩;have hb:=of_decide_eq_true hb;cases w with
    |rc fs=>exact⟨c,fs,ez⟩
    |int k=>exact absurd hb (by show f8≠fJ;decide)
    |one k w=>exact absurd hb (by show fT≠fJ;decide)
    |fn a b d=>exact absurd hb (by show FN≠fJ;decide)
  obtain⟨b2,e2,Tc⟩:=rec_of .un;have e5:aP Ik (R1 .un)=aA (decide (n % 5=1)):=wN<|zO m5 zE rfl;have or2:∃b,XT (y3 CS CT) (aP Ik) (R1 .un)=aA b:=by
   cases b2 with
   |true=>exact⟨true,GJ e2⟩
   |false=>exact⟨_,(YB e2).trans e5⟩
  obtain⟨b3,e3⟩:=or2;cases b3 with
  |true=>
   obtain⟨w0,Dx,ew⟩:=nP (ws:=[rB,lR]) (f:=xQ<|yL<|zA FL<|zA MJ zM) (g:=zD 0) (r:=R1 .un) (by simp) rfl rfl n0 (a:=25) (by decide) 2 rfl;have Dx:w0=rB\/w0=lR:=by simpa using Dx
   have ch:∃w,(w=rB\/w=lR)/\aR (y3 Ib<|y3 CS CT) (xB 5 M_) zV (R1<|.v<|.str w0)=aA (.nx<|R1<|.v<|.str w):=by
    have g5:Ib (R1<|.v<|.str w0)=aA (decide (2<n % 5)):=QV (qE rfl zE<|by decide) zE;by_cases z:2<n % 5
    .obtain⟨b,eb,hb⟩:=rec_of<|.v<|.str w0;cases b with
     |false=>exact⟨w0,Dx,by rw[wX<|by rw[xM<|by rw[g5,decide_eq_true z],eb]];rfl⟩
     |true=>
      obtain⟨c,fs,ez⟩:=hb rfl;obtain⟨g1,g2⟩:=h2.gw ez;have nl:=PH hL g1 (by lia) (f:=Ic) (g:=zD 4) (r:=R1<|.v<|.str w0) (l:=l) (zO (x:=eZ u.z) rfl zE<|fU ez) rfl;refine⟨if (aK fs l).isNone then rB else lR,by split<;>simp,?_⟩;rw[vC<|by rw[xM<|by rw[g5,decide_eq_true z],eb]];refine xF (d:=.str (if (aK fs l).isNone then rB else lR)) (zO (x:=.lst [.str lR,.str rB]) rfl (vL nl rfl) ?_) (by rfl);cases (aK fs l).isNone<;>rfl
    .exact⟨w0,Dx,by rw[wX<|j0<|by rw[g5,decide_eq_false z]];rfl⟩
   obtain⟨w,hw,ec⟩:=ch;have fin:∀{t':It},(∃as,xA [.v<|.str w,.v<|.str l,.v<|.lst [aJ t,aJ u]]=aA (.v<|aJ t',as))->∃as,jH [.v<|.int n,.v<|.lst<|L.map .str,.v<|aJ t,.v<|aJ u]=aA (.v<|aJ t',as):=λ{t'} p=>start (r':=R1<|.v<|.str w) (yR e1 (xR e3 (by
    refine zT (.str w0) ew (r2:=R1<|.v<|.str w0) (by rfl) ?_;rw[yB ec];exact yG<|yN (p:=.v<|aJ t') (zB rfl<|zB rfl<|zB rfl zQ) rfl p)))
   rcases hw with rfl|rfl
   .exact⟨_,ħ hL hl h h2 hn,rfl,rfl,fin<|Kb (X:=.fld rB l t.e u.e) h h2 (.inr ⟨l,rfl⟩) rfl rfl rfl λx y g g' p=>Ů hL (by lia) hl g' p⟩
   .exact⟨_,Yl hL hl h h2 hn,rfl,rfl,fin<|Kb (X:=.fld lR l t.e u.e) h h2 (.inr ⟨l,rfl⟩) rfl rfl rfl λx y g g' p=>Ý hL (by lia) hl g' p⟩
  |false=>
   obtain⟨w,hw,ew⟩:=nP (ws:=[[43],[45],[42],[60]]) (f:=xQ<|yL<|A8 [[43],[45],[42],[60]]) (g:=zD 0) (r:=R1 .un) (by simp) rfl rfl n0 (a:=25) (by decide) 4 rfl;have hw:F7 w:=by unfold F7;simpa using hw
   exact⟨_,Ĩ hw h h2 hn,rfl,rfl,start (r':=R1 .un)<|yR e1<|yR e3<|yG<|yN (p:=.v _) (zB ew<|zB zE<|zB rfl zQ) rfl<|Kb (X:=.bin w t.e u.e) (lab:=.aE) h h2 (.inl rfl) rfl rfl rfl λx y g g' p=>ů hw x y g g'⟩
end
section
variable{L:List (List Nat)}{t u v:It}{n:Int}
def iI(t:It):List Nat:=match t.z with | .val _ w=>uJ w | .aO _ _=>f8
def Zz{f:ME}{r:En}(h:f r=aA (eZ t.z)):zP 1 y0 (zA (zK aL f<|mC<|.int 2) zM) r=aA (.str<|iI t):=by
 unfold iI;cases e:t.z with
 |val c w=>exact k8 (w:=w)<|zO h zE<|fU e
 |aO c k=>exact k8 (w:=.int (k:Nat))<|zO h zE (by rw[e];rfl)
def O2(hv:qN t=true)(hs:iI t=fT):∃c k w,t.z=.val c (.one k w):=by
 obtain⟨c,w,e⟩:=gM hv;unfold iI at hs;rw[e] at hs;cases w with
 |one k w=>exact⟨c,k,w,e⟩
 |int k=>exact absurd hs (by show f8≠fT;decide)
 |rc fs=>exact absurd hs (by show fJ≠fT;decide)
 |fn a b d=>exact absurd hs (by show FN≠fT;decide)
def Z_(hv:qN t=true)(hs:iI t=f8):∃c k,t.z=.val c (.int k):=by
 obtain⟨c,w,e⟩:=gM hv;unfold iI at hs;rw[e] at hs;cases w with
 |int k=>exact⟨c,k,e⟩
 |one k w=>exact absurd hs (by show fT≠f8;decide)
 |rc fs=>exact absurd hs (by show fJ≠f8;decide)
 |fn a b d=>exact absurd hs (by show FN≠f8;decide)
def Ä(h:¬(qN t=true/\iI t=fT)):AK l t.z=aD:=by
 unfold qN iI at h;cases e:t.z with
 |aO c k=>rfl
 |val c w=>
  rw[e] at h;cases w with
  |one k w=>exact absurd ⟨rfl,rfl⟩ h
  |int k=>rfl
  |rc fs=>rfl
  |fn a b d=>rfl
def Å(h:¬(qN t=true/\iI t=f8)):AJ t.z=aD:=by
 unfold qN iI at h;cases e:t.z with
 |aO c k=>rfl
 |val c w=>
  rw[e] at h;cases w with
  |int k=>exact absurd ⟨rfl,rfl⟩ h
  |one k w=>rfl
  |rc fs=>rfl
  |fn a b d=>rfl
def Ϟ(h5:L.length=5)(h:eC L t)(h2:eC L u)(h3:eC L v)(n0:0<=n)(hn:nd t.e+nd u.e+nd v.e<60):∃t',eC L t'/\nd t'.e=1+nd t.e+nd u.e+nd v.e/\dp t'.e=1+max (max (dp t.e)<|dp u.e) (dp v.e)/\∃as,qK [.v<|.int n,.v<|.lst<|L.map .str,.v<|.lst<|[t,u,v].map aJ]=aA (.v<|aJ t',as):=by
 let I:D:=.lst<|[t,u,v].map aJ
 let R0:En:=[.v<|.int n,.v<|.lst<|L.map .str,.v I,.un,.un,.un,.un,.un,.un,.un]
 obtain⟨l0,Fj,e0⟩:=bK (f:=zD 1) (g:=zD 0) (r:=R0) h5 rfl rfl n0 (a:=5) (by decide);obtain⟨x,hx,ex⟩:=bK (f:=zD 1) (g:=zD 0) (r:=[.v<|.int n,.v<|.lst<|L.map .str,.v I,.v<|.str l0,.un,.un,.un,.un,.un,.un]) h5 rfl rfl n0 (a:=25) (by decide);obtain⟨y,hy,ey⟩:=bK (f:=zD 1) (g:=zD 0) (r:=[.v<|.int n,.v<|.lst<|L.map .str,.v I,.v<|.str l0,.v<|.str x,.un,.un,.un,.un,.un]) h5 rfl rfl n0 (a:=125) (by decide)
 let R:List Nat->Sl->Sl->En:=λl a b=>[.v<|.int n,.v<|.lst<|L.map .str,.v I,.v<|.str l,.v<|.str x,.v<|.str y,.v<|eZ t.z,.v<|.str<|iI t,a,b]
 have m5:∀{l a b},B8 (R l a b)=aA (.int<|n % 5):=λ{l a b}=>qE rfl zE (by decide)
 have vl:∀{l a b},aP y_ (R l a b)=aA (qN t):=λ{l a b}=>X5 (t:=t) (f:=zD 6) rfl
 have ϥ:∀{l a b},y_ (R l a b)=aA (.bl<|qN t):=λ{l a b}=>zO (x:=.str (match t.z with | .val _ _=>lP | .aO _ _=>iD)) (zO (x:=eZ t.z) rfl zE<|Rb t) zE (by unfold qN;cases t.z<;>rfl)
 have s1:∀{l a b},aP B7 (R l a b)=aA (decide (iI t=fT)):=λ{l a b}=>rfl
 have sN:∀{l a b},Ij (R l a b)=aA (decide (iI t=f8)):=λ{l a b}=>rfl
 have lab:∃l,l∈L/\aR (y3 (aP y_)<|y3 (aP B7) MA) (xB 3 Mq) zV (R l0 .un .un)=aA (.nx<|R l .un .un):=by
  cases hv:qN t with
  |false=>exact⟨l0,Fj,by rw[wX<|j0<|by rw[vl,hv]];rfl⟩
  |true=>
   by_cases hs:iI t=fT
   .have g5:MA (R l0 .un .un)=aA (decide (1<n % 5)):=QV m5 zE;by_cases z:1<n % 5
    .obtain⟨c,k,w,ez⟩:=O2 hv hs;have g:=(h.gw ez).1;refine⟨k,g.1,?_⟩;rw[vC<|by rw[xM<|by rw[vl,hv],xM<|by rw[s1,decide_eq_true hs],g5,decide_eq_true z]];exact xF (d:=.str k) (zO (x:=du<|.one k w) (zO (x:=eZ t.z) rfl zE<|fU ez) zE rfl) (by rfl)
    .exact⟨l0,Fj,by rw[wX<|by rw[xM<|by rw[vl,hv],xM<|by rw[s1,decide_eq_true hs],g5,decide_eq_false z]];rfl⟩
   .exact⟨l0,Fj,by rw[wX (by rw[xM<|by rw[vl,hv]];exact j0<|by rw[s1,decide_eq_false hs])];rfl⟩
 obtain⟨l,hl,el⟩:=lab;have start:∀{t':It} {r':En},(yA (aR Mu
 (yA (xB 8<|mC .aE)
 (yA (aR (y3 (aP y_)<|aP B7)
 (xB 8 Nd)
 zV)
 (yA (xB 9 UI)
 (xE<|zP 3 wE<|zA (zD 9)<|zA (zD 2)<|zA (zD 8) zM))))
 zV)
 (yA (xB 8<|mC .aE)
 (yA (aR (y3 (aP y_) Ij)
 (xB 8 M2)
 zV)
 (xE<|zP 3 wE<|zA M9<|zA (zD 2)<|zA (zD 8) zM)))) (R l .un .un)=aA (.rt (aJ t') r')->∃as,qK [.v<|.int n,.v<|.lst<|L.map .str,.v I]=aA (.v<|aJ t',as):=λ{t' r'} hq=>by
  refine wF (r':=r') ?_;show qG R0=_;unfold qG;refine zT (.str l0) e0 (by rfl)<|zT (.str x) ex (by rfl)<|zT (.str y) ey (r2:=[.v<|.int n,.v<|.lst<|L.map .str,.v I,.v<|.str l0,.v<|.str x,.v<|.str y,.un,.un,.un,.un]) (by rfl)<|zT (eZ t.z) (by rfl) (r2:=[.v<|.int n,.v<|.lst<|L.map .str,.v I,.v<|.str l0,.v<|.str x,.v<|.str y,.v<|eZ t.z,.un,.un,.un]) (by rfl)<|zT (.str<|iI t) (Zz (f:=zD 6) rfl) (r2:=R l0 .un .un) (by rfl) ?_;rw[yB el];exact hq
 have LC:Bc [t,u,v]=((max (max (dp t.e)<|dp u.e) (dp v.e):Nat):Int):=by show max (max ((dp t.e:Nat):Int) ((dp u.e:Nat):Int)) ((dp v.e:Nat):Int)=_;lia
 have SY:([t,u,v].map λt=>((nd t.e:Nat):Int)).sum=((nd t.e+nd u.e+nd v.e:Nat):Int):=by show((nd t.e:Nat):Int)+(((nd u.e:Nat):Int)+(((nd v.e:Nat):Int)+0))=_;lia
 have an:dG y_ B7 (R l .un .un)=aA (.bl<|qN t && decide (iI t=fT)):=by
  unfold dG;rw[ϥ,aa];cases qN t<;>rfl
 have e5:DW (R l .un .un)=aA (.bl<|decide (n % 5=0)):=zO m5 zE rfl;have cd:Mu (R l .un .un)=aA ((qN t && decide (iI t=fT)) != decide (n % 5=0)):=wN<|zO an e5 (by cases (qN t && decide (iI t=fT))<;>cases decide (n % 5=0)<;>rfl);cases hc:((qN t && decide (iI t=fT)) != decide (n % 5=0)) with
 |true=>
  rw[hc] at cd
  let X:Ex:=.w_ t.e l x u.e y v.e
  have ok:eC L ⟨X,mN (sg 0 1 [t]) λs=>sH s t u v<|AK l t.z,aD⟩:=Zn h h2 h3 hn;have wy:=J1 t u v (X:=X) (by show((1+nd t.e+nd u.e+nd v.e:Nat):Int)=_;rw[SY];lia) (by show((1+max (max (dp t.e)<|dp u.e) (dp v.e):Nat):Int)=_;rw[LC];lia)<|AK l t.z;have tk:aR (y3 (aP y_)<|aP B7) (xB 8 Nd) zV (R l (.v .aE) .un)=aA (.nx<|R l (.v<|iQ<|AK l t.z) .un):=by
   by_cases hs:qN t=true/\iI t=fT
   .obtain⟨c,k,w,ez⟩:=O2 hs.1 hs.2;rw[vC<|by rw[xM<|by rw[vl,hs.1],s1,decide_eq_true hs.2]];refine xF (d:=iQ<|AK l t.z) (zO (x:=.lst [.int 2,.int 1]) rfl (vL (zO (x:=.str k) (zO (x:=du<|.one k w) (zO (x:=eZ t.z) rfl zE<|fU ez) zE rfl) rfl (show c_ (.str k) (.str l)=aA (.bl<|decide (k=l)) from rfl)) rfl) ?_) (by rfl);rw[ez];show _=aA (iQ<|some<|decide (k≠l));by_cases z:k=l
    .rw[decide_eq_true z,decide_eq_false λq:k≠l=>q z];rfl
    .rw[decide_eq_false z,decide_eq_true z];rfl
   .rw[Ä hs];cases hv:qN t with
    |false=>rw[wX<|j0<|by rw[vl,hv]];rfl
    |true=>rw[wX<|by rw[xM<|by rw[vl,hv],s1,decide_eq_false λq=>hs ⟨hv,q⟩]];rfl
  refine⟨_,ok,rfl,rfl,start (r':=R l (.v<|iQ<|AK l t.z)<|.v<|toD X)<|xR cd ?_⟩;refine zT .aE zE (r2:=R l (.v .aE) .un) (by rfl) ?_;rw[yB tk];refine zT (toD X) (wH (zB zE<|zB rfl<|zB rfl<|zB rfl<|zB rfl<|zB rfl<|zB rfl zQ) (by show 7<=100;decide)) (r2:=R l (.v<|iQ<|AK l t.z)<|.v<|toD X) (by rfl) ?_;exact yG<|yN (p:=.v _) (zB rfl<|zB rfl<|zB rfl zQ) rfl wy
 |false=>
  rw[hc] at cd
  let X:Ex:=.ite t.e u.e v.e
  have ok:eC L ⟨X,mN (sg 0 1 [t]) λs=>sH s t u v<|AJ t.z,aD⟩:=Yi h h2 h3 hn;have wy:=J1 t u v (X:=X) (by show((1+nd t.e+nd u.e+nd v.e:Nat):Int)=_;rw[SY];lia) (by show((1+max (max (dp t.e)<|dp u.e) (dp v.e):Nat):Int)=_;rw[LC];lia)<|AJ t.z;have tk:aR (y3 (aP y_) Ij) (xB 8 M2) zV (R l (.v .aE) .un)=aA (.nx<|R l (.v<|iQ<|AJ t.z) .un):=by
   by_cases hs:qN t=true/\iI t=f8
   .obtain⟨c,k,ez⟩:=Z_ hs.1 hs.2;rw[vC<|by rw[xM<|by rw[vl,hs.1],sN,decide_eq_true hs.2]];refine xF (d:=iQ<|AJ t.z) (zO (x:=.lst [.int 1,.int 2]) rfl (vL (zO (x:=.int k) (zO (x:=eZ t.z) rfl zE<|fU ez) zE (show c_ (.int k) (.int 0)=aA (.bl<|decide (k=0)) from rfl)) rfl) ?_) (by rfl);rw[ez];show _=aA (iQ<|some<|decide (k=0));by_cases z:k=0
    .rw[decide_eq_true z];rfl
    .rw[decide_eq_false z];rfl
   .rw[Å hs];cases hv:qN t with
    |false=>rw[wX<|j0<|by rw[vl,hv]];rfl
    |true=>rw[wX<|by rw[xM<|by rw[vl,hv],sN,decide_eq_false λq=>hs ⟨hv,q⟩]];rfl
  refine⟨_,ok,rfl,rfl,start (r':=R l (.v<|iQ<|AJ t.z) .un)<|yR cd ?_⟩;refine zT .aE zE (r2:=R l (.v .aE) .un) (by rfl) ?_;rw[yB tk];have td:M9 (R l (.v<|iQ<|AJ t.z) .un)=aA (toD X):=wH (zB zE<|zB rfl<|zB rfl<|zB rfl zQ) (by show 4<=100;decide);exact yG<|yN (p:=.v _) (zB td<|zB rfl<|zB rfl zQ) rfl wy
end
theorem fmax:∀(l:List Int) (i:Int),i<=l.foldl max i/\∀x∈l,x<=l.foldl max i
 |[],i=>⟨Int.le_refl _,λ_ h=>by cases h⟩
 |a::l,i=>by
  obtain⟨h1,h2⟩:=fmax l<|max i a;show i<=l.foldl max (max i a)/\∀x∈a::l,x<=l.foldl max (max i a);refine⟨by lia,λx hx=>?_⟩;rcases bq.mp hx with rfl|hx
  .lia
  .exact h2 x hx
def VU{l:List It}(h:t∈l):((dp t.e:Nat):Int)<=Bc l:=by
 cases l with
 |nil=>cases h
 |cons a l=>
  obtain⟨m1,m2⟩:=fmax (l.map λt=>((dp t.e:Nat):Int)) ((dp a.e:Nat):Int);rcases bq.mp h with rfl|h
  .exact m1
  .exact m2 _<|gh.mpr ⟨t,h,rfl⟩
def á(s:List α)(m:Nat)(hm:0<m):mV s (aA<|-(m:Int)) aD=s.drop (s.length-m):=by
 unfold mV;have e:HT.aV s.length 0 (aA<|-(m:Int))=s.length-m:=by
  show(if -(m:Int)<0 then (-(m:Int)+(s.length:Int)).toNat else _)=_;rw[if_pos<|by lia];lia
 rw[e,HT.G4,ma (by rw[jf];lia)]
def Ų(s:List α)(m:Nat)(hm:0<m):mV s aD (aA<|-(m:Int))=s.take (s.length-m):=by
 unfold mV;have e:HT.aV s.length s.length (aA<|-(m:Int))=s.length-m:=by
  show(if -(m:Int)<0 then (-(m:Int)+(s.length:Int)).toNat else _)=_;rw[if_pos<|by lia];lia
 rw[e,HT.G4,ya,Nat.sub_zero]
structure l9(L:List (List Nat))(P:List It):Prop where
 ok:∀t∈P,eC L t/\dp t.e<=20
 ne:P≠[]
def l9.sub(h:l9 L P)(hn:dp t.e<=20)(ht:eC L t)(n:Nat):l9 L (P.take n++[t]):=⟨λu hu=>(ja.mp hu).elim (λq=>h.ok u<|aak q) λq=>by rw[ck.mp q];exact⟨ht,hn⟩,by simp⟩
def l9.add(h:l9 L P)(hn:dp t.e<=20)(ht:eC L t):l9 L (P++[t]):=⟨λu hu=>(ja.mp hu).elim (λq=>h.ok u q) λq=>by rw[ck.mp q];exact⟨ht,hn⟩,by simp⟩
section
variable{L:List (List Nat)}{P:List It}{c k n kd:Int}
abbrev RG(P:List It)(c k:Int)(L:List (List Nat))(n kd:Int)(a b d e:Sl):En:=[.v<|.lst<|P.map aJ,.v<|.int c,.v<|.int k,.v<|.lst<|L.map .str,.v<|.int n,.v<|.int kd,a,b,d,e]
def Du:MS:=(yA (aR Ua
 (xE UL)
 zV)
 (yA (aR T_
 (xE UN)
 zV)
 (xE UK)))
def gX:MS:=(yA (xB 7<|fR (zD 0) (wZ<|aU XS<|zD 6) kN)
 (yA (xB 8<|dG (zK p_ (cG<|xX [] 1 (eG<|zD 7) (yI 0) fG) HY) Ir)
 (aR (y3 D'<|y3 DY<|kY<|zD 8) Du zV)))
def YS{r:En}(h0:zD 0 r=aA (.lst<|P.map aJ))(m:Nat)(hm:0<m)(hl:P.length<=200){t':It}{f:ME}(hf:f r=aA (aJ t')):zK kR (fR (zD 0) kN<|wZ<|aU XS<|mC<|.int (m:Int)) (xQ<|yL<|zA f zM) r=aA (.lst<|(P.take (P.length-m)++[t']).map aJ):=by
 refine zO (x:=.lst<|(P.take<|P.length-m).map aJ) (y:=.lst [aJ t']) (Ey h0 (by rfl) (vN<|Xu zE) ?_) (cI (zB hf zQ) (by show 1<=100;decide)) ?_
 .show aA (D.lst<|mV (P.map aJ) aD<|some<|-(m:Int))=_;rw[Ų _ _ hm,ag,List.map_take]
 .rw[jb];refine Pz ?_;rw[ag,ii];show _+1<=100000;lia
def ę(h:P≠[])(m:Nat)(hm:0<m):P.drop (P.length-m)≠[]:=λz=>by
 have:=congrArg jg z
 rw[jf] at this;have h0:P.length≠0:=λq=>h<|sx.mp q
 simp at this;lia
def VP{l:List α}(h:l.length=2):∃a b,l=[a,b]:=by
 match l,h with
 |[a,b],_=>exact⟨a,b,rfl⟩
def VQ{l:List α}(h:l.length=3):∃a b c,l=[a,b,c]:=by
 match l,h with
 |[a,b,c],_=>exact⟨a,b,c,rfl⟩
def V'(hL:Lb L)(h5:L.length=5)(hP:l9 L P)(hl:P.length<=200)(n0:0<=n)(m:Nat)(hm:m=1\/m=2\/m=3)(b d:Sl)(hb:eM b)(hd:eM d):(∃b' d',eM b'/\eM d'/\gX (RG P c k L n kd (.v<|.int (m:Int)) b d .un)=aA (.nx<|RG P c k L n kd (.v<|.int (m:Int)) b' d' .un))\/∃P' r',l9 L P'/\P'.length<=P.length+1/\gX (RG P c k L n kd (.v<|.int (m:Int)) b d .un)=aA (.rt (.lst<|P'.map aJ) r'):=by
 let B:=P.drop<|P.length-m
 have S4:0<m:=by rcases hm with rfl|rfl|rfl<;>decide
 have nB:B≠[]:=ę hP.ne m S4;have lB:B.length<=1000:=by show(P.drop _).length<=1000;rw[jf];lia
 let r1:Sl->En:=λd=>RG P c k L n kd (.v<|.int (m:Int)) (.v<|.lst<|B.map aJ) d .un
 have s7:xB 7 (fR (zD 0) (wZ<|aU XS<|zD 6) kN) (RG P c k L n kd (.v<|.int (m:Int)) b d .un)=aA (.nx<|r1 d):=by
  refine xF (d:=.lst<|B.map aJ) (Ey (x:=.lst<|P.map aJ) rfl (vN (i:=-(m:Int))<|vL rfl rfl) (by rfl) ?_)<|zY (i:=7) (x:=b) rfl hb;show aA (D.lst<|mV (P.map aJ) (aA<|-(m:Int)) aD)=_;rw[á _ _ S4,ag,List.map_drop]
 let S:Int:=(B.map λt=>((nd t.e:Nat):Int)).sum
 have s8:dG (zK p_ (cG<|xX [] 1 (eG<|zD 7) (yI 0) fG) HY) Ir (r1 d)=aA (.bl<|decide (S<60) && decide (Bc B<20)):=by
  unfold dG;rw[zO (cE (l:=B) (f:=zD 7) (r:=r1 d) lB rfl) zE (show p_ (.int S) (.int 60)=aA (.bl<|decide (S<60)) from rfl),aa];cases decide (S<60) with
  |false=>rfl
  |true=>exact zO (pN (l:=B) (f:=zD 7) (r:=r1 d) nB lB rfl) zE rfl
 let sm:Bool:=decide (S<60) && decide (Bc B<20)
 let r2:En:=r1<|.v<|.bl sm
 have st8:xB 8 (dG (zK p_ (cG<|xX [] 1 (eG<|zD 7) (yI 0) fG) HY) Ir) (r1 d)=aA (.nx r2):=xF s8<|zY (i:=8) (x:=d) rfl hd;have ln:aU tS (zD 0) r2=aA (.int (P.length:Int)):=vL (x:=.lst<|P.map aJ) rfl (by show aA (D.int ((P.map aJ).length:Int))=_;rw[ag]);have ge:DY r2=aA (decide ((m:Int)<=(P.length:Int))):=wN<|zO ln (show zD 6 r2=aA (.int (m:Int)) from rfl) rfl;have tr:kY (zD 8) r2=aA sm:=by
  unfold kY;rw[show zD 8 r2=aA (.bl sm) from rfl];rfl
 have gt:∃b,D' r2=aA b:=by
  rcases hm with rfl|rfl|rfl
  .exact⟨_,QV (j:=2) rfl rfl⟩
  .exact⟨_,QV (j:=4) rfl rfl⟩
  .exact⟨_,QV (j:=6) rfl rfl⟩
 obtain⟨b1,eg⟩:=gt;have go:∀{z},aR (y3 D'<|y3 DY<|kY<|zD 8) Du zV r2=z->gX (RG P c k L n kd (.v<|.int (m:Int)) b d .un)=z:=λ{z} h=>by
  unfold gX;rw[yB s7,yB st8];exact h
 have no:aR (y3 D'<|y3 DY<|kY<|zD 8) Du zV r2=aA (.nx r2)->(∃b' d',eM b'/\eM d'/\gX (RG P c k L n kd (.v<|.int (m:Int)) b d .un)=aA (.nx<|RG P c k L n kd (.v<|.int (m:Int)) b' d' .un)):=λh=>⟨.v<|.lst<|B.map aJ,.v<|.bl sm,trivial,trivial,go h⟩
 cases b1 with
 |false=>exact .inl<|no (by rw[wX<|j0 eg];rfl)
 |true=>
  by_cases Ls:(m:Int)<=(P.length:Int)
  .cases Ln:sm with
   |false=>exact .inl<|no (by rw[wX<|by rw[xM eg,xM<|by rw[ge,decide_eq_true Ls],tr,Ln]];rfl)
   |true=>
    have yes:=vC (g:=Du) (h:=zV) (r:=r2) (show y3 D' (y3 DY<|kY<|zD 8) r2=aA true by rw[xM eg,xM<|by rw[ge,decide_eq_true Ls],tr,Ln]);have hs:S<60/\Bc B<20:=by
     have:(decide (S<60) && decide (Bc B<20))=true:=Ln
     rw[dl] at this;exact⟨of_decide_eq_true this.1,of_decide_eq_true this.2⟩
    have bl:B.length=m:=by show(P.drop _).length=m;rw[jf];lia
    have bo:∀t∈B,eC L t/\dp t.e<20:=λt ht=>⟨(hP.ok t<|aal ht).1,by have:=VU ht;have:=hs.2;lia⟩
    refine .inr ?_;rcases hm with rfl|rfl|rfl
    .obtain⟨t,eB⟩:=zq.mp bl;have S1:S=((nd t.e:Nat):Int)+0:=by show(B.map _).sum=_;rw[eB];rfl
     have o1:=bo t (by rw[eB];simp);obtain⟨t',k1,k2,k3,k4⟩:=Yo hL h5 o1.1 n0 (by have:=hs.1;lia);have i7:DZ r2=aA (aJ t):=by show aL (.lst<|B.map aJ) (.int 0)=_;rw[eB];rfl
     have kp:=YS (r:=r2) (P:=P) rfl 1 (by decide) hl (t':=t') (f:=zP 3 jI<|zA (zD 4)<|zA (zD 3)<|zA DZ zM)<|yN (p:=.v<|aJ t') (zB rfl<|zB rfl<|zB i7 zQ) rfl k4;refine⟨_,r2,hP.sub (by lia) k1<|P.length-1,by rw[bc,ii];show _+1<=_;lia,go<|yes.trans ?_⟩;exact yR (by rfl)<|yR (by rfl)<|yG kp
    .obtain⟨t,u,eB⟩:∃t u,B=[t,u]:=VP bl;have S1:S=((nd t.e:Nat):Int)+(((nd u.e:Nat):Int)+0):=by show(B.map _).sum=_;rw[eB];rfl
     have o1:=bo t (by rw[eB];simp);have o2:=bo u (by rw[eB];simp);obtain⟨t',k1,k2,k3,k4⟩:=Ç hL h5 o1.1 o2.1 n0 (by have:=hs.1;lia);have i7:DZ r2=aA (aJ t):=by show aL (.lst<|B.map aJ) (.int 0)=_;rw[eB];rfl
     have i8:Mz r2=aA (aJ u):=by show aL (.lst<|B.map aJ) (.int 1)=_;rw[eB];rfl
     have kp:=YS (r:=r2) (P:=P) rfl 2 (by decide) hl (t':=t') (f:=zP 4 jH<|zA (zD 4)<|zA (zD 3)<|zA DZ<|zA Mz zM)<|yN (p:=.v<|aJ t') (zB rfl<|zB rfl<|zB i7<|zB i8 zQ) rfl k4;refine⟨_,r2,hP.sub (by lia) k1<|P.length-2,by rw[bc,ii];show _+1<=_;lia,go<|yes.trans ?_⟩;exact yR (by rfl)<|xR (by rfl)<|yG kp
    .obtain⟨t,u,v,eB⟩:∃t u v,B=[t,u,v]:=VQ bl;have S1:S=((nd t.e:Nat):Int)+(((nd u.e:Nat):Int)+(((nd v.e:Nat):Int)+0)):=by show(B.map _).sum=_;rw[eB];rfl
     have o1:=bo t (by rw[eB];simp);have o2:=bo u (by rw[eB];simp);have o3:=bo v (by rw[eB];simp);obtain⟨t',k1,k2,k3,k4⟩:=Ϟ h5 o1.1 o2.1 o3.1 n0 (by have:=hs.1;lia);have i7:zD 7 r2=aA (.lst<|[t,u,v].map aJ):=by show aA (D.lst<|B.map aJ)=_;rw[eB]
     have kp:=YS (r:=r2) (P:=P) rfl 3 (by decide) hl (t':=t') (f:=zP 3 qK<|zA (zD 4)<|zA (zD 3)<|zA (zD 7) zM)<|yN (p:=.v<|aJ t') (zB rfl<|zB rfl<|zB i7 zQ) rfl k4;refine⟨_,r2,hP.sub (by lia) k1<|P.length-3,by rw[bc,ii];show _+1<=_;lia,go<|yes.trans ?_⟩;exact xR (by rfl)<|yG kp
  .exact .inl<|no (by rw[wX (by rw[xM eg];exact j0<|by rw[ge,decide_eq_false Ls])];rfl)
end
section
variable{L:List (List Nat)}{P:List It}{c k n kd:Int}
def Ļ:lW []=[]:=by
 have:kS (aN ([]:Fs D))=[]:=sx.mp (by rw[qL];rfl)
 unfold lW;rw[this];rfl
noncomputable def Aq:It:=⟨.emp,.val 0<|.rc [],aD⟩
def Nw:aJ Aq=.tup [(.tup [(.str [101,109,112,116,121])]),(.int 1),(.int 0),(.tup [(.str [118,97,108,117,101]),(.int 0),(.tup [(.str [114,101,99]),(.tup [])])]),.aE]:=by
 show D.tup [_,_,_,.tup [_,_,.tup [_,.tup<|lW []]],_]=_;rw[Ļ];rfl
def ND:eC L Aq:=⟨Ń,λ_ h=>by(cases h),by decide⟩
noncomputable def He(i:Int):It:=⟨.num i,.val 0<|.int i,aD⟩
def NE(h:vM i):eC L (He i):=⟨ņ h,λ_ h=>by(cases h),by show 1<=60;decide⟩
def VR(hL:Lb L)(h5:L.length=5)(hP:l9 L P)(hl:P.length<=200)(n0:0<=n):(∃a b d,dL (yI 6) gX [.int 3,.int 2,.int 1] (RG P c k L n kd .un .un .un .un)=aA (.nx<|RG P c k L n kd a b d .un))\/∃P' r',l9 L P'/\P'.length<=P.length+1/\dL (yI 6) gX [.int 3,.int 2,.int 1] (RG P c k L n kd .un .un .un .un)=aA (.rt (.lst<|P'.map aJ) r'):=by
 have step:∀(m:Nat) (hm:m=1\/m=2\/m=3) (ds:List D) (a b d:Sl),eM a->eM b->eM d->(∃b' d',eM b'/\eM d'/\dL (yI 6) gX (.int (m:Int)::ds) (RG P c k L n kd a b d .un)=dL (yI 6) gX ds (RG P c k L n kd (.v<|.int (m:Int)) b' d' .un))\/∃P' r',l9 L P'/\P'.length<=P.length+1/\dL (yI 6) gX (.int (m:Int)::ds) (RG P c k L n kd a b d .un)=aA (.rt (.lst<|P'.map aJ) r'):=λm hm ds a b d ha hb hd=>by
  have s:yI 6 (.int (m:Int)) (RG P c k L n kd a b d .un)=aA (RG P c k L n kd (.v<|.int (m:Int)) b d .un):=zY (i:=6) (x:=a) rfl ha;rcases V' (c:=c) (k:=k) (kd:=kd) hL h5 hP hl n0 m hm b d hb hd with⟨b',d',h1,h2,e⟩|⟨P',r',h1,h2,e⟩
  .exact .inl ⟨b',d',h1,h2,b9 s e⟩
  .refine .inr ⟨P',r',h1,h2,?_⟩;show(yI 6 (.int (m:Int)) _).bind _=_;rw[s,aa,e];rfl
 rcases step 3 (by simp) [.int 2,.int 1] .un .un .un trivial trivial trivial with⟨b,d,hb,hd,e⟩|h
 .rcases step 2 (by simp) [.int 1] (.v<|.int 3) b d trivial hb hd with⟨b2,d2,Tc,hd2,e2⟩|⟨P',r',h1,h2,e2⟩
  .rcases step 1 (by simp) [] (.v<|.int 2) b2 d2 trivial Tc hd2 with⟨b3,d3,Fp,LC,e3⟩|⟨P',r',h1,h2,e3⟩
   .exact .inl ⟨_,_,_,(e.trans<|e2.trans e3).trans rfl⟩
   .exact .inr ⟨P',r',h1,h2,e.trans<|e2.trans e3⟩
  .exact .inr ⟨P',r',h1,h2,e.trans e2⟩
 .exact .inr h
def Ÿ(hL:Lb L)(h5:L.length=5)(hP:l9 L P)(hl:P.length<=200)(c:Int)(k:Nat):∃P',l9 L P'/\P'.length<=P.length+1/\∃as,jT [.v<|.lst<|P.map aJ,.v<|.int c,.v<|.int (k:Int),.v<|.lst<|L.map .str]=aA (.v<|.lst<|P'.map aJ,as):=by
 obtain⟨n,n0,m1⟩:=bI c (k:Int);obtain⟨q,q0,m2⟩:=bI c<|(k:Int)+300
 let R0:En:=[.v<|.lst<|P.map aJ,.v<|.int c,.v<|.int (k:Int),.v<|.lst<|L.map .str,.un,.un,.un,.un,.un,.un]
 let R1:En:=[.v<|.lst<|P.map aJ,.v<|.int c,.v<|.int (k:Int),.v<|.lst<|L.map .str,.v<|.int n,.un,.un,.un,.un,.un]
 have c1:zP 2 xV (zA (zD 1)<|zA (zD 2) zM) R0=aA (.int n):=yN (p:=.v<|.int n) (zB rfl<|zB rfl zQ) rfl m1;have c2:Uy R1=aA (.int<|q % 9):=qE (yN (p:=.v<|.int q) (zB rfl<|zB (xD rfl zE) zQ) rfl m2) zE (by decide);have start:∀{d:D} {r':En} {h:MS},(h=xT)->True:=λ_=>trivial
 rcases VR (c:=c) (k:=(k:Int)) (kd:=q % 9) hL h5 hP hl n0 with⟨a,b,d,e⟩|⟨P',r',h1,h2,e⟩
 .let R2:Sl->En:=λy=>RG P c (k:Int) L n (q % 9) a b d y
  have add:∀{t:It} {y:Sl} {f:ME},f (R2 y)=aA (aJ t)->zK kR (zD 0) (xQ<|yL<|zA f zM) (R2 y)=aA (.lst<|(P++[t]).map aJ):=λ{t y f} hf=>by
   refine zO (x:=.lst<|P.map aJ) (y:=.lst [aJ t]) rfl (cI (zB hf zQ) (by show 1<=100;decide)) ?_;rw[jb];exact Pz (by rw[ag];show _+1<=100000;lia)
  have l1:∀t:It,(P++[t]).length<=P.length+1:=λt=>by rw[bc];exact ah _
  have nu:∀{i:Int},vM i->M' (R2<|.v<|.int i)=aA (.lst<|(P++[He i]).map aJ):=λ{i} _=>add<|wH (zB (wH (zB zE<|zB rfl zQ) (by show 2<=100;decide))<|zB zE<|zB zE<|zB (sI zE zE rfl)<|zB zE zQ) (by show 5<=100;decide)
  have pre:∀{z},(yA (xB 9 MU)
 (yA (aR (aP<|zK c_ DR<|mC<|.int 0)
 (xE Ue)
 zV)
 (yA (aR (aP<|zK c_ DR<|mC<|.int 1)
 (xB 9 Up)
 zV)
 (xE M'))) ) (R2 .un)=z->xT R0=z:=λ{z} hq=>by
   unfold xT;refine zT (.int n) c1 (r2:=R1) (by rfl)<|zT (.int<|q % 9) c2 (r2:=RG P c (k:Int) L n (q % 9) .un .un .un .un) (by rfl) ?_;unfold gX Du at e;rw[yB (r':=R2 .un) (by unfold mP;exact e)];exact hq
  let i0:Int:=(c+n) % 1000000
  have Rh:vM i0:=⟨jd _<|by decide,je _<|by decide⟩;have s9:MU (R2 .un)=aA (.int i0):=qE (xD rfl rfl) (show Uc (R2 .un)=aA (.int 1000000) from rfl) (by decide);have m3:∀y,DR (R2 y)=aA (.int<|n % 3):=λy=>qE rfl zE (by decide)
  have e3:∀(y:Sl) (j:Int),aP (zK c_ DR<|mC<|.int j) (R2 y)=aA (decide (n % 3=j)):=λy j=>wN<|zO (m3 y) zE rfl
  by_cases z0:n % 3=0
  .refine⟨P++[Aq],hP.add (by decide) ND,l1 _,wF (r':=R2<|.v<|.int i0)<|pre ?_⟩;refine zT (.int i0) s9 (r2:=R2<|.v<|.int i0) (by rfl)<|xR (by rw[e3,decide_eq_true z0])<|yG<|add (t:=Aq) ?_;rw[Nw];rfl
  .by_cases z1:n % 3=1
   .let i1:Int:=n / 3 % 3
    have Rg:vM i1:=⟨jd _<|by decide,by have:n / 3 % 3<3:=je _ (by decide);show n / 3 % 3<1000000;lia⟩;refine⟨P++[He i1],hP.add (by show 0<=20;decide)<|NE Rg,l1 _,wF (r':=R2<|.v<|.int i1)<|pre ?_⟩;refine zT (.int i0) s9 (r2:=R2<|.v<|.int i0) (by rfl)<|yR (by rw[e3,decide_eq_false z0]) ?_;rw[yB (r':=R2<|.v<|.int i1) (by rw[vC<|by rw[e3,decide_eq_true z1]];exact xF (qE (gU rfl zE<|by decide) zE<|by decide)<|by rfl)];exact yG<|nu Rg
   .refine⟨P++[He i0],hP.add (by show 0<=20;decide)<|NE Rh,l1 _,wF (r':=R2<|.v<|.int i0)<|pre ?_⟩;exact zT (.int i0) s9 (r2:=R2<|.v<|.int i0) (by rfl)<|yR (by rw[e3,decide_eq_false z0])<|yR (by rw[e3,decide_eq_false z1])<|yG<|nu Rh
 .refine⟨P',h1,h2,wF (r':=r') ?_⟩;show xT R0=_;unfold xT;refine zT (.int n) c1 (r2:=R1) (by rfl)<|zT (.int<|q % 9) c2 (r2:=RG P c (k:Int) L n (q % 9) .un .un .un .un) (by rfl) ?_;unfold gX Du at e;exact Kh (by unfold mP;exact e)
end
theorem XE{x:ME}{j:Nat}{mk:Sl->En}{p:List Nat->Prop}(hj:∀s d,eM s->yI j d (mk s)=aA (mk<|.v d)):∀(L:List D) (s:Sl),eM s->(∀a∈L,∃c,p c/\x (mk<|.v a)=aA (.str c))->∃cs:List (List Nat),cs.length=L.length/\(∀c∈cs,p c)/\kQ (yI j) o7 x L (mk s)=aA (cs.map .str)
 |[],s,hs,h=>⟨[],rfl,(λ_ h=>by cases h),rfl⟩
 |a::L,s,hs,h=>by
  obtain⟨c,hc,e⟩:=h a (by simp);obtain⟨cs,h1,h2,h3⟩:=XE hj L (.v a) trivial λb hb=>h b (by simp[hb])
  refine⟨c::cs,by simp[h1],λd hd=>?_,?_⟩
  .rcases bq.mp hd with rfl|hd
   .exact hc
   .exact h2 d hd
  .unfold kQ;rw[hj s a hs,aa,show o7 (mk<|.v a)=aA true from rfl,aa,if_pos rfl,e,aa,h3];rfl
noncomputable def F2:List Nat:=[113,120,122,106,118,107,97,101,105,109]
noncomputable def Km:List Nat:=[119,114,121,115,117]
def Xb{α:Type}(s:List α)(k:Nat):mV s aD (aA (k:Int))=s.take k:=by
 unfold mV;rw[HT.G5,HT.G4,ya,Nat.sub_zero];by_cases h:k<=s.length
 .rw[xg h]
 .rw[Nat.min_eq_right<|by lia,List.take_length,ma<|by lia]
def QK{c:Int}(hc:0<=c):∃ls:List (List Nat),(ls.length=5/\∀s∈ls,Av s)/\∃as,kB [.v<|.int c]=aA (.v<|.lst<|ls.map .str,as):=by
 have z0:0<=c % 8:=jd _ (by decide);have z7:c % 8<8:=je _ (by decide);obtain⟨n,hn⟩:∃n:Nat,c % 8=(n:Int):=⟨(c % 8).toNat,by lia⟩
 let C:Sl:=.v<|.int c
 obtain⟨cs,c1,c2,c3⟩:=Pl (x:=UG) (j:=1) (mk:=λs=>[C,s]) (p:=(·∈F2)) (λs d hs=>zY (x:=s) rfl hs) ((ku n).map λi=>D.int<|(0:Int)+(i:Nat)) .un trivial (λd hd=>by
  obtain⟨i,_,rfl⟩:=gh.mp hd;obtain⟨m,m0,hm⟩:=bI c<|30+((0:Int)+(i:Nat));obtain⟨ch,h1,h2⟩:=No (l:=F2) (by decide) (i:=m % 10) (jd _<|by decide) (je _<|by decide);exact⟨ch,h1,zO (x:=.str F2) zE (qE (yN (p:=.v<|.int m) (zB rfl<|zB (xD zE rfl) zQ) rfl hm) zE<|by decide) h2⟩)
 rw[ag,rm] at c1;have low:∀x∈F2,x<1114112:=by decide
 have cl:∀x∈cs,x<1114112:=λx hx=>low x<|c2 x hx
 have len:cs.length<=7:=by lia
 have a0:0<=c / 8 % ((cs.length:Int)+1):=jd _ (by lia);obtain⟨a,ha⟩:∃a:Nat,c / 8 % ((cs.length:Int)+1)=(a:Int):=⟨(c / 8 % ((cs.length:Int)+1)).toNat,by lia⟩
 let B:Sl:=.v<|.str cs
 let A:Sl:=.v<|.int (a:Int)
 obtain⟨ls,l1,l2,l3⟩:=XE (x:=UM) (j:=2) (mk:=λs=>[B,A,s]) (p:=Av) (λs d hs=>zY (i:=2) (x:=s) rfl hs) ((ku 5).map λi=>D.int<|(0:Int)+(i:Nat)) .un trivial (λd hd=>by
  obtain⟨i,hi,rfl⟩:=gh.mp hd;have hi:=ut.mp hi;obtain⟨ch,h1,h2⟩:=No (l:=Km) (by decide) (i:=(0:Int)+(i:Nat)) (by lia) (by show _<(5:Int);lia);refine⟨cs.take a++[ch]++cs.drop a,⟨by simp;lia,λx hx=>?_⟩,?_⟩
  .rcases ja.mp hx with q|q
   .rcases ja.mp q with q|q
    .exact cl x (aak q)
    .rw[ck.mp q]
     have:∀x∈Km,x<1114112:=by decide
     exact this ch h1
   .exact cl x (aal q)
  .refine zO (x:=.str<|cs.take a++[ch]) (y:=.str<|cs.drop a) (zO (x:=.str<|cs.take a) (y:=.str [ch]) (Ey (x:=.str cs) (a:=aD) (b:=aA (a:Int)) rfl (by rfl) (vN rfl)<|by rw[WH<|by lia,Xb]) (zO (x:=.str Km) zE rfl h2)<|J7 (by simp;lia)) (Ey (x:=.str cs) (a:=aA (a:Int)) (b:=aD) rfl (vN rfl) (by rfl)<|by rw[WH<|by lia,ű])<|J7 (by simp;lia))
 rw[ag,rm] at l1;refine⟨ls,⟨l1,l2⟩,wF (r':=[C,B,A]) ?_⟩;show wS [C,.un,.un]=_;unfold wS;refine zT (.str cs) (r2:=[C,B,.un]) ?_ (by rfl) ?_
 .unfold Gz;rw[zE,aa];show(xX _ _ _ _ _ _).bind _=_;unfold xX xW;rw[Pa (n:=n) (hn ▸ qE rfl zE<|by decide)<|by lia,aa,if_pos (by rw[ag,rm];exact wB<|by lia)];rw[show ZE [0] 2 [C,.un,.un]=[C,.un] from rfl,c3,aa,ZM,aa,if_pos,YT];have e:((cs.map λc=>[c]).map jg).sum=cs.length:=by
   rw[jx];clear l3 A B ha a0 c2 c3 c1 cl len
   induction cs with
   |nil=>rfl
   |cons x t ih=>simp at ih ⊢;lia
  rw[e];simp;lia
 .refine zT (.int (a:Int)) (r2:=[C,B,A]) (ha ▸ qE (gU rfl zE<|by decide) (xD (vL (x:=.str cs) rfl<|if_pos<|cg (show cs.length<=100 by lia)<|by decide) zE)<|by lia) (by rfl)<|yG ?_;unfold xQ xX xW;have r3:C7 (mC<|.int 5) [C,B,A]=aA ((ku 5).map λk=>.int<|(0:Int)+(k:Nat)):=Pa (n:=5) zE (by decide);rw[r3,aa,if_pos (by rw[ag,rm];exact wB<|by decide),show ZE [1,2] 3 [C,B,A]=[B,A,.un] from rfl,l3];rfl
inductive Al:Nat->D->Prop
 |int {n:Nat} (i:Int):Al n (.int i)
 |str {n:Nat} (s:List Nat):Al n (.str s)
 |tup {n:Nat} {l:List D}:(∀d∈l,Al n d)->Al (n+1) (.tup l)
def Gm(m:MF):MS:=(aR (bV<|kY<|zP 2 m<|zA (zD 2)<|zA (zD 3) zM) (xE B6) zV)
theorem gZ:∀(l:List D) (x y:Sl),eM x->eM y->(∀d∈l,∃as,m [.v d,.v d]=aA (.v<|.bl true,as))->∃x' y',dL (jE 2<|yH (yI 2)<|yH (yI 3) jY) (Gm m) (XX l l) [a,b,x,y]=aA (.nx [a,b,x',y'])
 |[],x,y,_,_,_=>⟨x,y,rfl⟩
 |d::l,x,y,hx,hy,h=>by
  obtain⟨x',y',q⟩:=gZ (a:=a) (b:=b) l (.v d) (.v d) trivial trivial λe he=>h e (by simp[he])
  refine⟨x',y',?_⟩;show dL _ _ (.tup [d,d]::XX l l) _=_;rw[b9 (d:=.tup [d,d]) (r1:=[a,b,.v d,.v d]) (HR (r1:=[a,b,.v d,y]) (zY (i:=2) (x:=x) rfl hx)<|zY (i:=3) (x:=y) rfl hy) (r':=[a,b,.v d,.v d]) ?_]
  .exact q
  .unfold Gm;have hc:zP 2 m (zA (zD 2)<|zA (zD 3) zM) [a,b,.v d,.v d]=aA (.bl true):=yN (p:=.v<|.bl true) (zB (x:=d) rfl<|zB (x:=d) rfl zQ) rfl (h d<|by simp);have hn:bV (kY<|zP 2 m<|zA (zD 2)<|zA (zD 3) zM) [a,b,.v d,.v d]=aA false:=by
    unfold bV kY;rw[hc];rfl
   rw[wX hn];rfl
def Ũ(h:Al n d):∀k,n<k->∃as,yV k [.v d,.v d]=aA (.v<|.bl true,as):=by
 induction h with
 |int i=>
  intro k hk;cases k with
  |zero=>lia
  |succ k=>
   refine wF (r':=[.v<|.int i,.v<|.int i,.un,.un]) ?_;show xJ (yV k) [.v<|.int i,.v<|.int i,.un,.un]=_;unfold xJ;refine yR (by rfl)<|xR (by rfl)<|yG ?_;show aA (D.bl<|decide (i=i))=_;rw[decide_eq_true rfl]
 |str s=>
  intro k hk;cases k with
  |zero=>lia
  |succ k=>
   refine wF (r':=[.v<|.str s,.v<|.str s,.un,.un]) ?_;show xJ (yV k) [.v<|.str s,.v<|.str s,.un,.un]=_;unfold xJ;refine yR (by rfl)<|yR (by rfl)<|yG ?_;show aA (D.bl<|decide (s=s))=_;rw[decide_eq_true rfl]
 |tup hl ih=>
  rename_i n l;intro k hk;cases k with
  |zero=>lia
  |succ k=>
   obtain⟨x',y',q⟩:=gZ (m:=yV k) (a:=.v<|.tup l) (b:=.v<|.tup l) l .un .un trivial trivial λd hd=>ih d hd k (by lia)
   refine wF (r':=[.v<|.tup l,.v<|.tup l,x',y']) ?_;show xJ (yV k) [.v<|.tup l,.v<|.tup l,.un,.un]=_;unfold xJ;refine xR (by rfl) ?_;refine yR (by rfl) ?_;have ln:Uk [.v<|.tup l,.v<|.tup l,.un,.un]=aA false:=by
    show aA (!decide ((l.length:Int)=(l.length:Int)))=_;rw[decide_eq_true rfl];rfl
   refine yR ln ?_;have s1:mP (jE 2<|yH (yI 2)<|yH (yI 3) jY) (GC (zD 0)<|zD 1) (Gm<|yV k) [.v<|.tup l,.v<|.tup l,.un,.un]=aA (.nx [.v<|.tup l,.v<|.tup l,x',y']):=by
    unfold mP;rw[show GC (zD 0) (zD 1) [.v<|.tup l,.v<|.tup l,.un,.un]=aA (XX l l) from rfl];exact q
   unfold Gm at s1;rw[yB s1];exact yG zE
def Al.mono(h:Al n d):n<=m->Al m d:=by
 induction h generalizing m with
 |int i=>intro _;exact .int i
 |str s=>intro _;exact .str s
 |tup hl ih=>
  rename_i n l;intro hm;cases m with
  |zero=>lia
  |succ m=>exact .tup λd hd=>ih d hd (by lia)
def B4(h1:Al n a)(h2:Al n b)(h3:Al n c):Al (n+1) (.tup [a,b,c]):=.tup λd hd=>by
 simp only[bq,sw,or_false] at hd;rcases hd with rfl|rfl|rfl
 .exact h1
 .exact h2
 .exact h3
def Mc(h1:Al n a)(h2:Al n b):Al (n+1) (.tup [a,b]):=.tup λd hd=>by
 simp only[bq,sw,or_false] at hd;rcases hd with rfl|rfl
 .exact h1
 .exact h2
mutual
theorem Jk:∀w:Wo,Al (3*ps w) (du w)
 |.int n=>.int n
 |.one l w=>(B4 (n:=3*ps w) (.str _) (.str _)<|Jk w).mono (by show _<=3*(1+ps w);lia)
 |.fn _ _ _=>(Al.tup (n:=0) λd hd=>by rw[ck.mp hd];exact .str _).mono (by show _<=3*1;lia)
 |.rc fs=>by
  refine(Mc (n:=3*eR fs+2) (.str _)<|.tup (n:=3*eR fs+1) λd hd=>?_).mono (by show _<=3*(1+eR fs);lia);obtain⟨s,v,rfl,_,hm⟩:=OU hd;exact Mc (.str _)<|Og fs _ hm
theorem Og:∀fs:List (List Nat×Wo),∀p∈i9 fs,Al (3*eR fs) p.2
 |[],p,h=>by cases h
 |(s,w)::fs,p,h=>by
  have e:eR ((s,w)::fs)=ps w+eR fs:=rfl;have h:p∈(s,du w)::i9 fs:=h;rcases bq.mp h with rfl|h
  .exact(Jk w).mono (by lia)
  .exact(Og fs p h).mono (by lia)
end
noncomputable abbrev Pr:=List<|List Nat×Ex
def prog(ps:Pr):List D:=ps.map λp=>.tup [.str p.1,toD p.2]
def bU(ps:Pr):Fs D:=ps.map λp=>(p.1,b_ (.str p.1) p.2 0)
theorem Pn:∀(ps:Pr) (x y:Sl),eM x->eM y->(∀p∈ps,dp p.2<40/\nd p.2<=500)->kQ (jE 2<|yH (yI 0)<|yH (yI 1) jY) o7 MZ (prog ps) [x,y]=aA ((bU ps).map pD)
 |[],x,y,hx,hy,h=>rfl
 |p::ps,x,y,hx,hy,h=>by
  obtain⟨k1,k2⟩:=h p (by simp);have e:=o6 (.str p.1) RF p.2 0 k1 (by lia);have h2:=Pn ps (.v<|.str p.1) (.v<|toD p.2) trivial trivial λq hq=>h q (by simp[hq])
  have e1:jE 2 (yH (yI 0)<|yH (yI 1) jY) (.tup [.str p.1,toD p.2]) [x,y]=aA [.v<|.str p.1,.v<|toD p.2]:=HR (r1:=[.v<|.str p.1,y]) (zY (i:=0) (x:=x) rfl hx)<|zY (i:=1) (x:=y) rfl hy;have e2:MZ [.v<|.str p.1,.v<|toD p.2]=aA (.tup [.str p.1,b_ (.str p.1) p.2 0]):=wH (zB rfl<|zB (yN (p:=.v<|b_ (.str p.1) p.2 0) (zB rfl<|zB rfl<|zB zE zQ) rfl e) zQ) (by show 2<=100;decide);show kQ _ _ _ (D.tup [.str p.1,toD p.2]::prog ps) [x,y]=_;unfold kQ;rw[e1,aa,show o7 [.v<|.str p.1,.v<|toD p.2]=aA true from rfl,aa,if_pos rfl,e2,aa,h2];rfl
def IT{ps:Pr}(hp:∀p∈ps,dp p.2<40/\nd p.2<=500)(hl:ps.length<=1000)(hn:(aN<|bU ps).Nodup):dd (.lst<|prog ps)=aA (ev<|bU ps):=by
 unfold dd Fz rA o8 xX xW;have it:eG (zD 1) [.un,.v<|.lst<|prog ps,.v<|.int 0]=aA (prog ps):=rfl;rw[it,aa,if_pos (show(prog ps).length<ae by unfold prog;rw[ag];exact Nat.lt_of_le_of_lt hl<|by decide),show ZE [] 2 [.un,.v<|.lst<|prog ps,.v<|.int 0]=[.un,.un] from rfl,Pn ps .un .un trivial trivial hp,aa,m8];show aA (D.aI (QY<|(bU ps).map λq=>(ky q.1,q.2)).1 (QY<|(bU ps).map λq=>(ky q.1,q.2)).2)=_;rw[gS _ hn];rfl
mutual
theorem Y0{L M:List (List Nat)}(h:∀s∈L,s∈M):∀w:Wo,gw L w->gw M w
 |.int n,g=>g
 |.one l w,g=>⟨h l g.1,Y0 h w g.2⟩
 |.fn _ _ _,_=>trivial
 |.rc fs,g=>⟨g.1,λs hs=>h s<|g.2.1 s hs,YZ h fs g.2.2⟩
theorem YZ{L M:List (List Nat)}(h:∀s∈L,s∈M):∀fs:List (List Nat×Wo),sR L fs->sR M fs
 |[],_=>trivial
 |(_,w)::fs,g=>⟨Y0 h w g.1,YZ h fs g.2⟩
end
noncomputable def vB:List Nat:=[109,97,105,110]
noncomputable def ZQ:List Nat:=[122,113]
def VM{st:aF}(h:st.wait=[]\/lY st.ended=false):mZ (n+1) st=aA st:=by
 refine if_neg λz=>?_
 rcases h with h|h
 .rw[h] at z;cases z.1
 .rw[h] at z;cases z.2
def En1(c:Nat):Rt->D->Prop
 |.val v,y=>∃(L:List (List Nat)) (w:Wo),L.length<=63/\v=mv w/\gw L w/\ps w<=200/\y=.tup [.str lP,.int (c:Nat),du w]
 |.aO m,y=>y=.tup [.str iD,.int (c:Nat),m]
def oA{F:Fs D}{P:D}(hF:dd P=aA (ev F))(lk:aK F vB=aA d)(t:Tr (ev F) [eP d (ev []) false] [] c E T)(hT:T<=20000)(hc:c<=1000)(hy:En1 c E y):∃as,bX [.v P,.v<|.int 1000]=aA (.v y,as):=by
 obtain⟨st,⟨j,hj,r⟩,f⟩:=t.2 1000 0 [] [] (by decide) (by simp;lia) (by simp;lia);have k:(st.wait=[]\/lY st.ended=false)/\F4 st=aA y:=by
  unfold Fi at f;rw[if_neg<|by lia] at f;cases E with
  |val v=>
   obtain⟨L,w,hL,rfl,g,hp,rfl⟩:=hy;cases (show st=_ from f);refine⟨.inl rfl,?_⟩;obtain⟨as,ht⟩:=ő hL w g hp;unfold F4;show(([mv w]:List D).getLast?.bind _)=_;rw[show([mv w]:List D).getLast?=aA (mv w) from rfl,aa,ht,wo];rfl
  |aO m=>
   cases (show y=_ from hy);obtain⟨w',c',rfl⟩:=f;refine⟨.inr rfl,?_⟩;rw[wo];rfl
 obtain⟨k1,k2⟩:=k;have e1:mZ WF ⟨1000,0,[eP d (ev []) false],[],.aE,ev F⟩=aA st:=by
  have:=r<|(WF-j-1)+1
  rw[VM k1,show j+((WF-j-1)+1)=WF by unfold WF;lia] at this;exact this
 have lf:=uU id vB F;rw[lk] at lf;refine⟨[.v P,.v<|.int 1000],?_⟩;unfold bX;show(dd _).bind _=_;rw[hF,aa];unfold IH;show((xS (aZ F) (eK id F)<|ky vB).bind _).map _=_;rw[lf];show((mZ WF ⟨1000,0,[eP d (ev []) false],[],.aE,ev F⟩).bind _).map _=_;rw[e1,aa,k2];rfl
def Jx{F:Fs D}{m:D}(lf:aK F s=aA d)(t:Tr (ev F) [eP d (ev []) false] [] c E n):Tr (ev F) [eP (.tup [.str [110,97,109,101],.str s,m]) (ev []) false] [] (c+1) E (n+1+1):=by
 refine W7 rfl<|IE (l:=[]) (e':=d) (env':=ev []) (mm:=w8) rfl rfl (by decide) rfl (λmo s0 w cm hw=>?_) t;have lk:=uU id s F;rw[lf] at lk;show(qU _ []).bind _=_;unfold qU;show aaj (if mo<=s0 then _ else _) _=_;by_cases z:mo<=s0
 .rw[if_pos z,if_pos z];rfl
 .rw[if_neg z,if_neg z,aa];show(xS (aZ F) (eK id F)<|ky s).bind _=_;rw[lk];rfl
section
variable{L:List (List Nat)}{e:Ex}
def F6(h:nd e<=60):lU [] (nd e):=⟨ri,by show 0+_<=1000;lia⟩
def l5:Rz->D
 |.val c w=>.tup [.str lP,.int (c:Nat),du w]
 |.aO c k=>.tup [.str iD,.int (c:Nat),.tup [.str vB,.int (k:Nat)]]
def Bm:Rz->D
 |.val c w=>.tup [.str lP,.int<|(c:Int)+2,du w]
 |.aO c k=>.tup [.str iD,.int<|(c:Int)+2,.tup [.str ZQ,.int<|(k:Int)+1]]
def DN:Rz->D
 |.val c w=>.tup [.str lP,.int<|(c:Int)+1,.tup [.str fT,.str [97],du w]]
 |.aO c k=>.tup [.str iD,.int<|(c:Int)+1,.tup [.str ZQ,.int (k:Nat)]]
def qb0(hL:L.length<=62)(h:Sem L e z)(hn:nd e<=60)(hd:dp e<=20):∃as,bX [.v<|.lst<|prog [(vB,e)],.v<|.int 1000]=aA (.v<|l5 z,as):=by
 have hF:dd (.lst<|prog [(vB,e)])=aA (ev<|bU [(vB,e)]):=IT (λp hp=>by rw[ck.mp hp];exact⟨by show dp e<40;lia,by show nd e<=500;lia⟩) (by show 1<=1000;decide) (show[vB].Nodup by decide);have lk:aK (bU [(vB,e)]) vB=aA (b_ (.str vB) e 0):=if_pos rfl;cases z with
 |val c w0=>
  obtain⟨h1,h2,h3,h4⟩:=h;obtain⟨T,w,hT,ew,t⟩:=h4 (ev<|bU [(vB,e)]) (.str vB) 0 []<|F6 hn;exact oA hF lk t (by lia) (by lia) ⟨L,w,by lia,rfl,(rK w).mp<|ew ▸ h1,by rw[<-EL,ew];lia,by show l5 _=_;unfold l5;rw[<-Et w,ew]⟩
 |aO c k=>
  obtain⟨h3,h4⟩:=h;obtain⟨T,hT,t⟩:=h4 (ev<|bU [(vB,e)]) (.str vB) 0 []<|F6 hn;rw[wo] at t;exact oA hF lk t (by lia) (by lia) rfl
def AN(e:Ex):Pr:=[(ZQ,e),(vB,.lab sC [97]<|.nm ZQ)]
def qa8(hL:L.length<=62)(h:Sem L e z)(hn:nd e<=60)(hd:dp e<=20):∃as,bX [.v<|.lst<|prog<|AN e,.v<|.int 1000]=aA (.v<|DN z,as):=by
 have hF:dd (.lst<|prog<|AN e)=aA (ev<|bU<|AN e):=IT (λp hp=>by
  rcases bq.mp hp with rfl|hp
  .exact⟨by show dp e<40;lia,by show nd e<=500;lia⟩
  .rw[ck.mp hp];exact⟨by show 1+0<40;decide,by show 1+1<=500;decide⟩) (by show 2<=1000;decide) (show[ZQ,vB].Nodup by decide)
 have lk:aK (bU<|AN e) vB=aA (b_ (.str vB) (.lab sC [97]<|.nm ZQ) 0):=rfl;have lz:aK (bU<|AN e) ZQ=aA (b_ (.str ZQ) e 0):=rfl;cases z with
 |val c w0=>
  obtain⟨h1,h2,h3,h4⟩:=h;obtain⟨T,w,hT,ew,t⟩:=h4 (ev<|bU<|AN e) (.str ZQ) 0 []<|F6 hn;have t2:=uN (W:=sC) (r:=[.str [97],_,.tup [.str vB,.int 0]]) (i:=2) (c2:=0) rfl rfl (Jx (m:=.tup [.str vB,.int<|0+1]) lz t)<|rF (l:=[2]) (mm:=qO) (v:=mv<|.one [97] w) rfl rfl (by decide) rfl λ_=>rfl;refine oA hF lk t2 (by lia) (by lia) ⟨[97]::L,.one [97] w,by rw[am];lia,rfl,⟨by simp,Y0 (λs hs=>by simp[hs]) w<|(rK w).mp<|ew ▸ h1⟩,by show 1+ps w<=200;rw[<-EL,ew];lia,?_⟩;show D.tup [_,_,.tup [_,_,du w0]]=D.tup [_,_,.tup [_,_,du w]];rw[<-Et w,ew];rfl
 |aO c k=>
  obtain⟨h3,h4⟩:=h;obtain⟨T,hT,t⟩:=h4 (ev<|bU<|AN e) (.str ZQ) 0 []<|F6 hn;rw[wo] at t;have t2:=oR (W:=sC) (r:=[.str [97],_,.tup [.str vB,.int 0]]) (i:=2) rfl rfl<|Jx (m:=.tup [.str vB,.int<|0+1]) lz t;exact oA hF lk t2 (by lia) (by lia) rfl
def BA(l:List Nat)(e:Ex):Pr:=[(ZQ,.lab FN l e),(vB,.bin DO (.nm ZQ)<|.num 1)]
def qa9(l:List Nat)(hL:L.length<=62)(h:Sem L e z)(hn:nd e<=60)(hd:dp e<=20):∃as,bX [.v<|.lst<|prog<|BA l e,.v<|.int 1000]=aA (.v<|Bm z,as):=by
 let F:Fs D:=bU<|BA l e
 have hF:dd (.lst<|prog<|BA l e)=aA (ev F):=IT (λp hp=>by
  rcases bq.mp hp with rfl|hp
  .exact⟨by show 1+dp e<40;lia,by show 1+nd e<=500;lia⟩
  .rw[ck.mp hp];exact⟨by show 1+max 0 0<40;decide,by show 1+1+1<=500;decide⟩) (by show 2<=1000;decide) (show[ZQ,vB].Nodup by decide)
 have lk:aK F vB=aA (b_ (.str vB) (.bin DO (.nm ZQ)<|.num 1) 0):=rfl;have lz:aK F ZQ=aA (b_ (.str ZQ) (.lab FN l e) 0):=rfl
 let G:Fs D:=[(l,.int 1)]
 have gk:lU G (nd e):=⟨by show[l].Nodup;simp,by show 1+_<=1000;lia⟩;have key:∀{E cb T3},Tr (ev F) [eP (b_ (.str ZQ) e<|0+1) (ev G) false] [] cb E T3->Tr (ev F) [eP (b_ (.str vB) (.bin DO (.nm ZQ)<|.num 1) 0) (ev []) false] [] (cb+2) E (2+1+1+(2+(T3+1))+1):=λ{E cb T3} t=>by
  rw[show cb+2=(0+1)+(0+(cb+1)) by lia];refine d9 (i:=1) (j:=2) (u:=mv<|.fn l (b_ (.str ZQ) e<|0+1) []) (v:=.int 1) rfl rfl rfl (Jx lz<|W7 rfl<|rF (l:=[]) (mm:=jV) rfl rfl (by decide) rfl λ_=>rfl) (W7 rfl<|rF (l:=[]) rfl rfl (by decide) rfl λ_=>rfl) ?_;refine IE (l:=[1,2]) (mm:=jW) (e':=b_ (.str ZQ) e<|0+1) (env':=ev G) rfl rfl (by decide) rfl (λmo s0 w cm hw=>?_) t;show(if (aZ ([]:Fs D)).length<ae then (qU _ []).bind _ else aD)=_;rw[if_pos (show(aZ ([]:Fs D)).length<ae from show 0<ae by decide)];unfold qU;show aaj (if mo<=s0 then _ else _) _=_;by_cases z:mo<=s0
  .rw[if_pos z,if_pos z];rfl
  .rw[if_neg z,if_neg z,aa];rfl
 cases z with
 |val c w0=>
  obtain⟨h1,h2,h3,h4⟩:=h;obtain⟨T,w,hT,ew,t⟩:=h4 (ev F) (.str ZQ) (0+1) G gk;exact oA hF lk (key t) (by lia) (by lia) ⟨L,w,by lia,rfl,(rK w).mp<|ew ▸ h1,by rw[<-EL,ew];lia,by show Bm _=_;unfold Bm;rw[<-Et w,ew];rfl⟩
 |aO c k=>
  obtain⟨h3,h4⟩:=h;obtain⟨T,hT,t⟩:=h4 (ev F) (.str ZQ) (0+1) G gk;rw[show(0:Int)+1+(k:Int)=(k:Int)+1 by lia] at t;exact oA hF lk (key t) (by lia) (by lia) rfl
def W'(h:Sem L e z)(hn:nd e<=60):Al 190 (l5 z)/\Al 190 (Bm z)/\Al 190 (DN z):=by
 cases z with
 |val c w=>
  have hp:ps w<=60:=by have:=h.2.1;lia
  have a:=(Jk w).mono (m:=180) (by lia);exact⟨(B4 (.str _) (.int _) a).mono<|by decide,(B4 (.str _) (.int _) a).mono<|by decide,(B4 (.str _) (.int _)<|B4 (.str _) (.str _) a).mono<|by decide⟩
 |aO c k=>
  have a:∀(s:List Nat) (i:Int),Al 100 (.tup [.str s,.int i]):=λs i=>(Mc (n:=0) (.str _)<|.int _).mono (by decide)
  exact⟨(B4 (.str _) (.int _)<|a _ _).mono<|by decide,(B4 (.str _) (.int _)<|a _ _).mono<|by decide,(B4 (.str _) (.int _)<|a _ _).mono<|by decide⟩
end
section
variable{L:List (List Nat)}{P:List It}{S:D}{f:Int}
abbrev LF(S:D)(f:Int)(L:List (List Nat))(P:List It)(a4 a5 a6 a7 a8 a9 a10 a11:Sl):En:=[.v S,.v<|.int f,.v<|.lst<|L.map .str,.v<|.lst<|P.map aJ,a4,a5,a6,a7,a8,a9,a10,a11]
noncomputable def DM(k:Nat)(l:List D):List D:=(l.zipIdx k).map λp=>.tup [.int (p.2:Nat),p.1]
def Jn:MS:=(xB 3<|zP 4 jT<|zA (zD 3)<|zA (zD 5)<|zA (zD 4)<|zA (zD 2) zM)
theorem oK(hL:Lb L)(h5:L.length=5):∀(cs:List Int) (k:Nat) (P:List It) (x4 x5:Sl),eM x4->eM x5->l9 L P->P.length+cs.length<=200->∃P' Qc Qb,eM Qc/\eM Qb/\l9 L P'/\P'.length<=P.length+cs.length/\dL (jE 2<|yH (yI 4)<|yH (yI 5) jY) Jn (DM k<|cs.map .int) (LF S f L P x4 x5 .un .un .un .un .un .un)=aA (.nx<|LF S f L P' Qc Qb .un .un .un .un .un .un)
 |[],k,P,x4,x5,h4,LP,hP,hl=>⟨P,x4,x5,h4,LP,hP,ah _,rfl⟩
 |c::cs,k,P,x4,x5,h4,LP,hP,hl=>by
  rw[am] at hl;obtain⟨P1,p1,p2,as,hg⟩:=Ÿ hL h5 hP (by lia) c k;obtain⟨P',y4,y5,q4,q5,q1,q2,q3⟩:=oK hL h5 cs (k+1) P1 (.v<|.int (k:Nat)) (.v<|.int c) trivial trivial p1 (by lia);refine⟨P',y4,y5,q4,q5,q1,by rw[am];lia,?_⟩;show dL _ _ (.tup [.int (k:Nat),.int c]::DM (k+1) (cs.map .int)) _=_;rw[b9 (d:=.tup [.int (k:Nat),.int c]) (r1:=LF S f L P (.v<|.int (k:Nat)) (.v<|.int c) .un .un .un .un .un .un) (HR (r1:=LF S f L P (.v<|.int (k:Nat)) x5 .un .un .un .un .un .un) (zY (i:=4) (x:=x4) rfl h4)<|zY (i:=5) (x:=x5) rfl LP) (r':=LF S f L P1 (.v<|.int (k:Nat)) (.v<|.int c) .un .un .un .un .un .un) ?_]
  .exact q3
  .exact xF (d:=.lst<|P1.map aJ) (yN (p:=.v<|.lst<|P1.map aJ) (zB rfl<|zB rfl<|zB rfl<|zB rfl zQ) rfl ⟨as,hg⟩) (by rfl)
def zW:Rz->List Nat
 |.val _ _=>lP
 |.aO _ _=>iD
noncomputable def zC:Rz->Int
 |.val c _=>(c:Nat)
 |.aO c _=>(c:Nat)
def zX:Rz->D
 |.val _ w=>du w
 |.aO _ k=>.int (k:Nat)
def qa2(z:Rz):eZ z=.tup [.str<|zW z,.int<|zC z,zX z]:=by cases z<;>rfl
def Ez:MS:=(aR (bV<|kY<|zP 2 (yV jF)<|zA (zP 2 bX<|zA (zD 10)<|zA FE zM)<|zA (zD 11) zM)
 (xE B6)
 zV)
def GO(i:Int):MB:=(aP<|zK c_ M4<|mC<|.int i)
def Ep:MS:=(yA (XQ H_<|jE 3<|yH (yI 7)<|yH (yI 8)<|yH (yI 9) jY)
 (yA (xB 10<|xQ<|yL<|zA Ms zM)
 (yA (xB 11 M8)
 (yA (aR (GO 1)
 (yA (xB 10<|xQ<|yL<|zA MW<|zA M7 zM)
 (yA (xB 11 MV)
 (aR (aP CP)
 (xB 11 Nc)
 zV)))
 zV)
 (yA (aR (GO 0)
 (yA (xB 10<|xQ<|yL<|zA Mt<|zA Nb zM)
 (xB 11 Na))
 zV)
 Ez)))))
def qg9{r:En}{p y:D}(DL:zD 10 r=aA p)(DJ:zD 11 r=aA y)(hr:∃as,bX [.v p,.v<|.int 1000]=aA (.v y,as))(ha:Al 190 y):Ez r=aA (.nx r):=by
 have c1:zP 2 bX (zA (zD 10)<|zA FE zM) r=aA y:=yN (p:=.v y) (zB DL<|zB zE zQ) rfl hr;have c2:zP 2 (yV jF) (zA (zP 2 bX<|zA (zD 10)<|zA FE zM)<|zA (zD 11) zM) r=aA (.bl true):=yN (p:=.v<|.bl true) (l:=[y,y]) (zB c1<|zB DJ zQ) rfl (Ũ ha _<|by decide);have c3:bV (kY<|zP 2 (yV jF)<|zA (zP 2 bX<|zA (zD 10)<|zA FE zM)<|zA (zD 11) zM) r=aA false:=by
  unfold bV kY;rw[c2];rfl
 unfold Ez;rw[wX c3];rfl
def bd3{i j k:Nat}{a b c:D}{r r1 r2 r3:En}(h1:yI i a r=aA r1)(h2:yI j b r1=aA r2)(h3:yI k c r2=aA r3):jE 3 (yH (yI i)<|yH (yI j)<|yH (yI k) jY) (.tup [a,b,c]) r=aA r3:=by
 show((yI i a r).bind λr=>(yI j b r).bind λr=>(yI k c r).bind λr=>aA r)=_;rw[h1,aa,h2,aa,h3];rfl
def QQ(hL:Lb L)(h5:L.length=5)(ht:eC L t)(hd:dp t.e<=20)(k:Nat)(x5 x7 x8 x9 iX iM:Sl)(h7:eM x7)(h8:eM x8)(h9:eM x9)(DL:eM iX)(DJ:eM iM):∃y7 y8 y9 GU GS,eM y7/\eM y8/\eM y9/\eM GU/\eM GS/\Ep (LF S f L P (.v<|.int (k:Nat)) x5 (.v<|aJ t) x7 x8 x9 iX iM)=aA (.nx<|LF S f L P (.v<|.int (k:Nat)) x5 (.v<|aJ t) y7 y8 y9 GU GS):=by
 obtain⟨n,n0,hm⟩:=bI f (k:Int);obtain⟨l0,L',rfl⟩:∃l0 L',L=l0::L':=by
  cases L with
  |nil=>cases h5
  |cons a l=>exact⟨a,l,rfl⟩
 let z:Rz:=t.z
 let R:Sl->Sl->En:=λp q=>LF S f (l0::L') P (.v<|.int (k:Nat)) x5 (.v<|aJ t) (.v<|.str<|zW z) (.v<|.int<|zC z) (.v<|zX z) p q
 have Lu:(l0::L').length<=62:=by lia
 obtain⟨a1,a2,a3⟩:=W' ht.fV ht.nn;have GZ:∀(i:Int) (p q:Sl),GO i (R p q)=aA (decide (n % 3=i)):=λi p q=>wN<|zO (qE (yN (p:=.v<|.int n) (zB rfl<|zB rfl zQ) rfl hm) zE<|by decide) zE rfl
 have s1:XQ H_ (jE 3<|yH (yI 7)<|yH (yI 8)<|yH (yI 9) jY) (LF S f (l0::L') P (.v<|.int (k:Nat)) x5 (.v<|aJ t) x7 x8 x9 iX iM)=aA (.nx<|R iX iM):=by
  unfold XQ;rw[show H_ (LF S f (l0::L') P (.v<|.int (k:Nat)) x5 (.v<|aJ t) x7 x8 x9 iX iM)=aA (eZ t.z) from rfl,aa,qa2];rw[bd3 (r1:=LF S f (l0::L') P (.v<|.int (k:Nat)) x5 (.v<|aJ t) (.v<|.str<|zW z) x8 x9 iX iM) (r2:=LF S f (l0::L') P (.v<|.int (k:Nat)) x5 (.v<|aJ t) (.v<|.str<|zW z) (.v<|.int<|zC z) x9 iX iM) (r3:=R iX iM) (zY (i:=7) (x:=x7) rfl h7) (zY (i:=8) (x:=x8) rfl h8)<|zY (i:=9) (x:=x9) rfl h9];rfl
 have e0:∀p q,FP (R p q)=aA (toD t.e):=λp q=>rfl
 have eL:∀p q,l8 (R p q)=aA (.str l0):=λp q=>zO (x:=.lst<|(l0::L').map .str) (y:=.int ((0:Nat):Int)) rfl zE<|gY rfl
 have p1:∀p q,xQ (yL<|zA Ms zM) (R p q)=aA (.lst<|prog [(vB,t.e)]):=λp q=>cI (zB (wH (zB zE<|zB (e0 p q) zQ) (by show 2<=100;decide)) zQ) (by show 1<=100;decide)
 have p2:∀p q,xQ (yL<|zA MW<|zA M7 zM) (R p q)=aA (.lst<|prog<|BA l0 t.e):=λp q=>cI (zB (wH (zB zE<|zB (sI zE (eL p q)<|e0 p q) zQ) (by show 2<=100;decide))<|zB zE zQ) (by show 2<=100;decide)
 have p3:∀p q,xQ (yL<|zA Mt<|zA Nb zM) (R p q)=aA (.lst<|prog<|AN t.e):=λp q=>cI (zB (wH (zB zE<|zB (e0 p q) zQ) (by show 2<=100;decide))<|zB zE zQ) (by show 2<=100;decide)
 have d1:∀p q,M8 (R p q)=aA (l5 z):=λp q=>by
  show _=aA (l5 t.z);simp only[R,z];cases t.z<;>rfl
 have d3:∀p q,Na (R p q)=aA (DN z):=λp q=>by
  show _=aA (DN t.z);simp only[R,z];cases t.z<;>rfl
 have d2:∀p q,eM q->yA (xB 11 MV) (aR (aP CP) (xB 11 Nc) zV) (R p q)=aA (.nx<|R p<|.v<|Bm z):=λp q hq=>by
  refine zT (.tup [.str<|zW z,.int<|zC z+2,zX z]) (r2:=R p<|.v<|.tup [.str<|zW z,.int<|zC z+2,zX z]) (sI rfl (xD rfl zE) rfl) (zY (i:=11) (x:=q) rfl hq) ?_;simp only[R,z];cases t.z with
  |val c w=>rfl
  |aO c k=>rfl
 unfold Ep;rw[yB s1];refine⟨.v<|.str<|zW z,.v<|.int<|zC z,.v<|zX z,?_⟩;have go:∀{p y:D},(∃as,bX [.v p,.v<|.int 1000]=aA (.v y,as))->Al 190 y->Ez (R (.v p)<|.v y)=aA (.nx<|R (.v p)<|.v y):=λhr ha=>qg9 rfl rfl hr ha
 have o1:xB 10 _ (R iX iM)=aA (.nx<|R (.v<|.lst<|prog [(vB,t.e)]) iM):=xF (p1 iX iM)<|zY (i:=10) (x:=iX) rfl DL;have o2:xB 11 _ (R (.v<|.lst<|prog [(vB,t.e)]) iM)=aA (.nx<|R (.v<|.lst<|prog [(vB,t.e)])<|.v<|l5 z):=xF (d1 _ _)<|zY (i:=11) (x:=iM) rfl DJ;by_cases z1:n % 3=1
 .refine⟨.v<|.lst<|prog<|BA l0 t.e,.v<|Bm z,trivial,trivial,trivial,trivial,trivial,?_⟩;rw[yB o1,yB o2];have i1:=GZ 1 (.v<|.lst<|prog [(vB,t.e)])<|.v<|l5 z;rw[decide_eq_true z1] at i1;rw[yB (r':=R (.v<|.lst<|prog<|BA l0 t.e)<|.v<|Bm z) (by
   rw[vC i1,yB<|xF (p2 _ _)<|zY (i:=10) (x:=.v<|.lst<|prog [(vB,t.e)]) rfl trivial];exact d2 _ _ trivial)]
  have i0:=GZ 0 (.v<|.lst<|prog<|BA l0 t.e)<|.v<|Bm z;rw[decide_eq_false<|by lia] at i0;rw[yB (r':=R (.v<|.lst<|prog<|BA l0 t.e)<|.v<|Bm z) (by rw[wX i0];rfl)];exact go (qa9 l0 Lu ht.fV ht.nn hd) a2
 .have i1:=GZ 1 (.v<|.lst<|prog [(vB,t.e)])<|.v<|l5 z;rw[decide_eq_false z1] at i1;have i0:=GZ 0 (.v<|.lst<|prog [(vB,t.e)])<|.v<|l5 z;by_cases z0:n % 3=0
  .refine⟨.v<|.lst<|prog<|AN t.e,.v<|DN z,trivial,trivial,trivial,trivial,trivial,?_⟩;rw[decide_eq_true z0] at i0;rw[yB o1,yB o2,yB (r':=R (.v<|.lst<|prog [(vB,t.e)])<|.v<|l5 z) (by rw[wX i1];rfl)];rw[yB (r':=R (.v<|.lst<|prog<|AN t.e)<|.v<|DN z) (by
    rw[vC i0,yB<|xF (p3 _ _)<|zY (i:=10) (x:=.v<|.lst<|prog [(vB,t.e)]) rfl trivial];exact xF (d3 _ _)<|zY (i:=11) (x:=.v<|l5 z) rfl trivial)]
   exact go (qa8 Lu ht.fV ht.nn hd) a3
  .refine⟨.v<|.lst<|prog [(vB,t.e)],.v<|l5 z,trivial,trivial,trivial,trivial,trivial,?_⟩;rw[decide_eq_false z0] at i0;rw[yB o1,yB o2,yB (r':=R (.v<|.lst<|prog [(vB,t.e)])<|.v<|l5 z) (by rw[wX i1];rfl),yB (r':=R (.v<|.lst<|prog [(vB,t.e)])<|.v<|l5 z) (by rw[wX i0];rfl)];exact go (qb0 Lu ht.fV ht.nn hd) a1
theorem pH(hL:Lb L)(h5:L.length=5):∀(Q:List It) (k:Nat) (x4 x5 x6 x7 x8 x9 iX iM:Sl),eM x4->eM x6->eM x7->eM x8->eM x9->eM iX->eM iM->(∀t∈Q,eC L t/\dp t.e<=20)->∃r',dL (jE 2<|yH (yI 4)<|yH (yI 6) jY) Ep (DM k<|Q.map aJ) (LF S f L P x4 x5 x6 x7 x8 x9 iX iM)=aA (.nx r')
 |[],k,x4,x5,x6,x7,x8,x9,iX,iM,h4,h6,h7,h8,h9,DL,DJ,hq=>⟨_,rfl⟩
 |t::Q,k,x4,x5,x6,x7,x8,x9,iX,iM,h4,h6,h7,h8,h9,DL,DJ,hq=>by
  obtain⟨ht,hd⟩:=hq t (by simp);obtain⟨y7,y8,y9,GU,GS,g7,g8,g9,g10,g11,e⟩:=QQ (S:=S) (f:=f) (P:=P) hL h5 ht hd k x5 x7 x8 x9 iX iM h7 h8 h9 DL DJ;obtain⟨r',q⟩:=pH hL h5 Q (k+1) (.v<|.int (k:Nat)) x5 (.v<|aJ t) y7 y8 y9 GU GS trivial trivial g7 g8 g9 g10 g11 λu hu=>hq u (by simp[hu])
  refine⟨r',?_⟩;show dL _ _ (.tup [.int (k:Nat),aJ t]::DM (k+1) (Q.map aJ)) _=_;rw[b9 (d:=.tup [.int (k:Nat),aJ t]) (HR (r1:=LF S f L P (.v<|.int (k:Nat)) x5 x6 x7 x8 x9 iX iM) (zY (i:=4) (x:=x4) rfl h4)<|zY (i:=6) (x:=x6) rfl h6) e];exact q
end
def law_math:∀ns:List Int,ns.length<=63->∃as,XM [.v<|.lst<|ns.map .int]=aA (.v<|.bl true,as):=by
 intro ns sM;obtain⟨c0,hc0⟩:=ð ns 0;obtain⟨F,F0,hF⟩:=bI c0 900;obtain⟨L,⟨h5,hn⟩,hLb⟩:=QK F0;have hL:Lb L:=⟨by lia,hn⟩
 let cs:List Int:=(ns.take 101).drop 1
 have cl:cs.length<=63:=by simp only[cs,jf,ii];lia
 let S:D:=.lst<|ns.map .int
 obtain⟨P,x4,x5,f4,f5,hP,hl,lp⟩:=oK (S:=S) (f:=F) hL h5 cs 0 [Aq] .un .un trivial trivial ⟨λt ht=>by rw[ck.mp ht];exact⟨ND,by decide⟩,by simp⟩ (by show 1+_<=200;lia);obtain⟨r',li⟩:=pH (S:=S) (f:=F) (P:=P) hL h5 P 0 x4 x5 .un .un .un .un .un .un f4 trivial trivial trivial trivial trivial trivial hP.ok;refine wF (r':=r') ?_;show ED [.v S,.un,.un,.un,.un,.un,.un,.un,.un,.un,.un,.un]=_;unfold ED;refine zT (.int F) (r2:=[.v S,.v<|.int F,.un,.un,.un,.un,.un,.un,.un,.un,.un,.un]) (yN (p:=.v<|.int F) (zB (yN (p:=.v<|.int c0) (zB (x:=S) rfl<|zB zE zQ) rfl hc0)<|zB zE zQ) rfl hF) (by rfl) ?_;refine zT (.lst<|L.map .str) (r2:=[.v S,.v<|.int F,.v<|.lst<|L.map .str,.un,.un,.un,.un,.un,.un,.un,.un,.un]) (yN (p:=.v<|.lst<|L.map .str) (zB rfl zQ) rfl hLb) (by rfl) ?_;refine zT (.lst<|[Aq].map aJ) (r2:=LF S F L [Aq] .un .un .un .un .un .un .un .un) (cI (zB (x:=aJ Aq) (by rw[Nw];rfl) zQ) (by show 1<=100;decide)) (by rfl) ?_;have s1:mP (jE 2<|yH (yI 4)<|yH (yI 5) jY) (YL<|fR (zD 0) (wZ<|mC<|.int 1)<|wZ HZ) Jn (LF S F L [Aq] .un .un .un .un .un .un .un .un)=aA (.nx<|LF S F L P x4 x5 .un .un .un .un .un .un):=by
  unfold mP;have en:YL (fR (zD 0) (wZ<|mC<|.int 1)<|wZ HZ) (LF S F L [Aq] .un .un .un .un .un .un .un .un)=aA (DM 0<|cs.map .int):=by
   have sl:fR (zD 0) (wZ<|mC<|.int 1) (wZ HZ) (LF S F L [Aq] .un .un .un .un .un .un .un .un)=aA (.lst<|cs.map .int):=by
    refine Ey (x:=S) rfl (vN zE) (vN zE) ?_;show aA (D.lst<|mV (ns.map D.int) (aA ((1:Nat):Int))<|some ((101:Nat):Int))=_;rw[à,<-List.map_take,<-List.map_drop]
   unfold YL;rw[sl];rfl
  rw[en];exact lp
 unfold Jn at s1;rw[yB s1];have s2:mP (jE 2<|yH (yI 4)<|yH (yI 6) jY) (YL<|zD 3) Ep (LF S F L P x4 x5 .un .un .un .un .un .un)=aA (.nx r'):=by
  unfold mP;rw[show YL (zD 3) (LF S F L P x4 x5 .un .un .un .un .un .un)=aA (DM 0<|P.map aJ) from rfl];exact li
 unfold Ep GO Ez at s2;rw[yB s2];exact yG zE
def Ei{α:Type}{l:List α}(h:l.length=1):∃a0,l=[a0]:=zq.mp h
def Ge{α:Type}{l:List α}(h:l.length=2):∃a0 a1,l=[a0,a1]:=by
 cases l with
 |nil=>cases h
 |cons a0 l=>obtain⟨a1,rfl⟩:=Ei<|ua h;exact⟨a0,a1,rfl⟩
def Gf{α:Type}{l:List α}(h:l.length=3):∃a0 a1 a2,l=[a0,a1,a2]:=by
 cases l with
 |nil=>cases h
 |cons a0 l=>obtain⟨a1,a2,rfl⟩:=Ge<|ua h;exact⟨a0,a1,a2,rfl⟩
def IC{α:Type}{l:List α}(h:l.length=4):∃a0 a1 a2 a3,l=[a0,a1,a2,a3]:=by
 cases l with
 |nil=>cases h
 |cons a0 l=>obtain⟨a1,a2,a3,rfl⟩:=Gf<|ua h;exact⟨a0,a1,a2,a3,rfl⟩
def bB(K:Fg)(n:Str)(st:Stmt):Prop:=∃(f:Addr) (od an:Option Addr) (sl:Array (Option Value)) (oc kV dc pm cd ct:Value),bm K ax n=aA (aA<|.ref f)/\K.lookup f=aA ⟨oc,od,.func<|kr n n (vW st) (qB st) (yF st) .none kV dc pm an cd ct,sl⟩/\my K cd n=true/\dw K (.ref f)=true
def dfo{K:Fg}{n:Str}{st:Stmt}{f:Addr}{od an:Option Addr}{sl:Array (Option Value)}{oc kV dc pm cd ct:Value}(a:bm K ax n=aA (aA<|.ref f))(l:K.lookup f=aA ⟨oc,od,.func<|kr n n (vW st) (qB st) (yF st) .none kV dc pm an cd ct,sl⟩)(c:my K cd n=true)(k:dw K (.ref f)=true):bB K n st:=⟨f,od,an,sl,oc,kV,dc,pm,cd,ct,a,l,c,k⟩
def deo{K:Fg}{h:Heap}{mg:Str->Option Value}{n:Str}{i:Nat}{ps:List Str}(X:K.In h)(G:h.Ns ax mg)(D:bB K n (top i))(hb:∀{f:Addr} {d:FuncData},j_ K n n (top i) f d->Binds K d ps []):Nonempty (De K mg n i ps):=by
 obtain⟨f,_,_,_,_,_,_,_,_,_,a,l,c,k⟩:=D;have F:=QX (st:=top i) l c k;exact⟨⟨f,_,F,kf X G a,hb F⟩⟩
def dh{K:Fg}{h:Heap}{mg:Str->Option Value}{n:Str}{i:Nat}{ps:List Str}(X:K.In h)(G:h.Ns ax mg)(D:bB K n (top i))(hb:∀{f:Addr} {d:FuncData},j_ K n n (top i) f d->Binds K d ps []:=by intro _ _ F;exact F.binds λ_ _ _ _ _ _ us hl=>by first|(obtain⟨_,rfl⟩:=Ei hl;rfl)|(obtain⟨_,_,rfl⟩:=Ge hl;rfl)|(obtain⟨_,_,_,rfl⟩:=Gf hl;rfl)|(obtain⟨_,_,_,_,rfl⟩:=IC hl;rfl)|(cases len0 hl;rfl)):De K mg n i ps:=Classical.choice<|deo X G D hb
def fQ(K:Fg)(n q:Str)(st:Stmt)(f:Addr):Prop:=∃(od an:Option Addr) (sl:Array (Option Value)) (oc kV dc pm cd ct:Value),K.lookup f=aA ⟨oc,od,.func<|kr n q (vW st) (qB st) (yF st) .none kV dc pm an cd ct,sl⟩/\my K cd q=true/\dw K (.ref f)=true
def fnk{K:Fg}{n q:Str}{st:Stmt}{f:Addr}{od an:Option Addr}{sl:Array (Option Value)}{oc kV dc pm cd ct:Value}(l:K.lookup f=aA ⟨oc,od,.func<|kr n q (vW st) (qB st) (yF st) .none kV dc pm an cd ct,sl⟩)(c:my K cd q=true)(k:dw K (.ref f)=true):fQ K n q st f:=⟨od,an,sl,oc,kV,dc,pm,cd,ct,l,c,k⟩
def u4{K:Fg}{n q:Str}{st:Stmt}{f:Addr}{ps:List Str}(D:fQ K n q st f)(hb:∀{f:Addr} {d:FuncData},j_ K n q st f d->Binds K d ps []:=by intro _ _ F;exact F.binds λ_ _ _ _ _ _ us hl=>by first|(obtain⟨_,rfl⟩:=Ei hl;rfl)|(obtain⟨_,_,rfl⟩:=Ge hl;rfl)|(obtain⟨_,_,_,rfl⟩:=Gf hl;rfl)|(obtain⟨_,_,_,_,rfl⟩:=IC hl;rfl)|(cases len0 hl;rfl)):∃m:Dm K n q st ps,m.a=f/\dw K (.ref f)=true:=by
 obtain⟨_,_,_,_,_,_,_,_,_,l,c,k⟩:=D;have F:=QX (st:=st) l c k;exact⟨⟨f,_,F,hb F⟩,rfl,k⟩
def jR{K:Fg}{h:Heap}{mg:Str->Option Value}{n:Str}{i:Nat}{f:Addr}{ps:List Str}(X:K.In h)(G:h.Ns ax mg)(a:bm K ax n=aA (aA<|.ref f))(D:fQ K n n (top i) f)(hb:∀{f:Addr} {d:FuncData},j_ K n n (top i) f d->Binds K d ps []:=by intro _ _ F;exact F.binds λ_ _ _ _ _ _ us hl=>by first|(obtain⟨_,rfl⟩:=Ei hl;rfl)|(obtain⟨_,_,rfl⟩:=Ge hl;rfl)|(obtain⟨_,_,_,rfl⟩:=Gf hl;rfl)|(obtain⟨_,_,_,_,rfl⟩:=IC hl;rfl)|(cases len0 hl;rfl)):∃m:De K mg n i ps,m.a=f:=by
 obtain⟨_,_,_,_,_,_,_,_,_,l,c,k⟩:=D;have F:=QX (st:=top i) l c k;exact⟨⟨f,_,F,kf X G a,hb F⟩,rfl⟩
def itup_mk{K:Fg}{p:Addr}{ns:List Int}{od:Option Addr}{its:Array Value}{n:Nat}{sl:Array (Option Value)}(l:K.lookup p=aA ⟨.type "tuple",od,.seq its n,sl⟩)(s:its.size<=ae)(v:Vals (ns.map V.int) its.toList):XU K p ns:=⟨_,_,_,l,rfl,rfl,s,v⟩
def Xl{K:Fg}(hm:∀ns:List Int,ns.length<=63->∃as,XM [.v<|.lst<|ns.map .int]=aA (.v<|.bl true,as))(H:Hp)(a:Addr)(ns:List Int)(hl:ns.length<=63)(hS:aX K H a (ns.map V.int)):iY K 1 XM [.ref a] H (λv _=>v=.bl true) (λ_ _ _=>False):=by
 have il:∀l:List Int,IsL K (λ_=>False) H (l.map D.int) (l.map V.int):=λl=>by
  induction l with
  |nil=>exact IsL.nil
  |cons x l ih=>exact .cons (by rw[zG]) ih
 obtain⟨as,e⟩:=hm ns hl;refine⟨λ_=>False,[.v<|.lst<|ns.map .int],_,as,rfl,Jo (ds:=[.lst<|ns.map .int]) noF<|.cons (by rw[zS];exact⟨a,_,rfl,hS.imp (λz=>⟨id,z⟩) id,il ns⟩) .nil,λi l=>?_,e,λv H' _ iv=>by rw[zZ] at iv;exact iv⟩;cases i with
 |zero=>exact⟨(λz=>by cases z),(λz=>by cases z),(λ_ z=>by cases z)⟩
 |succ i=>exact⟨(λz=>by cases z),(λz=>by cases z),(λ_ z=>by cases z)⟩
def all_mk{l:PySem.W.OpenLaw}{w:World}{K:Fg}{h:Heap}{mg:Str->Option Value}{fa:Addr}(X:K.In h)(G:h.Ns ax mg)(hfa:mg "law" = aA (.ref fa))(D0:bB K "inner" (top 2))(D1:bB K "places" (top 1))(D2:bB K "inner_numbers" (top 4))(D3:bB K "sort_of" (top 9))(D4:bB K "binding" (top 10))(D5:bB K "worked" (top 11))(D6:bB K "held_in" (top 38))(D7:bB K "told_part" (top 39))(D8:bB K "told" (top 37))(D9:bB K "marked" (top 15))(D10:bB K "has_field" (top 17))(D11:bB K "has_no_field" (top 18))(D12:bB K "with_field" (top 19))(D13:bB K "without_field" (top 20))(D14:bB K "_law_cell" (top 41))(D15:bB K "_law_mixed" (top 42))(D16:bB K "_law_alike" (top 43))(D17:bB K "_law_labels" (top 44))(D18:bB K "_law_strict" (top 45))(D19:bB K "_law_field" (top 46))(D20:bB K "_law_sort" (top 47))(D21:bB K "_law_laid" (top 49))(D22:bB K "_law_comes" (top 48))(D23:bB K "_law_plain" (top 50))(D24:bB K "_law_do" (top 51))(D25:bB K "_law_ways" (top 52))(D26:bB K "_law_three" (top 53))(D27:bB K "_law_two" (top 54))(D28:bB K "_law_one" (top 55))(D29:bB K "_law_grown" (top 56))(D30:bB K "law" (top 57)){C B:Addr}(aC:bm K ax "Plain" = aA (aA<|.ref C))(aB:bm K ax "Reckoner" = aA (aA<|.ref B))(pg:qg K C Str.empty=true)(hd:rl K C=true)(po:we K C=true)(sa:cj K (.ref C) "__setattr__" = aA (aA<|.builtin "object.__setattr__"))(mk:xf K C=true)(kc:dw K (.ref C)=true)(Hv:cj K (.ref C) "most" = aA aD)(Cz:cj K (.ref C) "steps" = aA aD)(Dr:cj K (.ref C) "waiting" = aA aD)(Do:cj K (.ref C) "come" = aA aD)(BH:cj K (.ref C) "ended" = aA aD)(E7:cj K (.ref C) "defs" = aA aD){K6:Addr}(fc:PySem.W.findCls K (.ref B) (.type "type") "__init__" = aA (.val<|.ref K6))(cga:PySem.W.specialIn K (.ref B) "__getattribute__" = aA (aA<|.builtin "type.__getattribute__"))(crd:PySem.W.readsIn K B (.type "type")=true)(chh:wv (.ref K6)=true)(j4y:fQ K "__init__" "Reckoner.__init__" (nD 8 0) K6){K5:Addr}(j4z:cj K (.ref C) "__init__" = aA (aA<|.ref K5))(j5a:jq K (.ref K5)=true)(j5b:fQ K "__init__" "Plain.__init__" (nD 16 0) K5){yM:Addr}(j5c:cj K (.ref C) "begin" = aA (aA<|.ref yM))(j5d:jq K (.ref yM)=true)(j5e:fQ K "begin" "Reckoner.begin" (nD 8 1) yM){y6:Addr}(j6g:cj K (.ref C) "tell" = aA (aA<|.ref y6))(j6h:jq K (.ref y6)=true)(j6i:fQ K "tell" "Reckoner.tell" (nD 8 2) y6){qU:Addr}(j6j:cj K (.ref C) "step" = aA (aA<|.ref qU))(j6k:jq K (.ref qU)=true)(j6l:fQ K "step" "Reckoner.step" (nD 8 3) qU){j8:Addr}(j4i:cj K (.ref C) "run_on" = aA (aA<|.ref j8))(j4j:jq K (.ref j8)=true)(j4k:fQ K "run_on" "Reckoner.run_on" (nD 8 4) j8){yP:Addr}(j2w:cj K (.ref C) "begin_parts" = aA (aA<|.ref yP))(j2x:jq K (.ref yP)=true)(j2y:fQ K "begin_parts" "Reckoner.begin_parts" (nD 8 5) yP){yX:Addr}(j3i:cj K (.ref C) "parts_come" = aA (aA<|.ref yX))(j3j:jq K (.ref yX)=true)(j3k:fQ K "parts_come" "Reckoner.parts_come" (nD 8 6) yX){qR:Addr}(j5f:cj K (.ref C) "go_on" = aA (aA<|.ref qR))(j5g:jq K (.ref qR)=true)(j5h:fQ K "go_on" "Plain.go_on" (nD 16 1) qR){yC:Addr}(j5i:cj K (.ref C) "stick" = aA (aA<|.ref yC))(j5j:jq K (.ref yC)=true)(j5k:fQ K "stick" "Plain.stick" (nD 16 2) yC){Se:Addr}(j7c:bm K ax "run" = aA (aA<|.ref Se))(j7d:fQ K "run" "run" (top 14) Se){j9:Addr}(j4l:bm K ax "of_num" = aA (aA<|.ref j9))(j4m:fQ K "of_num" "of_num" (top 21) j9){w8:Addr}(j3y:bm K ax "of_name" = aA (aA<|.ref w8))(j3z:fQ K "of_name" "of_name" (top 22) w8){jV:Addr}(j5l:bm K ax "of_fn" = aA (aA<|.ref jV))(j5m:fQ K "of_fn" "of_fn" (top 23) jV){jW:Addr}(j5n:bm K ax "of_do" = aA (aA<|.ref jW))(j5o:fQ K "of_do" "of_do" (top 24) jW){wV:Addr}(j3t:bm K ax "of_empty" = aA (aA<|.ref wV))(j3u:fQ K "of_empty" "of_empty" (top 25) wV){qQ:Addr}(j4n:bm K ax "of_get" = aA (aA<|.ref qQ))(j4o:fQ K "of_get" "of_get" (top 26) qQ){x0:Addr}(j4a:bm K ax "of_with" = aA (aA<|.ref x0))(j4b:fQ K "of_with" "of_with" (top 27) x0){wT:Addr}(j4p:bm K ax "of_put" = aA (aA<|.ref wT))(j4q:fQ K "of_put" "of_put" (top 28) wT){wL:Addr}(j4c:bm K ax "of_less" = aA (aA<|.ref wL))(j4d:fQ K "of_less" "of_less" (top 29) wL){qO:Addr}(j4r:bm K ax "of_tag" = aA (aA<|.ref qO))(j4s:fQ K "of_tag" "of_tag" (top 30) qO){w6:Addr}(j4e:bm K ax "of_wide" = aA (aA<|.ref w6))(j4f:fQ K "of_wide" "of_wide" (top 31) w6){xL:Addr}(j4g:bm K ax "of_case" = aA (aA<|.ref xL))(j4h:fQ K "of_case" "of_case" (top 32) xL){wU:Addr}(j3v:bm K ax "of_never" = aA (aA<|.ref wU))(j3w:fQ K "of_never" "of_never" (top 33) wU){qP:Addr}(j5p:bm K ax "of_if" = aA (aA<|.ref qP))(j5q:fQ K "of_if" "of_if" (top 34) qP){yU:Addr}(j3l:bm K ax "of_working" = aA (aA<|.ref yU))(j3m:fQ K "of_working" "of_working" (top 35) yU){KY:Addr}{K4:Array DictEntry}{j6m:Nat}(j6n:bm K ax "WAYS" = aA (aA<|.ref KY))(j6o:K.lookup KY=aA ⟨.type "dict",aD,.dict K4 j6m,#[]⟩)(j6p:(KY == jv)=false)(j6q:qq w.params K4.toList)(j6r:XN K4.toList [([110,117,109],j9),([110,97,109,101],w8),([102,110],jV),([100,111],jW),([101,109,112,116,121],wV),([103,101,116],qQ),([119,105,116,104],x0),([112,117,116],wT),([108,101,115,115],wL),([116,97,103],qO),([119,105,100,101],w6),([99,97,115,101],xL),([110,101,118,101,114],wU),([105,102],qP),([43],yU),([45],yU),([42],yU),([60],yU)]){Qt Qs Qn Qm Ql Qk Qj Qi Qh Qg Qr Qq Qp Qo:Addr}{K3:Addr}{K8:Array DictEntry}{j5r:Nat}(j5s:bm K ax "AHEAD" = aA (aA<|.ref K3))(j5t:K.lookup K3=aA ⟨.type "dict",aD,.dict K8 j5r,#[]⟩)(j5u:(K3 == jv)=false)(j5v:qq w.params K8.toList)(j5w:XN K8.toList [([100,111],Qt),([103,101,116],Qs),([119,105,116,104],Qn),([112,117,116],Qm),([108,101,115,115],Ql),([116,97,103],Qk),([119,105,100,101],Qj),([99,97,115,101],Qi),([110,101,118,101,114],Qh),([105,102],Qg),([43],Qr),([45],Qq),([42],Qp),([60],Qo)])(j_0:XU K Qt [1,2])(j_1:XU K Qs [2])(j_2:XU K Qn [2,3])(j_3:XU K Qm [2,3])(j_4:XU K Ql [2])(j_5:XU K Qk [2])(j_6:XU K Qj [2])(j_7:XU K Qi [1])(j_8:XU K Qh [1])(j_9:XU K Qg [1])(qd5:XU K Qr [1,2])(qd4:XU K Qq [1,2])(qd3:XU K Qp [1,2])(qd2:XU K Qo [1,2])(K2:bm K ax "bool" = aA aD)(E6:bm K ax "dict" = aA aD)(K_:bm K ax "enumerate" = aA aD)(Ht:bm K ax "int" = aA aD)(La:bm K ax "isinstance" = aA aD)(Hs:bm K ax "len" = aA aD)(KZ:bm K ax "list" = aA aD)(E5:bm K ax "max" = aA aD)(K7:bm K ax "range" = aA aD)(Hw:bm K ax "reversed" = aA aD)(K9:bm K ax "sorted" = aA aD)(KW:bm K ax "str" = aA aD)(KU:bm K ax "sum" = aA aD)(E9:bm K ax "tuple" = aA aD)(Hr:bm K ax "zip" = aA aD){j2i:Tok}(Lc:bm K ax "END_OF_NUMBERS" = aA (aA<|.int 1000000 j2i)){j3o:Tok}(K':bm K ax "MOST_PARTS" = aA (aA<|.int 200 j3o)):∃fd:FuncData,(∀(s:Shared) (v:Value),BindsTo s fd ⟨[v],[]⟩ [("_law_script",v)])/\∀base:Heap,K.In base->base.Ns ax mg->eA l.prog w K mg base eJ 201 fa fd ["_law_script"] (iY K 1 XM):=by
 obtain⟨f30,_,_,_,_,_,_,_,_,_,TL,l30,c30,k30⟩:=D30;have e:=hfa.symm.trans<|kf X G TL;cases e;have UW:=QX (st:=top 57) l30 c30 k30;have b30:=UW.binds (ps:=["_law_script"]) λ_ _ _ _ _ _ us hl=>by obtain⟨_,rfl⟩:=Ei hl;rfl
 obtain⟨Cy,rfl,j5x⟩:=u4 (ps:=["self", "most"]) j4y;obtain⟨Cw,rfl,j7e⟩:=u4 (ps:=["self", "program", "most"]) j5b;obtain⟨Cv,rfl,j5y⟩:=u4 (ps:=Cp) j5e;obtain⟨Dl,rfl,j6s⟩:=u4 (ps:=["self", "value"]) j6i;obtain⟨Dk,rfl,j6t⟩:=u4 (ps:=["self"]) j6l;obtain⟨CA,rfl,j4t⟩:=u4 (ps:=["self"]) j4k;obtain⟨Dt,rfl,j2z⟩:=u4 (ps:=Cp) j2y;obtain⟨Ds,rfl,j3p⟩:=u4 (ps:=BB) j3k;obtain⟨Dq,rfl,j5z⟩:=u4 (ps:=["self", "expression", "bound", "parts"]) j5h;obtain⟨Dp,rfl,j6a⟩:=u4 (ps:=BB) j5k;obtain⟨Hu,rfl⟩:=jR (ps:=["program", "most"]) X G j7c j7d;obtain⟨BL,rfl⟩:=jR (ps:=eE) X G j4l j4m;obtain⟨BQ,rfl⟩:=jR (ps:=eE) X G j3y j3z;obtain⟨BG,rfl⟩:=jR (ps:=eE) X G j5l j5m;obtain⟨BF,rfl⟩:=jR (ps:=eE) X G j5n j5o;obtain⟨BS,rfl⟩:=jR (ps:=eE) X G j3t j3u;obtain⟨BK,rfl⟩:=jR (ps:=eE) X G j4n j4o;obtain⟨BP,rfl⟩:=jR (ps:=eE) X G j4a j4b;obtain⟨BJ,rfl⟩:=jR (ps:=eE) X G j4p j4q;obtain⟨BO,rfl⟩:=jR (ps:=eE) X G j4c j4d;obtain⟨BI,rfl⟩:=jR (ps:=eE) X G j4r j4s;obtain⟨BN,rfl⟩:=jR (ps:=eE) X G j4e j4f;obtain⟨BM,rfl⟩:=jR (ps:=eE) X G j4g j4h;obtain⟨BR,rfl⟩:=jR (ps:=eE) X G j3v j3w;obtain⟨BE,rfl⟩:=jR (ps:=eE) X G j5p j5q;obtain⟨lD,rfl⟩:=jR (ps:=eE) X G j3l j3m;exact⟨_,λs v=>.of_eq rfl,λbase _ _=>Yj ⟨dh X G D0,
  dh X G D1,
  dh X G D2,
  dh X G D3,
  dh X G D4,
  dh X G D5,
  dh X G D6,
  dh X G D7,
  dh X G D8,
  dh X G D9,
  dh X G D10,
  dh X G D11,
  dh X G D12,
  dh X G D13,
  dh X G D14,
  dh X G D15,
  dh X G D16,
  dh X G D17,
  dh X G D18,
  dh X G D19,
  dh X G D20,
  dh X G D21,
  dh X G D22,
  dh X G D23,
  dh X G D24,
  dh X G D25,
  dh X G D26,
  dh X G D27,
  dh X G D28,
  dh X G D29,
  ⟨_,_,UW,kf X G TL,b30⟩,
  C,
  B,
  kf X G aC,
  kf X G aB,
  ⟨pg,hd,po,sa⟩,
  Hv,
  Cz,
  Dr,
  Do,
  BH,
  E7,
  Cy,
  Cw,
  Cv,
  Dl,
  Dk,
  CA,
  Dt,
  Ds,
  Dq,
  Dp,
  ⟨j5c,j5d,j5y⟩,
  ⟨j6g,j6h,j6s⟩,
  ⟨j6j,j6k,j6t⟩,
  ⟨j4i,j4j,j4t⟩,
  ⟨j2w,j2x,j2z⟩,
  ⟨j3i,j3j,j3p⟩,
  ⟨j5f,j5g,j5z⟩,
  ⟨j5i,j5j,j6a⟩,
  ⟨mk,j4z,j5a,kc⟩,
  ⟨cga,crd,fc,chh,j5x⟩,
  Hu,
  BL,
  BQ,
  BG,
  BF,
  BS,
  BK,
  BP,
  BJ,
  BO,
  BI,
  BN,
  BM,
  BR,
  BE,
  lD,
  _,
  ⟨_,_,_,kf X G j6n,j6p,j6o,j6q,j6r⟩,
  ⟨_,⟨_,_,_,kf X G j5s,j5u,j5t,j5v,j5w⟩,⟨_,_,rfl,j_0,⟨_,_,rfl,j_1,⟨_,_,rfl,j_2,⟨_,_,rfl,j_3,⟨_,_,rfl,j_4,⟨_,_,rfl,j_5,⟨_,_,rfl,j_6,⟨_,_,rfl,j_7,⟨_,_,rfl,j_8,⟨_,_,rfl,j_9,⟨_,_,rfl,qd5,⟨_,_,rfl,qd4,⟨_,_,rfl,qd3,⟨_,_,rfl,qd2,rfl⟩⟩⟩⟩⟩⟩⟩⟩⟩⟩⟩⟩⟩⟩⟩,
  rfl,
  rfl,
  rfl,
  rfl,
  rfl,
  rfl,
  rfl,
  rfl,
  rfl,
  rfl,
  rfl,
  rfl,
  rfl,
  rfl,
  rfl,
  rfl,
  rfl,
  rfl,dg X G K2,dg X G E6,dg X G K_,dg X G Ht,dg X G La,dg X G Hs,dg X G KZ,dg X G E5,dg X G K7,dg X G Hw,dg X G K9,dg X G KW,dg X G KU,dg X G E9,dg X G Hr,⟨_,kf X G Lc⟩,⟨_,kf X G K'⟩⟩⟩
def walk{l:PySem.W.OpenLaw}{q:Program}{loose:List Str}{XP:(Str->Option Value)->Heap->Prop}{YP:World->Heap->Prop}{d:DefRec}{K:Params->Fg}(hm:∀ns:List Int,ns.length<=63->∃as,XM [.v<|.lst<|ns.map .int]=aA (.v<|.bl true,as))(hn:l.most=aA 63)(CF:d.params.defaults=[])(hY:∀(w:World) (h:Heap),YP w h->(K w.params).In h)(F:∀(w:World) (mg:Str->Option Value) (fa:Addr) (h:Heap),(K w.params).In h->h.Ns ax mg->mg d.name=aA (.ref fa) ->
   ∃fd:FuncData,(∀(s:Shared) (u:Value),BindsTo s fd ⟨[u],[]⟩ [("_law_script",u)])/\∀base:Heap,(K w.params).In base->base.Ns ax mg->eA l.prog w (K w.params) mg base eJ 201 fa fd ["_law_script"] (iY (K w.params) 1 XM)):yr q loose XP YP l.row.toRowW d [] (λf vs=>xt f vs):=
 L2.ϡ (n:=63) (k:=201) (x:="_law_script") (CX:=eJ) (sp:=λK=>iY K 1 XM) hn (by decide) CF ⟨rfl,by decide,by decide,rfl⟩ hY F (λK H a ns hl _ hS=>Xl hm H a ns hl hS) λ_ _ _ _ z=>z
end K45
end
/-! twins that no proof needs: where a constant of such a name stands, the head lays none -/
namespace PySem.W.Fast
def tw16952317350807837008:=0
def tw4200630207384016774:=0
def tw14510329141949376251:=0
def tw7605482471524133106:=0
def tw17109893643216624843:=0
def tw16225231166125274522:=0
noncomputable def tw5890240481303367299 : PySem.Program := PySem.Challenge.pw_fieldrows_k45_stuck_places
theorem te5890240481303367299 : PySem.Challenge.pw_fieldrows_k45_stuck_places = tw5890240481303367299 := rfl
def tw13255116678511979389:=0
def tw9652171271906906526:=0
def tw18066424384755230401:=0
def tw905345085418725056:=0
def tw14271511942965033401:=0
def tw18235997817785722253:=0
def tw1322343531029236104:=0
def tw15939247110507828142:=0
def tw3252165529293964465:=0
def tw15151236892568186702:=0
def tw13060685178069501720:=0
def tw1142653115346985459:=0
def tw17073614650030618901:=0
def tw15134704381739111448:=0
def tw4283578447290156539:=0
def tw10401056752086688684:=0
def tw377293433041122595:=0
def tw11403894861606764999:=0
def tw1190006342985461844:=0
def tw7896007609277198177:=0
def tw3849958291724832473:=0
def tw11538119644814431423:=0
def tw16668364638308949510:=0
def tw11456161352109848225:=0
def tw11393795896200866342:=0
def tw10478077717318569009:=0
def tw11707774835997212037:=0
def tw13518150916010418902:=0
def tw4608874477323574079:=0
def tw9820132559052181416:=0
def tw9468362323176767387:=0
def tw4654854333140995818:=0
def tw29054534866948600:=0
def tw7825102934847508116:=0
def tw17814399406807115834:=0
def tw3245271799704805764:=0
def tw2627431297033559687:=0
def tw8375055202302348189:=0
def tw2303048499735591806:=0
def tw10025782597821603623:=0
def tw8740703364017230841:=0
def tw10940905107616424763:=0
def tw5196500917124607044:=0
def tw11702515757578242178:=0
def tw15670297792497247975:=0
def tw15566816397130217949:=0
def tw4206624334588180099:=0
def tw2569145799693115292:=0
def tw2608687564746256822:=0
def tw10084380831263796994:=0
def tw17922363747185245767:=0
def tw14481660711106034115:=0
def tw13454936911024329965:=0
def tw13050787797786194440:=0
def tw309455070506705943:=0
def tw9394747567963491561:=0
def tw2682545868693688318:=0
def tw12159960957295982154:=0
def tw9000089682613454024:=0
def tw7494867846065999746:=0
def tw10106074271327944404:=0
def tw2231570547176408460:=0
def tw7464100973116430755:=0
def tw14737022461267058961:=0
def tw1019998920675162811:=0
def tw5466231358131426599:=0
def tw4817287650084539358:=0
def tw14846683805900441705:=0
def tw13695328851691361402:=0
def tw15732288960246748272:=0
def tw10474522314159393956:=0
def tw937997929380526390:=0
def tw13089574476044652729:=0
def tw16502701219938259044:=0
def tw8489052322387961715:=0
def tw13625015508229735020:=0
def tw13379969967255824814:=0
def tw6029890767030390803:=0
def tw7107427511407720962:=0
def tw15754521629222767058:=0
def tw16291829543989310979:=0
def tw8374774323854383200:=0
def tw14990551975806662500:=0
def tw18130907933722440537:=0
def tw12755650478184763137:=0
def tw15043595262396023650:=0
def tw15847625203252717509:=0
def tw7657052318679023568:=0
def tw16453138588914620574:=0
def tw7040670130343591514:=0
def tw16088430276733140581:=0
def tw13267900777005920320:=0
def tw16525036313704470627:=0
def tw9032653821269347793:=0
def tw4771226331236227525:=0
def tw10406282918544515387:=0
def tw6140671844083839690:=0
def tw2150234108991330104:=0
def tw11481738308985053798:=0
def tw1250082880850214247:=0
def tw7344031312663652202:=0
def tw14343781375277997947:=0
def tw10618307528968145082:=0
def tw708128004360346005:=0
def tw18149979941820526489:=0
def tw11699699257095662860:=0
def tw7745897777675263956:=0
def tw972609665239116560:=0
def tw2642397433479112978:=0
def tw965282771342006740:=0
def tw16366966201201612448:=0
def tw5820777470406433981:=0
def tw15967247200229648294:=0
def tw17852825538169622814:=0
def tw11282397492129214340:=0
def tw9082351946107834125:=0
def tw16818714341383714843:=0
def tw9790286135515003162:=0
def tw822218700709328733:=0
def tw18174271381100906170:=0
def tw2397433310087958100:=0
def tw638551290541548667:=0
def tw10597773393991913173:=0
def tw1837119518329896040:=0
def tw14639805377365504493:=0
def tw15733650884234656039:=0
def tw4358824678434044696:=0
def tw2607416205688206649:=0
def tw4907535777692954776:=0
def tw5102657368631316609:=0
def tw15083643790430099938:=0
def tw8609117888714809402:=0
def tw8317130566250196608:=0
def tw1742779728152923227:=0
def tw6343573814220615752:=0
def tw7703881843797994968:=0
def tw8670815663093335163:=0
def tw12319539269751528361:=0
def tw3384875669914732802:=0
def tw2319714004742015221:=0
def tw4703686970260789896:=0
end PySem.W.Fast
open PyProof.Rows PySem PySem.W
set_option maxRecDepth 100000 in
set_option maxHeartbeats 0 in
theorem PySem.Challenge.cw_fieldrows_k45_stuck_places_holds : PySem.Challenge.rw_fieldrows_k45_stuck_places.Holds := by
  w_on; o_law; k_head; (case hw => w_witness2)
  k_fill
  refine K45.walk (l := PySem.Challenge.rw_fieldrows_k45_stuck_places) K45.law_math rfl rfl (fun w h Y => PySem.W.kIn_of Y) ?F
  case F =>
    intro w mg fa h KX G hmg
    refine' K45.all_mk KX G hmg (K45.dfo ?q0a ?q0b ?q0c ?q0d) (K45.dfo ?q0e ?q0f ?q0g ?q0h) (K45.dfo ?q0i ?q0j ?q0k ?q0l) (K45.dfo ?q0m ?q0n ?q0o ?q0p) (K45.dfo ?q0q ?q0r ?q0s ?q0t) (K45.dfo ?q0u ?q0v ?q0w ?q0x) (K45.dfo ?q0y ?q0z ?q1a ?q1b) (K45.dfo ?q1c ?q1d ?q1e ?q1f) (K45.dfo ?q1g ?q1h ?q1i ?q1j) (K45.dfo ?q1k ?q1l ?q1m ?q1n) (K45.dfo ?q1o ?q1p ?q1q ?q1r) (K45.dfo ?q1s ?q1t ?q1u ?q1v) (K45.dfo ?q1w ?q1x ?q1y ?q1z) (K45.dfo ?q2a ?q2b ?q2c ?q2d) (K45.dfo ?q2e ?q2f ?q2g ?q2h) (K45.dfo ?q2i ?q2j ?q2k ?q2l) (K45.dfo ?q2m ?q2n ?q2o ?q2p) (K45.dfo ?q2q ?q2r ?q2s ?q2t) (K45.dfo ?q2u ?q2v ?q2w ?q2x) (K45.dfo ?q2y ?q2z ?q3a ?q3b) (K45.dfo ?q3c ?q3d ?q3e ?q3f) (K45.dfo ?q3g ?q3h ?q3i ?q3j) (K45.dfo ?q3k ?q3l ?q3m ?q3n) (K45.dfo ?q3o ?q3p ?q3q ?q3r) (K45.dfo ?q3s ?q3t ?q3u ?q3v) (K45.dfo ?q3w ?q3x ?q3y ?q3z) (K45.dfo ?q4a ?q4b ?q4c ?q4d) (K45.dfo ?q4e ?q4f ?q4g ?q4h) (K45.dfo ?q4i ?q4j ?q4k ?q4l) (K45.dfo ?q4m ?q4n ?q4o ?q4p) (K45.dfo ?q4q ?q4r ?q4s ?q4t) ?q4u ?q4v ?q4w ?q4x ?q4y ?q4z ?q5a ?q5b ?q5c ?q5d ?q5e ?q5f ?q5g ?q5h ?q5i ?q5j ?q5k ?q5l (K45.fnk ?q5m ?q5n ?q5o) ?q5p ?q5q (K45.fnk ?q5r ?q5s ?q5t) ?q5u ?q5v (K45.fnk ?q5w ?q5x ?q5y) ?q5z ?q6a (K45.fnk ?q6b ?q6c ?q6d) ?q6e ?q6f (K45.fnk ?q6g ?q6h ?q6i) ?q6j ?q6k (K45.fnk ?q6l ?q6m ?q6n) ?q6o ?q6p (K45.fnk ?q6q ?q6r ?q6s) ?q6t ?q6u (K45.fnk ?q6v ?q6w ?q6x) ?q6y ?q6z (K45.fnk ?q7a ?q7b ?q7c) ?q7d ?q7e (K45.fnk ?q7f ?q7g ?q7h) ?q7i (K45.fnk ?q7j ?q7k ?q7l) ?q7m (K45.fnk ?q7n ?q7o ?q7p) ?q7q (K45.fnk ?q7r ?q7s ?q7t) ?q7u (K45.fnk ?q7v ?q7w ?q7x) ?q7y (K45.fnk ?q7z ?q8a ?q8b) ?q8c (K45.fnk ?q8d ?q8e ?q8f) ?q8g (K45.fnk ?q8h ?q8i ?q8j) ?q8k (K45.fnk ?q8l ?q8m ?q8n) ?q8o (K45.fnk ?q8p ?q8q ?q8r) ?q8s (K45.fnk ?q8t ?q8u ?q8v) ?q8w (K45.fnk ?q8x ?q8y ?q8z) ?q9a (K45.fnk ?q9b ?q9c ?q9d) ?q9e (K45.fnk ?q9f ?q9g ?q9h) ?q9i (K45.fnk ?q9j ?q9k ?q9l) ?q9m (K45.fnk ?q9n ?q9o ?q9p) ?q9q (K45.fnk ?q9r ?q9s ?q9t) ?q9u ?q9v ?q9w ?q9x ?q9y ?q9z ?x0a ?x0b ?x0c ?x0d (K45.itup_mk ?x0e ?x0f ?x0g) (K45.itup_mk ?x0h ?x0i ?x0j) (K45.itup_mk ?x0k ?x0l ?x0m) (K45.itup_mk ?x0n ?x0o ?x0p) (K45.itup_mk ?x0q ?x0r ?x0s) (K45.itup_mk ?x0t ?x0u ?x0v) (K45.itup_mk ?x0w ?x0x ?x0y) (K45.itup_mk ?x0z ?x1a ?x1b) (K45.itup_mk ?x1c ?x1d ?x1e) (K45.itup_mk ?x1f ?x1g ?x1h) (K45.itup_mk ?x1i ?x1j ?x1k) (K45.itup_mk ?x1l ?x1m ?x1n) (K45.itup_mk ?x1o ?x1p ?x1q) (K45.itup_mk ?x1r ?x1s ?x1t) ?x1u ?x1v ?x1w ?x1x ?x1y ?x1z ?x2a ?x2b ?x2c ?x2d ?x2e ?x2f ?x2g ?x2h ?x2i ?x2j ?x2k
    (case q0a|q0b|q0c|q0d|q0e|q0f|q0g|q0h|q0i|q0j|q0k|q0l|q0m|q0n|q0o|q0p|q0q|q0r|q0s|q0t|q0u|q0v|q0w|q0x|q0y|q0z|q1a|q1b|q1c|q1d|q1e|q1f|q1g|q1h|q1i|q1j|q1k|q1l|q1m|q1n|q1o|q1p|q1q|q1r|q1s|q1t|q1u|q1v|q1w|q1x|q1y|q1z|q2a|q2b|q2c|q2d|q2e|q2f|q2g|q2h|q2i|q2j|q2k|q2l|q2m|q2n|q2o|q2p|q2q|q2r|q2s|q2t|q2u|q2v|q2w|q2x|q2y|q2z|q3a|q3b|q3c|q3d|q3e|q3f|q3g|q3h|q3i|q3j|q3k|q3l|q3m|q3n|q3o|q3p|q3q|q3r|q3s|q3t|q3u|q3v|q3w|q3x|q3y|q3z|q4a|q4b|q4c|q4d|q4e|q4f|q4g|q4h|q4i|q4j|q4k|q4l|q4m|q4n|q4o|q4p|q4q|q4r|q4s|q4t|q4u|q4v|q4w|q4x|q4y|q4z|q5a|q5b|q5c|q5d|q5e|q5f|q5g|q5h|q5i|q5j|q5k|q5m|q5n|q5o|q5p|q5q|q5r|q5s|q5t|q5u|q5v|q5w|q5x|q5y|q5z|q6a|q6b|q6c|q6d|q6e|q6f|q6g|q6h|q6i|q6j|q6k|q6l|q6m|q6n|q6o|q6p|q6q|q6r|q6s|q6t|q6u|q6v|q6w|q6x|q6y|q6z|q7a|q7b|q7c|q7d|q7e|q7f|q7g|q7h|q7i|q7j|q7k|q7l|q7m|q7n|q7o|q7p|q7q|q7r|q7s|q7t|q7u|q7v|q7w|q7x|q7y|q7z|q8a|q8b|q8c|q8d|q8e|q8f|q8g|q8h|q8i|q8j|q8k|q8l|q8m|q8n|q8o|q8p|q8q|q8r|q8s|q8t|q8u|q8v|q8w|q8x|q8y|q8z|q9a|q9b|q9c|q9d|q9e|q9f|q9g|q9h|q9i|q9j|q9k|q9l|q9m|q9n|q9o|q9p|q9q|q9r|q9s|q9t|q9u|q9v|q9z|x0a|x1u|x1v|x1w|x1x|x1y|x1z|x2a|x2b|x2c|x2d|x2e|x2f|x2g|x2h|x2i|x2j|x2k => k_is)
    (case q9w|x0b => decide)
    (case q9y|x0d => repeat (first | exact rfl | refine ⟨_, _, rfl, ⟨_, rfl, rfl⟩, ?_⟩))
    (case q9x|x0c => repeat (first | exact trivial | refine ⟨⟨_, _, rfl, rfl⟩, ?_⟩))
    (case q5l => rfl)
    (case x0e|x0h|x0k|x0n|x0q|x0t|x0w|x0z|x1c|x1f|x1i|x1l|x1o|x1r => k_is)
    (case x0f|x0i|x0l|x0o|x0r|x0u|x0x|x1a|x1d|x1g|x1j|x1m|x1p|x1s => decide)
    (case x0g|x0j|x0m|x0p|x0s|x0v|x0y|x1b|x1e|x1h|x1k|x1n|x1q|x1t => repeat (first | exact .nil | refine .cons ⟨_, rfl⟩ ?_))
