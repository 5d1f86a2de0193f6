import PyProof.Rows.All
import Wide.All
import OpenK.AllK
import Wide.FinOn
import PySem.Challenge.RW_fieldrows_k06_refused_in_order
import Lean
set_option Elab.async false
set_option linter.all false
set_option maxRecDepth 100000
set_option maxHeartbeats 4100000
set_option bootstrap.genMatcherCode false
set_option compiler.extract_closed false
open Option renaming some->aA,none->aB
noncomputable section
open Option renaming bind_some->aa,map_some->iw,isSome_iff_exists->js,map_eq_none_iff->jy,bind_eq_some_iff->lu
open List renaming length_cons->ac,length_append->ae,length_map->af,size_toArray->ai,length_nil->am,getElem?_eq_some_iff->ar,getElem?_append_left->au,mem_cons->av,map_append->aw,getElem?_map->az,mem_cons_self->be,map_cons->bg,mem_append->bi,getElem?_append_right->bn,replicate->bq,mem_singleton->cb,mem_cons_of_mem->cj,length_take->ck,mem_append_right->cr,length_drop->cw,length->cx,range->db,getElem?_replicate->de,reverse_cons->df,append_nil->dk,length_reverse->du,lookup_cons->dz,all_eq_true->eg,getElem?_eq_getElem->ft,mem_of_mem_take->fv,append_assoc->gk,length_pos_iff->gp,length_singleton->gx,mem_of_mem_drop->gz,map_map->ia,all_cons->ie,length_eq_zero_iff->ii,getElem_mem->ij,getElem?_cons_succ->ik,map_nil->ip,nil_append->iz,sum_cons->jc,mem_map->jp,map_congr_left->jr,range'->jx,mem_range->jz,length_eq_one_iff->ka,getElem?_set_self->kd,drop_of_length_le->ke,length_filter_le->kg,not_mem_nil->ki,cons_append->kj,mem_of_getElem?->kl,filterMap_cons->ko,map_take->lj,getElem?_take_of_lt->lm,any_cons->lq,sum_nil->mi,drop_eq_nil_of_le->mj,nodup_cons->mr,take_append_drop->my,getElem?_eq_none->mz,mem_append_left->ni,getElem?_set_ne->nj,map_drop->nt,mem_filterMap->nv,length_range->pb,all_map->pc,filter_cons->pj,map_id->pq,of_mem_zip->qb,mem_filter->qc,dropLast_concat_getLast->qd,getD_eq_getElem?_getD->ql,drop_zero->qm,mem_of_find?_eq_some->qq,drop_eq_getElem_cons->qr,take_of_length_le->td,filter_eq_nil_iff->tm,take_eq_take_iff->uh,length_replicate->ui,getElem?_reverse->uj,dropLast_eq_take->uk,lookup->ur,forall_mem_cons->ut,reverse_append->uz,getElem?_range->va,forall_mem_nil->vb
open PySem renaming sizeLine->ag,wpAny_bind->aj,Spec->ak,starEach->aq,wpAny_pure->bb,mainGlobals->bh,compareOp->bz,mem_of_lookup->fg,foldedSetIterable->fk,attributeBase->fq,wpAny_mono->fu,wpAny_newObj_type->gf,wpAny_truthy_bool->gh,swapsWith->gi,assignEach->gm,behindInMarks->gu,call_meets->io,wpAny_passesOwn->ir,wpAny_holding->ja,wpAny_execs_cons->ji,wpAny_execs_nil->jt,wpAny_Call_Name_kw->ju,typeIs_str->jv,wpAny_field->lg,Builtin->lh,sysModules->ly,wpAny_pyIter_list->oj,wpAny_loadPart_at->om,slot_list_getitem->on,codeAny_mono->oq,backTo->ph,wpAny_updateSeq->pr,wpAny_specialOf->pw,wpAny_Expr_any->qe,call->qg,wpAny_standAt->qu,wpAny_getItem_list_slice->qv,wpAny_comprehension_free->qw,evalPart_none->qx,wpAny_callSpecial?_slot->ri,wpAny_typeOf->ro,wpAny_pyNext_list_item->rp,concat_meets->sd,wpAny_pyNext_list_end->uc,builtinLookup_eq_fast->ud,wpAny_pyIter_revIter->um,codeAny_call_builtin->uo
open Bool renaming false_ne_true->ah,and_eq_true->bo,eq_iff_iff->gn,false_eq_true->iq,eq_false_iff->jf,false_and->ky,and_assoc->kz,true_and->lr,not_eq_true'->pe,false_or->rb,and_true->rc
open Nat renaming le_refl->ao,lt_of_lt_of_le->ba,le_trans->bf,lt_of_le_of_lt->bj,ne_of_lt->bv,zero_le->cz,max_assoc->gv,lt_irrefl->gw,le_of_not_lt->kh,add_assoc->nk,le_of_eq->oy,le_max_right->pi,le_max_left->qa,zero_max->su,lt_trans->sx,le_of_lt->sy,sub_min_sub_right->ug,le_succ->uq,mul_le_mul_left->uy
open PySem.Heap renaming lt_size->ax,get?_push_of_some->ay,get?_push_size->cn,SameBut->kf,get?_update_other->tu,FlyingW->tv
open Option.some renaming inj->bp,injEq->cq
open PySem.W renaming nsIn->bu,mg_none_of->cy,kia_one->di,keepIn->dj,mg_of->dq,fnOf->jk,KeysLit->km,codeIn->kv,kitOne->nh,methodObj->ov,kitx_list->ox,instObj->px,lookIn->qh,WalkO->qy,looks_findIn->rq,cellsFrom_some->sj
open PySem.PassesOwn renaming never->ci,leaving->jd
open PySem.NumText renaming digitsVal->cu
open PySem.SeqAt renaming EqAt->da,eq_list_lengthsAt->rj,RcNeAt->si
open PySem.Builtin.Slice renaming slicePlaces->dg,sliceAdjust->gg,sliceApplied->jh,sliceFields->qt
open Int renaming emod_lt_of_pos->dh,emod_nonneg->dm,eq_ofNat_of_zero_le->im,le_trans->tq
open PySem.Builtin.Tuple renaming tupleExact->dt,tupleItemsOf->qp
open PySem.F renaming plainAttrs_list->dv,type_list_append->ib,slot_list_append->ic,entry_str_split->je,slot_str_split->jq,plainAttrs_str->mh,args_str_split_3->ny,args_str_split_2->og,args_tuple_add_2->qz,entry_tuple_add->rk,type_str_split->sk,slot_tuple_add->so,slot_str_split->sr,typeOf_object_class->ul,args_list_extend_2->uv,entry_list_extend->vc
open PyProof.Rows renaming slot_tuple_getitem->dw,callWith_type1->gb,subscriptTail_builtinR->ma,slicePart_none->ng,boot_isinstance->pz,boot_reversed->qk,boot_max->ue,boot_int->uf,entry_tuple_getitem->ux
open Prod renaming fst->eh
open False renaming elim->fj
open Ne renaming symm->gc
open Array renaming length_toList->gr,getElem?_eq_getElem->la
open PySem.Txt renaming splitMax->gy,split->jw
open PySem.Builtin.List renaming listTooLong->ig,listExtendWith->ku,listSameRef->ra,listItems->ua
open PySem.Value renaming isStrOf->jb
open PySem.Builtin.Str renaming strSliceIndices->kr,strSliceIndices->oh
open PySem.Obj renaming mapSeq->kx
open PySem.Str renaming length->me,ofString->ot,join->ou
open Iff renaming rfl->mq
open List.cons renaming injEq->mv
open PySem.StrLaws renaming join_split->nu
open PySem.SeqAt.RcNeAt renaming lists_lengths->qf
open PySem.Calls renaming Name_function_global->qo,callWith_builtin->tz,evalArgs_plain->uw
open PySem.AutoSeq1 renaming sub_tuple_tuple->re,sub_tuple_list->rm,sub_list_tuple->rn,sub_list_list->ub
open PyProof.Rows.IsTup renaming new->rl
open UInt32 renaming le_iff_toNat_le->sf
open Nat.succ renaming inj->sv
noncomputable abbrev Fg:=PySem.W.Frag
namespace L2
open PySem PySem.Spec PyProof.Rows
noncomputable abbrev Key:=Sum Int Str
def KG:Key->Value->Bool
 |.inl k,v=>Value.isInt k v
 |.inr x,v=>jb x v
def Pa(w:World):Key->Int
 |.inl k=>hashInt k
 |.inr x=>hashStr w x
def j0:∀{k:Key} {v:Value},KG k v=true->(∃i t,k=Sum.inl i/\v=Value.int i t)\/(∃x t,k=Sum.inr x/\v=Value.str x t)
 |.inl i,v,h=>by
  obtain⟨t,e⟩:=Value.isInt_shape (k:=i) (v:=v) h;exact .inl ⟨i,t,rfl,e⟩
 |.inr x,v,h=>by
  obtain⟨t,e⟩:=Value.isStrOf_shape (x:=x) (v:=v) h;exact .inr ⟨x,t,rfl,e⟩
def Qx(a b:Int):decide ((Sum.inl a:Key)=Sum.inl b)=(a == b):=by
 by_cases e:a=b
 .subst e;simp
 .have h:¬(Sum.inl a:Key)=Sum.inl b:=λq=>e<|Sum.inl.inj q
  rw[decide_eq_false h];exact(beq_eq_false_iff_ne.mpr e).symm
def Q_(a b:Str):decide ((Sum.inr a:Key)=Sum.inr b)=decide (a=b):=by
 by_cases e:a=b
 .subst e;simp
 .have h:¬(Sum.inr a:Key)=Sum.inr b:=λq=>e<|Sum.inr.inj q
  rw[decide_eq_false h,decide_eq_false e]
def Qy(a:Int)(b:Str):decide ((Sum.inl a:Key)=Sum.inr b)=false:=decide_eq_false λq=>nomatch q
def Qz(a:Str)(b:Int):decide ((Sum.inr a:Key)=Sum.inl b)=false:=decide_eq_false λq=>nomatch q
def Hg(prog:Program)(w:World):PySem.KeyKind prog w Key where
 is:=KG
 hash:=Pa w
 inj:=λv a b ha hb=>by
  rcases j0 ha with⟨i,t,rfl,rfl⟩|⟨x,t,rfl,rfl⟩
  .rcases j0 hb with⟨j,u,rfl,e⟩|⟨y,u,rfl,e⟩
   .injection e with e1 _;rw[e1]
   .exact nomatch e
  .rcases j0 hb with⟨j,u,rfl,e⟩|⟨y,u,rfl,e⟩
   .exact nomatch e
   .injection e with e1 _;rw[e1]
 byValue:=λk v h=>by
  rcases j0 h with⟨i,t,rfl,rfl⟩|⟨x,t,rfl,rfl⟩<;>rfl
 pyHash:=λhv h=>by
  rcases j0 hv with⟨i,t,rfl,rfl⟩|⟨x,t,rfl,rfl⟩
  .exact wpAny_pyHash_int h
  .exact wpAny_pyHash_str h
 eqBool:=λhu hv h=>by
  rcases j0 hu with⟨i,t,rfl,rfl⟩|⟨x,t,rfl,rfl⟩
  .rcases j0 hv with⟨j,u,rfl,rfl⟩|⟨y,u,rfl,rfl⟩
   .rw[Qx] at h;exact wpAny_eqBool_int h
   .rw[Qy] at h;exact da.int_str i t y u _ _ _ _ h
  .rcases j0 hv with⟨j,u,rfl,rfl⟩|⟨y,u,rfl,rfl⟩
   .rw[Qz] at h;exact da.str_int x t j u _ _ _ _ h
   .rw[Q_] at h;exact wpAny_eqBool_str h
 «strs»:=λk x t v h=>by
  rcases j0 h with⟨i,u,rfl,e⟩|⟨y,u,rfl,e⟩
  .exact nomatch e
  .injection e with e1 _
   subst e1;cases v<;>rfl
inductive V where
 |aG|bl (b:Bool)|int (i:Int)|str (x:Str)|sV (b:Array UInt8)|B4 (b:UInt64)|ref (a:Addr)|ty (n:String)
 deriving DecidableEq
def RelV:V->Value->Prop
 |.aG,u=>u=Value.none
 |.bl b,u=>u=Value.bool b
 |.int i,u=>∃t,u=Value.int i t
 |.str x,u=>∃t,u=Value.str x t
 |.sV b,u=>∃t,u=Value.bytes b t
 |.B4 b,u=>∃t,u=Value.float b t
 |.ref a,u=>u=Value.ref a
 |.ty n,u=>u=Value.type n
abbrev Vals:List V->List Value->Prop:=Paired RelV
def Vals.length(r:Vals xs us):xs.length=us.length:=Paired.length r
def Vals.get:∀{xs:List V} {us:List Value} {i:Nat} {x:V},Vals xs us->xs[i]?=aA x->∃u,us[i]?=aA u/\RelV x u
 |_,_,_,_,.nil,e=>by simp at e
 |_,_,0,_,.cons r _,e=>by simp at e;subst e;exact⟨_,rfl,r⟩
 |_,_,i+1,x,.cons _ t,e=>by
  obtain⟨u,h1,h2⟩:=Vals.get (i:=i) (x:=x) t (by simpa using e);exact⟨u,by simpa using h1,h2⟩
def Vals.append:∀{xs ys:List V} {us ws:List Value},Vals xs us->Vals ys ws->Vals (xs++ys) (us++ws)
 |_,_,_,_,.nil,s=>s
 |_,_,_,_,.cons r t,s=>.cons r<|Vals.append t s
def Vals.take:∀{xs:List V} {us:List Value} (n:Nat),Vals xs us->Vals (xs.take n) (us.take n)
 |_,_,0,_=>.nil
 |_,_,_+1,.nil=>.nil
 |_,_,n+1,.cons r t=>.cons r<|Vals.take n t
def Vals.drop:∀{xs:List V} {us:List Value} (n:Nat),Vals xs us->Vals (xs.drop n) (us.drop n)
 |_,_,0,r=>r
 |_,_,_+1,.nil=>.nil
 |_,_,n+1,.cons _ t=>Vals.drop n t
def FJ:Option V->Option Value->Prop
 |some v,aA u=>RelV v u
 |none,aB=>True
 |_,_=>False
def KV:List (κ×V)->List (κ×Value)->Prop:=Paired λ(p:κ×V) (q:κ×Value)=>p.1=q.1/\RelV p.2 q.2
def kV:Key->V
 |.inl i=>.int i
 |.inr x=>.str x
inductive HO where
 |lst (xs:List V)
 |tup (xs:List V)
 |dK (aM:List (Key×V))|dT (aM:List (List Key×V))
 |set (S:Int->Bool) (n:Nat)
 |ins (C dx:Addr) (fs:List (Str×V))
 |own (x:Addr)
 |xd (fs:List (Str×V))
 |met (f x:Addr)
 |EI (lo hi:Int)
 |iO (o:Obj) (u:HO)
 |tbl (ps:Array Value)
 |ext (φ:Heap->Prop)
noncomputable abbrev Hp:=Addr->Option HO
def upd(H:Hp)(a:Addr)(o:HO):Hp:=λb=>if b=a then aA o else H b
def wL:upd H a o a=aA o:=by unfold upd;rw[if_pos rfl]
def qM(h:b≠a):upd H a o b=H b:=by unfold upd;rw[if_neg h]
def kY{H:Hp}{a b:Addr}{o:HO}(h:H a=aA o)(h':H b=aB):a≠b:=by
 intro e;subst e;rw[h] at h';cases h'
noncomputable def V_(ps:Array Value):Str:=match (ps[0]?:Option Value) with
 |some (.str q _)=>q
 |_=>""
def Pu(q:Str)(o:Obj):Prop:=∃vs t,o.data=.fields vs/\vs[1]?=aA (.str q t)
def PC(H:Hp)(h:Heap)(a:Addr)(q:Str):Prop:=∃ts:Array Value,h.get? a=aA (PySem.W.tabObj ts)/\TriplesOk ts.toList/\∀pos cv,codeAmong pos ts.toList=aA cv->∃c oc u,cv=.ref c/\H c=aA (.iO oc u)/\Pu q oc
section
variable(P:Program)(w:World)
def iB(H:Hp)(h:Heap)(a:Addr):HO->Prop
 |.lst xs=>xs.length<=ag/\∃(its:List Value) (n:Nat),Vals xs its/\h.get? a=aA { cls:=.type "list",data:=.seq its.toArray n }
 |.tup xs=>xs.length<=ag/\∃its:List Value,Vals xs its/\IsTup h a its.toArray
 |.dK aM=>aM.length<=ag/\(a == ly)=false/\∃vs,KV aM vs/\h.DictOf (Hg P w) a vs
 |.dT aM=>aM.length<=ag/\(a == ly)=false/\∃xs:List (List Key×Addr×Value),
   Paired (λ(p:List Key×V) (q:List Key×Addr×Value)=>p.1=q.1/\H q.2.1=aA (.tup<|p.1.map kV)/\RelV p.2 q.2.2) aM xs /\
   ∃o es ep,h.get? a=aA o/\o.ExactDict/\o.data=.dict es ep/\es.toList=xs.map (entryOfKey<|tupleKind<|Hg P w)/\(xs.map (·.1)).Nodup
 |.set S n=>h.SetOf (intKind P w) a S n
 |.ins C dx fs=>H dx=aA (.own a)/\fs.length<=1000/\dx≠a/\h.get? a=aA (px C dx) /\
   ∃mA,h.Ns1 dx mA/\(∀f,FJ (fs.lookup f)<|mA f)/\PySem.Within mA (fs.map (·.1))
 |.own _=>∃o,h.get? a=aA o
 |.xd fs=>∃mA,h.Ns1 a mA/\∀f,FJ (fs.lookup f) (mA f)
 |.EI lo hi=>∃t u v,h.get? a=aA { cls:=.type "range",data:=.fields #[.int lo t,.int hi u,.int 1 v] }
 |.iO o u=>h.get? a=aA o/\iB H h a u
 |.tbl ps=>PC H h a<|V_ ps
 |.met f x=>h.get? a=aA (ov (.ref f)<|.ref x)
 |.ext φ=>φ h/\(∃o,h.get? a=aA o)/\∀h1 h2:Heap,φ h1->(∀o,h1.get? a=aA o->h2.get? a=aA o)->φ h2
def fG(H:Hp)(h:Heap):Prop:=∀a o,H a=aA o->iB P w H h a o
end
def iB.lt(x:iB P w H h a o):a<h.objs.size:=by
 cases o with
 |lst xs=>obtain⟨_,_,_,_,e⟩:=x;exact ax e
 |tup xs=>obtain⟨_,_,_,p⟩:=x;exact p.lt
 |dK aM=>obtain⟨_,_,_,_,o,_,_,e,_⟩:=x;exact ax e
 |dT aM=>obtain⟨_,_,_,_,o,_,_,e,_⟩:=x;exact ax e
 |set S n=>obtain⟨o,_,_,_,e,_⟩:=x;exact ax e
 |ins C dx fs=>obtain⟨_,_,_,e,_⟩:=x;exact ax e
 |own y=>obtain⟨_,e⟩:=x;exact ax e
 |xd fs=>obtain⟨_,⟨_,_,_,e,_⟩,_⟩:=x;exact ax e
 |EI lo hi=>obtain⟨_,_,_,e⟩:=x;exact ax e
 |iO ob u=>obtain⟨e,_⟩:=x;exact ax e
 |tbl ps=>obtain⟨_,e,_⟩:=x;exact ax e
 |met f y=>exact ax (show h.get? a=aA _ from x)
 |ext φ=>obtain⟨_,⟨_,e⟩,_⟩:=x;exact ax e
theorem pY:∀{l₁:List α} {l₂:List β},Paired F l₁ l₂->(∀a b,F a b->G a b)->Paired G l₁ l₂
 |_,_,.nil,_=>.nil
 |_,_,.cons r t,f=>.cons (f _ _ r)<|pY t f
def iB.xt(x:iB P w H h a o)(k:∀b u,(b=a\/H b=aA (.own a))->h.get? b=aA u->h'.get? b=aA u)(ho:∀b,H b=aA (.own a)->H' b=aA (.own a))(ht:∀b xs,H b=aA (.tup xs)->H' b=aA (.tup xs))(hf:∀b o u,H b=aA (.iO o u)->H' b=aA (.iO o u)):iB P w H' h' a o:=by
 induction o with
 |lst xs=>obtain⟨z,its,n,r,e⟩:=x;exact⟨z,its,n,r,k _ _ (.inl rfl) e⟩
 |tup xs=>obtain⟨z,its,r,ob,e,c⟩:=x;exact⟨z,its,r,ob,k _ _ (.inl rfl) e,c⟩
 |dK aM=>obtain⟨z,y,vs,r,ob,es,ep,e,c⟩:=x;exact⟨z,y,vs,r,ob,es,ep,k _ _ (.inl rfl) e,c⟩
 |dT aM=>
  obtain⟨z,y,xs,r,ob,es,ep,e,c⟩:=x;exact⟨z,y,xs,pY r λp q z=>⟨z.1,ht _ _ z.2.1,z.2.2⟩,ob,es,ep,k _ _ (.inl rfl) e,c⟩
 |set S n=>obtain⟨ob,es,ep,t,e,c⟩:=x;exact⟨ob,es,ep,t,k _ _ (.inl rfl) e,c⟩
 |ins C dx fs=>
  obtain⟨d,z,ne,e,mA,⟨od,es,ep,e2,c⟩,r⟩:=x;exact⟨ho _ d,z,ne,k _ _ (.inl rfl) e,mA,⟨od,es,ep,k _ _ (.inr d) e2,c⟩,r⟩
 |own y=>obtain⟨ob,e⟩:=x;exact⟨ob,k _ _ (.inl rfl) e⟩
 |xd fs=>obtain⟨mA,⟨od,es,ep,e,c⟩,r⟩:=x;exact⟨mA,⟨od,es,ep,k _ _ (.inl rfl) e,c⟩,r⟩
 |EI lo hi=>obtain⟨t,u,v,e⟩:=x;exact⟨t,u,v,k _ _ (.inl rfl) e⟩
 |iO ob u ih=>obtain⟨e,q⟩:=x;exact⟨k _ _ (.inl rfl) e,ih q⟩
 |tbl ps=>obtain⟨ts,e,z,r⟩:=x;exact⟨ts,k _ _ (.inl rfl) e,z,λp v q=>let ⟨c,oc,u,e1,e2,e3⟩:=r p v q;⟨c,oc,u,e1,hf _ _ _ e2,e3⟩⟩
 |met f y=>
  have e:h.get? a=aA (ov (.ref f)<|.ref y):=x;show h'.get? a=aA (ov (.ref f)<|.ref y);exact k a _ (.inl rfl) e
 |ext φ=>obtain⟨p,⟨o,e⟩,st⟩:=x;exact⟨st _ _ p λo q=>k _ _ (.inl rfl) q,⟨o,k _ _ (.inl rfl) e⟩,st⟩
def fG.lt(x:fG P w H h)(e:H a=aA o):a<h.objs.size:=(x a o e).lt
def fG.fresh(x:fG P w H h)(e:h.objs.size<=a):H a=aB:=by
 cases q:H a with
 |none=>rfl
 |some u=>exact absurd (ba (x.lt q) e)<|gw _
def fG.kept(x:fG P w H h)(k:∀b u,h.get? b=aA u->h'.get? b=aA u):fG P w H h':=λa o e=>
 (x a o e).xt (λb u _ q=>k b u q) (λ_ q=>q) (λ_ _ q=>q) λ_ _ _ q=>q
def fG.laid(x:fG P w H h)(k:∀b u,h.get? b=aA u->h'.get? b=aA u)(hp:h.objs.size<=a)(new:iB P w (upd H a o) h' a o):fG P w (upd H a o) h':=λb u e=>by
 have hn:=x.fresh hp;by_cases hb:b=a
 .subst hb;rw[wL] at e;cases e;exact new
 .rw[qM hb] at e;exact(x b u e).xt (λc v _ q=>k c v q) (λc q=>by rw[qM<|kY q hn];exact q) (λc xs q=>by rw[qM<|kY q hn];exact q) λc o u q=>by rw[qM<|kY q hn];exact q
def Rd(H:Hp)(a:Addr)(u:HO):Prop:=H a=aA u\/∃o,H a=aA (.iO o u)
def Rd.ok(r:Rd H a u)(x:fG P w H h):iB P w H h a u:=by
 rcases r with r|⟨o,r⟩
 .exact x a u r
 .obtain⟨_,q⟩:=x a _ r;exact q
def Fx:Option HO->Prop
 |some (.lst _)=>True
 |some (.dK _)=>True
 |some (.dT _)=>True
 |some (.set _ _)=>True
 |some (.ins _ _ _)=>True
 |some (.ext _)=>True
 |_=>False
def fG.write(ok:fG P w H h)(mu:Fx (H x))(he:e=x\/H e=aA (.own x))(k:∀b u,b≠e->h.get? b=aA u->h'.get? b=aA u)(B2:∃u,h'.get? e=aA u)(new:iB P w (upd H x o') h' x o'):fG P w (upd H x o') h':=λb u q=>by
 have NO:∀c y,H c=aA (.own y)->c≠x:=λc y r z=>by subst z;rw[r] at mu;exact mu
 have Wl:∀c xs,H c=aA (.tup xs)->c≠x:=λc xs r z=>by subst z;rw[r] at mu;exact mu
 by_cases hb:b=x
 .subst hb;rw[wL] at q;cases q;exact new
 .rw[qM hb] at q;by_cases Bk:b=e
  .have q':H b=aA (.own x):=by
    rcases he with z|z
    .exact absurd (Bk.trans z) hb
    .rw[Bk];exact z
   rw[q] at q';cases q';obtain⟨v,hv⟩:=B2;exact⟨v,by rw[Bk];exact hv⟩
  .refine(ok b u q).xt (λc v hc r=>k c v ?_ r) (λc r=>by rw[qM<|NO c b r];exact r) (λc xs r=>by rw[qM<|Wl c xs r];exact r) λc o u r=>by rw[qM (λz=>by subst z;rw[r] at mu;exact mu)];exact r
   rcases hc with rfl|hc
   .exact Bk
   .rintro rfl;rcases he with z|z
    .exact NO c b hc z
    .rw[hc] at z;cases z;exact hb rfl
structure Un(fs ex:List Addr)(H H':Hp)(h h':Heap):Prop where
 keep:∀b o,h.get? b=aA o->H b=aB->b∉fs->b∉ex->h'.get? b=aA o
 slot:∀b o,h.get? b=aA o->H b=aB->b∈fs->b∉ex->∃sl,h'.get? b=aA { o with slots:=sl }
 free:∀b o,h.get? b=aA o->H b=aB->b∉ex->H' b=aB
 there:∀b o,h.get? b=aA o->b∉ex->∃o',h'.get? b=aA o'
 v_:∀b xs,H b=aA (.tup xs)->H' b=aA (.tup xs)
 vm:∀b o u,H b=aA (.iO o u)->H' b=aA (.iO o u)
 wa:∀b ps,H b=aA (.tbl ps)->∃more,H' b=aA (.tbl<|ps++more)
def Un.any(u:Un fs ex H H1 h h1)(q:h.get? b=aA ob)(n:H b=aB)(hx:b∉ex):∃sl,h1.get? b=aA { ob with slots:=sl }:=by
 by_cases hb:b∈fs
 .exact u.slot b ob q n hb hx
 .exact⟨ob.slots,u.keep b ob q n hb hx⟩
def Un.kept(k:∀b u,h.get? b=aA u->h'.get? b=aA u):Un fs ex H H h h':=
 ⟨λb ob q _ _ _=>k b ob q,λb ob q _ _ _=>⟨ob.slots,k b ob q⟩,λ_ _ _ n _=>n,λb ob q _=>⟨ob,k b ob q⟩,λ_ _ q=>q,λ_ _ _ q=>q,λ_ ps q=>⟨#[],by rw[q];simp⟩⟩
def Un.refl:Un fs ex H H h h:=Un.kept λ_ _ q=>q
def Un.laid(k:∀b u,h.get? b=aA u->h'.get? b=aA u)(hp:h.objs.size<=a)(hn:H a=aB):Un fs ex H (upd H a o) h h' where
 keep:=λb u q _ _ _=>k b u q
 slot:=λb u q _ _ _=>⟨u.slots,k b u q⟩
 free:=λb u q n _=>by rw[qM<|bv<|ba (ax q) hp];exact n
 there:=λb u q _=>⟨u,k b u q⟩
 v_:=λb xs q=>by rw[qM<|kY q hn];exact q
 vm:=λb u xs q=>by rw[qM<|kY q hn];exact q
 wa:=λb ps q=>⟨#[],by rw[qM<|kY q hn,q];simp⟩
def Un.write(mu:Fx (H x))(he:e=x\/H e=aA (.own x))(k:∀b u,b≠e->h.get? b=aA u->h'.get? b=aA u)(B2:∃u,h'.get? e=aA u):Un fs ex H (upd H x o) h h':=by
 have hx:∀b,H b=aB->b≠x:=λb n z=>by subst z;rw[n] at mu;exact mu
 have hb:∀b,H b=aB->b≠e:=λb n z=>by
  subst z;rcases he with r|r
  .exact hx b n r
  .rw[n] at r;cases r
 have hm:∀b u,H b=aA u->¬Fx (aA u)->b≠x:=λb u q nm z=>by subst z;rw[q] at mu;exact nm mu
 refine⟨λb u q n _ _=>k b u (hb b n) q,λb u q n _ _=>⟨u.slots,k b u (hb b n) q⟩,λb u q n _=>by rw[qM<|hx b n];exact n,λb u q _=>?_,
  λb xs q=>by rw[qM<|hm b _ q λz=>z];exact q,λb u xs q=>by rw[qM<|hm b _ q λz=>z];exact q,λb ps q=>⟨#[],by rw[qM<|hm b _ q λz=>z,q];simp⟩⟩
 by_cases Bk:b=e
 .subst Bk;exact B2
 .exact⟨u,k b u Bk q⟩
def ED(h:Heap)(H:Hp):List Addr:=(db h.objs.size).filter λa=>(H a).isSome
def y_(h:Heap)(H:Hp):Heap:=PySem.W.hideAll h<|ED h H
def UX(h:Heap)(H:Hp):(y_ h H).objs.size=h.objs.size:=PySem.W.hideAll_size _ _
def Uz(e:h.get? b=aA o)(n:H b=aB):(y_ h H).get? b=aA o:=
 PySem.W.hideAll_get _ e λhm=>by
  have q:(H b).isSome=true:=(qc.mp hm).2;rw[n] at q;simp at q
def Ti(e:(y_ h H).get? b=aA o):h.get? b=aA o/\H b=aB:=by
 have e':h.get? b=aA o:=PySem.W.of_hideAll (ED h H) e;refine⟨e',?_⟩;cases q:H b with
 |none=>rfl
 |some x=>
  have hm:b∈ED h H:=qc.mpr ⟨jz.mpr<|ax e',by simp[q]⟩;have z:(y_ h H).get? b=aB:=PySem.W.hideAll_none (ED h H) hm;rw[z] at e;cases e
structure Mod(K:Fg)(mg:Str->Option Value)(base:Heap):Prop where
 BX:K.In base
 glob:base.Ns bh mg
 blt:∃mb,base.Ns builtinsNs mb/\∀x:Str,x ≠ "__name__" -> mb x=bootBuiltins x
 nolimit:base.NoLimit
structure Cx where
 prog:Program
 w:World
 K:Fg
 mg:Str->Option Value
 base:Heap
 A:Around
 N:List Str
 s₀:Shared
 H₀:Hp
 env:Env
 outer:List Env
 stack:List Env
 ex:List Addr
 fn:Str->Bool
 calm:Bool
 pn:List (Addr×Obj)
 xe:Value->Shared->Prop
noncomputable def fR(l:List Env):List Addr:=l.filterMap (·.frame)
abbrev Cx.fs(X:Cx):List Addr:=fR X.outer
def Fu(sc:Scope)(x:Str):Prop:=sc.names.lookup x=aA .local\/sc.names.lookup x=aA .cell\/sc.names.lookup x=aA .free
def Loc(sc:Scope)(x:Str):Prop:=sc.names.lookup x=aA .local\/sc.names.lookup x=aA .cell
def Pw(env:Env)(h:Heap)(m:Str->Option Value)(x:Str)(u:Value):Prop:=
 (env.kindOf x=aA .local/\m x=aA u)\/((env.kindOf x=aA .cell\/env.kindOf x=aA .free)/\∃c,env.cells.lookup x=aA c/\h.IsCell c (aA u))
def Ka(K:Fg)(H:Hp):Prop:=True
structure OX(K:Fg)(l:List Env)(H:Hp):Prop where
 fr:∀b∈fR l,H b=aB
 tb:Ka K H
abbrev xc(X:Cx)(es:List Expr)(p:Pos):Prop:=((ph p<|aq es X.env).all (λx=>!x.1) && (backToKw p<|keywordEach [] X.env).all (λx=>x.1.isSome) && decide (es.length+([]:List Keyword).length+(if ([]:List Keyword).isEmpty then 0 else 1)<30))=true
abbrev sL(X:Cx)(e:Expr)(es:List Expr):Prop:=aq (e::es) X.env=(false,eval e X.env)::aq es X.env
abbrev xi(X:Cx)(es:List Expr)(p:Pos):Prop:=(ph p<|aq es X.env).any (·.1)=false
abbrev sM(X:Cx)(x:Str):Prop:=X.fn x=true\/X.env.scope.names.lookup x=aA .local
abbrev e_(x:Str):Prop:=(x == ("__debug__" : Str))=false
abbrev sW(a c:Pos):Prop:=(a.endLine == c.line)=true
structure Cx.Ok(X:Cx):Prop where
 mod:Mod X.K X.mg X.base
 kind:X.env.scope.kind=.function
 glob:X.env.globals=bh
 blt:X.env.builtins=builtinsNs
 above:X.s₀.heap.objs.size<=X.env.locals
 inj:∀x y c,X.env.cells.lookup x=aA c->X.env.cells.lookup y=aA c->x=y
 has:∀x,(X.env.kindOf x=aA .cell\/X.env.kindOf x=aA .free)->∃c,X.env.cells.lookup x=aA c
 AB:∀x c,X.fn x=true->X.env.cells.lookup x=aA c->X.s₀.heap.objs.size<=c
 hd:X.calm=true->X.A.handled=aB
 frames:X.A.frames=aA X.stack
 A2:X.stack=X.outer\/(X.stack=X.env::X.outer/\X.env.frame=aA X.env.locals)
 B5:∀b∈X.ex,b≠X.env.locals/\∀x c,X.env.cells.lookup x=aA c->c≠b
 bs:∀b o,X.base.get? b=aA o->X.s₀.heap.get? b=aA o/\X.H₀ b=aB
 ww:X.base.objs.size<=X.s₀.heap.objs.size
 Am:∀b o,X.base.get? b=aA o->b∉X.ex
 AA:∀b∈X.ex,b∉X.fs
 m_:X.s₀.heap.FunFrames X.base X.outer
 zo:OX X.K X.outer X.H₀
structure Inv(X:Cx)(pZ:List (Addr×Obj))(σ:List (Option V))(H:Hp)(s:Shared):Prop where
 ok:X.Ok
 os:s.os=X.s₀.os
 bare:AllBare s.gens
 base:Un X.fs X.ex X.H₀ H X.s₀.heap s.heap
 loc:∃m,s.heap.Ns X.env.locals m/\∀(i:Nat) (x:Str) (v:V),X.N[i]?=aA x->σ[i]?=aA (aA v)->Fu X.env.scope x->∃u,RelV v u/\Pw X.env s.heap m x u
 cell:∀x c,X.env.cells.lookup x=aA c->∃v,s.heap.IsCell c v
 free:H X.env.locals=aB
 n_:∀x c,X.env.cells.lookup x=aA c->H c=aB
 pin:∀p∈X.pn++pZ,s.heap.get? p.1=aA p.2/\H p.1=aB/\p.1≠X.env.locals/\p.1∉X.fs/\∀v,p.2.data≠.cell v
 aP:fG X.prog X.w H s.heap
 len:σ.length=X.N.length
section
variable{X:Cx}{pZ:List (Addr×Obj)}{σ:List (Option V)}{H H':Hp}{s:Shared}{h':Heap}
def Cx.Ok.Wp(ok:X.Ok){b:Addr}{o:Obj}(e:X.base.get? b=aA o):b∉X.fs:=λhb=>by
 have:=(ok.m_.mem hb).1
 rw[e] at this;cases this
def Inv.bs(I:Inv X pZ σ H s):∀b o,X.base.get? b=aA o->s.heap.get? b=aA o/\H b=aB:=λb o e=>
 ⟨I.base.keep b o (I.ok.bs b o e).1 (I.ok.bs b o e).2 (I.ok.Wp e)<|I.ok.Am b o e,I.base.free b o (I.ok.bs b o e).1 (I.ok.bs b o e).2<|I.ok.Am b o e⟩
def Inv.bk(I:Inv X pZ σ H s):∀b o,X.base.get? b=aA o->s.heap.get? b=aA o:=λb o e=>(I.bs b o e).1
def Inv.mod(I:Inv X pZ σ H s):Mod X.K X.mg X.base:=I.ok.mod
def Inv.fO(I:Inv X pZ σ H s):X.K.In s.heap:=I.ok.mod.BX.keeps I.bk
def Inv.lt(I:Inv X pZ σ H s):X.env.locals<s.heap.objs.size:=let ⟨_,hn,_⟩:=I.loc;hn.lt
def Inv.sz(I:Inv X pZ σ H s):X.s₀.heap.objs.size<=s.heap.objs.size:=bf I.ok.above<|sy I.lt
def Inv.Wn(I:Inv X pZ σ H s)(h:s.heap.objs.size<=a):a∉X.fs:=λhb=>by
 obtain⟨_,o,ho,_⟩:=I.ok.m_.mem hb;exact absurd (ba (ax ho)<|bf I.sz h)<|gw _
def Inv.wv(I:Inv X pZ σ H s):∀x c,X.env.cells.lookup x=aA c->c≠X.env.locals:=λx c e z=>by
 obtain⟨v,o,ho,hd⟩:=I.cell x c e;obtain⟨m,⟨o',es,ep,iG,zm,_⟩,_⟩:=I.loc;rw[z,iG] at ho;cases ho;rw[zm] at hd;cases hd
def Inv.m_(I:Inv X pZ σ H s):s.heap.FunFrames X.base X.outer:=by
 have all:∀(l:List Env),(∀b∈fR l,b∈X.fs)->X.s₀.heap.FunFrames X.base l->s.heap.FunFrames X.base l:=by
  intro l
  induction l with
  |nil=>intro _ _;trivial
  |cons env r ih=>
   intro hs hl;obtain⟨hk,⟨L,o,hf,hn,ho,hd⟩,hr⟩:=hl;have hL:L∈X.fs:=hs L (by unfold fR;rw[ko,hf];exact be);obtain⟨sl,e⟩:=I.base.slot L o ho (I.ok.zo.fr L hL) hL λz=>I.ok.AA L z hL
   exact⟨hk,⟨L,_,hf,hn,e,hd⟩,ih (λb hb=>hs b (by unfold fR;rw[ko,hf];exact cj _ hb)) hr⟩
 exact all X.outer (λ_ hb=>hb) I.ok.m_
def Inv.stack(I:Inv X pZ σ H s):s.heap.FunFrames X.base X.stack:=by
 rcases I.ok.A2 with e|⟨e,hf⟩
 .rw[e];exact I.m_
 .rw[e];obtain⟨m,hn,_⟩:=I.loc;refine .cons (by rw[I.ok.kind];decide) hf hn ?_ I.m_;exact Heap.get?_none_of_le<|bf I.ok.ww I.ok.above
def Inv.EF(I:Inv X pZ σ H s):∀b∈fR X.stack,b∈X.env.locals::X.fs:=λb hb=>by
 rcases I.ok.A2 with e|⟨e,hf⟩
 .rw[e] at hb;exact cj _ hb
 .rw[e] at hb;unfold fR at hb;rw[ko,hf] at hb;exact hb
def Inv.Hs(I:Inv X pZ σ H s):∀b∈fR X.stack,H b=aB:=λb hb=>by
 rcases av.mp (I.EF b hb) with e|hb
 .rw[e];exact I.free
 .obtain⟨_,o,ho,_⟩:=I.ok.m_.mem hb;exact I.base.free b o ho (I.ok.zo.fr b hb) λz=>I.ok.AA b z hb
def Inv.tabIn(I:Inv X pZ σ H s):Ka X.K H:=
 trivial
def Inv.step{ch:List Addr}(I:Inv X pZ σ H s)(fQ:∀b∈ch,(b∈X.ex\/X.s₀.heap.objs.size<=b)/\b≠X.env.locals/\(∀x c,X.env.cells.lookup x=aA c->c≠b)/\∀p∈X.pn++pZ,p.1≠b)(keep:∀b o,b≠X.env.locals->b∉X.fs->b∉ch->s.heap.get? b=aA o->H b=aB->h'.get? b=aA o)(slot:∀b o,b≠X.env.locals->b∈X.fs->b∉ch->s.heap.get? b=aA o->H b=aB->∃sl,h'.get? b=aA { o with slots:=sl })(free:∀b o,b∉ch->s.heap.get? b=aA o->H b=aB->H' b=aB)(there:∀b o,b∉ch->s.heap.get? b=aA o->∃o',h'.get? b=aA o')(v_:∀b xs,H b=aA (.tup xs)->H' b=aA (.tup xs))(vm:∀b o u,H b=aA (.iO o u)->H' b=aA (.iO o u))(wa:∀b ps,H b=aA (.tbl ps)->∃more,H' b=aA (.tbl<|ps++more))(ns:∀m,s.heap.Ns X.env.locals m->h'.Ns X.env.locals m)(aP:fG X.prog X.w H' h')(hg:AllBare g'):Inv X pZ σ H' { s with heap:=h',gens:=g',drawn:=d',toks:=t' }:=by
 have NV:∀b o,X.s₀.heap.get? b=aA o->b≠X.env.locals:=λb o e=>bv<|ba (ax e) I.ok.above
 have EM:∀b o,X.s₀.heap.get? b=aA o->b∉X.ex->b∉ch:=λb o e hx hb=>by
  rcases(fQ b hb).1 with z|z
  .exact hx z
  .exact absurd (ba (ax e) z)<|gw _
 have cellK:∀x c,X.env.cells.lookup x=aA c->∀v,s.heap.IsCell c v->h'.IsCell c v:=λx c e v ⟨o,ho,hd⟩=>by
  have CD:c∉ch:=λz=>(fQ c z).2.2.1 x c e rfl
  by_cases hc:c∈X.fs
  .obtain⟨sl,q⟩:=slot c o (I.wv x c e) hc CD ho<|I.n_ x c e;exact⟨_,q,hd⟩
  .exact⟨o,keep c o (I.wv x c e) hc CD ho<|I.n_ x c e,hd⟩
 refine⟨I.ok,I.os,hg,⟨λb o e n hb hx=>?_,λb o e n hb hx=>?_,λb o e n hx=>?_,λb o e hx=>?_,λb xs e=>v_ b xs<|I.base.v_ b xs e,λb o xs e=>vm b o xs<|I.base.vm b o xs e,λb ps e=>?_⟩,?_,λx c e=>?_,?_,λx c e=>?_,λp hp=>?_,aP,I.len⟩
 .exact keep b o (NV b o e) hb (EM b o e hx) (I.base.keep b o e n hb hx)<|I.base.free b o e n hx
 .obtain⟨sl,e1⟩:=I.base.slot b o e n hb hx;obtain⟨VZ,e2⟩:=slot b _ (NV b o e) hb (EM b o e hx) e1<|I.base.free b o e n hx;exact⟨VZ,e2⟩
 .obtain⟨o',e1⟩:=I.base.there b o e hx;exact free b o' (EM b o e hx) e1<|I.base.free b o e n hx
 .obtain⟨o',e1⟩:=I.base.there b o e hx;exact there b o' (EM b o e hx) e1
 .obtain⟨m1,e1⟩:=I.base.wa b ps e;obtain⟨m2,e2⟩:=wa b _ e1;exact⟨m1++m2,by rw[e2,Array.append_assoc]⟩
 .obtain⟨m,hn,hl⟩:=I.loc;refine⟨m,ns m hn,λi x v e1 e2 e3=>?_⟩;obtain⟨u,r,l⟩:=hl i x v e1 e2 e3;refine⟨u,r,?_⟩;rcases l with l|⟨k,c,e,z⟩
  .exact .inl l
  .exact .inr ⟨k,c,e,cellK x c e _ z⟩
 .obtain⟨v,z⟩:=I.cell x c e;exact⟨v,cellK x c e v z⟩
 .obtain⟨m,⟨o,_,_,ho,_⟩,_⟩:=I.loc;exact free _ o (λz=>(fQ _ z).2.1 rfl) ho I.free
 .obtain⟨v,o,ho,hd⟩:=I.cell x c e;exact free c o (λz=>(fQ c z).2.2.1 x c e rfl) ho<|I.n_ x c e
 .obtain⟨e,n,ne,nf,d⟩:=I.pin p hp;have CD:p.1∉ch:=λz=>(fQ p.1 z).2.2.2 p hp rfl
  exact⟨keep p.1 p.2 ne nf CD e n,free p.1 p.2 CD e n,ne,nf,d⟩
def Inv.un(I:Inv X pZ σ H s)(u:Un X.fs [] H H' s.heap h')(aP:fG X.prog X.w H' h'):Inv X pZ σ H' { s with heap:=h',toks:=t' }:=by
 obtain⟨m,⟨o,es,ep,ho,r⟩,_⟩:=id I.loc;obtain⟨sl,hL⟩:=u.any ho I.free (by simp);exact I.step (g':=s.gens) (d':=s.drawn) (ch:=[]) (λ_ z=>nomatch z) (λb o _ hb _ e n=>u.keep b o e n hb<|by simp) (λb o _ hb _ e n=>u.slot b o e n hb<|by simp) (λb o _ e n=>u.free b o e n<|by simp) (λb o _ e=>u.there b o e<|by simp) u.v_ u.vm u.wa (λm' hm=>by
  obtain⟨o',IT,IU,iG,r'⟩:=hm;rw[ho] at iG;cases iG;exact⟨_,IT,IU,hL,r'⟩) aP I.bare
def Inv.call{ch:List Addr}(I:Inv X pZ σ H s)(u:Un (fR X.stack) ch H H' s.heap h')(aP:fG X.prog X.w H' h')(hg:AllBare g')(fQ:∀b∈ch,(b∈X.ex\/X.s₀.heap.objs.size<=b)/\b≠X.env.locals/\(∀x c,X.env.cells.lookup x=aA c->c≠b)/\∀p∈X.pn++pZ,p.1≠b):Inv X pZ σ H' { s with heap:=h',gens:=g',drawn:=d',toks:=t' }:=by
 obtain⟨m,⟨o,es,ep,ho,r⟩,_⟩:=id I.loc;obtain⟨sl,hL⟩:=u.any ho I.free λz=>(fQ _ z).2.1 rfl
 exact I.step (ch:=ch) fQ (λb o hL hb hc e n=>u.keep b o e n (λz=>(av.mp<|I.EF b z).elim hL hb) hc) (λb o _ _ hc e n=>u.any e n hc) (λb o hc e n=>u.free b o e n hc) (λb o hc e=>u.there b o e hc) u.v_ u.vm u.wa (λm' hm=>by
  obtain⟨o',IT,IU,iG,r'⟩:=hm;rw[ho] at iG;cases iG;exact⟨_,IT,IU,hL,r'⟩) aP hg
def Inv.turned(I:Inv X pZ σ H s)(k:∀b o,b≠it->s.heap.get? b=aA o->h'.get? b=aA o)(hn:H it=aB)(hL:it≠X.env.locals)(h1:it∈X.ex\/X.s₀.heap.objs.size<=it)(h2:∀x c,X.env.cells.lookup x=aA c->c≠it)(h3:∀p∈X.pn++pZ,p.1≠it):Inv X pZ σ H { s with heap:=h',toks:=t' }:=by
 have NR:∀b u,H b=aA u->b≠it:=λb u e z=>by rw[z,hn] at e;cases e
 refine I.step (g':=s.gens) (d':=s.drawn) (ch:=[it]) (λb hb=>?_) (λb o _ _ hc e _=>k b o (λz=>hc<|by simp[z]) e) (λb o _ _ hc e _=>⟨o.slots,k b o (λz=>hc<|by simp[z]) e⟩) (λ_ _ _ _ n=>n)
  (λb o hc e=>⟨o,k b o (λz=>hc<|by simp[z]) e⟩) (λ_ _ e=>e) (λ_ _ _ e=>e) (λb ps e=>⟨#[],by rw[e];simp⟩) (λm hm=>?_) (λb u e=>?_) I.bare
 .have e:b=it:=by simpa using hb
  subst e;exact⟨h1,hL,h2,h3⟩
 .obtain⟨o,es,ep,ho,r⟩:=hm;exact⟨o,es,ep,k _ o (gc hL) ho,r⟩
 .refine(I.aP b u e).xt (λc v hc q=>k c v ?_ q) (λ_ q=>q) (λ_ _ q=>q) λ_ _ _ q=>q
  rcases hc with z|z
  .rw[z];exact NR b u e
  .exact NR c _ z
def Inv.tok(I:Inv X pZ σ H s)(t:Nat):Inv X pZ σ H { s with toks:=t }:=I.un (h':=s.heap) (t':=t) Un.refl I.aP
def Inv.kept(I:Inv X pZ σ H s)(k:∀b u,s.heap.get? b=aA u->h'.get? b=aA u):Inv X pZ σ H { s with heap:=h',toks:=t' }:=I.un (Un.kept k)<|I.aP.kept k
def Inv.laid(I:Inv X pZ σ H s)(k:∀b u,s.heap.get? b=aA u->h'.get? b=aA u)(hp:s.heap.objs.size<=a)(new:iB X.prog X.w (upd H a o) h' a o):Inv X pZ σ (upd H a o) { s with heap:=h',toks:=t' }:=I.un (Un.laid k hp<|I.aP.fresh hp)<|I.aP.laid k hp new
def Inv.write(I:Inv X pZ σ H s)(mu:Fx (H x))(he:e=x\/H e=aA (.own x))(k:∀b u,b≠e->s.heap.get? b=aA u->h'.get? b=aA u)(B2:∃u,h'.get? e=aA u)(new:iB X.prog X.w (upd H x o) h' x o):Inv X pZ σ (upd H x o) { s with heap:=h',toks:=t' }:=I.un (Un.write mu he k B2)<|I.aP.write mu he k B2 new
def Inv.HF(I:Inv X pZ σ H s)(h:∀p∈Wa,s.heap.get? p.1=aA p.2/\H p.1=aB/\p.1≠X.env.locals/\p.1∉X.fs/\∀v,p.2.data≠.cell v):Inv X Wa σ H s:=
 ⟨I.ok,I.os,I.bare,I.base,I.loc,I.cell,I.free,I.n_,λp hp=>(bi.mp hp).elim (λz=>I.pin p<|ni _ z)<|h p,I.aP,I.len⟩
def Y8{N:List Str}(hN:N.Nodup){i j:Nat}{x:Str}(a:N[i]?=aA x)(b:N[j]?=aA x):i=j:=by
 obtain⟨h1,e1⟩:=ar.mp a;obtain⟨h2,e2⟩:=ar.mp b;exact(List.getElem_inj hN).mp (e1.trans e2.symm)
def X3{M:Model}{A:Around}{E:Value->Shared->Prop}{i:Nat}{x:Str}{v:V}{u:Value}{Q:Unit->Shared->Prop}(I:Inv X pZ σ H s)(hN:X.N.Nodup)(hi:X.N[i]?=aA x)(hx:Loc X.env.scope x)(r:RelV v u)(h:∀s',Inv X pZ (σ.set i<|some v) H s'->(∃a,kf a s.heap s'.heap/\(a=X.env.locals\/X.env.cells.lookup x=aA a))->Q () s')(hf:sM X x:=by first|exact .inl rfl|exact .inr rfl|assumption):wpAny M A (storeName X.env x u) Q E s:=by
 obtain⟨m,hn,hl⟩:=id I.loc;have g_:(X.env.scope.kind == .class || (X.env.scope.kind == .module && X.env.locals != X.env.globals))=false:=by rw[I.ok.kind];rfl
 have E8:i<σ.length:=by rw[I.len];exact(ar.mp hi).1
 have wv:=I.wv;have tracked:∀{a:Addr} {h':Heap},(∃o,s.heap.get? a=aA o/\H a=aB)->kf a s.heap h'->fG X.prog X.w H h':=λ{a h'} ha hs b ob e=>by
  obtain⟨_,_,Bg⟩:=ha;refine(I.aP b ob e).xt (λc w' hc q=>(hs.2 c ?_).trans q) (λ_ q=>q) (λ_ _ q=>q) λ_ _ _ q=>q
  rintro rfl;rcases hc with rfl|hc
  .rw[Bg] at e;cases e
  .rw[Bg] at hc;cases hc
 rcases hx with hk|hk
 .refine wpAny_storeName_local hk hn (λh' E6 hs=>?_) g_;obtain⟨oL,_,_,Dd,_⟩:=id hn;refine h _ ⟨I.ok,I.os,I.bare,⟨λb o e n hb hx=>?_,λb o e n hb hx=>?_,I.base.free,λb o e hx=>?_,I.base.v_,I.base.vm,I.base.wa⟩,⟨_,E6,λj y v' e1 e2 e3=>?_⟩,λy c e=>?_,I.free,I.n_,λp hp=>?_,tracked ⟨oL,Dd,I.free⟩ hs,by simpa using I.len⟩ ⟨_,hs,.inl rfl⟩
  .exact(hs.2 b<|bv<|ba (ax e) I.ok.above).trans (I.base.keep b o e n hb hx)
  .obtain⟨sl,e1⟩:=I.base.slot b o e n hb hx;exact⟨sl,(hs.2 b<|bv<|ba (ax e) I.ok.above).trans e1⟩
  .obtain⟨o',e1⟩:=I.base.there b o e hx;exact⟨o',(hs.2 b<|bv<|ba (ax e) I.ok.above).trans e1⟩
  .by_cases hj:j=i
   .subst hj;rw[hi] at e1;cases e1;rw[kd E8] at e2;cases e2;exact⟨u,r,.inl ⟨hk,by simp⟩⟩
   .rw[nj<|gc hj] at e2;obtain⟨u',r',q⟩:=hl j y v' e1 e2 e3;refine⟨u',r',?_⟩;rcases q with⟨k,e⟩|⟨k,c,e,z⟩
    .refine .inl ⟨k,?_⟩
     have:y≠x:=λe=>hj<|Y8 hN e1<|e ▸ hi
     simp[this,e]
    .exact .inr ⟨k,c,e,z.sameBut hs<|wv y c e⟩
  .obtain⟨w',z⟩:=I.cell y c e;exact⟨w',z.sameBut hs<|wv y c e⟩
  .obtain⟨e,n,ne,nf,d⟩:=I.pin p hp;exact⟨(hs.2 p.1 ne).trans e,n,ne,nf,d⟩
 .have IA:X.fn x=true:=by
   rcases hf with z|z
   .exact z
   .rw[z] at hk;cases hk
  obtain⟨c,hc⟩:=I.ok.has x<|.inl hk;obtain⟨w',z⟩:=I.cell x c hc;refine wpAny_storeName_cell I.ok.kind hk hc z λh' i9 hs=>?_;obtain⟨oc,B1,Yr⟩:=id z;refine h { s with heap:=h' } ⟨I.ok,I.os,I.bare,⟨λb o e n hb hx=>?_,λb o e n hb hx=>?_,I.base.free,λb o e hx=>?_,I.base.v_,I.base.vm,I.base.wa⟩,⟨m,hn.sameBut hs<|gc<|wv x c hc,λj y v' e1 e2 e3=>?_⟩,λy c' e=>?_,I.free,I.n_,λp hp=>?_,tracked ⟨oc,B1,I.n_ x c hc⟩ hs,by simpa using I.len⟩ ⟨c,hs,.inr hc⟩
  .exact(hs.2 b<|bv<|ba (ax e)<|I.ok.AB x c IA hc).trans (I.base.keep b o e n hb hx)
  .obtain⟨sl,e1⟩:=I.base.slot b o e n hb hx;exact⟨sl,(hs.2 b<|bv<|ba (ax e)<|I.ok.AB x c IA hc).trans e1⟩
  .obtain⟨o',e1⟩:=I.base.there b o e hx;exact⟨o',(hs.2 b<|bv<|ba (ax e)<|I.ok.AB x c IA hc).trans e1⟩
  .by_cases hj:j=i
   .subst hj;rw[hi] at e1;cases e1;rw[kd E8] at e2;cases e2;exact⟨u,r,.inr ⟨.inl hk,c,hc,i9⟩⟩
   .rw[nj<|gc hj] at e2;obtain⟨u',r',q⟩:=hl j y v' e1 e2 e3;refine⟨u',r',?_⟩;rcases q with q|⟨k,c',e,z'⟩
    .exact .inl q
    .refine .inr ⟨k,c',e,z'.sameBut hs ?_⟩;rintro rfl;exact hj<|Y8 hN e1<|I.ok.inj _ _ _ e hc ▸ hi
  .by_cases Bj:c'=c
   .subst Bj;exact⟨_,i9⟩
   .obtain⟨w2,z2⟩:=I.cell y c' e;exact⟨w2,z2.sameBut hs Bj⟩
  .obtain⟨e,n,ne,nf,d⟩:=I.pin p hp;refine⟨(hs.2 p.1 ?_).trans e,n,ne,nf,d⟩;intro q;rw[q,B1] at e;have q':oc=p.2:=bp e;exact d w' (by rw[<-q'];exact Yr)
def YZ(I:Inv X pZ σ H s)(hN:X.N.Nodup)(hi:X.N[i]?=aA x)(hx:Loc X.env.scope x)(r:RelV v u)(h:∀s',Inv X pZ (σ.set i<|some v) H s'->Q () s')(hf:sM X x:=by first|exact .inl rfl|exact .inr rfl|assumption):wpAny M A (storeName X.env x u) Q E s:=
 X3 I hN hi hx r (λs' I' _=>h s' I') hf
def Inv.IX{ch:List Addr}(I:Inv X pZ σ H s)(ho:s'.os=s.os)(u:Un (fR X.stack) ch H H' s.heap s'.heap)(aP:fG X.prog X.w H' s'.heap)(hg:AllBare s'.gens)(fQ:∀b∈ch,(b∈X.ex\/X.s₀.heap.objs.size<=b)/\b≠X.env.locals/\(∀x c,X.env.cells.lookup x=aA c->c≠b)/\∀p∈X.pn++pZ,p.1≠b):Inv X pZ σ H' s':=by
 obtain⟨h',g',d',t',o'⟩:=s';have e:o'=s.os:=ho;subst e;exact I.call (g':=g') (t':=t') (d':=d') u aP hg fQ
end
abbrev XK:=Value->Option Addr->Hp->Prop
noncomputable abbrev St:=List<|Option V
abbrev VK:=V->Hp->Prop
abbrev TE:=St->Hp->VK->Prop
abbrev TT:=St->Hp->(Bool->Hp->Prop)->Prop
abbrev TA:=St->Hp->(List V->Hp->Prop)->Prop
structure Ends where
 nx:St->Hp->Prop
 rt:VK
 bk:St->Hp->Prop:=λ_ _=>False
 ct:St->Hp->Prop:=λ_ _=>False
abbrev TS:=Ends->St->Hp->Prop
def EP(X:Cx)(pZ:List (Addr×Obj))(σ:St)(Q:VK)(u:Value)(s':Shared):Prop:=∃v H',Inv X pZ σ H' s'/\RelV v u/\Q v H'
def TP(X:Cx)(pZ:List (Addr×Obj))(σ:St)(Q:Bool->Hp->Prop)(b:Bool)(s':Shared):Prop:=∃H',Inv X pZ σ H' s'/\Q b H'
def AP(X:Cx)(pZ:List (Addr×Obj))(σ:St)(Q:List V->Hp->Prop)(us:List Value)(s':Shared):Prop:=∃vs H',Inv X pZ σ H' s'/\Vals vs us/\Q vs H'
def SP(X:Cx)(pZ:List (Addr×Obj))(D:Ends)(f:Flow)(s':Shared):Prop:=
 match f with
 |.next=>∃σ' H',Inv X pZ σ' H' s'/\D.nx σ' H'
 |.brk=>∃σ' H',Inv X pZ σ' H' s'/\D.bk σ' H'
 |.cont=>∃σ' H',Inv X pZ σ' H' s'/\D.ct σ' H'
 |.ret u=>∃v σ' H',Inv X pZ σ' H' s'/\RelV v u/\D.rt v H'
def PE(X:Cx)(e:Expr)(t:TE):Prop:=
 ∀pZ s σ H (Q:VK),Inv X pZ σ H s->t σ H Q->wpAny (model X.prog X.w) X.A (eval e X.env) (EP X pZ σ Q) X.xe s
def PT(X:Cx)(e:Expr)(t:TT):Prop:=
 ∀pZ s σ H (Q:Bool->Hp->Prop),Inv X pZ σ H s->t σ H Q->wpAny (model X.prog X.w) X.A (isTrue e X.env<|eval e X.env) (TP X pZ σ Q) X.xe s
def PW(X:Cx)(e:Expr)(t:TT):Prop:=
 ∀(gH:Sem Value) (pZ:List (Addr×Obj)) (s:Shared) (σ:St) (H:Hp) (Q:Bool->Hp->Prop),Inv X pZ σ H s->t σ H Q->wpAny (model X.prog X.w) X.A (isTrue e X.env gH) (TP X pZ σ Q) X.xe s
def PW.pt(h:PW X e t):PT X e t:=h _
def PA(X:Cx)(es:List Expr)(t:TA):Prop:=
 ∀(pos:Pos) (pZ:List (Addr×Obj)) (s:Shared) (σ:St) (H:Hp) (Q:List V->Hp->Prop),Inv X pZ σ H s->t σ H Q->wpAny (model X.prog X.w) X.A (spliced<|ph pos<|aq es X.env) (AP X pZ σ Q) X.xe s
def PS(X:Cx)(st:Stmt)(t:TS):Prop:=
 ∀pZ s σ H (D:Ends),Inv X pZ σ H s->t D σ H->wpAny (model X.prog X.w) X.A (exec st X.env) (SP X pZ D) X.xe s
def eS(X:Cx)(st:List Stmt)(t:TS):Prop:=
 ∀pZ s σ H (D:Ends),Inv X pZ σ H s->t D σ H->wpAny (model X.prog X.w) X.A (execs st X.env) (SP X pZ D) X.xe s
def aS(h:wpAny M A t Q E s)(hQ:∀a s,Q a s->Q' a s):wpAny M A t Q' E s:=fu h hQ λ_ _ x=>x
section
noncomputable def sA(i:Nat):TE:=λσ H Q=>∃v,σ[i]?=aA (aA v)/\Q v H
noncomputable def tC(v:V):TE:=λ_ H Q=>Q v H
def Ll(hN:X.N[i]?=aA x)(hv:Fu X.env.scope x)(hd:e_ x:=by decide)(fJ:(x == ("__classdict__" : Str))=false:=by decide):PE X (.Name x pos) (sA i):=by
 intro pZ s σ H Q I h;obtain⟨v,e,h⟩:=h;obtain⟨m,hn,hl⟩:=I.loc;obtain⟨u,r,l⟩:=hl i x v hN e hv;have fin:EP X pZ σ Q u s:=⟨v,H,I,r,h⟩;rcases l with⟨hk,hm⟩|⟨hk,c,hc,Fb⟩
 .exact wpAny_Name (wpAny_loadName_local I.ok.kind hk hn hm fin) hd
 .rcases hk with hk|hk
  .exact wpAny_Name (wpAny_loadName_cell I.ok.kind hk hc Fb fin) hd
  .exact wpAny_Name (wpAny_loadName_free I.ok.kind hk hc Fb fin fJ) hd
def Li{i j pos}:PE X (.Constant (.int i) j pos) (tC<|.int i):=λ_ _ _ H _ I h=>wpAny_Constant_int ⟨.int i,H,I.tok _,⟨_,rfl⟩,h⟩
def Qi{b j pos}:PE X (.Constant (.bool b) j pos) (tC<|.bl b):=λ_ _ _ H _ I h=>Constant_bool ⟨.bl b,H,I,rfl,h⟩
def Sa{j pos}:PE X (.Constant .none j pos) (tC .aG):=λ_ _ _ H _ I h=>Constant_none ⟨.aG,H,I,rfl,h⟩
def Sd{x j pos}:PE X (.Constant (.str x) j pos) (tC<|.str x):=λ_ _ _ H _ I h=>Calls.Constant_str ⟨.str x,H,I.tok _,⟨_,rfl⟩,h⟩
def Gl(X:Cx)(x:Str):Prop:=X.env.kindOf x=aA .globalImplicit
def pQ(I:Inv X pZ σ H s)(hg:Gl X x)(hm:X.mg x=aA u)(h:Q u s)(hd:e_ x:=by decide):wpAny (model X.prog X.w) X.A (eval (.Name x pos) X.env) Q E s:=
 qo I.ok.kind hg (Calls.loadGlobal_global (by rw[I.ok.glob];exact I.mod.glob.keeps I.bk) hm h) hd
def rX(I:Inv X pZ σ H s)(hg:Gl X x)(hm:X.mg x=aB)(hv:bootBuiltins x=aA u)(h:Q u s)(hn:x ≠ "__name__" := by decide)(hd:e_ x:=by decide):wpAny (model X.prog X.w) X.A (eval (.Name x pos) X.env) Q E s:=by
 obtain⟨mb,h1,h2⟩:=I.mod.blt;exact qo I.ok.kind hg (Calls.loadGlobal_builtin (by rw[I.ok.glob];exact I.mod.glob.keeps I.bk) hm (by rw[I.ok.blt];exact h1.keeps I.bk) ((h2 x hn).trans hv) h) hd
def WD(hg:Gl X x)(hm:X.mg x=aA u)(r:RelV v u)(hd:e_ x:=by decide):PE X (.Name x pos) (tC v):=
 λ_ _ _ H _ I h=>pQ I hg hm ⟨v,H,I,r,h⟩ hd
def ZE(hg:Gl X x)(hm:X.mg x=aB)(hv:bootBuiltins x=aA u)(r:RelV v u)(hn:x ≠ "__name__" := by decide)(hd:e_ x:=by decide):PE X (.Name x pos) (tC v):=
 λ_ _ _ H _ I h=>rX I hg hm hv ⟨v,H,I,r,h⟩ hn hd
variable{rest:List Expr}
noncomputable def Pk(t u:TT):TT:=λσ H Q=>t σ H λc H1=>if c=true then u σ H1 Q else Q false H1
noncomputable def VR(t u:TT):TT:=λσ H Q=>t σ H λc H1=>if c=true then Q true H1 else u σ H1 Q
noncomputable def Pp(t:TT):TT:=λσ H Q=>t σ H λc H1=>Q (!c) H1
def TD(ha:PT X a tA):PW X (.BoolOp .And [a] pos) tA:=by
 intro wh pZ s σ H Q I h;refine isTrue_and<|aS (ha pZ s σ H Q I h) λc s1 e=>?_;cases c with
 |true=>exact isTrue_and_nil e
 |false=>exact e
def RG(ha:PT X a tA):PW X (.BoolOp .Or [a] pos) tA:=by
 intro wh pZ s σ H Q I h;refine isTrue_or<|aS (ha pZ s σ H Q I h) λc s1 e=>?_;cases c with
 |false=>exact isTrue_or_nil e
 |true=>exact e
def RE(ha:PT X a tA)(hb:PW X (.BoolOp .And (b::rest) pos) Hq):PW X (.BoolOp .And (a::b::rest) pos) (Pk tA Hq):=by
 intro wh pZ s σ H Q I h;refine isTrue_and<|aS (ha pZ s σ H _ I h) λc s1 ⟨H1,I1,q1⟩=>?_;cases c with
 |true=>exact hb wh pZ s1 σ H1 Q I1 q1
 |false=>exact⟨H1,I1,q1⟩
def Qk(ha:PT X a tA)(hb:PW X (.BoolOp .Or (b::rest) pos) Hq):PW X (.BoolOp .Or (a::b::rest) pos) (VR tA Hq):=by
 intro wh pZ s σ H Q I h;refine isTrue_or<|aS (ha pZ s σ H _ I h) λc s1 ⟨H1,I1,q1⟩=>?_;cases c with
 |true=>exact⟨H1,I1,q1⟩
 |false=>exact hb wh pZ s1 σ H1 Q I1 q1
def RD(ha:PT X a tA):PT X (.UnaryOp .Not a pos) (Pp tA):=by
 intro pZ s σ H Q I h;exact isTrue_not<|ha pZ s σ H (λc H1=>Q (!c) H1) I h
noncomputable def Qn(ta tb:TE):TE:=λσ H Q=>ta σ H λx H1=>∃c,x=.bl c/\if c=true then tb σ H1 Q else Q (.bl false) H1
noncomputable def Pq(ta tb:TE):TE:=λσ H Q=>ta σ H λx H1=>∃c,x=.bl c/\if c=true then Q (.bl true) H1 else tb σ H1 Q
def Sb{op}(h:PE X a t):PE X (.BoolOp op [a] pos) t:=λpZ s σ H Q I hw=>BoolOp_one<|h pZ s σ H Q I hw
def R8(ha:PE X a ta)(hb:PE X (.BoolOp .And (b::rest) pos) tb):PE X (.BoolOp .And (a::b::rest) pos) (Qn ta tb):=by
 intro pZ s σ H Q I h;refine BoolOp_and<|aS (ha pZ s σ H _ I h) λv s1 ⟨x,H1,I1,r1,q1⟩=>?_;obtain⟨c,rfl,q1⟩:=q1;cases r1;refine gh ?_;cases c with
 |true=>exact hb pZ s1 σ H1 Q I1 q1
 |false=>exact⟨.bl false,H1,I1,rfl,q1⟩
def Qj(ha:PE X a ta)(hb:PE X (.BoolOp .Or (b::rest) pos) tb):PE X (.BoolOp .Or (a::b::rest) pos) (Pq ta tb):=by
 intro pZ s σ H Q I h;refine BoolOp_or<|aS (ha pZ s σ H _ I h) λv s1 ⟨x,H1,I1,r1,q1⟩=>?_;obtain⟨c,rfl,q1⟩:=q1;cases r1;refine gh ?_;cases c with
 |false=>exact hb pZ s1 σ H1 Q I1 q1
 |true=>exact⟨.bl true,H1,I1,rfl,q1⟩
end
def aV(K:Fg)(H:Hp)(a:Addr)(xs:List V):Prop:=
 Rd H a (.lst xs) \/
  ∃(o:Obj) (its:Array Value) (n:Nat),K.lookup a=aA o/\o.cls=.type "list" /\ o.dict=aB/\o.data=.seq its n/\its.size<=ag/\Vals xs its.toList
def eI(K:Fg)(H:Hp)(a:Addr)(xs:List V):Prop:=
 Rd H a (.tup xs) \/
  ∃(o:Obj) (its:Array Value) (n:Nat),K.lookup a=aA o/\o.cls=.type "tuple" /\ o.data=.seq its n/\its.size<=ag/\Vals xs its.toList
noncomputable def O3:Value->Option V
 |.none=>aA .aG
 |.bool b=>aA<|.bl b
 |.int i _=>aA<|.int i
 |.str x _=>aA<|.str x
 |.bytes b _=>aA<|.sV b
 |.float b _=>aA<|.B4 b
 |.ref a=>aA<|.ref a
 |.type n=>aA<|.ty n
 |_=>aB
def RelV.abs(r:RelV x u):O3 u=aA x:=by
 cases x with
 |aG=>cases r;rfl
 |bl _=>cases r;rfl
 |int _=>obtain⟨t,rfl⟩:=r;rfl
 |str _=>obtain⟨t,rfl⟩:=r;rfl
 |sV _=>obtain⟨t,rfl⟩:=r;rfl
 |B4 _=>obtain⟨t,rfl⟩:=r;rfl
 |ref _=>cases r;rfl
 |ty _=>cases r;rfl
def RelV.inj(r:RelV x u)(q:RelV y u):x=y:=bp<|r.abs.symm.trans q.abs
def Vals.inj:∀{xs ys:List V} {us:List Value},Vals xs us->Vals ys us->xs=ys
 |_,_,_,.nil,.nil=>rfl
 |_,_,_,.cons r t,.cons r' t'=>by rw[r.inj r',Vals.inj t t']
def aV.of{K:Fg}(h:H a=aA (.lst xs)):aV K H a xs:=.inl<|.inl h
def eI.of{K:Fg}(h:H a=aA (.tup xs)):eI K H a xs:=.inl<|.inl h
def Inv.list(I:Inv X pZ σ H s)(h:aV X.K H a xs):∃its:List Value,Vals xs its/\PlainL s.heap a its.toArray/\xs.length<=ag:=by
 rcases h with h|⟨o,its,n,hk,hc,hd,hs,hz,r⟩
 .obtain⟨z,its,n,r,e⟩:=h.ok I.aP;exact⟨its,r,⟨_,n,e,rfl,rfl,rfl⟩,z⟩
 .refine⟨its.toList,r,⟨o,n,I.fO a o hk,hc,hd,by simpa using hs⟩,?_⟩;have e:=r.length;simp only[gr] at e;omega
def Inv.tuple(I:Inv X pZ σ H s)(h:eI X.K H a xs):∃its:List Value,Vals xs its/\IsTup s.heap a its.toArray/\xs.length<=ag:=by
 rcases h with h|⟨o,its,n,hk,hc,hs,hz,r⟩
 .obtain⟨z,its,r,p⟩:=h.ok I.aP;exact⟨its,r,p,z⟩
 .refine⟨its.toList,r,⟨o,I.fO a o hk,hc,n,by simpa using hs⟩,?_⟩;have e:=r.length;simp only[gr] at e;omega
def Inv.HN(I:Inv X pZ σ H s)(h:aV X.K H a xs)(h':aV X.K H a ys):xs=ys:=by
 obtain⟨its,r,⟨o,n,e,_,_,d⟩,_⟩:=I.list h;obtain⟨its',r',⟨o',n',e',_,_,d'⟩,_⟩:=I.list h';rw[e] at e';cases e';rw[d] at d'
 injection d' with d1 _
 have:its=its':=by simpa using congrArg Array.toList d1
 subst this;exact r.inj r'
def Inv.VN(I:Inv X pZ σ H s)(h:eI X.K H a xs)(h':eI X.K H a ys):xs=ys:=by
 obtain⟨its,r,⟨o,e,_,n,d⟩,_⟩:=I.tuple h;obtain⟨its',r',⟨o',e',_,n',d'⟩,_⟩:=I.tuple h';rw[e] at e';cases e';rw[d] at d'
 injection d' with d1 _
 have:its=its':=by simpa using congrArg Array.toList d1
 subst this;exact r.inj r'
noncomputable abbrev Cx.l4(X:Cx)(E:Value->Shared->Prop):Cx:={ X with xe:=E }
abbrev Cx.Ak(X:Cx):Cx:=X.l4 λ_ _=>False
def Cx.Ok.l4{X:Cx}(ok:X.Ok)(E:Value->Shared->Prop):(X.l4 E).Ok:=
 ⟨ok.mod,ok.kind,ok.glob,ok.blt,ok.above,ok.inj,ok.has,ok.AB,ok.hd,ok.frames,ok.A2,ok.B5,ok.bs,ok.ww,ok.Am,ok.AA,ok.m_,ok.zo⟩
def Cx.Ok.xr{X:Cx}{E:Value->Shared->Prop}(ok:(X.l4 E).Ok):X.Ok:=
 ⟨ok.mod,ok.kind,ok.glob,ok.blt,ok.above,ok.inj,ok.has,ok.AB,ok.hd,ok.frames,ok.A2,ok.B5,ok.bs,ok.ww,ok.Am,ok.AA,ok.m_,ok.zo⟩
def Inv.l4(I:Inv X pZ σ H s)(E:Value->Shared->Prop):Inv (X.l4 E) pZ σ H s:=⟨I.ok.l4 E,I.os,I.bare,I.base,I.loc,I.cell,I.free,I.n_,I.pin,I.aP,I.len⟩
def Inv.xr(I:Inv (X.l4 E) pZ σ H s):Inv X pZ σ H s:=⟨I.ok.xr,I.os,I.bare,I.base,I.loc,I.cell,I.free,I.n_,I.pin,I.aP,I.len⟩
def SP.xr{D:Ends}(h:SP (X.l4 E) pZ D f s'):SP X pZ D f s':=by
 cases f with
 |next=>obtain⟨σ',H',I,q⟩:=h;exact⟨σ',H',I.xr,q⟩
 |brk=>obtain⟨σ',H',I,q⟩:=h;exact⟨σ',H',I.xr,q⟩
 |cont=>obtain⟨σ',H',I,q⟩:=h;exact⟨σ',H',I.xr,q⟩
 |ret u=>obtain⟨v,σ',H',I,r,q⟩:=h;exact⟨v,σ',H',I.xr,r,q⟩
def eS.Ak{st:List Stmt}(h:eS X.Ak st t):eS X st t:=λpZ s σ H D I hw=>
 fu (h pZ s σ H D (I.l4 _) hw) (λ_ _ q=>q.xr) λ_ _ z=>fj z
section
variable{st:Stmt}{rest:List Stmt}
noncomputable def P6:TS:=λD σ H=>D.nx σ H
noncomputable def Py(t u:TS):TS:=λD σ H=>t { D with nx:=u D } σ H
def TC:eS X [] P6:=λ_ _ σ H _ I h=>jt ⟨σ,H,I,h⟩
def rJ(h1:PS X st t)(h2:eS X rest u):eS X (st::rest) (Py t u):=by
 intro pZ s σ H D I h;refine ji<|aS (h1 pZ s σ H { D with nx:=u D } I h) λf s1 q=>?_;cases f with
 |next=>
  obtain⟨σ',H',I',q⟩:=q;exact h2 pZ s1 σ' H' D I' q
 |ret v=>exact q
 |brk=>exact q
 |cont=>exact q
def MP(h1:PS X st t):eS X [st] t:=by
 intro pZ s σ H D I h;refine ji<|aS (h1 pZ s σ H D I h) λf s1 q=>?_;cases f with
 |next=>exact jt q
 |ret v=>exact q
 |brk=>exact q
 |cont=>exact q
def Inv.quiet(I:Inv X pZ σ H s):interactive X.env=false:=by simp[interactive,I.ok.kind]
noncomputable def P5(te:TE):TS:=λD σ H=>te σ H λ_ H1=>D.nx σ H1
def G1(he:PE X e te)(hs:gi e aB pos.line X.env=pure false:=by rfl):PS X (.Expr e pos) (P5 te):=by
 intro pZ s σ H D I h;exact qe (aS (he pZ s σ H _ I h) λv s1 ⟨x,H1,I1,r1,q1⟩=>⟨σ,H1,I1,q1⟩) I.quiet hs
noncomputable def Pt(te:TE):TS:=λD σ H=>te σ H D.rt
def Ep(he:PE X e te):PS X (.Return (aA e) pos) (Pt te):=by
 intro pZ s σ H D I h;exact wpAny_Return_some<|aS (he pZ s σ H _ I h) λv s1 ⟨x,H1,I1,r1,q1⟩=>⟨x,σ,H1,I1,r1,q1⟩
noncomputable def Pn(c:TT)(t u:TS):TS:=λD σ H=>c σ H λb H1=>if b=true then t D σ H1 else u D σ H1
def Kk(hc:PT X c tc)(ha:eS X a t)(hb:eS X b u):PS X (.If c a b pos) (Pn tc t u):=by
 intro pZ s σ H D I h;refine wpAny_If<|aS (hc pZ s σ H _ I h) λd s1 ⟨H1,I1,q1⟩=>?_;cases d with
 |true=>exact ha pZ s1 σ H1 D I1 q1
 |false=>exact hb pZ s1 σ H1 D I1 q1
end
abbrev TG:=V->St->Hp->(St->Hp->Prop)->Prop
abbrev Bp:=List V->St->Hp->(St->Hp->Prop)->Prop
def PG(X:Cx)(target:Expr)(t:TG):Prop:=
 ∀pZ s σ H (v:V) (u:Value) (Q:St->Hp->Prop),Inv X pZ σ H s->RelV v u->t v σ H Q ->
  wpAny (model X.prog X.w) X.A (assign target X.env u) (λ_ s'=>∃σ' H',Inv X pZ σ' H' s'/\Q σ' H') X.xe s
def xa(X:Cx)(ts:List Expr)(t:Bp):Prop:=
 ∀pZ s σ H (vs:List V) (us:List Value) (Q:St->Hp->Prop),Inv X pZ σ H s->Vals vs us->t vs σ H Q ->
  wpAny (model X.prog X.w) X.A (assignInOrder ((gm ts X.env).map (·.2)) us) (λ_ s'=>∃σ' H',Inv X pZ σ' H' s'/\Q σ' H') X.xe s
noncomputable def Cj(i:Nat):TG:=λv σ H Q=>Q (σ.set i<|some v) H
def S8(hN:X.N.Nodup)(hi:X.N[i]?=aA x)(hx:Loc X.env.scope x)(hf:sM X x:=by first|exact .inl rfl|exact .inr rfl|assumption):PG X (.Name x pos) (Cj i):=by
 intro pZ s σ H v u Q I r h;exact wpAny_assign_Name<|YZ I hN hi hx r (λs' I'=>⟨_,H,I',h⟩) hf
noncomputable def O9:Bp:=λvs σ H Q=>vs=[]/\Q σ H
noncomputable def PP(t:TG)(u:Bp):Bp:=λvs σ H Q=>∃v r,vs=v::r/\t v σ H λσ' H'=>u r σ' H' Q
def S9:xa X [] O9:=by
 intro pZ s σ H vs us Q I r h;obtain⟨e,h⟩:=h;subst e;cases r;exact assignInOrder_nil ⟨σ,H,I,h⟩
def Um(h1:PG X e t)(h2:xa X es u)(hs:(gm (e::es) X.env).map (·.2)=assign e X.env::(gm es X.env).map (·.2):=by rfl):xa X (e::es) (PP t u):=by
 intro pZ s σ H vs us Q I r h;obtain⟨v,vr,e1,h⟩:=h;subst e1;cases r with
 |cons r rr=>
  rw[hs];refine assignInOrder_cons<|aS (h1 pZ s σ H _ _ _ I r h) λ_ s1 ⟨σ1,H1,I1,q1⟩=>?_;exact h2 pZ s1 σ1 H1 _ _ Q I1 rr q1
def O_(K:Fg)(n:Nat)(t:Bp):TG:=λv σ H Q=>∃a xs,v=.ref a/\eI K H a xs/\xs.length=n/\t xs σ H Q
def Sf(hc:X.calm=true)(h:xa X es t)(hn:(gm es X.env).length=n:=by rfl)(iN:(gm es X.env).findIdx? (·.1)=aB:=by rfl):PG X (.Tuple es k pos) (O_ X.K n t):=by
 intro pZ s σ H v u Q I r hw;obtain⟨a,xs,e1,hq,hl,hw⟩:=hw;subst e1;cases r;obtain⟨its,rv,ht,hz⟩:=I.tuple hq;refine assign_Tuple_tuple (I.ok.hd hc) ht (by simp[hn,<-hl,rv.length]) iN λh' hx=>?_
 have I1:Inv X pZ σ H { s with heap:=h' }:=I.kept (t':=s.toks) λb o e=>hx b o (bv<|ax e) e
 exact h pZ _ σ H xs _ Q I1 (by simpa using rv) hw
noncomputable def FY(te:TE)(g:TG):TS:=λD σ H=>te σ H λx H1=>g x σ H1 D.nx
def RC(he:PE X e te)(hg:PG X tg g)(hs:swapsWithSole [tg] e pos.line X.env=pure false:=by rfl)(hw:swappedStores [tg] e X.env=pure aB:=by rfl)(h1:(gm [tg] X.env).map (·.2)=[assign tg X.env]:=by rfl):PS X (.Assign [tg] e pos) (FY te g):=by
 intro pZ s σ H D I h;refine wpAny_Assign_stores (aS (he pZ s σ H _ I h) λv s1 ⟨x,H1,I1,r1,q1⟩=>?_) hs hw;rw[h1];exact aS (hg pZ s1 σ H1 x v _ I1 r1 q1) λ_ s2 q=>q
def JN(hN:X.N.Nodup)(hi:X.N[i]?=aA x)(hx:Loc X.env.scope x)(he:PE X e te)(hs:gi e (aA<|.Name x pos') pos.line X.env=pure false:=by rfl)(hf:sM X x:=by first|exact .inl rfl|exact .inr rfl|assumption):PS X (.Assign [.Name x pos'] e pos) (FY te<|Cj i):=by
 intro pZ s σ H D I h;refine wpAny_Assign_Name (aS (he pZ s σ H _ I h) λv s1 ⟨y,H1,I1,r1,q1⟩=>?_) hs;exact YZ I1 hN hi hx r1 (λs2 I2=>⟨_,H1,I2,q1⟩) hf
def RO(c:TT)(tb:TS):TS:=λD σ H=>∃W:Nat->St->Hp->Prop,(∃m,W m σ H)/\∀m σ H,W m σ H ->
 c σ H λb H1=>if b=true then ∃N:St->Hp->Prop,(∀σ' H',N σ' H'->∃m',m'<m/\W m' σ' H')/\tb { D with nx:=N,ct:=N,bk:=D.nx } σ H1 else D.nx σ H1
def Nj(hp:PassesOwn (model X.prog X.w) X.A X.env X.xe)(hc:PT X c tc)(hb:eS X body tb):PS X (.While c body [] pos) (RO tc tb):=by
 intro pZ s σ H D I h;obtain⟨W,⟨m0,w0⟩,turn⟩:=h;refine wpAny_While<|codeAny_whileLoop (λn s'=>∃σ' H',Inv X pZ σ' H' s'/\W n σ' H') ?_ m0 ⟨σ,H,I,w0⟩;rintro n s1 ⟨σ1,H1,I1,w1⟩;refine ir hp<|aS (hc pZ s1 σ1 H1 _ I1<|turn n σ1 H1 w1) λb s2 ⟨H2,I2,q2⟩=>?_;cases b with
 |true=>
  obtain⟨N,hN,q2⟩:=q2;rw[if_pos rfl];refine ir hp<|aS (hb pZ s2 σ1 H2 _ I2 q2) λf s3 q3=>?_;cases f with
  |next=>
   obtain⟨σ3,H3,I3,n3⟩:=q3;obtain⟨m',hm,w3⟩:=hN σ3 H3 n3;exact⟨m',hm,σ3,H3,I3,w3⟩
  |cont=>
   obtain⟨σ3,H3,I3,n3⟩:=q3;obtain⟨m',hm,w3⟩:=hN σ3 H3 n3;exact⟨m',hm,σ3,H3,I3,w3⟩
  |brk=>exact q3
  |ret v=>exact q3
 |false=>
  rw[if_neg ah];exact jt ⟨σ1,H2,I2,q2⟩
structure It where
 go:Nat->Hp->Prop
 BN:Nat->Hp->V->Hp->Prop
 stop:Nat->Hp->Prop
def lU(X:Cx)(pZ:List (Addr×Obj))(H:Hp)(b:Addr):Prop:=
 H b=aB/\b≠X.env.locals/\b∉X.fs/\(b∈X.ex\/X.s₀.heap.objs.size<=b)/\(∀x c,X.env.cells.lookup x=aA c->c≠b)/\∀p∈X.pn++pZ,p.1≠b
def Inv.Bn(I:Inv X pZ σ H s)(hb:s.heap.objs.size<=b)(hn:H' b=aB):lU X pZ H' b:=by
 refine⟨hn,Nat.ne_of_gt<|ba I.lt hb,I.Wn hb,.inr<|bf I.sz hb,λx c e z=>?_,λp hp z=>?_⟩
 .obtain⟨v,q⟩:=I.cell x c e;exact absurd (ba q.lt (by rw[z];exact hb))<|gw _
 .exact absurd (ba (ax (I.pin p hp).1) (by rw[z];exact hb))<|gw _
structure Turn(P:Program)(w:World)(K:Fg)(tg:Expr)(J:It)(fp:List Addr)(it:Addr)(tn:Nat->Heap->Prop):Prop where
 mem:it∈fp
 obj:∀i h,tn i h->∀b∈fp,∃o,h.get? b=aA o/\∀v,o.data≠.cell v
 keep:∀i h h',tn i h->(∀b∈fp,∀o,h.get? b=aA o->h'.get? b=aA o)->tn i h'
 item:∀(X:Cx),X.prog=P->X.w=w->X.K=K->X.calm=true->∀(i:Nat) (pZ:List (Addr×Obj)) (s:Shared) (σ:St) (H:Hp) (E:Value->Shared->Prop),Inv X pZ σ H s->(∀b∈fp,lU X pZ H b)->tn i s.heap->J.go i H ->
  wpAny (model P w) X.A (pyNext<|.ref it) (λr s1=>∃u,r=aA u /\
   wpAny (model P w) X.A (letOwnedTupleGo tg (.ref it) u) (λ_ s2=>∃x H',Inv X pZ σ H' s2/\RelV x u/\J.BN i H x H'/\tn (i+1) s2.heap/\∀b∈fp,H' b=aB) E s1) E s
 done:∀(X:Cx),X.prog=P->X.w=w->X.K=K->X.calm=true->∀(i:Nat) (pZ:List (Addr×Obj)) (s:Shared) (σ:St) (H:Hp) (E:Value->Shared->Prop),Inv X pZ σ H s->(∀b∈fp,lU X pZ H b)->tn i s.heap->J.stop i H ->
  wpAny (model P w) X.A (pyNext<|.ref it) (λr s1=>r=aB/\Inv X pZ σ H s1) E s
 self:∀(A:Around) (i:Nat) (s:Shared) (Q:Value->Shared->Prop) (E:Value->Shared->Prop),tn i s.heap->Q (.ref it) s->wpAny (model P w) A (pyIter<|.ref it) Q E s
abbrev TI:=St->Hp->(It->Hp->Prop)->Prop
def OV(X:Cx)(pZ:List (Addr×Obj))(σ:St)(tg:Expr)(R:It->Hp->Prop)(EX:Value)(s2:Shared):Prop:=
 ∃(it:Addr) (fp:List Addr) (tn:Nat->Heap->Prop) (J:It) (H':Hp),EX=.ref it/\Inv X pZ σ H' s2/\Turn X.prog X.w X.K tg J fp it tn/\tn 0 s2.heap/\(∀b∈fp,lU X pZ H' b)/\R J H'
def PI(X:Cx)(tg iter:Expr)(wi:TI):Prop:=
 ∀pZ s σ H (R:It->Hp->Prop),Inv X pZ σ H s->wi σ H R ->
  wpAny (model X.prog X.w) X.A (eval iter X.env) (λv s1=>wpAny (model X.prog X.w) X.A (pyIter v) (OV X pZ σ tg R) X.xe s1) X.xe s
def Cm(ho:s.heap.get? it=aA o)(hc:o.cls=.type n)(hd:o.data=.fields vs)(hn:["enumerate", "zip", "dict_itemiterator", "dict_reverseitemiterator", "odict_iterator", "itertools.zip_longest", "itertools.pairwise"].contains n=false)(hQ:Q () s):wpAny M A (letOwnedTupleGo tg (.ref it) u) Q E s:=by
 unfold letOwnedTupleGo;cases tg<;>first
  |exact bb hQ
  |(cases u<;>first
    |exact bb hQ
    |(refine aj (wpAny_load ho ?_)
      rw[hc,hd];show wpAny M A (if (["enumerate", "zip", "dict_itemiterator", "dict_reverseitemiterator", "odict_iterator", "itertools.zip_longest", "itertools.pairwise"].contains n && vs[0]? == aA (rawInt _))=true then _ else _) Q E s;rw[if_neg (by intro h;rw[hn,ky] at h;cases h)];exact bb hQ))
def Jc(K:Fg)(a:Addr):It:=
 ⟨λi H=>∃xs x,aV K H a xs/\xs[i]?=aA x,λi H x H'=>H'=H/\∀xs,aV K H a xs->xs[i]?=aA x,λi H=>∃xs,aV K H a xs/\xs.length<=i⟩
def Ja(K:Fg)(a:Addr):It:=
 ⟨λi H=>∃xs x,eI K H a xs/\xs[i]?=aA x,λi H x H'=>H'=H/\∀xs,eI K H a xs->xs[i]?=aA x,λi H=>∃xs,eI K H a xs/\xs.length<=i⟩
noncomputable def Fy(lo:Int)(n:Nat):It:=⟨λi _=>i<n,λi H x H'=>H'=H/\x=.int (lo+i),λi _=>n<=i⟩
def Vv{K:Fg}(a it:Addr):Turn P w K tg (Jc K a) [it] it (λi h=>h.IsListIter it a i) where
 mem:=by simp
 obj:=λi h st b hb=>by
  have e:b=it:=by simpa using hb
  subst e;obtain⟨o,e,c,d⟩:=st;exact⟨o,e,λv z=>by rw[d] at z;cases z⟩
 keep:=λi h h' st k=>st.at λo e=>k it (by simp) o e
 item:=by
  intro X hP hw hK hc i pZ s σ H E I hf st hg;subst hP hw hK;obtain⟨xs,x,hq,hx⟩:=hg;obtain⟨its,rv,p,hz⟩:=I.list hq;obtain⟨u,hu,ru⟩:=rv.get hx;obtain⟨f0,f1,f2,f3,f4,f5⟩:=hf it (by simp);refine rp st p.isList (x:=u) (by simpa using hu) λh' aW sb=>?_
  have I1:Inv X pZ σ H { s with heap:=h' }:=I.turned (t':=s.toks) (λb o hb e=>(sb.2 b hb).trans e) f0 f1 f3 f4 f5;obtain⟨o,e,c,d⟩:=id aW;exact⟨u,rfl,Cm (s:={ s with heap:=h' }) e c d (by decide) ⟨x,H,I1,ru,⟨rfl,λys hy=>by rw[I.HN hy hq];exact hx⟩,aW,λb hb=>(hf b hb).1⟩⟩
 done:=by
  intro X hP hw hK hc i pZ s σ H E I hf st hg;subst hP hw hK;obtain⟨xs,hq,hx⟩:=hg;obtain⟨its,rv,p,hz⟩:=I.list hq;obtain⟨f0,f1,f2,f3,f4,f5⟩:=hf it (by simp);have hl:=rv.length;exact uc (I.ok.hd hc) st p.isList (by simp;omega) λh' eb=>⟨rfl,I.turned (t':=s.toks) (λb o hb e=>eb b o hb e) f0 f1 f3 f4 f5⟩
 self:=λ_ _ _ _ _ st h=>wpAny_pyIter_listiter st h
def JF{K:Fg}(a it:Addr):Turn P w K tg (Ja K a) [it] it (λi h=>h.IsTupleIter it a i) where
 mem:=by simp
 obj:=λi h st b hb=>by
  have e:b=it:=by simpa using hb
  subst e;obtain⟨o,e,c,d⟩:=st;exact⟨o,e,λv z=>by rw[d] at z;cases z⟩
 keep:=λi h h' st k=>st.at λo e=>k it (by simp) o e
 item:=by
  intro X hP hw hK hc i pZ s σ H E I hf st hg;subst hP hw hK;obtain⟨xs,x,hq,hx⟩:=hg;obtain⟨its,rv,p,hz⟩:=I.tuple hq;obtain⟨u,hu,ru⟩:=rv.get hx;obtain⟨f0,f1,f2,f3,f4,f5⟩:=hf it (by simp);refine wpAny_pyNext_tuple_item st (show s.heap.IsTuple a its.toArray from p) (x:=u) (by simpa using hu) λh' aW sb=>?_
  have I1:Inv X pZ σ H { s with heap:=h' }:=I.turned (t':=s.toks) (λb o hb e=>(sb.2 b hb).trans e) f0 f1 f3 f4 f5;obtain⟨o,e,c,d⟩:=id aW;exact⟨u,rfl,Cm (s:={ s with heap:=h' }) e c d (by decide) ⟨x,H,I1,ru,⟨rfl,λys hy=>by rw[I.VN hy hq];exact hx⟩,aW,λb hb=>(hf b hb).1⟩⟩
 done:=by
  intro X hP hw hK hc i pZ s σ H E I hf st hg;subst hP hw hK;obtain⟨xs,hq,hx⟩:=hg;obtain⟨its,rv,p,hz⟩:=I.tuple hq;obtain⟨f0,f1,f2,f3,f4,f5⟩:=hf it (by simp);have hl:=rv.length;exact wpAny_pyNext_tuple_end (I.ok.hd hc) st (show s.heap.IsTuple a its.toArray from p) (by simp;omega) λh' eb=>⟨rfl,I.turned (t':=s.toks) (λb o hb e=>eb b o hb e) f0 f1 f3 f4 f5⟩
 self:=λ_ _ _ _ _ st h=>wpAny_pyIter_tupleiter st h
def JG{K:Fg}(it:Addr)(lo:Int)(n:Nat):Turn P w K tg (Fy lo n) [it] it (λi h=>IsRangeIter h it (lo+(i:Nat)*1) ((n:Int)-(i:Nat)) 1) where
 mem:=by simp
 obj:=λi h st b hb=>by
  have e:b=it:=by simpa using hb
  subst e;exact⟨_,st,λv z=>by
   have z':Data.fields _=Data.cell v:=z;cases z'⟩
 keep:=λi h h' st k=>k it (by simp) _ st
 item:=by
  intro X hP hw hK hc i pZ s σ H E I hf st hg;subst hP hw hK;obtain⟨f0,f1,f2,f3,f4,f5⟩:=hf it (by simp);have W:=Walks.range (prog:=X.prog) (w:=X.w) (I.ok.hd hc) it lo 1 n;refine W.item i s _ _ hg st λv h' tk hv aW kk=>?_
  obtain⟨t,rfl⟩:=hv;have I1:Inv X pZ σ H { s with heap:=h',toks:=tk }:=I.turned (λb o hb e=>kk b o (by simpa using hb) e) f0 f1 f3 f4 f5;refine⟨_,rfl,Cm (s:={ s with heap:=h',toks:=tk }) (n:="range_iterator") aW rfl rfl (by decide) ⟨.int<|lo+i,H,I1,⟨t,?_⟩,⟨rfl,rfl⟩,aW,λb hb=>(hf b hb).1⟩⟩;rw[Int.mul_one]
 done:=by
  intro X hP hw hK hc i pZ s σ H E I hf st hg;subst hP hw hK;obtain⟨f0,f1,f2,f3,f4,f5⟩:=hf it (by simp);exact wpAny_pyNext_range_end (I.ok.hd hc) st (by have:n<=i:=hg;omega) λh' eb=>⟨rfl,I.turned (t':=s.toks) (λb o hb e=>eb b o hb e) f0 f1 f3 f4 f5⟩
 self:=λ_ _ _ _ _ st h=>wpAny_pyIter_rangeiter st h
def UP{R:It->Hp->Prop}{lo:Int}(I:Inv X pZ σ H s)(h1 : -(2 ^ 62)<=lo)(h2:lo<2 ^ 62)(h3 : -(2 ^ 62)<=hi)(h4:hi<2 ^ 62)(q:R (Fy lo (hi-lo).toNat) H):wpAny (model X.prog X.w) X.A (pyIter<|.ref s.heap.objs.size) (OV X pZ σ tg R) E { s with heap:=s.heap.push { cls:=.type "range",data:=.fields #[.int lo t,.int hi u,.int 1 v] },toks:=tk }:=by
 refine wpAny_pyIter_range (IsRange.new ..) (small_one h1 h2 h3 h4) ?_;have I1:Inv X pZ σ H { s with heap:=s.heap.push { cls:=.type "range",data:=.fields #[.int lo t,.int hi u,.int 1 v] },toks:=tk }:=I.kept λb o e=>ay _ e
 refine⟨(s.heap.push { cls:=.type "range",data:=.fields #[.int lo t,.int hi u,.int 1 v] }).objs.size,[(s.heap.push { cls:=.type "range",data:=.fields #[.int lo t,.int hi u,.int 1 v] }).objs.size],_,_,H,rfl,
  I1.kept (t':=tk) λb o e=>ay _ e,JG _ lo (hi-lo).toNat,?_,λb hb=>?_,q⟩
 .have e1:lo+((0:Nat):Int)*1=lo:=by simp
  have e2:(((hi-lo).toNat:Nat):Int)-((0:Nat):Int)=Builtin.Range.rangeSize lo hi 1:=by rw[rangeSize_one];split<;>omega
  show IsRangeIter _ _ (lo+((0:Nat):Int)*1) ((((hi-lo).toNat:Nat):Int)-((0:Nat):Int)) 1;rw[e1,e2];exact cn _ rfl
 .have e:b=(s.heap.push { cls:=.type "range",data:=.fields #[.int lo t,.int hi u,.int 1 v] }).objs.size:=by simpa using hb
  subst e;exact I1.Bn (ao _)<|I1.aP.fresh<|ao _
def PR(ta:TA):TI:=λσ H R=>ta σ H λvs H1=>∃j:Int,vs=[.int j]/\-(2 ^ 62)<=j/\j<2 ^ 62/\R (Fy 0 j.toNat) H1
def VD(hg:Gl X "range")(hm:X.mg "range" = aB)(ha:PA X [a] ta)(hs:aq [a] X.env=[(false,eval a X.env)]:=by rfl):PI X tg (.Call (.Name "range" p) [a] [] pos) (PR ta):=by
 intro pZ s σ H R I h;refine Call_<|rX I hg hm boot_range<|gb (aS (ha pos pZ s σ H _ I h) λus s1 ⟨vs,H1,I1,r1,q1⟩=>?_) hs rfl;obtain⟨j,e,q1,q2,q⟩:=q1;subst e;cases r1 with
 |cons r rr=>
  cases rr;obtain⟨t,rfl⟩:=r;exact call_range_1 (UP I1 (by omega) (by omega) q1 q2<|by simpa using q)
def Pm(wi:TI)(g:TG)(tb:TS):TS:=λD σ H=>wi σ H λJ H1=>∃W:Nat->Nat->St->Hp->Prop,(∃m,W 0 m σ H1)/\∀i m σ H,W i m σ H ->
 (J.stop i H/\D.nx σ H)\/(J.go i H/\∃N:St->Hp->Prop,(∀σ' H',N σ' H'->∃m',m'<m/\W (i+1) m' σ' H')/\∀x H',J.BN i H x H'->g x σ H' λσ2 H2=>tb { D with nx:=N,ct:=N,bk:=D.nx } σ2 H2)
noncomputable def WA(fp:List Addr)(h:Heap):List (Addr×Obj):=fp.filterMap λb=>(h.get? b).map λo=>(b,o)
def gW(hb:b∈fp)(e:h.get? b=aA o):(b,o)∈WA fp h:=nv.mpr ⟨b,hb,by rw[e];rfl⟩
def Vy(hp:p∈WA fp h):p.1∈fp/\h.get? p.1=aA p.2:=by
 obtain⟨b,hb,e⟩:=nv.mp hp;cases q:h.get? b with
 |none=>rw[q] at e;cases e
 |some o=>
  rw[q] at e;have e':(b,o)=p:=bp e;subst e';exact⟨hb,q⟩
def Inv.pinned(I:Inv X pZ σ H s)(hf:∀b∈fp,lU X pZ H b)(ho:∀b∈fp,∃o,s.heap.get? b=aA o/\∀v,o.data≠.cell v):Inv X (pZ++WA fp s.heap) σ H s:=
 I.HF λp hp=>(bi.mp hp).elim (λz=>I.pin p<|cr _ z) λz=>by
  obtain⟨hb,e⟩:=Vy z;obtain⟨f0,f1,f2,_⟩:=hf p.1 hb;obtain⟨o,e',d⟩:=ho p.1 hb;rw[e] at e';cases e';exact⟨e,f0,f1,f2,d⟩
def Inv.vz{pl:List (Addr×Obj)}(I:Inv X (pZ++pl) σ H s):Inv X pZ σ H s:=I.HF λp hp=>I.pin p<|cr _<|ni _ hp
def LG(hp:PassesOwn (model X.prog X.w) X.A X.env X.xe)(hc:X.calm=true)(hi:PI X tg iter wi)(hg:PG X tg g)(hb:eS X body tb)(hs:∀x,fk iter X.env x=pure x:=by intro _;rfl):PS X (.For tg iter body [] pos) (Pm wi g tb):=by
 intro pZ s σ H D I h;refine wpAny_For (aS (hi pZ s σ H _ I h) λv s1 h1=>aS h1 λEX s2 h2=>?_) hs;obtain⟨it,fp,tn,J,H2,e,I2,T,Aa,f2,W,⟨m0,w0⟩,turn⟩:=h2;subst e;have Ht:∀{H':Hp},(∀b∈fp,H' b=aB)->∀b∈fp,lU X pZ H' b:=λhn b hb=>⟨hn b hb,(f2 b hb).2⟩
 refine codeAny_forLoop_any (λn s'=>∃i σ' H',Inv X pZ σ' H' s'/\tn i s'.heap/\(∀b∈fp,H' b=aB)/\W i n σ' H') ?_ m0 ⟨0,σ,H2,I2,Aa,λb hb=>(f2 b hb).1,w0⟩;rintro n s3 ⟨i,σ3,H3,I3,Ct,OC,w3⟩;rcases turn i n σ3 H3 w3 with⟨stop,qn⟩|⟨go,N,hN,step⟩
 .refine ir hp<|aS (T.done X rfl rfl rfl hc i pZ s3 σ3 H3 X.xe I3 (Ht OC) Ct stop) λr s4 ⟨hr,I4⟩=>?_;subst hr;exact jt ⟨σ3,H3,I4,qn⟩
 .refine ir hp<|aS (T.item X rfl rfl rfl hc i pZ s3 σ3 H3 X.xe I3 (Ht OC) Ct go) λr s4 ⟨u,hr,h4⟩=>?_;subst hr;refine ir hp<|aS h4 λ_ s5 ⟨x,H5,I5,r5,y5,BO,Ff⟩=>?_;have õ:=I5.pinned (Ht Ff)<|T.obj _ _ BO;refine ir hp<|aS (hg _ s5 σ3 H5 x u _ õ r5<|step x H5 y5) λ_ s6 ⟨σ6,H6,I6,q6⟩=>?_;refine ir hp<|aS (hb _ s6 σ6 H6 _ I6 q6) λf s7 q7=>?_;have again:∀{σ7:St} {H7:Hp},Inv X (pZ++WA fp s5.heap) σ7 H7 s7->N σ7 H7->∃m,m<n/\∃i σ' H',Inv X pZ σ' H' s7/\tn i s7.heap/\(∀b∈fp,H' b=aB)/\W i m σ' H':=λ{σ7 H7} I7 n7=>by
   obtain⟨m',hm,w7⟩:=hN σ7 H7 n7;refine⟨m',hm,i+1,σ7,H7,I7.vz,T.keep _ _ _ BO λb hb o e=>(I7.pin (b,o)<|cr _<|cr _<|gW hb e).1,λb hb=>?_,w7⟩;obtain⟨o,e,d⟩:=T.obj _ _ BO b hb;exact(I7.pin (b,o)<|cr _<|cr _<|gW hb e).2.1
  cases f with
  |next=>obtain⟨σ7,H7,I7,n7⟩:=q7;exact again I7 n7
  |cont=>obtain⟨σ7,H7,I7,n7⟩:=q7;exact again I7 n7
  |brk=>obtain⟨σ7,H7,I7,q7⟩:=q7;exact⟨σ7,H7,I7.vz,q7⟩
  |ret v=>obtain⟨x7,σ7,H7,I7,r7,q7⟩:=q7;exact⟨x7,σ7,H7,I7.vz,r7,q7⟩
abbrev R2:=V->V->Hp->VK->Prop
def c_(X:Cx)(f:Value->Value->Sem Value)(r:R2):Prop:=
 ∀pZ s σ H (x y:V) (v u:Value) (Q:VK),Inv X pZ σ H s->RelV x v->RelV y u->r x y H Q ->
  wpAny (model X.prog X.w) X.A (f v u) (EP X pZ σ Q) X.xe s
def Fw(X:Cx)(f:Value->Sem Value)(r:V->Hp->VK->Prop):Prop:=
 ∀pZ s σ H (x:V) (v:Value) (Q:VK),Inv X pZ σ H s->RelV x v->r x H Q ->
  wpAny (model X.prog X.w) X.A (f v) (EP X pZ σ Q) X.xe s
def iJ(X:Cx)(f:Value)(r:List V->Hp->VK->Prop):Prop:=
 ∀pZ s σ H (xs:List V) (us:List Value) (Q:VK),Inv X pZ σ H s->Vals xs us->r xs H Q ->
  wpAny (model X.prog X.w) X.A (call f us) (EP X pZ σ Q) X.xe s
def O2(X:Cx)(r:V->Hp->(Bool->Hp->Prop)->Prop):Prop:=
 ∀pZ s σ H (x:V) (v:Value) (Q:Bool->Hp->Prop),Inv X pZ σ H s->RelV x v->r x H Q ->
  wpAny (model X.prog X.w) X.A (truthy v) (TP X pZ σ Q) X.xe s
noncomputable def Cs(r:R2)(ta tb:TE):TE:=λσ H Q=>ta σ H λx H1=>tb σ H1 λy H2=>r x y H2 Q
def Nz(r:V->Hp->VK->Prop)(ta:TE):TE:=λσ H Q=>ta σ H λx H1=>r x H1 Q
noncomputable def rI(C:Int->Int->Prop)(g:Int->Int->V):R2:=λx y H Q=>∃i j,x=.int i/\y=.int j/\C i j/\Q (g i j) H
noncomputable def sR(g:Int->Int->V):R2:=λx y H Q=>∃i j,x=.int i/\y=.int j/\Q (g i j) H
def rU(g:Int->V):V->Hp->VK->Prop:=λx H Q=>∃i,x=.int i/\Q (g i) H
def FL(ha:PE X a ta)(hb:PE X b tb){pZ:List (Addr×Obj)}{s:Shared}{σ:St}{H:Hp}{R:V->V->Hp->Prop}(I:Inv X pZ σ H s)(h:ta σ H λx H1=>tb σ H1 λy H2=>R x y H2){Q:Value->Shared->Prop}{f:Value->Value->Sem Value}(hf:∀v u s2 x y H2,Inv X pZ σ H2 s2->RelV x v->RelV y u->R x y H2->wpAny (model X.prog X.w) X.A (f v u) Q X.xe s2):wpAny (model X.prog X.w) X.A (eval a X.env) (λv s₁=>wpAny (model X.prog X.w) X.A (eval b X.env) (λu s₂=>wpAny (model X.prog X.w) X.A (f v u) Q X.xe s₂) X.xe s₁) X.xe s:=by
 refine aS (ha pZ s σ H _ I h) λv s1 ⟨x,H1,I1,r1,q1⟩=>?_
 refine aS (hb pZ s1 σ H1 _ I1 q1) λu s2 ⟨y,H2,I2,r2,q2⟩=>?_
 exact hf v u s2 x y H2 I2 r1 r2 q2
def Ki{op:Operator}{r:R2}(ho:c_ X (binaryOp op) r)(ha:PE X a ta)(hb:PE X b tb):PE X (.BinOp a op b pos) (Cs r ta tb):=by
 intro pZ s σ H Q I h;exact wpAny_BinOp<|FL ha hb I h λv u s2 x y H2 I2 rx ry q=>ho pZ s2 σ H2 x y v u Q I2 rx ry q
def Kj(ho:Fw X (unaryOp op) r)(ha:PE X a ta):PE X (.UnaryOp op a pos) (Nz r ta):=by
 intro pZ s σ H Q I h;exact UnaryOp_<|aS (ha pZ s σ H _ I h) λv s1 ⟨x,H1,I1,r1,q1⟩=>ho pZ s1 σ H1 x v Q I1 r1 q1
def EK{f:Value->Value->Sem Value}{C:Int->Int->Prop}{g:Int->Int->Int}(rule:∀(i j:Int) (t u:Tok) (s:Shared) (Q:Value->Shared->Prop) (E:Value->Shared->Prop),C i j->Q (.int (g i j) s.toks) { s with toks:=s.toks+1 }->wpAny (model X.prog X.w) X.A (f (.int i t)<|.int j u) Q E s):c_ X f (rI C λi j=>.int<|g i j):=by
 intro pZ s σ H x y v u Q I rx ry h;obtain⟨i,j,rfl,rfl,hc,q⟩:=h;obtain⟨t,rfl⟩:=rx;obtain⟨t',rfl⟩:=ry;exact rule i j t t' s _ _ hc ⟨.int<|g i j,H,I.tok _,⟨_,rfl⟩,q⟩
def Ji{f:Value->Value->Sem Value}{g:Int->Int->Int}(rule:∀(i j:Int) (t u:Tok) (s:Shared) (Q:Value->Shared->Prop) (E:Value->Shared->Prop),Q (.int (g i j) s.toks) { s with toks:=s.toks+1 }->wpAny (model X.prog X.w) X.A (f (.int i t)<|.int j u) Q E s):c_ X f (sR λi j=>.int<|g i j):=by
 intro pZ s σ H x y v u Q I rx ry h;obtain⟨i,j,rfl,rfl,q⟩:=h;obtain⟨t,rfl⟩:=rx;obtain⟨t',rfl⟩:=ry;exact rule i j t t' s _ _ ⟨.int<|g i j,H,I.tok _,⟨_,rfl⟩,q⟩
def FQ{f:Value->Value->Sem Value}{g:Int->Int->Bool}(rule:∀(i j:Int) (t u:Tok) (s:Shared) (Q:Value->Shared->Prop) (E:Value->Shared->Prop),Q (.bool<|g i j) s->wpAny (model X.prog X.w) X.A (f (.int i t)<|.int j u) Q E s):c_ X f (sR λi j=>.bl<|g i j):=by
 intro pZ s σ H x y v u Q I rx ry h;obtain⟨i,j,rfl,rfl,q⟩:=h;obtain⟨t,rfl⟩:=rx;obtain⟨t',rfl⟩:=ry;exact rule i j t t' s _ _ ⟨.bl<|g i j,H,I,rfl,q⟩
def Jw(i j:Int):Prop:=0<j/\j<1073741824
def Jx(i j:Int):Prop:=0<=j/\j<=1000000/\i.natAbs<2 ^ 64
def FG(i j:Int):Prop:=(-(2 ^ 64)<i/\i<2 ^ 64)\/(-(2 ^ 64)<j/\j<2 ^ 64)
def FG.ok(h:FG i j):IntMulOk i j:=by
 rcases h with⟨h1,h2⟩|⟨h1,h2⟩
 .exact .of_left<|intBits_le_64 h1 h2
 .exact .of_right<|intBits_le_64 h1 h2
def Wf:c_ X (binaryOp .Add) (sR λi j=>.int<|i+j):=Ji λ_ _ _ _ _ _ _ q=>add_int q
def nG:c_ X (binaryOp .Sub) (sR λi j=>.int<|i-j):=Ji λ_ _ _ _ _ _ _ q=>sub_int q
def EB:c_ X (binaryOp .Mult) (rI FG λi j=>.int<|i*j):=EK λ_ _ _ _ _ _ _ hc q=>mul_int q hc.ok
def qV:c_ X (binaryOp .FloorDiv) (rI Jw λi j=>.int<|i / j):=EK λi j _ _ _ _ _ hc q=>by
 have h1:(0:Int)<j:=hc.1;have h2:j<1073741824:=hc.2;exact floordiv_int (by omega) (by rw[Int.fdiv_eq_ediv_of_nonneg i<|by omega];exact q) (.inl<|PyProof.noPylong_small<|by omega)
def wP:c_ X (binaryOp .Mod) (rI (λ_ j=>0<j) λi j=>.int<|i % j):=EK λi j _ _ _ _ _ hc q=>by
 have h1:(0:Int)<j:=hc;exact mod_int' (by omega) (by rw[Int.fmod_eq_emod_of_nonneg i<|by omega];exact q)
def Lg:c_ X (binaryOp .Pow) (rI Jx λi j=>.int<|i ^ j.toNat):=EK λ_ _ _ _ _ _ _ hc q=>pow_int_small hc.1 hc.2.1 hc.2.2 q
def VL{f:Value->Sem Value}{g:Int->Int}(rule:∀(i:Int) (t:Tok) (s:Shared) (Q:Value->Shared->Prop) (E:Value->Shared->Prop),Q (.int (g i) s.toks) { s with toks:=s.toks+1 }->wpAny (model X.prog X.w) X.A (f<|.int i t) Q E s):Fw X f (rU λi=>.int<|g i):=by
 intro pZ s σ H x v Q I rx h;obtain⟨i,rfl,q⟩:=h;obtain⟨t,rfl⟩:=rx;exact rule i t s _ _ ⟨.int<|g i,H,I.tok _,⟨_,rfl⟩,q⟩
def LD:Fw X (unaryOp .USub) (rU λi=>.int<|-i):=VL λ_ _ _ _ _ q=>neg_int q
noncomputable def FX:V->V->Bool
 |.aG,.aG=>true | .aG,.int _=>true | .int _,.aG=>true | .aG,.bl _=>true | .bl _,.aG=>true | .aG,.str _=>true | .str _,.aG=>true
 |.int _,.int _=>true | .bl _,.bl _=>true | .str _,.str _=>true | .sV _,.sV _=>true
 |.int _,.str _=>true | .str _,.int _=>true | .bl _,.str _=>true | .str _,.bl _=>true
 |_,_=>false
def HD:R2:=λx y H Q=>FX x y=true/\Q (.bl<|decide (x=y)) H
def HB:R2:=λx y H Q=>FX x y=true/\Q (.bl<|!decide (x=y)) H
def LZ:decide (V.int i=V.int j)=(i == j):=by
 rw[gn];simp
def KN:decide (V.bl i=V.bl j)=(i == j):=by
 rw[gn];simp
def L3:decide (V.str i=V.str j)=(i == j):=by
 rw[gn];simp
def LY:decide (V.sV i=V.sV j)=(i.toList == j.toList):=by
 rw[gn];cases i;cases j;simp
def qC(I:Inv X pZ σ H s)(q:Q (.bl k) H)(e:k=k'):EP X pZ σ Q (.bool k') s:=by
 subst e;exact⟨.bl k,H,I,rfl,q⟩
def Qg:c_ X (bz .Eq) HD:=by
 intro pZ s σ H x y v u Q I rx ry h;obtain⟨hs,q⟩:=h;cases x with
 |aG=>
  cases rx;cases y with
  |aG=>cases ry;exact PySem.EqNone.eq_none_none (qC I q<|by simp)
  |bl j=>cases ry;exact PySem.EqNone.eq_none_bool (qC I q<|by simp)
  |int j=>obtain⟨t',rfl⟩:=ry;exact PySem.EqNone.eq_none_int (qC I q<|by simp)
  |str j=>obtain⟨t',rfl⟩:=ry;exact PySem.EqNone.eq_none_str (qC I q<|by simp)
  |_=>exact absurd (show false=true from hs) ah
 |bl i=>
  cases rx;cases y with
  |aG=>cases ry;exact PySem.EqNone.eq_bool_none (qC I q<|by simp)
  |bl j=>cases ry;exact eq_bool<|qC I q KN
  |str j=>obtain⟨t',rfl⟩:=ry;exact PySem.EqMixed.eq_bool_str (qC I q<|by simp)
  |_=>exact absurd (show false=true from hs) ah
 |int i=>
  obtain⟨t,rfl⟩:=rx;cases y with
  |aG=>cases ry;exact PySem.EqNone.eq_int_none (qC I q<|by simp)
  |int j=>obtain⟨t',rfl⟩:=ry;exact eq_int<|qC I q LZ
  |str j=>obtain⟨t',rfl⟩:=ry;exact PySem.EqMixed.eq_int_str (qC I q<|by simp)
  |_=>exact absurd (show false=true from hs) ah
 |str i=>
  obtain⟨t,rfl⟩:=rx;cases y with
  |aG=>cases ry;exact PySem.EqNone.eq_str_none (qC I q<|by simp)
  |bl j=>cases ry;exact PySem.EqMixed.eq_str_bool (qC I q<|by simp)
  |int j=>obtain⟨t',rfl⟩:=ry;exact PySem.EqMixed.eq_str_int (qC I q<|by simp)
  |str j=>obtain⟨t',rfl⟩:=ry;exact eq_str<|qC I q L3
  |_=>exact absurd (show false=true from hs) ah
 |sV i=>
  obtain⟨t,rfl⟩:=rx;cases y with
  |sV j=>obtain⟨t',rfl⟩:=ry;exact PySem.W.eq_bytes<|qC I q LY
  |_=>exact absurd (show false=true from hs) ah
 |_=>cases y<;>exact absurd (show false=true from hs) ah
def Qh:c_ X (bz .NotEq) HB:=by
 intro pZ s σ H x y v u Q I rx ry h;obtain⟨hs,q⟩:=h;cases x with
 |aG=>
  cases rx;cases y with
  |aG=>cases ry;exact PySem.EqNone.ne_none_none (qC I q<|by simp)
  |bl j=>cases ry;exact PySem.EqNone.ne_none_bool (qC I q<|by simp)
  |int j=>obtain⟨t',rfl⟩:=ry;exact PySem.EqNone.ne_none_int (qC I q<|by simp)
  |str j=>obtain⟨t',rfl⟩:=ry;exact PySem.EqNone.ne_none_str (qC I q<|by simp)
  |_=>exact absurd (show false=true from hs) ah
 |bl i=>
  cases rx;cases y with
  |aG=>cases ry;exact PySem.EqNone.ne_bool_none (qC I q<|by simp)
  |bl j=>cases ry;exact ne_bool<|qC I q<|congrArg not KN
  |str j=>obtain⟨t',rfl⟩:=ry;exact PySem.EqMixed.ne_bool_str (qC I q<|by simp)
  |_=>exact absurd (show false=true from hs) ah
 |int i=>
  obtain⟨t,rfl⟩:=rx;cases y with
  |aG=>cases ry;exact PySem.EqNone.ne_int_none (qC I q<|by simp)
  |int j=>obtain⟨t',rfl⟩:=ry;exact ne_int<|qC I q<|congrArg not LZ
  |str j=>obtain⟨t',rfl⟩:=ry;exact PySem.EqMixed.ne_int_str (qC I q<|by simp)
  |_=>exact absurd (show false=true from hs) ah
 |str i=>
  obtain⟨t,rfl⟩:=rx;cases y with
  |aG=>cases ry;exact PySem.EqNone.ne_str_none (qC I q<|by simp)
  |bl j=>cases ry;exact PySem.EqMixed.ne_str_bool (qC I q<|by simp)
  |int j=>obtain⟨t',rfl⟩:=ry;exact PySem.EqMixed.ne_str_int (qC I q<|by simp)
  |str j=>obtain⟨t',rfl⟩:=ry;exact ne_str<|qC I q<|congrArg not L3
  |_=>exact absurd (show false=true from hs) ah
 |sV i=>
  obtain⟨t,rfl⟩:=rx;cases y with
  |sV j=>obtain⟨t',rfl⟩:=ry;exact PySem.W.ne_bytes<|qC I q<|congrArg not LY
  |_=>exact absurd (show false=true from hs) ah
 |_=>cases y<;>exact absurd (show false=true from hs) ah
def Wb:c_ X (bz .Lt) (sR λi j=>.bl<|decide (i<j)):=FQ λ_ _ _ _ _ _ _ q=>lt_int q
def Wc:c_ X (bz .LtE) (sR λi j=>.bl<|decide (i<=j)):=FQ λ_ _ _ _ _ _ _ q=>le_int q
def bT:c_ X (bz .Gt) (sR λi j=>.bl<|decide (j<i)):=FQ λ_ _ _ _ _ _ _ q=>gt_int q
def WH:c_ X (bz .Is) (λx y H Q=>y=.aG/\Q (.bl<|decide (x=.aG)) H):=by
 intro pZ s σ H x y v u Q I rx ry h;obtain⟨rfl,q⟩:=h;cases ry;refine is_none_gen<|qC I q ?_;cases x<;>first
  |(cases rx;rfl)
  |(obtain⟨t,rfl⟩:=rx;rfl)
def MH:c_ X (bz .IsNot) (λx y H Q=>y=.aG/\Q (.bl<|!decide (x=.aG)) H):=by
 intro pZ s σ H x y v u Q I rx ry h;obtain⟨rfl,q⟩:=h;cases ry;refine isnot_none_gen<|qC I q ?_;cases x<;>first
  |(cases rx;rfl)
  |(obtain⟨t,rfl⟩:=rx;rfl)
def c_.or(h:c_ X f r)(h':c_ X f r'):c_ X f (λx y H Q=>r x y H Q\/r' x y H Q):=by
 intro pZ s σ H x y v u Q I rx ry q;rcases q with q|q
 .exact h pZ s σ H x y v u Q I rx ry q
 .exact h' pZ s σ H x y v u Q I rx ry q
def yA(b:Expr)(h:op≠.In:=by decide)(h2:op≠.NotIn:=by decide):gu op b=false:=by
 have e1:(op == CmpOp.In)=false:=by cases op<;>first|rfl|exact absurd rfl h
 have e2:(op == CmpOp.NotIn)=false:=by cases op<;>first|rfl|exact absurd rfl h2
 cases b<;>simp[gu,e1,e2]
def S7{op:CmpOp}{r:R2}(ho:c_ X (bz op) r)(ha:PE X a ta)(hb:PE X b tb)(hm:gu op b=false):PE X (.Compare a [op] [b] pos) (Cs r ta tb):=by
 intro pZ s σ H Q I h;exact wpAny_Compare1 (FL ha hb I h λv u s2 x y H2 I2 rx ry q=>ho pZ s2 σ H2 x y v u Q I2 rx ry q) hm
noncomputable def Kt(t:TE):TT:=λσ H Q=>t σ H λx H'=>∃k,x=.bl k/\Q k H'
def X8(ho:c_ X (bz op) r)(ha:PE X a ta)(hb:PE X b tb)(hm:gu op b=false):PT X (.Compare a [op] [b] pos) (Kt<|Cs r ta tb):=by
 intro pZ s σ H Q I h;refine wpAny_isTrue_Compare1 (aS (ha pZ s σ H _ I h) λv s1 ⟨x,H1,I1,r1,q1⟩=>aS (hb pZ s1 σ H1 _ I1 q1) λu s2 ⟨y,H2,I2,r2,q2⟩=>
  aS (ho pZ s2 σ H2 x y v u _ I2 r1 r2 q2) λc s3 ⟨z,H3,I3,r3,k,e,q3⟩=>?_) hm
 subst e;cases r3;exact gh ⟨H3,I3,q3⟩
noncomputable def GJ(r r':R2)(ta tb tc:TE):TE:=λσ H Q=>ta σ H λx H1=>tb σ H1 λy H2=>r x y H2 λz H3=>∃k,z=.bl k /\
 (if k=true then tc σ H3 λw' H4=>r' y w' H4 Q else Q (.bl false) H3)
def Ul(ho:c_ X (bz op) r)(iG:c_ X (bz wj) r')(ha:PE X a ta)(hb:PE X b tb)(hc:PE X c tc)(hm:lastMarks [op,wj] [b,c]=false:=by with_unfolding_all rfl):PE X (.Compare a [op,wj] [b,c] pos) (GJ r r' ta tb tc):=by
 intro pZ s σ H Q I h;refine Compare_chain (aS (ha pZ s σ H _ I h) λv s1 ⟨x,H1,I1,r1,q1⟩=>chain_link (aS (hb pZ s1 σ H1 _ I1 q1) λu s2 ⟨y,H2,I2,r2,q2⟩=>
  aS (ho pZ s2 σ H2 x y v u _ I2 r1 r2 q2) λd s3 ⟨z,H3,I3,r3,k,e,q3⟩=>?_)) hm
 subst e;cases r3;refine gh ?_;cases k with
 |false=>exact ite_ff ⟨.bl false,H3,I3,rfl,q3⟩
 |true=>exact ite_tt<|chain_last<|aS (hc pZ s3 σ H3 _ I3 q3) λw' s4 ⟨z',H4,I4,r4,q4⟩=>iG pZ s4 σ H4 y z' u w' Q I4 r2 r4 q4
def Uq(ho:c_ X (bz op) r)(iG:c_ X (bz wj) r')(ha:PE X a ta)(hb:PE X b tb)(hc:PE X c tc)(hm:lastMarks [op,wj] [b,c]=false:=by with_unfolding_all rfl):PT X (.Compare a [op,wj] [b,c] pos) (Kt<|GJ r r' ta tb tc):=by
 intro pZ s σ H Q I h;refine isTrue_chain (aS (ha pZ s σ H _ I h) λv s1 ⟨x,H1,I1,r1,q1⟩=>test_link (aS (hb pZ s1 σ H1 _ I1 q1) λu s2 ⟨y,H2,I2,r2,q2⟩=>
  aS (ho pZ s2 σ H2 x y v u _ I2 r1 r2 q2) λd s3 ⟨z,H3,I3,r3,k,e,q3⟩=>?_)) hm
 subst e;cases r3;refine gh ?_;cases k with
 |false=>
  obtain⟨k',e',q'⟩:=q3;cases e';exact ite_ff ⟨H3,I3,q'⟩
 |true=>
  refine ite_tt<|test_last<|aS (hc pZ s3 σ H3 _ I3 q3) λw' s4 ⟨z',H4,I4,r4,q4⟩=>aS (iG pZ s4 σ H4 y z' u w' _ I4 r2 r4 q4) λd' s5 ⟨z2,H5,I5,r5,k2,e2,q5⟩=>?_;subst e2;cases r5;exact gh ⟨H5,I5,q5⟩
def FK(K:Fg)(x:V)(H:Hp)(k:Bool):Prop:=
 match x with
 |.aG=>k=false
 |.bl b=>k=b
 |.int i=>k=(i != 0)
 |.str y=>y.length<=ag/\k=((y.length:Int) != 0)
 |.sV y=>y.size<=ag/\k=((y.size:Int) != 0)
 |.ref p=>(∃xs,aV K H p xs/\k = !xs.isEmpty)\/(∃xs,eI K H p xs/\k = !xs.isEmpty)\/∃aM,H p=aA (.dK aM)/\k = !aM.isEmpty
 |_=>False
def JV(r:KV aM vs):(!vs.isEmpty) = !aM.isEmpty:=by
 cases r<;>rfl
def ZL(r:Vals xs its):(!its.toArray.isEmpty) = !xs.isEmpty:=by
 cases r<;>simp
def WU:(ag:Nat)<2 ^ 63:=by rw[sizeLine_eq];decide
def RQ:O2 X (λx H Q=>∃k,FK X.K x H k/\Q k H):=by
 intro pZ s σ H x v Q I rx h;obtain⟨k,e,q⟩:=h;have hl:=WU;have hs:ag=16777216:=sizeLine_eq;cases x with
 |aG=>
  cases rx;have e':k=false:=e;subst e';exact truthy_none ⟨H,I,q⟩
 |bl b=>
  cases rx;have e':k=b:=e;subst e';exact gh ⟨H,I,q⟩
 |int i=>
  obtain⟨t,rfl⟩:=rx;have e':k=(i != 0):=e;subst e';exact PySem.P.truthy_int ⟨H,I,q⟩
 |str y=>
  obtain⟨t,rfl⟩:=rx;obtain⟨hy,e'⟩:y.length<=ag/\k=((y.length:Int) != 0):=e;subst e';exact PySem.P.truthy_str (by omega) ⟨H,I.tok _,q⟩
 |sV y=>
  obtain⟨t,rfl⟩:=rx;obtain⟨hy,e'⟩:y.size<=ag/\k=((y.size:Int) != 0):=e;subst e';exact PySem.W.truthy_bytes (by omega) ⟨H,I.tok _,q⟩
 |ref p=>
  cases rx;have e':(∃xs,aV X.K H p xs/\k = !xs.isEmpty)\/(∃xs,eI X.K H p xs/\k = !xs.isEmpty)\/∃aM,H p=aA (.dK aM)/\k = !aM.isEmpty:=e;rcases e' with⟨xs,hx,e'⟩|⟨xs,hx,e'⟩|⟨aM,hx,e'⟩
  .subst e';obtain⟨its,r,pl,hz⟩:=I.list hx;have hlen:=r.length;exact wpAny_truthy_list pl.isList (by simp only[ai];omega) ⟨H,I.tok _,by rw[ZL r];exact q⟩
  .subst e';obtain⟨its,r,pl,hz⟩:=I.tuple hx;have hlen:=r.length;exact truthy_tuple pl (by simp only[ai];omega) ⟨H,I.tok _,by rw[ZL r];exact q⟩
  .subst e';obtain⟨hz,hS,vs,r,m⟩:aM.length<=ag/\(p == ly)=false/\∃vs,KV aM vs/\s.heap.DictOf (Hg X.prog X.w) p vs:=I.aP p _ hx;have hlen:aM.length=vs.length:=Paired.length r;exact wpAny_truthy_dict hS m (by omega) ⟨H,I.tok _,by rw[JV r];exact q⟩
 |_=>exact(show False from e).elim
def Nl(ha:PE X a ta)(he:∀gH,isTrue a X.env gH=(do let v <- gH;standAt a.pos;holding [v] (truthy v))):PT X a (λσ H Q=>ta σ H λx H'=>∃k,FK X.K x H' k/\Q k H'):=by
 intro pZ s σ H Q I h;exact isTrue_plain (aS (ha pZ s σ H _ I h) λv s1 ⟨x,H1,I1,r1,q1⟩=>RQ pZ s1 σ H1 x v Q I1 r1 q1)<|he _
def We:c_ X (binaryOp .Add) (λx y H Q=>∃i j,x=.str i/\y=.str j/\i.length+j.length<=ag/\Q (.str<|i++j) H):=by
 intro pZ s σ H x y v u Q I rx ry h;obtain⟨i,j,rfl,rfl,hz,q⟩:=h;obtain⟨t,rfl⟩:=rx;obtain⟨t',rfl⟩:=ry;exact add_str (λt' tk=>⟨.str<|i++j,H,I.tok _,⟨_,rfl⟩,q⟩) hz
def Eb(r:Vals [x] us):∃u,us=[u]/\RelV x u:=by
 cases r with
 |cons r1 r2=>cases r2;exact⟨_,rfl,r1⟩
def Gc(r:Vals [x,y] us):∃u w',us=[u,w']/\RelV x u/\RelV y w':=by
 cases r with
 |cons r1 r2=>
  cases r2 with
  |cons r3 r4=>cases r4;exact⟨_,_,rfl,r1,r3⟩
def Va(hc:X.calm=true):iJ X (.builtin "max") (λxs H Q=>∃i j,xs=[.int i,.int j]/\Q (.int (if j > i then j else i)) H):=by
 intro pZ s σ H xs us Q I r h;obtain⟨i,j,rfl,q⟩:=h;obtain⟨u,w',rfl,⟨t,rfl⟩,⟨t',rfl⟩⟩:=Gc r;refine max_two_ints (I.ok.hd hc) λh' tk k=>⟨_,H,I.kept k,?_,q⟩
 by_cases hj:j > i
 .rw[if_pos hj,if_pos hj];exact⟨_,rfl⟩
 .rw[if_neg hj,if_neg hj];exact⟨_,rfl⟩
def è:iJ X (.type "str") (λxs H Q=>∃i,xs=[.int i]/\i.natAbs.log2<1920/\Q (.str<|toString i) H):=by
 intro pZ s σ H xs us Q I r h;obtain⟨i,rfl,hz,q⟩:=h;obtain⟨u,rfl,t,rfl⟩:=Eb r;exact PySem.P.str_of_int hz ⟨.str _,H,I.tok _,⟨_,rfl⟩,q⟩
structure I_(h:Heap)(x dx C:Addr)(mA:Str->Option Value):Prop where
 obj:h.get? x=aA (px C dx)
 ns:h.Ns1 dx mA
 ne:dx≠x
def U5{h:Heap}{dx:Addr}{mA:Str->Option Value}(n:h.Ns1 dx mA):∃od,h.get? dx=aA od/\∀name,qh name od=aA (mA name):=by
 obtain⟨o,es,ep,ho,hd,hk,_,hm⟩:=n;refine⟨o,ho,λname=>?_⟩;have e:=hm name;unfold nsFind findBy at e;rw[<-Array.find?_toList] at e;unfold qh;rw[hd];dsimp only;split
 .rename_i y q;rw[q] at e;exact congrArg aA e
 .rename_i q;rw[q] at e;have a:es.toList.any (·.refKey)=false:=by
   rw[List.any_eq_false];intro y hy;obtain⟨z,t,Zg⟩:=hk y<|Array.mem_toList_iff.mp hy;simp[DictEntry.refKey,Zg]
  have a':¬es.toList.any (·.refKey)=true:=by rw[a];exact ah
  rw[if_neg a'];exact congrArg aA e
def I_.look(I:I_ h x dx C mA):∃od,PySem.W.InstAt h x (px C dx) C (aA od)/\∀name,qh name od=aA (mA name):=
 let ⟨od,ho,hl⟩:=U5 I.ns
 ⟨od,⟨I.obj,rfl,rfl,ho⟩,hl⟩
def Sy(aP:fG P w H h)(e:H a=aA (.ins C dx fs)):∃mA,I_ h a dx C mA/\(∀f,FJ (fs.lookup f)<|mA f)/\PySem.Within mA (fs.map (·.1))/\fs.length<=1000/\H dx=aA (.own a):=by
 obtain⟨d,z,ne,ob,mA,n,r,q⟩:=(show iB P w H h a (.ins C dx fs) from aP a _ e);exact⟨mA,⟨ob,n,ne⟩,r,q,z,d⟩
structure Je(K:Fg)(C:Addr):Prop where
 pg:PySem.W.plainGet K C Str.empty=true
 hd:PySem.W.hasDictIn K C=true
 po:PySem.W.plainOver K C=true
 sa:PySem.W.findIn K (.ref C) "__setattr__" = aA (aA<|.builtin "object.__setattr__")
def Je.get{K:Fg}(c:Je K C)(f:Str):PySem.W.plainGet K C f=true:=c.pg
inductive vp (K:Fg) (H:Hp):V->Value->Prop where
 |aG:vp K H .aG (.type "NoneType")
 |bl (x:Bool):vp K H (.bl x) (.type "bool")
 |int (i:Int):vp K H (.int i) (.type "int")
 |str (x:Str):vp K H (.str x) (.type "str")
 |B4 (x:UInt64):vp K H (.B4 x) (.type "float")
 |lst {a:Addr} {xs:List V} (e:H a=aA (.lst xs)):vp K H (.ref a) (.type "list")
 |iO {a:Addr} {o:Obj} {xs:List V} (e:H a=aA (.iO o<|.lst xs)):vp K H (.ref a) (.type "list")
 |tup {a:Addr} {xs:List V} (e:H a=aA (.tup xs)):vp K H (.ref a) (.type "tuple")
 |dK {a:Addr} {aM:List (Key×V)} (e:H a=aA (.dK aM)):vp K H (.ref a) (.type "dict")
 |dT {a:Addr} {aM:List (List Key×V)} (e:H a=aA (.dT aM)):vp K H (.ref a) (.type "dict")
 |ins {a C dx:Addr} {fs:List (Str×V)} (e:H a=aA (.ins C dx fs)) (cl:Je K C) (ha:PySem.W.findIn K (.ref C) "__class__" = aA (aA<|.builtin "object.__class__"))
   (hn:PySem.W.specialIn K (.builtin "object.__class__") "__get__" = aA (aA<|.builtin "getset_descriptor.__get__")) (Oa:PySem.W.takesIn K (.builtin "object.__class__")=aA true)
   (hm:PySem.W.mroIn K C (.type "object")=aA true):vp K H (.ref a) (.ref C)
def n5(I:Inv X pZ σ H s)(rx:RelV x u)(ty:vp X.K H x t)(e:nh X.K t c=aA b)(h:∀tk,Q (.bool b) { s with toks:=tk }):wpAny (model X.prog X.w) A (call (.builtin "isinstance") [u,c]) Q E s:=by
 cases ty with
 |aG=>cases (show u=Value.none from rx);exact di PySem.W.kitx_none I.fO True.intro e (λz=>nomatch z) h
 |bl y=>cases (show u=Value.bool y from rx);exact di PySem.W.kitx_bool I.fO True.intro e (λz=>nomatch z) h
 |int i=>obtain⟨t,q⟩:=(show ∃t,u=Value.int i t from rx);cases q;exact di PySem.W.kitx_int I.fO True.intro e (λz=>nomatch z) h
 |str y=>obtain⟨t,q⟩:=(show ∃t,u=Value.str y t from rx);cases q;exact di PySem.W.kitx_str I.fO True.intro e (λz=>nomatch z) h
 |B4 y=>obtain⟨t,q⟩:=(show ∃t,u=Value.float y t from rx);cases q;exact di PySem.W.kitx_float I.fO True.intro e (λz=>nomatch z) h
 |@lst a xs ea=>
  cases (show u=Value.ref a from rx);obtain⟨_,_,n,_,h1⟩:=(show iB X.prog X.w H s.heap a (.lst xs) from I.aP a _ ea);exact di ox I.fO ⟨_,h1,rfl⟩ e (λz=>nomatch z) h
 |@iO a ob xs ea=>
  cases (show u=Value.ref a from rx);obtain⟨_,_,_,n,_,h1⟩:=(show iB X.prog X.w H s.heap a (.iO ob<|.lst xs) from I.aP a _ ea);exact di ox I.fO ⟨_,h1,rfl⟩ e (λz=>nomatch z) h
 |@tup a xs ea=>
  cases (show u=Value.ref a from rx);obtain⟨_,_,_,p⟩:=(show iB X.prog X.w H s.heap a (.tup xs) from I.aP a _ ea);obtain⟨o,h1,h2,_⟩:=p;exact di PySem.W.kitx_tuple I.fO ⟨o,h1,h2⟩ e (λz=>nomatch z) h
 |@dK a aM ea=>
  cases (show u=Value.ref a from rx);obtain⟨_,_,vs,_,p⟩:=(show iB X.prog X.w H s.heap a (.dK aM) from I.aP a _ ea);obtain⟨o,es,ep,h1,h2,_⟩:=p;exact di PySem.W.kitx_dict I.fO ⟨o,h1,h2.1⟩ e (λz=>nomatch z) h
 |@dT a aM ea=>
  cases (show u=Value.ref a from rx);obtain⟨_,_,xs,_,o,es,ep,h1,h2,_⟩:=(show iB X.prog X.w H s.heap a (.dT aM) from I.aP a _ ea);exact di PySem.W.kitx_dict I.fO ⟨o,h1,h2.1⟩ e (λz=>nomatch z) h
 |@ins a C dx fs ea cl ha hn Oa hm=>
  cases (show u=Value.ref a from rx);obtain⟨mA,O,_⟩:=Sy I.aP ea;obtain⟨od,J,_⟩:=O.look;exact di (PySem.W.kitx_own (cl.get _) cl.hd ha hn Oa hm) I.fO J e (λz=>nomatch z) h
structure eR(k:Nat)(A:Around):Prop where
 hd:A.handled=aB
 dp:A.depth+3*k+5<recursionLimit
 un:A.units+16*k+200<cLine
 gd:A.guards=aA []
def eR.mono(r:eR k A)(h:j<=k):eR j A:=⟨r.hd,by have:=r.dp;omega,by have:=r.un;omega,r.gd⟩
def eR.deeper(r:eR (k+1) A)(env:Env):eR k (A.deeper env):=
 ⟨r.hd,by have:=r.dp;show A.depth+1+3*k+5<_;omega,by have:=r.un;show A.units+3+16*k+200<_;omega,r.gd⟩
def eR.depth(r:eR k A):A.depth<recursionLimit:=by have:=r.dp;omega
def eR.aX(r:eR k A):A.units<cLine:=by have:=r.un;omega
noncomputable def Cg:TA:=λ_ H Q=>Q [] H
noncomputable def Ea(ta:TE)(tr:TA):TA:=λσ H Q=>ta σ H λx H1=>tr σ H1 λxs H2=>Q (x::xs) H2
def kT:PA X [] Cg:=λ_ _ _ _ H Q I h=>Calls.spliced_nil ⟨[],H,I,.nil,h⟩
def wV(ha:PE X e te)(hr:PA X es t)(hs:sL X e es:=by rfl):PA X (e::es) (Ea te t):=by
 intro pos pZ s σ H Q I h;rw[hs];show wpAny _ _ (spliced ((false,eval e X.env)::ph pos (aq es X.env))) _ _ s;refine Calls.spliced_cons<|aS (ha pZ s σ H _ I h) λu s1 ⟨x,H1,I1,r1,q1⟩=>?_;exact aS (hr pos pZ s1 σ H1 _ I1 q1) λus s2 ⟨xs,H2,I2,r2,q2⟩=>⟨x::xs,H2,I2,.cons r1 r2,q2⟩
def Pz(t:TA):TE:=λσ H Q=>t σ H λxs H1=>xs.length<=ag/\∀p,H1 p=aB->Q (.ref p) (upd H1 p<|.tup xs)
def Po(t:TA):TE:=λσ H Q=>t σ H λxs H1=>xs.length<=ag/\∀p,H1 p=aB->Q (.ref p) (upd H1 p<|.lst xs)
def Lk{x1}(h:PA X es t):PE X (.Tuple es x1 pos) (Pz t):=by
 intro pZ s σ H Q I hq;refine wpAny_Tuple_spliced<|aS (h pos pZ s σ H _ I hq) λus s1 ⟨xs,H1,I1,r,z,q⟩=>⟨by rw[<-r.length];exact z,?_⟩;have hf:H1 s1.heap.objs.size=aB:=I1.aP.fresh<|ao _;refine⟨.ref s1.heap.objs.size,upd H1 s1.heap.objs.size<|.tup xs,I1.laid (t':=s1.toks) (λb u e=>ay _ e) (ao _) ?_,rfl,q _ hf⟩;exact⟨z,us,r,⟨_,cn _ rfl,rfl,_,rfl⟩⟩
def R_(h:PA X es t):PE X (.List es pos) (Po t):=by
 intro pZ s σ H Q I hq;refine wpAny_List_spliced<|aS (h pos pZ s σ H _ I hq) λus s1 ⟨xs,H1,I1,r,z,q⟩=>⟨by rw[<-r.length];exact z,?_⟩;have hf:H1 s1.heap.objs.size=aB:=I1.aP.fresh<|ao _;refine⟨.ref s1.heap.objs.size,upd H1 s1.heap.objs.size<|.lst xs,I1.laid (t':=s1.toks) (λb u e=>ay _ e) (ao _) ?_,rfl,q _ hf⟩;exact⟨z,us,0,r,cn _ rfl⟩
abbrev Sp:=List V->Hp->VK->XK->Prop
abbrev AI:=List Env->Hp->Shared->XK->Value->Shared->Prop
structure FD(P:Program)(w:World)(K:Fg)(mg:Str->Option Value)(base:Heap)(A:Around)(outer:List Env)(s:Shared)(H:Hp):Prop where
 frames:A.frames=aA outer
 mod:Mod K mg base
 bs:∀b o,base.get? b=aA o->s.heap.get? b=aA o/\H b=aB
 ww:base.objs.size<=s.heap.objs.size
 m_:s.heap.FunFrames base outer
 zo:OX K outer H
 aP:fG P w H s.heap
 bare:AllBare s.gens
def CE(outer:List Env)(P:Program)(w:World)(H:Hp)(s:Shared)(Q:VK)(u:Value)(s':Shared):Prop:=
 ∃v H',s'.os=s.os/\AllBare s'.gens/\Un (fR outer) [] H H' s.heap s'.heap/\fG P w H' s'.heap/\RelV v u/\Q v H'
def CR(CX:AI)(outer:List Env)(P:Program)(w:World)(H:Hp)(s:Shared)(Q:VK)(E:XK)(r:Result)(s':Shared):Prop:=
 match r with
 |.ok (.ret u)=>CE outer P w H s Q u s'
 |.ok _=>False
 |.error e=>CX outer H s E e s'
structure eG(P:Program)(w:World)(K:Fg)(mg:Str->Option Value)(base:Heap)(CX:AI)(k:Nat)(f:Addr)(fd:FuncData)(ps:List Str)(sp:Sp):Prop where
 len:∀vs H Q E,sp vs H Q E->vs.length=ps.length
 run:∀(A:Around) (outer:List Env) (s:Shared) (H:Hp) (args:Args) (us:List Value) (vs:List V) (Q:VK) (E:XK),eR k A->FD P w K mg base A outer s H->BindsTo s fd args (ps.zip us)->Vals vs us->sp vs H Q E ->
  codeAny (model P w) A (.call (.ref f) args) (CR CX outer P w H s Q E) s
def eG.imp{K:Fg}(F:eG P w K mg base CX k f fd ps sp)(h:∀vs H Q E,VV vs H Q E->sp vs H Q E):eG P w K mg base CX k f fd ps VV:=
 ⟨λvs H Q E q=>F.len vs H Q E<|h _ _ _ _ q,λA outer s H args us vs Q E hr he hb hv hs=>F.run A outer s H args us vs Q E hr he hb hv<|h _ _ _ _ hs⟩
def Inv.OG(I:Inv X pZ σ H s):FD X.prog X.w X.K X.mg X.base X.A X.stack s H:=
 ⟨I.ok.frames,I.ok.mod,I.bs,bf I.ok.ww I.sz,I.stack,⟨I.Hs,I.tabIn⟩,I.aP,I.bare⟩
def Inv.after(I:Inv X pZ σ H s)(h:CE X.stack X.prog X.w H s Q u s'):EP X pZ σ Q u s':=by
 obtain⟨v,H',os,bare,un,aP,r,q⟩:=h;obtain⟨hh,g,d,t,NK⟩:=s';obtain rfl:NK=s.os:=os;exact⟨v,H',I.call (h':=hh) (g':=g) (d':=d) (t':=t) (ch:=[]) un aP bare λb z=>absurd z<|by simp,r,q⟩
noncomputable def Ks(sp:Sp)(dvs:List V)(E:XK)(t:TA):TE:=λσ H Q=>t σ H λvs H1=>sp (vs++dvs) H1 Q E
def Binds(K:Fg)(fd:FuncData)(ps:List Str)(ds:List Value):Prop:=
 ∀(s:Shared) (us:List Value),K.In s.heap->(us++ds).length=ps.length->BindsTo s fd ⟨us,[]⟩ (ps.zip<|us++ds)
def Binds.all{K:Fg}(h:∀us:List Value,us.length=ps.length->bindArgs fd ⟨us,[]⟩=pure (ps.zip us)):Binds K fd ps []:=λs us _ hl=>by
 rw[dk] at hl ⊢;exact .of_eq<|h us hl
def J8(CX:AI)(X:Cx)(E:XK):Prop:=∀(pZ:List (Addr×Obj)) (σ:St) (H:Hp) (s:Shared) (e:Value) (s':Shared),Inv X pZ σ H s->CX X.stack H s E e s'->X.xe e s'
def Lr(F:eG X.prog X.w X.K X.mg X.base CX k f fd ps sp)(hr:eR k X.A)(hb:Binds X.K fd ps ds)(hd:Vals dvs ds)(hx:J8 CX X E)(I:Inv X pZ σ H s)(r:Vals vs us)(h:sp (vs++dvs) H Q E):wpAny (model X.prog X.w) X.A (call (.ref f) us) (EP X pZ σ Q) X.xe s:=by
 have r2:Vals (vs++dvs) (us++ds):=r.append hd;have hl:(us++ds).length=ps.length:=by rw[<-r2.length];exact F.len _ _ _ _ h
 refine wpAny_call<|oq (F.run X.A X.stack s H ⟨us,[]⟩ (us++ds) (vs++dvs) Q E hr I.OG (hb s us I.fO hl) r2 h) λr s' hq=>?_;cases r with
 |error e=>exact hx pZ σ H s e s' I hq
 |ok fl=>
  cases fl with
  |ret u=>exact I.after hq
  |next=>exact fj hq
  |brk=>exact fj hq
  |cont=>exact fj hq
def ZD(F:eG X.prog X.w X.K X.mg X.base CX k f fd ps sp)(hr:eR k X.A)(hg:Gl X x)(hm:X.mg x=aA (.ref f))(hk:dj X.K (.ref f)=true)(hb:Binds X.K fd ps ds)(hd:Vals dvs ds)(hx:J8 CX X E)(ha:PA X (e::es) t)(fE:e_ x:=by decide)(he:sL X e es:=by rfl)(hpl:xi X es pos:=by rfl):PE X (.Call (.Name x p) (e::es) [] pos) (Ks sp dvs E t):=by
 intro pZ s σ H Q I h;refine ju<|pQ I hg hm ?_ fE;refine PySem.W.callWith_K (h₀:=X.base) I.ok.mod.BX hk (aS (ha pos pZ s σ H _ I h) λus s1 ⟨vs,H1,I1,r,q⟩=>⟨I1.fO,?_⟩) he hpl;exact Lr F hr hb hd hx I1 r q
def Uk(F:eG X.prog X.w X.K X.mg X.base CX k f fd ps sp)(hr:eR k X.A)(hg:Gl X x)(hm:X.mg x=aA (.ref f))(hk:dj X.K (.ref f)=true)(hb:Binds X.K fd ps ds)(hd:Vals dvs ds)(hx:J8 CX X E)(fE:e_ x:=by decide):PE X (.Call (.Name x p) [] [] pos) (Ks sp dvs E Cg):=by
 intro pZ s σ H Q I h;refine ju<|pQ I hg hm ?_ fE;exact PySem.W.callWith_K0 I.fO hk<|Lr (us:=[]) F hr hb hd hx I .nil h
structure b_(N P:List Str)(sc:Scope):Prop where
 kind:sc.kind=.function
 co:sc.isCoroutine=false
 gen:sc.isGenerator=false
 nd:N.Nodup
 pre:N.take P.length=P
 par:∀x∈P,sc.names.lookup x=aA .local\/sc.names.lookup x=aA .cell
 Wo:∀y∈sc.names,y.2≠.free
theorem QR{kindOf:Str->Option NameKind}:∀{binds:List (Str×Value)} {m:Str->Option Value},(∀v,(x,v)∉binds)->bindL kindOf binds m x=m x
 |[],_,_=>rfl
 |(n,v)::r,m,h=>by
  unfold bindL;rw[QR λw hw=>h w<|cj _ hw];split
  .have:x≠n:=by rintro rfl;exact h v be
   simp[this]
  .rfl
theorem QT{kindOf:Str->Option NameKind}:∀{binds:List (Str×Value)} {m:Str->Option Value},(∀v,(x,v)∉binds)->bindC kindOf binds m x=m x
 |[],_,_=>rfl
 |(n,v)::r,m,h=>by
  unfold bindC;rw[QT λw hw=>h w<|cj _ hw];split
  .rfl
  .have:x≠n:=by rintro rfl;exact h v be
   simp[this]
theorem QS{kindOf:Str->Option NameKind}:∀{P:List Str} {vs:List Value} {i:Nat} {m:Str->Option Value},P.Nodup->P[i]?=aA x->vs[i]?=aA v->kindOf x=aA .local ->
  bindL kindOf (P.zip vs) m x=aA v
 |[],_,_,_,_,h,_,_=>by simp at h
 |_::_,[],_,_,_,_,h,_=>by simp at h
 |p::P,w::vs,0,m,nd,h1,h2,hk=>by
  simp at h1 h2;subst h1;subst h2;show bindL kindOf ((p,w)::P.zip vs) m p=_;unfold bindL;rw[QR λv hv=>(mr.mp nd).1 (qb hv).1,if_pos hk];simp
 |p::P,w::vs,i+1,m,nd,h1,h2,hk=>by
  show bindL kindOf ((p,w)::P.zip vs) m x=_;unfold bindL;exact QS (i:=i) (mr.mp nd).2 (by simpa using h1) (by simpa using h2) hk
theorem QU{kindOf:Str->Option NameKind}:∀{P:List Str} {vs:List Value} {i:Nat} {m:Str->Option Value},P.Nodup->P[i]?=aA x->vs[i]?=aA v->kindOf x≠aA .local ->
  bindC kindOf (P.zip vs) m x=aA v
 |[],_,_,_,_,h,_,_=>by simp at h
 |_::_,[],_,_,_,_,h,_=>by simp at h
 |p::P,w::vs,0,m,nd,h1,h2,hk=>by
  simp at h1 h2;subst h1;subst h2;show bindC kindOf ((p,w)::P.zip vs) m p=_;unfold bindC;rw[QT λv hv=>(mr.mp nd).1 (qb hv).1,if_neg hk];simp
 |p::P,w::vs,i+1,m,nd,h1,h2,hk=>by
  show bindC kindOf ((p,w)::P.zip vs) m x=_;unfold bindC;exact QU (i:=i) (mr.mp nd).2 (by simpa using h1) (by simpa using h2) hk
def start(N:List Str)(vs:List V):St:=vs.map aA++bq (N.length-vs.length) aB
def gE(CX:AI)(P:Program)(w:World)(K:Fg)(mg:Str->Option Value)(base:Heap)(N:List Str)(qual:Str)(scope:Scope)(f:Addr)(cd:Value)(A:Around)(outer:List Env)(s:Shared)(H:Hp)(E:XK):Cx where
 prog:=P
 w:=w
 K:=K
 mg:=mg
 base:=base
 A:=A.deeper<|envOfC qual scope s.heap.objs.size f cd
 N:=N
 s₀:=s
 H₀:=H
 env:=envOfC qual scope s.heap.objs.size f cd
 outer:=outer
 stack:=envOfC qual scope s.heap.objs.size f cd::outer
 ex:=[]
 calm:=true
 fn:=λ_=>true
 pn:=[]
 xe:=λe s'=>wpAny (model P w) (A.deeper<|envOfC qual scope s.heap.objs.size f cd) (leaving (envOfC qual scope s.heap.objs.size f cd) e) (λ_ Hy=>CX outer H s E e Hy) (λe' Hy=>CX outer H s E e' Hy) s'
def Nf{sc:Scope}{n:Nat}{x:Str}(h:sc.names.lookup x=aA .cell):∃c,(cellsFrom n sc.names []).lookup x=aA c:=by
 have q:=sj sc.names n []<|.inl h;exact js.mp q
def UY{K:Fg}(S:b_ N ps scope)(hd:A.handled=aB)(e0:FD P w K mg base A outer s H)(hl:vs.length=ps.length)(r:Vals vs us)(x:InCallC s s.heap.objs.size (bindL (envOfC qual scope s.heap.objs.size f cd).kindOf (ps.zip us) λ_=>aB) (cellsFrom (s.heap.objs.size+1) scope.names []) (bindC (envOfC qual scope s.heap.objs.size f cd).kindOf (ps.zip us) λ_=>aB) s1):Inv (gE CX P w K mg base N qual scope f cd A outer s H E) [] (start N vs) H s1:=by
 have hpl:ps.length<=N.length:=by have:=congrArg cx S.pre;rw[ck] at this;omega
 obtain⟨h1,tk,rfl,hk⟩:=x.done;have CA:∀b:Addr,b∉(gE CX P w K mg base N qual scope f cd A outer s H E).ex:=λb z=>absurd (show b∈([]:List Addr) from z) (by simp)
 refine⟨⟨e0.mod,S.kind,rfl,rfl,ao _,λy z c h1 h2=>?_,λy hy=>?_,λy c _ h=>?_,λ_=>hd,Around.frames_deeper e0.frames,.inr ⟨rfl,rfl⟩,λb z=>absurd z<|CA b,e0.bs,e0.ww,λb _ _=>CA b,λb z=>absurd z<|CA b,e0.m_,e0.zo⟩,
  rfl,e0.bare,Un.kept hk,⟨_,x.toInCall.ns,λi y v h1 h2 h3=>?_⟩,λy c h=>⟨_,x.cell y c h⟩,e0.aP.fresh (ao _),λy c h=>?_,λp hp=>absurd (show p∈([]:List (Addr×Obj)) from hp)<|by simp,e0.aP.kept hk,?_⟩
 .exact name_of_addr x.apart (fg h1)<|fg h2
 .have hy:scope.names.lookup y=aA .cell\/scope.names.lookup y=aA .free:=hy;rcases hy with hy|hy
  .exact Nf hy
  .exact absurd rfl<|S.Wo _<|fg hy
 .exact sy<|x.above y c<|fg h
 .have hi:i<vs.length:=by
   unfold start at h2;by_cases hi:i<vs.length
   .exact hi
   .rw[bn<|by simpa using hi] at h2;rw[de] at h2;split at h2<;>cases h2
  have ha:vs[i]?=aA v:=by
   unfold start at h2;rw[au<|by simpa using hi,az] at h2;cases e:vs[i]? with
   |none=>rw[e] at h2;cases h2
   |some a=>rw[e] at h2;cases h2;rfl
  obtain⟨u,hu,rv⟩:=r.get ha;have hp:ps[i]?=aA y:=by
   rw[<-S.pre,lm<|by omega];exact h1
  have NX:ps.Nodup:=by rw[<-S.pre];exact S.nd.sublist<|List.take_sublist _ _
  refine⟨u,rv,?_⟩;rcases S.par y (kl hp) with k|k
  .exact .inl ⟨k,QS NX hp hu k⟩
  .obtain⟨c,e⟩:=Nf (n:=s.heap.objs.size+1) k;refine .inr ⟨.inl k,c,e,?_⟩;have q:=x.cell y c e;rw[QU NX hp hu (by show scope.names.lookup y≠_;rw[k];decide)] at q;exact q
 .exact e0.aP.fresh<|sy<|x.above y c<|fg h
 .unfold start;show _=N.length;rw[ae,af,ui];omega
def Gk{K:Fg}{kV:Value}(lk:K.lookup f=aA ⟨oc,od,.func<|jk name qual params body scope dV kV doc pm an aN ct,xx⟩)(fJ:kv K aN qual=true)(S:b_ N ps scope)(len:∀vs H Q E,sp vs H Q E->vs.length=ps.length)(IF:∀(A:Around) (outer:List Env) (s:Shared) (H:Hp) (vs:List V) (Q:VK) (E:XK),eR k (A.deeper<|envOfC qual scope s.heap.objs.size f aN)->sp vs H Q E ->
   ∃t,eS (gE CX P w K mg base N qual scope f aN A outer s H E) body t/\t { nx:=λ_ H'=>Q .aG H',rt:=Q } (start N vs) H):eG P w K mg base CX (k+1) f (jk name qual params body scope dV kV doc pm an aN ct) ps sp:=by
 refine⟨len,λA outer s H args us vs Q E hr e0 hb r l_=>?_⟩;have hl:=len _ _ _ _ l_;have KX:K.In s.heap:=e0.mod.BX.keeps λb o e=>(e0.bs b o e).1
 have lim:s.heap.NoLimit:=e0.mod.nolimit.keeps λb o e=>(e0.bs b o e).1
 have Zf:∀y∈ps.zip us,scope.names.lookup y.1=aA .local\/(scope.names.lookup y.1=aA .cell/\((cellsFrom (s.heap.objs.size+1) scope.names []).lookup y.1).isSome=true):=λ⟨n,v⟩ hy=>by
  rcases S.par n (qb hy).1 with q|q
  .exact .inl q
  .exact .inr ⟨q,sj _ _ _<|.inl q⟩
 refine codeAny_call_function hr.depth (KX _ _ lk) rfl S.co S.gen rfl (PySem.W.codeRec_of KX fJ)<|hb _ _ _ _ ?_;refine wpAny_newFunctionEnv_cells S.kind Zf λenv he s1 x=>?_
 subst he;refine⟨lim.keeps x.toInCall.keep,codeAny_func ?_⟩;obtain⟨t,ht,hq⟩:=IF A outer s H vs Q E (hr.deeper _) l_;have I:Inv (gE CX P w K mg base N qual scope f aN A outer s H E) [] (start N vs) H s1:=UY S hr.hd e0 hl r x;refine fu (ht [] s1 (start N vs) H _ I hq) (λfl s' hs=>?_) λe s' hs=>hs
 have fin:∀{σ':St} {H':Hp} {v:V} {u:Value},Inv (gE CX P w K mg base N qual scope f aN A outer s H E) [] σ' H' s'->RelV v u->Q v H'->CE outer P w H s Q u s':=
  λ{σ' H' v u} J rv q=>⟨v,H',J.os,J.bare,J.base,J.aP,rv,q⟩
 cases fl with
 |ret u=>
  obtain⟨v,σ',H',J,rv,q⟩:=hs;exact fin J rv q
 |next=>
  obtain⟨σ',H',J,q⟩:=hs;exact fin (v:=V.aG) (u:=Value.none) J rfl q
 |brk=>
  obtain⟨_,_,_,q⟩:=hs;exact fj q
 |cont=>
  obtain⟨_,_,_,q⟩:=hs;exact fj q
section
variable{id:String}
def NA(r:List V->Hp->VK->Prop)(t:TA):TE:=λσ H Q=>t σ H λvs H1=>r vs H1 Q
def dY(hc:iJ X (.builtin id) r)(hg:Gl X x)(hm:X.mg x=aB)(hv:bootBuiltins x=aA (.builtin id))(ha:PA X (e::es) t)(hn:x ≠ "__name__" := by decide)(fE:e_ x:=by decide)(he:sL X e es:=by rfl)(hpl:xi X es pos:=by rfl):PE X (.Call (.Name x p) (e::es) [] pos) (NA r t):=by
 intro pZ s σ H Q I h;refine ju<|rX I hg hm hv ?_ hn fE;exact PyProof.Rows.callWith_builtin1 (aS (ha pos pZ s σ H _ I h) λus s1 ⟨vs,H1,I1,r1,q1⟩=>hc pZ s1 σ H1 vs us Q I1 r1 q1) he hpl
def nE(hc:iJ X (.type T) r)(hg:Gl X x)(hm:X.mg x=aB)(hv:bootBuiltins x=aA (.type T))(ha:PA X (e::es) t)(hn:x ≠ "__name__" := by decide)(fE:e_ x:=by decide)(he:sL X e es:=by rfl)(hpl:xi X es pos:=by rfl):PE X (.Call (.Name x p) (e::es) [] pos) (NA r t):=by
 intro pZ s σ H Q I h;refine ju<|rX I hg hm hv ?_ hn fE;exact gb (aS (ha pos pZ s σ H _ I h) λus s1 ⟨vs,H1,I1,r1,q1⟩=>hc pZ s1 σ H1 vs us Q I1 r1 q1) he hpl
end
end L2
namespace HT
open PySem PyProof.Rows
section
open PySem.SeqAt
open PySem.AutoSeq1 (wpAny_loadPart')
open PySem.MeetsSeq PySem.MeetsSeq2 PySem.MeetsSeq3
end
section
variable{prog:Program}{w:World}{A:Around}{E:Value->Shared->Prop}{s:Shared}
def ç(ht:IsTup s.heap t vs.toArray)(hb:IsTup s.heap b ws.toArray)(hv:vs≠[])(h1:ws=[]->Q (.ref t) s)(h2:ws≠[]->Q (.ref s.heap.objs.size) { s with heap:=s.heap.push { cls:=.type "tuple",data:=.seq (vs++ws).toArray } })(vi:vs.length+ws.length<=ag):wpAny (model prog w) A (binaryOp .Add (.ref t)<|.ref b) Q E s:=by
 obtain⟨⟨cls,dd,data,sl⟩,ho,hc,n,hd⟩:=id ht;obtain⟨⟨OL,Fk,data2,zf⟩,E5,Fc,n2,hd2⟩:=id hb;simp only at hc hd Fc hd2;subst hc hd Fc hd2;have e:vs.toArray++ws.toArray=(vs++ws).toArray:=by simp
 by_cases hw:ws=[]
 .exact sd ⟨_,ho,rfl⟩ ⟨_,E5,rfl⟩ noFill_tuple_add seq_tuple_add so rk (qz _ _)
   (tuple_addW1 t b vs.toArray ws.toArray n n2 dd Fk sl zf (by simpa using hv)<|by simp[hw]) ⟨ho,E5,h1 hw⟩
 .refine sd ⟨_,ho,rfl⟩ ⟨_,E5,rfl⟩ noFill_tuple_add seq_tuple_add so rk (qz _ _)
   (tuple_addW2 t b vs.toArray ws.toArray n n2 dd Fk sl zf (by simpa using hv) (by simpa using hw) (by rw[ai,ai];exact vi)) ⟨ho,E5,?_⟩
  rw[e];exact h2 hw
noncomputable def aO(n d:Nat):Option Int->Nat
 |none=>d
 |some v=>if v<0 then (v+(n:Int)).toNat else min v.toNat n
def EH(n d:Nat):aO n d aB=d:=rfl
def Cv(n d k:Nat):aO n d (aA (k:Int))=min k n:=by
 show(if (k:Int)<0 then ((k:Int)+(n:Int)).toNat else min (k:Int).toNat n)=min k n;rw[if_neg<|by omega,Int.toNat_natCast]
def NE(n d:Nat)(hd:d<=n)(o:Option Int):aO n d o<=n:=by
 cases o with
 |none=>exact hd
 |some v=>
  show(if v<0 then (v+(n:Int)).toNat else min v.toNat n)<=n;by_cases hv:v<0
  .rw[if_pos hv];omega
  .rw[if_neg hv];exact Nat.min_le_right _ _
def Mo(v:Int)(n d:Nat):(if v<0 then max (v+(n:Int)) 0 else min v (n:Int))=((aO n d (aA v):Nat):Int):=by
 show(if v<0 then max (v+(n:Int)) 0 else min v (n:Int))=(((if v<0 then (v+(n:Int)).toNat else min v.toNat n):Nat):Int);by_cases hv:v<0
 .simp only[if_pos hv];omega
 .simp only[if_neg hv];omega
def J7(lo hi:Option Int)(n:Nat):gg lo hi 1 (n:Int)=(((aO n 0 lo:Nat):Int),((aO n n hi:Nat):Int)):=by
 have h1:¬((1:Int)<0):=by omega
 unfold gg;simp only[h1,if_false];refine Prod.ext ?_ ?_
 .cases lo with
  |none=>rfl
  |some v=>exact Mo v n 0
 .cases hi with
  |none=>rfl
  |some v=>exact Mo v n n
def JO(i j:Nat):dg (i:Int) (j:Int) 1=j-i:=by
 unfold dg;have h1:(1:Int) > 0:=by omega
 simp only[h1,if_true,Int.ediv_one]
 split<;>omega
def t9(p:IsPart v o)(h:Q o s):wpAny (model prog w) A (Builtin.Slice.slicePartIndex v) Q E s:=by
 cases p with
 |none=>exact ng h
 |int i t=>exact slicePart_int h
def mK{sl:Addr}{vl vu:Value}{lo hi:Option Int}{n:Nat}{Q:Int×Int×Nat->Shared->Prop}(hs:s.heap.IsSliceOf sl vl vu .none)(pl:IsPart vl lo)(pu:IsPart vu hi)(h:Q (((aO n 0 lo:Nat):Int),1,aO n n hi-aO n 0 lo) s):wpAny (model prog w) A (jh (.ref sl)<|pure (n:Int)) Q E s:=by
 obtain⟨os,Dc,lM,Fa⟩:=id hs;unfold jh qt;refine aj<|aj<|lg Dc Fa (x:=vl) rfl<|aj<|lg Dc Fa (x:=vu) rfl<|aj<|lg Dc Fa (x:=.none) rfl<|bb ?_;refine aj<|ng ?_;show wpAny _ _ (if ((1:Int) == 0)=true then _ else _) _ _ s;rw[if_neg<|by decide];refine aj<|t9 pl<|aj<|t9 pu<|aj<|bb ?_;show wpAny _ _ (match gg lo hi 1 (n:Int) with|(lo,hi)=>pure (lo,(1:Int),dg lo hi 1)) _ _ s;rw[J7 lo hi n];show wpAny _ _ (pure (((aO n 0 lo:Nat):Int),(1:Int),dg ((aO n 0 lo:Nat):Int) ((aO n n hi:Nat):Int) 1)) _ _ s;rw[JO];exact bb h
def Uo(xs:Array Value)(i k:Nat):((db k).filterMap λ(m:Nat)=>xs[((i:Int)+(m:Int)*1).toNat]?).toArray=((xs.toList.drop i).take k).toArray:=by
 have e:(λ(m:Nat)=>xs[((i:Int)+(m:Int)*1).toNat]?)=λm=>xs[i+m]?:=by
  funext m
  have:((i:Int)+(m:Int)*1).toNat=i+m:=by omega
  rw[this]
 rw[e]
 have:=pick_run xs i k
 rw[List.filterMap_map] at this;have e2:((λx=>xs[x]?) ∘ λx=>i+x)=λm=>xs[i+m]?:=rfl
 rw[e2] at this;rw[this]
def Ð{lo:Option Int}(ht:IsTup s.heap t items)(hs:s.heap.IsSliceOf sl vl vu .none)(pl:IsPart vl lo)(pu:IsPart vu hi)(hw:¬(aO items.size 0 lo=0/\aO items.size items.size hi=items.size))(h:Q (.ref s.heap.objs.size) { s with heap:=s.heap.push { cls:=.type "tuple",data:=.seq ((items.toList.drop<|aO items.size 0 lo).take<|aO items.size items.size hi-aO items.size 0 lo).toArray } })(vi:items.size<=ag):wpAny (model prog w) A (getItem (.ref t)<|.ref sl) Q E s:=by
 have E2:sizeOk (.seq ((items.toList.drop<|aO items.size 0 lo).take<|aO items.size items.size hi-aO items.size 0 lo).toArray):=by
  show((items.toList.drop<|aO items.size 0 lo).take<|aO items.size items.size hi-aO items.size 0 lo).toArray.size<=ag;rw[ai,ck,cw,gr];omega
 have hj:aO items.size items.size hi<=items.size:=NE _ _ (ao _) hi;obtain⟨os,Dc,lM,Fa⟩:=id hs;have Î:s.TypeIs (.ref sl) "slice" := ⟨os,Dc,lM⟩;unfold getItem
 try with_reducible refine ja ?_
 first|refine aj (bb ?_)|skip
 refine aj<|wpAny_sequenceKey ht.typeIs (by decide) ?_;refine aj (ri (name:=ot "__getitem__") ht.typeIs dw
  (wpAny_call_entry dw ht.typeIs ux ?_<|args_tuple_getitem _ _))
 show wpAny _ _ (qp (.ref t) >>= _) _ _ s;refine aj<|tupleItemsOf_ ht ?_;refine aj<|ro Î ?_;rw[if_pos<|by decide];refine aj<|mK hs pl pu ?_;have Yv:¬((((aO items.size 0 lo:Nat):Int) == 0 && (1:Int) == 1 && (aO items.size items.size hi-aO items.size 0 lo) == items.size)=true):=by
  intro q;rw[bo,bo] at q;have q1:((aO items.size 0 lo:Nat):Int)=0:=eq_of_beq q.1.1;have q2:aO items.size items.size hi-aO items.size 0 lo=items.size:=eq_of_beq q.2;exact hw ⟨by omega,by omega⟩
 show wpAny _ _ (if (((aO items.size 0 lo:Nat):Int) == 0 && (1:Int) == 1 && (aO items.size items.size hi-aO items.size 0 lo) == items.size)=true then _ else _) _ _ s;rw[if_neg Yv,Uo]
 first
  |exact aj (m:=dt _)<|gf (bb ⟨_,rfl,bb h⟩) E2
  |exact aj (m:=dt _)<|gf (aj<|bb<|bb ⟨_,rfl,bb h⟩) E2
  |exact aj<|aj (m:=dt _)<|gf (bb<|bb ⟨_,rfl,bb h⟩) E2
  |exact aj<|aj (m:=dt _)<|gf (bb ⟨_,rfl,bb h⟩) E2
end
end HT
namespace L2
open PySem PySem.Spec PyProof.Rows
abbrev TO:=St->Hp->(Option Int->Hp->Prop)->Prop
def PO(X:Cx)(e:Option Expr)(t:TO):Prop:=
 ∀pZ s σ H (Q:Option Int->Hp->Prop),Inv X pZ σ H s->t σ H Q ->
  wpAny (model X.prog X.w) X.A (evalPart e X.env) (λu s'=>∃o H',Inv X pZ σ H' s'/\IsPart u o/\Q o H') X.xe s
noncomputable def Tn:TO:=λ_ H Q=>Q aB H
noncomputable def P7(t:TE):TO:=λσ H Q=>t σ H λx H1=>∃i,x=.int i/\Q (aA i) H1
def JW:∀{us:List Value},Vals (ns.map V.int) us->IntsAre us ns:=by
 induction ns with
 |nil=>intro us r;rw[ip] at r;cases r;exact .nil
 |cons n ns ih=>
  intro us r;rw[bg] at r;cases r with
  |cons r1 r2=>
   obtain⟨t,e⟩:=r1;subst e;exact .cons n t<|ih r2
section
variable{X:Cx}{e:Expr}{te:TE}{lo hi:Option Expr}{tl th:TO}{pos p2:Pos}
def Tc:PO X aB Tn:=by
 intro pZ s σ H Q I h;rw[qx];exact bb ⟨aB,H,I,.none,h⟩
def TB(h:PE X e te):PO X (aA e) (P7 te):=by
 intro pZ s σ H Q I hw;rw[evalPart_some];refine aS (h pZ s σ H _ I hw) λu s1 ⟨x,H1,I1,r1,q1⟩=>?_
 obtain⟨i,rfl,q⟩:=q1;obtain⟨t,rfl⟩:=r1;exact⟨aA i,H1,I1,.int i t,q⟩
def AG(X:Cx)(r:V->Option Int->Option Int->Hp->VK->Prop):Prop:=
 ∀pZ s σ H (x:V) (v vl vu:Value) (lo hi:Option Int) (sl:Addr) (Q:VK),Inv X pZ σ H s->RelV x v->s.heap.IsSliceOf sl vl vu .none->IsPart vl lo->IsPart vu hi->r x lo hi H Q ->
  ∃T id,typeLookup (.type T) "__getitem__" = pure (aA<|.builtin id)/\s.TypeIs v T/\wpAny (model X.prog X.w) X.A (getItem v<|.ref sl) (EP X pZ σ Q) X.xe s
def AG.or(h:AG X r)(h':AG X r'):AG X (λx lo hi H Q=>r x lo hi H Q\/r' x lo hi H Q):=by
 intro pZ s σ H x v vl vu lo hi sl Q I rx hs pl pu q;rcases q with q|q
 .exact h pZ s σ H x v vl vu lo hi sl Q I rx hs pl pu q
 .exact h' pZ s σ H x v vl vu lo hi sl Q I rx hs pl pu q
def VQ(r:V->Option Int->Option Int->Hp->VK->Prop)(te:TE)(tl th:TO):TE:=λσ H Q=>te σ H λx H1=>tl σ H1 λl H2=>th σ H2 λu H3=>r x l u H3 Q
def Nh(hr:AG X r)(he:PE X e te)(hl:PO X lo tl)(hu:PO X hi th):PE X (.Subscript e (.Slice lo hi aB p2) pos) (VQ r te tl th):=by
 intro pZ s σ H Q I h;refine Subscript_<|aS (he pZ s σ H _ I h) λv s1 ⟨x,H1,I1,r1,q1⟩=>?_;refine wpAny_Slice<|aS (hl pZ s1 σ H1 _ I1 q1) λvl s2 ⟨l,H2,I2,pl,q2⟩=>aS (hu pZ s2 σ H2 _ I2 q2) λvu s3 ⟨u,H3,I3,pu,q3⟩=>?_;rw[qx];refine bb ?_;have I4:Inv X pZ σ H3 { s3 with heap:=s3.heap.push { cls:=.type "slice",data:=.fields #[vl,vu,.none] } }:=I3.kept (t':=s3.toks) λb ob q=>ay _ q
 obtain⟨T,id,hT,ht,hg⟩:=hr pZ { s3 with heap:=s3.heap.push { cls:=.type "slice",data:=.fields #[vl,vu,.none] } } σ H3 x v vl vu l u s3.heap.objs.size Q I4 r1 (Heap.IsSliceOf.new ..) pl pu q3;show wpAny (model X.prog X.w) X.A (subscriptTail e (.Slice lo hi aB p2) v<|.ref s3.heap.objs.size) (EP X pZ σ Q) X.xe { s3 with heap:=s3.heap.push { cls:=.type "slice",data:=.fields #[vl,vu,.none] } };exact tail_any (ops:=[.ref s3.heap.objs.size,v]) ht hT hg (by with_unfolding_all rfl)
def zx(xs:List V)(lo hi:Option Int):List V:=(xs.drop<|HT.aO xs.length 0 lo).take<|HT.aO xs.length xs.length hi-HT.aO xs.length 0 lo
def pV(xs:List V)(lo hi:Option Int):(zx xs lo hi).length<=xs.length:=by
 unfold zx;rw[ck,cw];omega
def Jv(K:Fg):V->Option Int->Option Int->Hp->VK->Prop:=λx lo hi H Q=>∃a xs,x=.ref a/\eI K H a xs /\
 ¬(HT.aO xs.length 0 lo=0/\HT.aO xs.length xs.length hi=xs.length)/\∀p,H p=aB->Q (.ref p) (upd H p<|.tup<|zx xs lo hi)
def VX:AG X (Jv X.K):=by
 intro pZ s σ H x v vl vu lo hi sl Q I rx hs pl pu h;obtain⟨a,xs,rfl,hx,hw,q⟩:=h;cases rx;obtain⟨its,r,ht,hz⟩:=I.tuple hx;have hlen:its.toArray.size=xs.length:=by rw[ai];exact r.length.symm
 refine⟨"tuple",_,dw.lookup,ht.typeIs,?_⟩;refine HT.Ð ht hs pl pu (by rw[hlen];exact hw) ?_ (by rw[hlen];exact hz);rw[hlen];refine⟨.ref s.heap.objs.size,_,I.laid (t':=s.toks) (o:=.tup<|zx xs lo hi) (λb ob q=>ay _ q) (ao _) ?_,rfl,q _<|I.aP.fresh<|ao _⟩;exact⟨bf (pV xs lo hi) hz,_,(r.drop<|HT.aO xs.length 0 lo).take<|HT.aO xs.length xs.length hi-HT.aO xs.length 0 lo,rl _ _⟩
def Km(K:Fg):R2:=λx y H Q=>∃a b xs ys,x=.ref a/\y=.ref b/\eI K H a xs/\eI K H b ys/\xs≠[]/\xs.length+ys.length<=ag /\
 (ys=[]->Q (.ref a) H)/\(ys≠[]->∀p,H p=aB->Q (.ref p) (upd H p<|.tup<|xs++ys))
def Vals.HJ(r:Vals xs us):us=[]↔xs=[]:=by
 cases r with
 |nil=>simp
 |cons _ _=>simp
def S3:c_ X (binaryOp .Add) (Km X.K):=by
 intro pZ s σ H x y v u Q I rx ry h;obtain⟨a,b,xs,ys,rfl,rfl,ha,hb,hx,hz,q1,q2⟩:=h;cases rx;cases ry;obtain⟨its,r1,p1,_⟩:=I.tuple ha;obtain⟨fF,r2,p2,_⟩:=I.tuple hb;refine HT.ç p1 p2 (λz=>hx<|r1.HJ.mp z) (λz=>⟨.ref a,H,I,rfl,q1<|r2.HJ.mp z⟩) (λz=>?_) (by rw[<-r1.length,<-r2.length];exact hz);refine⟨.ref s.heap.objs.size,_,I.laid (t':=s.toks) (o:=.tup<|xs++ys) (λb ob q=>ay _ q) (ao _) ?_,rfl,q2 (λw=>z<|r2.HJ.mpr w) _<|I.aP.fresh<|ao _⟩;exact⟨by rw[ae];exact hz,_,r1.append r2,rl _ _⟩
end
noncomputable def Av(n:Nat)(i:Int):Option Nat:=if 0<=i then (if i<n then aA i.toNat else aB) else if -(n:Int)<=i then aA (i+n).toNat else aB
def eZ(xs:List α)(i:Int):Option α:=(Av xs.length i).bind λj=>xs[j]?
def SF(h:Av n i=aA j):seqIndex? i n=aA j/\j<n/\-(n:Int)<=i/\i<n:=by
 unfold Av at h;by_cases h0:0<=i
 .rw[if_pos h0] at h;by_cases h1:i<n
  .rw[if_pos h1] at h;have e:i.toNat=j:=bp h;exact⟨by rw[seqIndex_of h0 h1,e],by omega,by omega,h1⟩
  .rw[if_neg h1] at h;cases h
 .rw[if_neg h0] at h;by_cases h1 : -(n:Int)<=i
  .rw[if_pos h1] at h;have e:(i+n).toNat=j:=bp h;exact⟨by rw[seqIndex_neg (by omega) h1,e],by omega,h1,by omega⟩
  .rw[if_neg h1] at h;cases h
def GV(h:eZ xs i=aA v):∃j,seqIndex? i xs.length=aA j/\xs[j]?=aA v/\j<xs.length/\-(xs.length:Int)<=i/\i<xs.length:=by
 unfold eZ at h;cases e:Av xs.length i with
 |none=>rw[e] at h;cases h
 |some j=>
  rw[e] at h;obtain⟨h1,h2,h3,h4⟩:=SF e;exact⟨j,h1,h,h2,h3,h4⟩
def qD{α:Type}{xs:List α}{j:Nat}{v:α}(h:xs[j]?=aA v):eZ xs (j:Int)=aA v:=by
 have hj:j<xs.length:=(ar.mp h).1;have e:Av xs.length (j:Int)=aA j:=by
  unfold Av;rw[if_pos<|by omega,if_pos<|by omega];simp
 unfold eZ;rw[e];exact h
def QX(b:Expr):Prop:=∀o i,subscripted b false o i=operate [o,i] (getItem o i)
def yt(X:Cx)(r:R2):Prop:=
 ∀(value slice:Expr) (pZ:List (Addr×Obj)) (s:Shared) (σ:St) (H:Hp) (x y:V) (v u:Value) (Q:VK),Inv X pZ σ H s->RelV x v->RelV y u->r x y H Q ->
  subscripted slice false v u=operate [v,u] (getItem v u)->wpAny (model X.prog X.w) X.A (subscriptTail value slice v u) (EP X pZ σ Q) X.xe s
def Bs(X:Cx)(id:String)(r:V->List V->Hp->VK->Prop):Prop:=
 ∀pZ s σ H (x:V) (xs:List V) (v:Value) (us:List Value) (Q:VK),Inv X pZ σ H s->RelV x v->Vals xs us->r x xs H Q ->
  wpAny (model X.prog X.w) X.A (call (.builtin id) (v::us)) (EP X pZ σ Q) X.xe s
section
variable{X:Cx}{a b:Expr}{ta tb:TE}{pos:Pos}
def yt.or(h:yt X r)(h':yt X r'):yt X (λx y H Q=>r x y H Q\/r' x y H Q):=by
 intro value slice pZ s σ H x y v u Q I rx ry q hs;rcases q with q|q
 .exact h value slice pZ s σ H x y v u Q I rx ry q hs
 .exact h' value slice pZ s σ H x y v u Q I rx ry q hs
def F5(hr:yt X r)(ha:PE X a ta)(hb:PE X b tb)(hs:QX b):PE X (.Subscript a b pos) (Cs r ta tb):=by
 intro pZ s σ H Q I h;exact Subscript_<|FL ha hb I h λv u s2 x y H2 I2 rx ry q=>hr a b pZ s2 σ H2 x y v u Q I2 rx ry q<|hs _ _
def Jo(K:Fg):R2:=λx y H Q=>∃p xs i v,x=.ref p/\y=.int i/\aV K H p xs/\eZ xs i=aA v/\Q v H
def Jq(K:Fg):R2:=λx y H Q=>∃p xs i v,x=.ref p/\y=.int i/\eI K H p xs/\eZ xs i=aA v/\Q v H
def Jp:R2:=λx y H Q=>∃z i c,x=.str z/\y=.int i/\z.length<=ag/\eZ z.cps.toList i=aA c/\Q (.str ⟨#[c]⟩) H
def N4:yt X (Jo X.K):=by
 intro value slice pZ s σ H x y v u Q I rx ry h hs;obtain⟨p,xs,i,z,rfl,rfl,hq,he,q⟩:=h;cases rx;obtain⟨t,rfl⟩:=ry;obtain⟨its,r,pl,hz⟩:=I.list hq;obtain⟨j,h1,h2,h3,h4,h5⟩:=GV he;obtain⟨w,ew,Hz⟩:=r.get h2;have hl:=r.length;have hn:=WU;have fin:EP X pZ σ Q w s:=⟨z,H,I,Hz,q⟩;by_cases h0:0<=i
 .have hj:i.toNat=j:=by
   rw[seqIndex_of h0 h5] at h1;exact bp h1
  exact item_listR pl.isList h0 (by omega) (by rw[hj];simpa using ew) fin hs
 .have hj:(i+(its.toArray.size:Int)).toNat=j:=by
   rw[seqIndex_neg (by omega) h4] at h1;rw[ai,<-hl];exact bp h1
  exact ma (x:=w) pl.isList.typeIs on.lookup
   (wpAny_getItem_list_neg (Q:=λr s'=>r=w/\EP X pZ σ Q r s') pl.isList (by omega) (by rw[ai]<;>omega) (by omega) (by rw[hj];simpa using ew) ⟨rfl,fin⟩) hs
def zl:yt X (Jq X.K):=by
 intro value slice pZ s σ H x y v u Q I rx ry h hs;obtain⟨p,xs,i,z,rfl,rfl,hq,he,q⟩:=h;cases rx;obtain⟨t,rfl⟩:=ry;obtain⟨its,r,pl,hz⟩:=I.tuple hq;obtain⟨j,h1,h2,h3,h4,h5⟩:=GV he;obtain⟨w,ew,Hz⟩:=r.get h2;have hl:=r.length;have hn:=WU;have fin:EP X pZ σ Q w s:=⟨z,H,I,Hz,q⟩;exact ma (x:=w) pl.typeIs slot_tuple_getitem.lookup
  (getItem_tuple (j:=j) (Q:=λr s'=>r=w/\EP X pZ σ Q r s') pl (by omega) (by omega) (by rw[ai,<-hl];exact h1) (by simpa using ew) ⟨rfl,fin⟩) hs
def Qu:yt X Jp:=by
 intro value slice pZ s σ H x y v u Q I rx ry h hs;obtain⟨z,i,c,rfl,rfl,hz,he,q⟩:=h;obtain⟨t,rfl⟩:=rx;obtain⟨t',rfl⟩:=ry;obtain⟨j,h1,h2,h3,h4,h5⟩:=GV he;have hl:z.cps.toList.length=z.length:=by simp[me]
 rw[hl] at h1 h4 h5;have hn:=WU;exact tail_any (jv s z t) slot_str_getitem.lookup (getItem_str (c:=c) (by
  have e1:decide (i < -(2 ^ 63:Int))=false:=decide_eq_false (by omega);have e2:decide (i ≥ 2 ^ 63)=false:=decide_eq_false (by omega);rw[e1,e2,Bool.or_false]) (by rw[h1];simpa using h2) ⟨.str ⟨#[c]⟩,H,I.tok _,⟨_,rfl⟩,q⟩) hs
def NF(K:Fg):R2:=λx y H Q=>Jo K x y H Q\/Jq K x y H Q\/Jp x y H Q
def Qt:yt X (NF X.K):=N4.or<|zl.or Qu
def Z5(lo hi:Option Int)(n:Nat):(sliceBounds lo hi aB n).1=((HT.aO n 0 lo:Nat):Int)/\(sliceBounds lo hi aB n).2.1=((HT.aO n n hi:Nat):Int)/\(sliceBounds lo hi aB n).2.2=1:=by
 refine⟨?_,?_,rfl⟩
 .cases lo with
  |none=>simp[sliceBounds,HT.aO]
  |some i=>
   simp only[sliceBounds,HT.aO,Option.getD_none,show(1:Int) > 0 by decide,if_true];by_cases h:i<0
   .simp only[h,if_true]<;>omega
   .simp only[h,if_false]<;>omega
 .cases hi with
  |none=>simp[sliceBounds,HT.aO]
  |some i=>
   simp only[sliceBounds,HT.aO,Option.getD_none,show(1:Int) > 0 by decide,if_true];by_cases h:i<0
   .simp only[h,if_true]<;>omega
   .simp only[h,if_false]<;>omega
def rC(its:List Value)(lo hi:Option Int):slicePick its.toArray lo hi aB=((its.drop<|HT.aO its.length 0 lo).take<|HT.aO its.length its.length hi-HT.aO its.length 0 lo).toArray:=by
 obtain⟨h1,h2,h3⟩:=Z5 lo hi its.toArray.size;unfold slicePick;rw[h1,h2,h3];simp only[sliceRange_one,pick_run,ai]<;>rfl
def FR(K:Fg):V->Option Int->Option Int->Hp->VK->Prop:=λx lo hi H Q=>∃a xs,x=.ref a/\aV K H a xs/\∀p,H p=aB->Q (.ref p) (upd H p<|.lst<|zx xs lo hi)
def ND:AG X (FR X.K):=by
 intro pZ s σ H x v vl vu lo hi sl Q I rx hs pl pu h;obtain⟨a,xs,rfl,hx,q⟩:=h;cases rx;obtain⟨its,r,ht,hz⟩:=I.list hx;have hlen:=r.length;refine⟨"list",_,on.lookup,ht.isList.typeIs,?_⟩;refine qv ht.isList hs pl pu .none (by simp) ?_ (by rw[ai]<;>omega);rw[rC,<-hlen];refine⟨.ref s.heap.objs.size,_,I.laid (t':=s.toks) (o:=.lst<|zx xs lo hi) (λb ob q=>ay _ q) (ao _) ?_,rfl,q _<|I.aP.fresh<|ao _⟩;exact⟨bf (pV xs lo hi) hz,_,0,(r.drop<|HT.aO xs.length 0 lo).take<|HT.aO xs.length xs.length hi-HT.aO xs.length 0 lo,cn _ rfl⟩
noncomputable def gZ:V->Bool
 |.aG=>true
 |.bl _=>true
 |.int _=>true
 |.str _=>true
 |_=>false
noncomputable def sJ:V->V->Bool
 |.aG,.aG=>true
 |.bl a,.bl b=>a == b
 |.bl a,.int b=>(if a then 1 else 0) == b
 |.int a,.bl b=>a == (if b then 1 else 0)
 |.int a,.int b=>a == b
 |.str a,.str b=>a == b
 |_,_=>false
def KP(ry:RelV y u)(rx:RelV x v)(fy:gZ y=true)(fx:gZ x=true):da A s u v (sJ y x):=by
 cases y with
 |aG=>
  cases ry;cases x with
  |aG=>cases rx;exact da.same _
  |bl b=>cases rx;exact da.none_bool b
  |int b=>obtain⟨t,rfl⟩:=rx;exact da.none_int b t
  |str b=>obtain⟨t,rfl⟩:=rx;exact da.none_str b t
  |_=>exact absurd (show false=true from fx) ah
 |bl a=>
  cases ry;cases x with
  |aG=>cases rx;exact da.bool_none a
  |bl b=>cases rx;exact da.bool_bool a b
  |int b=>obtain⟨t,rfl⟩:=rx;exact da.bool_int a b t
  |str b=>obtain⟨t,rfl⟩:=rx;exact da.bool_str a b t
  |_=>exact absurd (show false=true from fx) ah
 |int a=>
  obtain⟨t',rfl⟩:=ry;cases x with
  |aG=>cases rx;exact da.int_none a t'
  |bl b=>cases rx;exact da.int_bool a t' b
  |int b=>obtain⟨t,rfl⟩:=rx;exact da.int_int a t' b t
  |str b=>obtain⟨t,rfl⟩:=rx;exact da.int_str a t' b t
  |_=>exact absurd (show false=true from fx) ah
 |str a=>
  obtain⟨t',rfl⟩:=ry;cases x with
  |aG=>cases rx;exact da.str_none a t'
  |bl b=>cases rx;exact da.str_bool a t' b
  |int b=>obtain⟨t,rfl⟩:=rx;exact da.str_int a t' b t
  |str b=>obtain⟨t,rfl⟩:=rx;exact da.str_str a t' b t
  |_=>exact absurd (show false=true from fx) ah
 |_=>exact absurd (show false=true from fy) ah
def o_(x:V)(u:Value):Bool:=match u with
 |.none=>sJ .aG x
 |.bool b=>sJ (.bl b) x
 |.int i _=>sJ (.int i) x
 |.str z _=>sJ (.str z) x
 |_=>false
def KS(r:RelV y u)(f:gZ y=true):o_ x u=sJ y x:=by
 cases y with
 |aG=>cases r;rfl
 |bl b=>cases r;rfl
 |int i=>obtain⟨t,rfl⟩:=r;rfl
 |str z=>obtain⟨t,rfl⟩:=r;rfl
 |_=>exact absurd (show false=true from f) ah
theorem Z1:∀{xs:List V} {us:List Value},Vals xs us->xs.all gZ=true->us.any (o_ x)=xs.any λy=>sJ y x
 |_,_,.nil,_=>rfl
 |y::xs,u::us,.cons r t,f=>by
  rw[ie,bo] at f;rw[lq,lq,KS r f.1,Z1 t f.2]
theorem oK(rx:RelV x v)(fx:gZ x=true):∀{xs:List V} {us:List Value},Vals xs us->xs.all gZ=true->∀u∈us,da A s u v (o_ x u)
 |_,_,.nil,_=>λu hu=>by cases hu
 |y::xs,u::us,.cons r t,f=>λu' hu=>by
  rw[ie,bo] at f;rcases av.mp hu with rfl|hu
  .rw[KS r f.1];exact KP r rx f.1 fx
  .exact oK rx fx t f.2 u' hu
def EY(x:V)(xs:List V):Bool:=xs.any λy=>sJ y x
def HC(K:Fg)(neg:Bool):R2:=λx y H Q=>∃p xs,y=.ref p/\(aV K H p xs\/eI K H p xs)/\gZ x=true/\xs.all gZ=true/\Q (.bl (if neg then !EY x xs else EY x xs)) H
def dF:c_ X (bz .In) (HC X.K false):=by
 intro pZ s σ H x y v u Q I rx ry h;obtain⟨p,xs,rfl,hq,fx,fs,q⟩:=h;cases ry;rcases hq with hq|hq
 .obtain⟨its,r,pl,hz⟩:=I.list hq;refine SeqAt.in_listAt (o_ x) pl.isList (λw hw=>oK rx fx r fs w<|by simpa using hw) ⟨.bl _,H,I,rfl,?_⟩;rw[show its.toArray.any (o_ x)=its.any (o_ x) by simp,Z1 r fs];exact q
 .obtain⟨its,r,pl,hz⟩:=I.tuple hq;refine SeqAt.in_tupleAt (o_ x) pl (λw hw=>oK rx fx r fs w<|by simpa using hw) ⟨.bl _,H,I,rfl,?_⟩;rw[show its.toArray.any (o_ x)=its.any (o_ x) by simp,Z1 r fs];exact q
def uP:c_ X (bz .NotIn) (HC X.K true):=by
 intro pZ s σ H x y v u Q I rx ry h;obtain⟨p,xs,rfl,hq,fx,fs,q⟩:=h;cases ry;rcases hq with hq|hq
 .obtain⟨its,r,pl,hz⟩:=I.list hq;refine SeqAt.notIn_listAt (o_ x) pl.isList (λw hw=>oK rx fx r fs w<|by simpa using hw) ⟨.bl _,H,I,rfl,?_⟩;rw[show its.toArray.any (o_ x)=its.any (o_ x) by simp,Z1 r fs];exact q
 .obtain⟨its,r,pl,hz⟩:=I.tuple hq;refine SeqAt.notIn_tupleAt (o_ x) pl (λw hw=>oK rx fx r fs w<|by simpa using hw) ⟨.bl _,H,I,rfl,?_⟩;rw[show its.toArray.any (o_ x)=its.any (o_ x) by simp,Z1 r fs];exact q
def é:iJ X (.builtin "len") (λxs H Q=>∃p ys,xs=[.ref p]/\(aV X.K H p ys\/eI X.K H p ys)/\Q (.int ys.length) H):=by
 intro pZ s σ H xs us Q I r h;obtain⟨p,ys,rfl,hq,q⟩:=h;obtain⟨u,rfl,rx⟩:=Eb r;cases rx;have hn:=WU;rcases hq with hq|hq
 .obtain⟨its,r',pl,hz⟩:=I.list hq;have hlen:=r'.length;exact Calls.call_len_list pl.isList (by simp only[ai]<;>omega) ⟨.int ys.length,H,I.tok _,⟨s.toks+1,by rw[ai,hlen]⟩,q⟩
 .obtain⟨its,r',pl,hz⟩:=I.tuple hq;have hlen:=r'.length;exact len_tuple pl (by simp only[ai]<;>omega) ⟨.int ys.length,H,I.tok _,⟨s.toks+1,by rw[ai,hlen]⟩,q⟩
def YM:iJ X (.builtin "len") (λxs H Q=>∃z,xs=[.str z]/\z.length<=ag/\Q (.int z.length) H):=by
 intro pZ s σ H xs us Q I r h;obtain⟨z,rfl,hz,q⟩:=h;obtain⟨u,rfl,t,rfl⟩:=Eb r;have hn:=WU;exact len_str (by omega) ⟨.int z.length,H,I.tok _,⟨_,rfl⟩,q⟩
def iJ.or(h:iJ X f r)(h':iJ X f r'):iJ X f (λxs H Q=>r xs H Q\/r' xs H Q):=by
 intro pZ s σ H xs us Q I rs q;rcases q with q|q
 .exact h pZ s σ H xs us Q I rs q
 .exact h' pZ s σ H xs us Q I rs q
def tO:iJ X (.type "tuple") (λxs H Q=>∃p ys,xs=[.ref p]/\((aV X.K H p ys/\∀l,H l=aB->Q (.ref l) (upd H l<|.tup ys))\/(eI X.K H p ys/\Q (.ref p) H))):=by
 intro pZ s σ H xs us Q I r h;obtain⟨p,ys,rfl,h⟩:=h;obtain⟨u,rfl,rx⟩:=Eb r;cases rx;rcases h with⟨hq,q⟩|⟨hq,q⟩
 .obtain⟨its,r',pl,hz⟩:=I.list hq;have hlen:=r'.length;refine call_tuple_list pl.isList (λh' kp=>?_) (by simp only[ai]<;>omega);have I1:Inv X pZ σ H { s with heap:=h' }:=I.kept (t':=s.toks) kp;have I2:Inv X pZ σ (upd H h'.objs.size<|.tup ys) { s with heap:=h'.push { cls:=.type "tuple",data:=.seq its.toArray } }:=
   I1.laid (t':=s.toks) (λb o e=>ay _ e) (ao _) (show iB X.prog X.w _ _ _ (.tup ys) from⟨hz,its,r',rl _ _⟩)
  exact⟨.ref h'.objs.size,_,I2,rfl,q _<|I1.aP.fresh<|ao _⟩
 .obtain⟨its,r',pl,hz⟩:=I.tuple hq;exact call_tuple_same pl ⟨.ref p,H,I,rfl,q⟩
def Hm(K:Fg)(T:String)(x:V)(H:Hp):Prop:=match x with
 |.str _=>T = "str"
 |.int _=>T = "int"
 |.ref p=>(T = "list" /\ ∃xs,aV K H p xs)\/(T = "tuple" /\ ∃o,K.lookup p=aA o/\o.cls=.type "tuple" /\ o.dict=aB) \/
   (T = "dict" /\ ((∃aM,H p=aA (.dK aM))\/∃aM,H p=aA (.dT aM)))\/(T = "set" /\ ∃S n,H p=aA (.set S n))
 |_=>False
def Lz(I:Inv X pZ σ H s)(r:RelV x v)(ty:Hm X.K T x H):s.TypeIs v T/\∀a,v=.ref a->∃ob,s.heap.get? a=aA ob/\ob.dict=aB:=by
 cases x with
 |str z=>
  obtain⟨t,rfl⟩:=r;cases (show T = "str" from ty);exact⟨jv s z t,λ_ e=>nomatch e⟩
 |int i=>
  obtain⟨t,rfl⟩:=r;cases (show T = "int" from ty);exact⟨typeIs_int s i t,λ_ e=>nomatch e⟩
 |ref p=>
  cases r;rcases ty with⟨rfl,xs,hq⟩|⟨rfl,o,hk,hc,hd⟩|⟨rfl,hk⟩|⟨rfl,S,n,hk⟩
  .obtain⟨its,_,pl,_⟩:=I.list hq;refine⟨pl.isList.typeIs,λa e=>?_⟩;cases e;obtain⟨o,n,e,c,hd,_⟩:=pl;exact⟨o,e,hd⟩
  .refine⟨⟨o,I.fO p o hk,hc⟩,λa e=>?_⟩;cases e;exact⟨o,I.fO _ o hk,hd⟩
  .have z:∃o,s.heap.get? p=aA o/\o.ExactDict:=by
    rcases hk with⟨aM,hk⟩|⟨aM,hk⟩
    .obtain⟨_,_,_,_,o,_,_,e,ex,_⟩:=I.aP p _ hk;exact⟨o,e,ex⟩
    .obtain⟨_,_,_,_,o,_,_,e,ex,_⟩:=I.aP p _ hk;exact⟨o,e,ex⟩
   obtain⟨o,e,ex⟩:=z;refine⟨⟨o,e,ex.1⟩,λa e2=>?_⟩;cases e2;exact⟨o,e,ex.2.1⟩
  .obtain⟨o,_,_,_,e,ex,_⟩:=I.aP p _ hk;refine⟨⟨o,e,ex.1⟩,λa e2=>?_⟩;cases e2;exact⟨o,e,ex.2.1⟩
 |_=>exact fj ty
def Pl(K:Fg)(T:String)(r:V->List V->Hp->VK->Prop)(to:TE):TE:=λσ H Q=>to σ H λx H1=>Hm K T x H1/\r x [] H1 Q
def VS(K:Fg)(T:String)(r:V->List V->Hp->VK->Prop)(to:TE)(t:TA):TE:=λσ H Q=>to σ H λx H1=>Hm K T x H1/\t σ H1 λxs H2=>r x xs H2 Q
variable{id:String}
def R9(pa:PlainAttrs T)(slot:Slot T name id)(Im:typeOf (.builtin id)=pure (.type "method_descriptor"))(hm:Bs X id r)(ho:PE X o to)(fK:fq o name X.env (eval o X.env)=eval o X.env:=by rfl)(fI:sW apos eB:=by rfl):PE X (.Call (.Attribute o name apos) [] [] eB) (Pl X.K T r to):=by
 intro pZ s σ H Q I h;refine wpAny_Call_method0_late fK fI<|aS (ho pZ s σ H _ I h) λv s1 ⟨x,H1,I1,r1,ty,q1⟩=>?_;obtain⟨h1,h2⟩:=Lz I1 r1 ty;exact⟨T,id,pa,slot,Im,h1,h2,tz rfl<|PySem.evalArgs_none<|hm pZ s1 σ H1 x [] v [] Q I1 r1 .nil q1⟩
def WE(pa:PlainAttrs T)(slot:Slot T name id)(Im:typeOf (.builtin id)=pure (.type "method_descriptor"))(hm:Bs X id r)(ho:PE X o to)(ha:PA X (e::es) t)(fK:fq o name X.env (eval o X.env)=eval o X.env:=by rfl)(iE:xc X (e::es) eB:=by rfl)(fI:sW apos eB:=by rfl)(hs:sL X e es:=by rfl)(Yn:xi X es eB:=by rfl):PE X (.Call (.Attribute o name apos) (e::es) [] eB) (VS X.K T r to t):=by
 intro pZ s σ H Q I h;refine wpAny_Call_method_late fK iE fI rfl<|aS (ho pZ s σ H _ I h) λv s1 ⟨x,H1,I1,r1,ty,q1⟩=>?_;obtain⟨h1,h2⟩:=Lz I1 r1 ty;refine⟨T,id,pa,slot,Im,h1,h2,?_⟩;have hA:=ha eB pZ s1 σ H1 _ I1 q1;rw[hs] at hA ⊢;refine tz (by show(false || (ph eB<|aq es X.env).any (·.1))=false;rw[Yn]<;>rfl)<|uw ?_;exact aS hA λus s2 ⟨vs,H2,I2,r2,q2⟩=>hm pZ s2 σ H2 x vs v us Q I2 r1 r2 q2
end
def OW(X:Cx)(id:String)(r:V->List V->Hp->VK->Prop):Prop:=
 ∀pZ s σ H (x:V) (xs:List V) (v:Value) (us:List Value) (Q:VK),Inv X pZ σ H s->RelV x v->Vals xs us->r x xs H Q ->
  wpAny (model X.prog X.w) X.A (call (.builtin id) (v::us)) (EP X pZ σ Q) X.xe s
def Vals.one:∀{x:V} {us:List Value},Vals [x] us->∃u,us=[u]/\RelV x u
 |_,_,.cons r .nil=>⟨_,rfl,r⟩
def XO:∀{x y:V} {us:List Value},Vals [x,y] us->∃u v,us=[u,v]/\RelV x u/\RelV y v
 |_,_,_,.cons r (.cons q .nil)=>⟨_,_,rfl,r,q⟩
def Vals.zero:∀{us:List Value},Vals [] us->us=[]
 |_,.nil=>rfl
def Vals.dropLast(h:Vals xs us):Vals xs.dropLast us.dropLast:=by
 induction h with
 |nil=>exact .nil
 |cons r t ih=>
  cases t with
  |nil=>exact .nil
  |cons q t'=>exact .cons r ih
def Vals.reverse(h:Vals xs us):Vals xs.reverse us.reverse:=by
 induction h with
 |nil=>exact .nil
 |cons r t ih=>rw[df,df];exact Vals.append ih<|.cons r .nil
def JY(l:List α):l.eraseIdx (l.length-1)=l.dropLast:=by
 induction l with
 |nil=>rfl
 |cons a r ih=>
  cases r with
  |nil=>rfl
  |cons b r=>
   have e:(a::b::r).length-1=((b::r).length-1)+1:=by
    have h1:(a::b::r).length=r.length+2:=rfl;have h2:(b::r).length=r.length+1:=rfl;omega
   rw[e,List.eraseIdx_cons_succ,ih]
   all_goals rfl
section
variable{X:Cx}{pZ:List (Addr×Obj)}{σ:St}{H:Hp}{s:Shared}{l b:Addr}{xs ys zs:List V}
def Inv.HM{its its':List Value}{n:Nat}{f:Array Value->Array Value}{t':Nat}(I:Inv X pZ σ H s)(hH:H l=aA (.lst xs))(e:s.heap.get? l=aA { cls:=.type "list",data:=.seq its.toArray n })(hf:f its.toArray=its'.toArray)(hv:Vals ys its')(hz:ys.length<=ag):Inv X pZ σ (upd H l<|.lst ys) { s with heap:=s.heap.update l<|kx f,toks:=t' }:=by
 have q:=PySem.IsL.update e f;rw[hf] at q;refine I.write (x:=l) (e:=l) (by rw[hH];exact trivial) (.inl rfl) (λb' u hb hu=>(tu s.heap (kx f)<|gc hb).trans hu) ⟨_,q⟩ ?_;exact⟨hz,its',_,hv,q⟩
def Inv.CF(I:Inv X pZ σ H s)(hv:Vals ys its)(hz:ys.length<=ag):Inv X pZ σ (upd H s.heap.objs.size<|.lst ys) { s with heap:=s.heap.push { cls:=.type "list",data:=.seq its.toArray },toks:=t' }:=
 I.laid (λ_ _ q=>ay _ q) (ao _) ⟨hz,its,0,hv,cn _ rfl⟩
def Inv.fresh(I:Inv X pZ σ H s):H s.heap.objs.size=aB:=I.aP.fresh<|ao _
def Inv.HL(I:Inv X pZ σ H s)(hH:H l=aA (.lst xs)):xs.length<=ag/\∃(its:List Value) (n:Nat),Vals xs its/\xs.length=its.length/\s.heap.get? l=aA { cls:=.type "list",data:=.seq its.toArray n }:=by
 obtain⟨z,its,n,r,e⟩:=I.aP l _ hH;exact⟨z,its,n,r,r.length,e⟩
def Uf(h:n<=ag):ig n=false:=by
 unfold ig;exact decide_eq_false (by omega)
end
section
variable{X:Cx}
def TF:V->List V->Hp->VK->Prop:=λx vs H Q=>∃l xs y,x=.ref l/\vs=[y]/\H l=aA (.lst xs)/\xs.length<ag/\Q .aG (upd H l<|.lst<|xs++[y])
def dJ:OW X "list.append" TF:=by
 intro pZ s σ H x vs v us Q I rx rv h;obtain⟨l,xs,y,rfl,rfl,hH,hz,q⟩:=h;cases rx;obtain⟨u,rfl,ru⟩:=rv.one;obtain⟨z,its,n,r,hl,e⟩:=I.HL hH;refine io F.slot_list_append ⟨_,e,rfl⟩ F.entry_list_append (F.args_list_append_2 _ _) (PySem.list_append l its.toArray n u (by rw[ai];omega)) ⟨e,?_⟩;refine⟨.aG,_,I.HM (its':=its++[u]) hH e (by simp) (r.append<|.cons ru .nil) ?_,rfl,q⟩;rw[ae,gx];omega
def Ph:V->List V->Hp->VK->Prop:=λx vs H Q=>∃l xs y,x=.ref l/\vs=[]/\H l=aA (.lst xs)/\xs[xs.length-1]?=aA y/\Q y (upd H l<|.lst xs.dropLast)
def Rh:OW X "list.pop" Ph:=by
 intro pZ s σ H x vs v us Q I rx rv h;obtain⟨l,xs,y,rfl,rfl,hH,hy,q⟩:=h;cases rx;have Yf:=rv.zero;subst Yf;obtain⟨z,its,n,r,hl,e⟩:=I.HL hH;obtain⟨u,hu,ru⟩:=r.get hy;have Ik:its.toArray[its.toArray.size-1]?=aA u:=by
  show its.toArray[its.length-1]?=aA u;rw[<-Array.getElem?_toList,<-hl];exact hu
 refine io F.slot_list_pop ⟨_,e,rfl⟩ F.entry_list_pop (F.args_list_pop_1 _) (MeetsSeq.list_pop_last l its.toArray n u Ik (by rw[ai];omega)) ⟨e,?_⟩;refine⟨y,_,I.HM (its':=its.dropLast) hH e ?_ r.dropLast ?_,ru,q⟩
 .show its.toArray.eraseIdxIfInBounds (its.toArray.size-1)=its.dropLast.toArray;rw[ai,List.eraseIdxIfInBounds_toArray,JY]
 .rw[List.length_dropLast];omega
end
end L2
namespace O1
open PySem PySem.W PySem.Calls PyProof.Rows
def n9:∀(ns:List Int) (vs:List Value),WellAll P h vs (ns.map WData.int)->IntsAre vs ns:=by
 intro ns
 induction ns with
 |nil=>
  intro vs w;rw[ip] at w;cases w;exact .nil
 |cons n ns ih=>
  intro vs w;rw[bg] at w;cases w with
  |cons a b=>
   cases a;exact .cons _ _<|ih _ b
def Vo{l:OpenLaw}{n:Nat}(hn:l.most=aA n){P:Params}{h:Heap}{args:List WData}{vals:List Value}(E4:l.row.toRowW.claim.pre args=true)(Il:WellAll P h vals args):∃a vs ns,vals=[Value.ref a]/\args=[WData.list<|ns.map WData.int]/\h.get? a=aA { cls:=.type "list",data:=.seq vs.toArray }/\IntsAre vs ns/\ns.length<=n:=by
 have Yj:WShape.hasAll [] args [.list .int]=true:=(pre_splitW E4).1;have hc:l.pre.holds [] { args:=args } = true:=(pre_splitW E4).2;obtain⟨d,r,rfl,h1,h2⟩:=hasAllW_cons Yj;obtain rfl:=hasAllW_nil h2;obtain⟨xs,rfl,h3⟩:=hasW_list h1;obtain⟨ns,rfl⟩:=items_int h3;have hlen:ns.length<=n:=by
  unfold OpenLaw.pre at hc;have h4:(WTm.not<|.lt (.lit<|.int (n:Int))<|.len<|.arg 0).holds [] { args:=[.list<|ns.map .int] } = true:=by
   have h4:=(holds_andW hc).1;rw[hn] at h4;exact h4
  have h5:=condW_of h4<|w_not<|w_lt w_lit<|w_len_list<|w_arg rfl;rw[af] at h5;refine kh λq=>?_
  have q':(n:Int)<((ns.length:Nat):Int):=by omega
  first
   |(rw[decide_eq_true q'] at h5;exact absurd h5<|by decide)
   |(simp at h5;omega)
 cases Il with
 |cons w1 w2=>
  cases w2;cases w1 with
  |list ho Ì=>exact⟨_,_,ns,rfl,rfl,ho,n9 ns _ Ì,hlen⟩
def Vh(l:OpenLaw)(args:List WData):l.row.toRowW.claim.post args (.bool true) args=true:=
 postW_of (r:=l.row.toRowW) (X:=(true == true))
  (show WShape.has [] (.bool true) .bool=true by first|rfl|decide|simp[WShape.has,WShape.arms,WShape.armsAll])
  (show(WTm.eq .res<|.lit<|.bool true).value [] { args:=args,res:=aA<|.bool true,after:=args } = aA (.bool<|true == true) from w_eq_bool (w_res rfl) w_lit) rfl
def í{l:OpenLaw}{n:Nat}{q:Program}{loose:List Str}{XP:(Str->Option Value)->Heap->Prop}{YP:World->Heap->Prop}{d:DefRec}(hn:l.most=aA n)(Bh:d.params.defaults=[])(call:∀(w:World) (s₀ s₁:Shared) (mg mb:Str->Option Value) (fa:Addr) (o:Obj) (pm cd doc:Value) (a:Addr) (vs:List Value) (ns:List Int),
   Ground q loose [] XP w s₀ mg mb s₁.heap->YP w s₁.heap ->
   s₁.heap.get? fa=aA o->o.data=.func (docDef d.name d.params d.body d.scope pm cd doc)->s₁.heap.CodeRec cd d.name->mg d.name=aA (.ref fa) ->
   s₁.heap.get? a=aA { cls:=.type "list",data:=.seq vs.toArray }->IntsAre vs ns->ns.length<=n->s₁.gens = #[] ->
   codeAny (model l.prog w) callerA (.call (.ref fa) ⟨[.ref a],[]⟩) (λr s'=>r=.ok (.ret<|.bool true)/\OldK s₁.heap s'.heap/\s'.os=s₁.os/\AllBare s'.gens) s₁):WalkO q loose XP YP l.row.toRowW d [] (λf vs=>qg f vs):=by
 intro w s₀ s₁ mg mb G Y fa o pm cd doc dV kV ho hd fJ hD hmg hg args vals as E4 ĳ İ Il Ĳ;obtain rfl:dV=.none:=Dflts.none hD Bh;obtain rfl:kV=.none:=Dflts.noKw hD;obtain⟨a,vs,ns,rfl,rfl,Ip,hints,hlen⟩:=Vo hn E4 Il;refine enter_call<|oq (call w s₀ s₁ mg mb fa o pm cd doc a vs ns G Y ho (fd_plain hd) fJ hmg Ip hints hlen hg) λr s' hq=>?_;obtain⟨rfl,h2,h3,h4⟩:=hq;exact⟨.inl ⟨.bool true,.bool true,[],rfl,λ_=>rfl,.bool true,Vh l _,λ_=>⟨List.Pairwise.nil,λ_ hm=>(nomatch hm)⟩⟩,h2,h3,h4⟩
end O1
namespace L2
open PySem PySem.Spec PyProof.Rows
theorem XY:∀{vs:List Value} {ns:List Int},IntsAre vs ns->Vals (ns.map V.int) vs
 |_,_,.nil=>.nil
 |_,_,.cons n t h=>.cons ⟨t,rfl⟩<|XY h
def Du(H:Hp):Prop:=∀b,H b=aB\/∃o xs,H b=aA (.iO o<|.lst xs)
def Ua{K:Fg}(KX:K.In s₁.heap)(sT:s₁.heap.Ns bh mg)(hb:s₁.heap.Ns builtinsNs mb)(É:∀x:Str,x ≠ "__name__" -> mb x=bootBuiltins x)(Zb:s₁.heap.NoLimit)(hg:s₁.gens = #[])(ha:s₁.heap.get? a=aA { cls:=.type "list",data:=.seq vs.toArray })(hi:IntsAre vs ns)(hl:ns.length<=ag)(hr:eR k callerA)(F:∀base:Heap,K.In base->base.Ns bh mg->eG P w K mg base CX k fa fd [x] sp)(È:∀(s:Shared) (u:Value),BindsTo s fd ⟨[u],[]⟩ [(x,u)])(l_:∀H:Hp,Du H->aV K H a (ns.map V.int)->sp [.ref a] H (λv _=>v=.bl true) λ_ _ _=>False)(Dl:∀H e s',CX [] H s₁ (λ_ _ _=>False) e s'->False):codeAny (model P w) callerA (.call (.ref fa) ⟨[.ref a],[]⟩) (λr s'=>r=.ok (.ret<|.bool true)/\OldK s₁.heap s'.heap/\s'.os=s₁.os/\AllBare s'.gens) s₁:=by
 have rv:=XY hi;have Xd:=hi.length;have core:∀H:Hp,Du H->aV K H a (ns.map V.int)->fG P w H s₁.heap->(∀b,H b≠aB->b=a)->(H a≠aB->K.lookup a=aB) ->
   codeAny (model P w) callerA (.call (.ref fa) ⟨[.ref a],[]⟩) (λr s'=>r=.ok (.ret<|.bool true)/\OldK s₁.heap s'.heap/\s'.os=s₁.os/\AllBare s'.gens) s₁:=by
  intro H hO hS aP hA hK;have OR:∀{b:Addr} {o:Obj},s₁.heap.get? b=aA o->H b=aB->(y_ s₁.heap H).get? b=aA o:=λe n=>Uz e n
  have CA:∀{b:Addr} {o:Obj} {es:Array DictEntry} {ep:Nat},s₁.heap.get? b=aA o->o.data=.dict es ep->H b=aB:=λ{b o es ep} e d=>by
   cases q:H b with
   |none=>rfl
   |some u=>
    have e':b=a:=hA b (by rw[q];simp);subst e';rw[ha] at e;cases e;have d':Data.seq vs.toArray _=Data.dict es ep:=d;cases d'
  have EL:∀{b:Addr} {m:Str->Option Value},s₁.heap.Ns b m->(y_ s₁.heap H).Ns b m:=λ{b m} ⟨o,es,ep,e,d,r⟩=>⟨o,es,ep,OR e<|CA e d,d,r⟩
  have Ov:K.In (y_ s₁.heap H):=λb o e=>OR (KX b o e) (by
   cases q:H b with
   |none=>rfl
   |some u=>
    have e':b=a:=hA b (by rw[q];simp);subst e';rw[hK (by rw[q];simp)] at e;cases e)
  have hM:Mod K mg (y_ s₁.heap H):=⟨Ov,EL sT,⟨mb,EL hb,É⟩,let ⟨mc,h1,h2⟩:=Zb;⟨mc,EL h1,h2⟩⟩;have e0:FD P w K mg (y_ s₁.heap H) callerA [] s₁ H:=⟨rfl,hM,λb o e=>Ti e,oy<|UX _ _,trivial,⟨λb hb=>absurd (show b∈([]:List Addr) from hb)<|by simp,trivial⟩,aP,.of_eq hg⟩;refine oq ((F _ Ov<|EL sT).run callerA [] s₁ H ⟨[.ref a],[]⟩ [.ref a] [.ref a] _ _ hr e0 (È s₁<|.ref a) (.cons rfl .nil)<|l_ H hO hS) λr s' h=>?_
  cases r with
  |error e=>exact(Dl H e s' h).elim
  |ok fl=>
   cases fl with
   |next=>exact fj h
   |brk=>exact fj h
   |cont=>exact fj h
   |ret u=>
    obtain⟨v,H',os,bare,un,Yq,r',q⟩:=h;have q':v=.bl true:=q;subst q';obtain rfl:u=Value.bool true:=r';refine⟨rfl,OldK.of_keep λb o e=>?_,os,bare⟩;cases q:H b with
    |none=>exact un.keep b o e q (by intro z;exact absurd (show b∈([]:List Addr) from z)<|by simp) (by simp)
    |some u=>
     rcases hO b with z|⟨ob,xs,z⟩
     .rw[q] at z;cases z
     .have z2:=un.vm b ob _ z;obtain⟨e1,_⟩:=aP b _ z;obtain⟨e2,_⟩:=Yq b _ z2;rw[e] at e1;cases e1;exact e2
 cases hk:K.lookup a with
 |some o=>
  have e:=KX a o hk;rw[ha] at e;cases e;refine core (λ_=>aB) (λ_=>.inl rfl) (.inr ⟨_,vs.toArray,_,hk,rfl,rfl,rfl,by rw[ai,Xd];exact hl,by simpa using rv⟩) (λb u z=>by have z':(aB:Option HO)=aA u:=z;cases z') (λb z=>absurd rfl z) λz=>absurd rfl z
 |none=>
  refine core (λb=>if b=a then aA (.iO { cls:=.type "list",data:=.seq vs.toArray }<|.lst<|ns.map V.int) else aB) (λb=>?_) (.inl<|.inr ⟨{ cls:=.type "list",data:=.seq vs.toArray },if_pos rfl⟩) (λb u z=>?_) (λb z=>?_) λ_=>hk
  .by_cases hb:b=a
   .exact .inr ⟨_,_,if_pos hb⟩
   .exact .inl<|if_neg hb
  .by_cases hb:b=a
   .have z':=(if_pos hb).symm.trans z;cases z';subst hb;exact⟨ha,by rw[af];exact hl,vs,_,rv,ha⟩
   .have z':=(if_neg hb).symm.trans z;cases z'
  .by_cases hb:b=a
   .exact hb
   .exact absurd (if_neg hb) z
def Tv{l:PySem.W.OpenLaw}{n k:Nat}{q:Program}{loose:List Str}{XP:(Str->Option Value)->Heap->Prop}{YP:World->Heap->Prop}{d:DefRec}{K:Params->Fg}{CX:World->AI}{sp:World->Sp}{x:Str}(hn:l.most=aA n)(Iq:n<=ag)(Bh:d.params.defaults=[])(hr:eR k callerA)(hY:∀(w:World) (h:Heap),YP w h->(K w.params).In h)(F:∀(w:World) (mg:Str->Option Value) (fa:Addr) (h:Heap),(K w.params).In h->h.Ns bh mg->mg d.name=aA (.ref fa) ->
   ∃fd:FuncData,(∀(s:Shared) (u:Value),BindsTo s fd ⟨[u],[]⟩ [(x,u)]) /\
    ∀base:Heap,(K w.params).In base->base.Ns bh mg->eG l.prog w (K w.params) mg base (CX w) k fa fd [x] (sp w))(l_:∀(w:World) (H:Hp) (a:Addr) (ns:List Int),ns.length<=n->Du H->aV (K w.params) H a (ns.map V.int)->sp w [.ref a] H (λv _=>v=.bl true) λ_ _ _=>False)(Dl:∀(w:World) (H:Hp) (s:Shared) (e:Value) (s':Shared),CX w [] H s (λ_ _ _=>False) e s'->False):qy q loose XP YP l.row.toRowW d [] (λf vs=>qg f vs):=by
 refine O1.í hn Bh λw s₀ s₁ mg mb fa o pm cd doc a vs ns G Y ho hd fJ hmg Ip hints hlen hg=>?_
 have KX:=hY w _ Y;obtain⟨fd,hb,hF⟩:=F w mg fa _ KX G.T.g hmg;exact Ua KX G.T.g G.T.b G.T.builtins G.T.nolimit hg Ip hints (bf hlen Iq) hr hF hb (λH hO hS=>l_ w H a ns hlen hO hS) λH e s'=>Dl w H s₁ e s'
def VH{l:PySem.W.OpenLaw}{n k:Nat}{q:Program}{loose:List Str}{XP:(Str->Option Value)->Heap->Prop}{YP:World->Heap->Prop}{d:DefRec}{K:Params->Fg}{CX:AI}{sp:Fg->Sp}{x:Str}(hn:l.most=aA n)(Iq:n<=ag)(Bh:d.params.defaults=[])(hr:eR k callerA)(hY:∀(w:World) (h:Heap),YP w h->(K w.params).In h)(F:∀(w:World) (mg:Str->Option Value) (fa:Addr) (h:Heap),(K w.params).In h->h.Ns bh mg->mg d.name=aA (.ref fa) ->
   ∃fd:FuncData,(∀(s:Shared) (u:Value),BindsTo s fd ⟨[u],[]⟩ [(x,u)]) /\
    ∀base:Heap,(K w.params).In base->base.Ns bh mg->eG l.prog w (K w.params) mg base CX k fa fd [x] (sp<|K w.params))(l_:∀(K:Fg) (H:Hp) (a:Addr) (ns:List Int),ns.length<=n->Du H->aV K H a (ns.map V.int)->sp K [.ref a] H (λv _=>v=.bl true) λ_ _ _=>False)(Dl:∀(H:Hp) (s:Shared) (e:Value) (s':Shared),CX [] H s (λ_ _ _=>False) e s'->False):qy q loose XP YP l.row.toRowW d [] (λf vs=>qg f vs):=
 Tv (K:=K) (CX:=λ_=>CX) (sp:=λw=>sp<|K w.params) hn Iq Bh hr hY F (λw H a ns h1 h2 h3=>l_ (K w.params) H a ns h1 h2 h3) λ_ H s e s'=>Dl H s e s'
noncomputable def pU(s:Stmt):Arguments:=match s with
 |.FunctionDef _ a _ _ _ _ _ _ _ _=>a
 |_=>{ posonlyargs:=[],args:=[],vararg:=aB,kwonlyargs:=[],kw_defaults:=[],kwarg:=aB,defaults:=[] }
noncomputable def cF(s:Stmt):List Stmt:=match s with
 |.FunctionDef _ _ b _ _ _ _ _ _ _=>b
 |_=>[]
noncomputable def zZ(s:Stmt):Scope:=match s with
 |.FunctionDef _ _ _ _ _ _ sc _ _ _=>sc
 |_=>{ kind:=.function,names:=[],isGenerator:=false,isCoroutine:=false }
noncomputable abbrev iW:AI:=λ_ _ _ _ _ _=>False
noncomputable abbrev E0:XK:=λ_ _ _=>False
def D':J8 iW X E0:=λ_ _ _ _ _ _ _ h=>h.elim
structure xb(K:Fg)(x qual:Str)(st:Stmt)(f:Addr)(fd:FuncData):Prop where
 ex:∃(oc:Value) (od:Option Addr) (kV doc pm:Value) (an:Option Addr) (aN ct:Value) (xx:Array (Option Value)),
  fd=jk x qual (pU st) (cF st) (zZ st) .none kV doc pm an aN ct/\K.lookup f=aA ⟨oc,od,.func fd,xx⟩/\kv K aN qual=true
 kp:dj K (.ref f)=true
section
variable{K:Fg}
def xb.ok{st:Stmt}(F:xb K x qual st f fd)(S:b_ N ps (zZ st))(len:∀vs H Q E,sp vs H Q E->vs.length=ps.length)(IF:∀(aN:Value) (A:Around) (outer:List Env) (s:Shared) (H:Hp) (vs:List V) (Q:VK) (E:XK),eR k (A.deeper<|envOfC qual (zZ st) s.heap.objs.size f aN)->sp vs H Q E ->
   ∃t,eS (gE iW P w K mg base N qual (zZ st) f aN A outer s H E).Ak (cF st) t/\t { nx:=λ_ H'=>Q .aG H',rt:=Q } (start N vs) H):eG P w K mg base iW (k+1) f fd ps sp:=by
 obtain⟨oc,od,kV,doc,pm,an,aN,ct,xx,rfl,lk,fJ⟩:=F.ex;refine Gk lk fJ S len λA outer s H vs Q E hr l_=>?_
 obtain⟨t,h,q⟩:=IF aN A outer s H vs Q E hr l_;exact⟨t,h.Ak,q⟩
def xb.binds{st:Stmt}(F:xb K x qual st f fd)(h:∀(kV doc pm:Value) (an:Option Addr) (aN ct:Value) (us:List Value),us.length=ps.length->bindArgs (jk x qual (pU st) (cF st) (zZ st) .none kV doc pm an aN ct) ⟨us,[]⟩=pure (ps.zip us)):Binds K fd ps []:=by
 obtain⟨oc,od,kV,doc,pm,an,aN,ct,xx,rfl,lk,fJ⟩:=F.ex;exact .all<|h kV doc pm an aN ct
def La{st:Stmt}{kV:Value}(l:K.lookup f=aA ⟨oc,od,.func<|jk x qual (pU st) (cF st) (zZ st) .none kV doc pm an aN ct,xx⟩)(c:kv K aN qual=true)(k:dj K (.ref f)=true):xb K x qual st f (jk x qual (pU st) (cF st) (zZ st) .none kV doc pm an aN ct):=⟨⟨oc,od,kV,doc,pm,an,aN,ct,xx,rfl,l,c⟩,k⟩
end
section
variable{X:Cx}
def pv(i:Nat)(hN:X.N[i]?=aA x:=by rfl)(hv:Fu X.env.scope x:=by first|exact Or.inl rfl|exact Or.inr (Or.inl rfl)|exact Or.inr<|Or.inr rfl)(hd:e_ x:=by decide)(fJ:(x == ("__classdict__" : Str))=false:=by decide):PE X (.Name x pos) (sA i):=Ll hN hv hd fJ
end
def Cb{A B:Prop}(h:B):if false=true then A else B:=by
 rw[if_neg ah];exact h
def BC{A B:Prop}(h:A):if true=true then A else B:=by
 rw[if_pos rfl];exact h
def aH(H H':Hp):Prop:=∀b o,H b=aA o->H' b=aA o
def aH.refl(H:Hp):aH H H:=λ_ _ h=>h
def aH.trans(a:aH H H1)(b:aH H1 H2):aH H H2:=λc o h=>b c o<|a c o h
def aH.free(e:aH H H')(h:H' l=Option.none):H l=Option.none:=by
 cases q:H l with
 |none=>rfl
 |some o=>
  rw[e l o q] at h;cases h
def aH.seq{K:Fg}(e:aH H H')(h:aV K H a xs):aV K H' a xs:=by
 rcases h with(h|⟨o,h⟩)|h
 .exact .inl<|.inl<|e _ _ h
 .exact .inl<|.inr ⟨o,e _ _ h⟩
 .exact .inr h
end L2
namespace DD
open PySem PySem.Spec PyProof.Rows L2
abbrev St:=L2.St
inductive D where
 |aG|bl (b:Bool)|int (i:Int)|str (s:List Nat)|tup (l:List D)|lst (l:List D)|ty (n:String)|ref (a:Addr)|fL (ks:List Key) (l:List D)
def Dr(K:Fg)(O:Addr->Prop)(H:Hp)(a:Addr)(xs:List V):Prop:=
 (¬O a/\Rd H a (.lst xs))\/∃(o:Obj) (its:Array Value) (n:Nat),K.lookup a=aA o/\o.cls=.type "list" /\ o.dict=aB/\o.data=.seq its n/\its.size<=ag/\Vals xs its.toList
def Dr.sq{K:Fg}(h:Dr K O H a xs):aV K H a xs:=h.imp (·.2) id
mutual
def Is(K:Fg)(O:Addr->Prop)(H:Hp):D->V->Prop
 |.aG,v=>v=.aG
 |.bl b,v=>v=.bl b
 |.int i,v=>v=.int i
 |.str s,v=>v=.str ⟨s.toArray⟩
 |.ty n,v=>v=.ty n
 |.ref a,v=>v=.ref a
 |.tup l,v=>∃a xs,v=.ref a/\eI K H a xs/\IsL K O H l xs
 |.lst l,v=>∃a xs,v=.ref a/\Dr K O H a xs/\IsL K O H l xs
 |.fL ks l,v=>∃a aM,v=.ref a/\¬O a/\Rd H a (.dK aM)/\aM.map (·.1)=ks/\IsL K O H l (aM.map (·.2))
def IsL(K:Fg)(O:Addr->Prop)(H:Hp):List D->List V->Prop
 |[],vs=>vs=[]
 |d::l,vs=>∃v r,vs=v::r/\Is K O H d v/\IsL K O H l r
end
def Mb:HO->Prop
 |.lst _=>True
 |.dK _=>True
 |.iO _ (.dK _)=>True
 |.ins _ _ _=>True
 |_=>False
def Z2(O:Addr->Prop)(H:Hp):Prop:=∀a,O a->∃o,H a=aA o/\Mb o
def Q9(O:Addr->Prop)(H H':Hp):Prop:=∀b o,H b=aA o->¬O b->H' b=aA o
def Rd.some(h:Rd H a u):∃o,H a=aA o:=by
 rcases h with h|⟨o,h⟩
 .exact⟨_,h⟩
 .exact⟨_,h⟩
def eI.keep{K:Fg}(k:Q9 O H H')(o:Z2 O H)(h:eI K H a xs):eI K H' a xs:=by
 rcases h with(h|⟨ob,h⟩)|h
 .exact .inl<|.inl (k _ _ h λz=>by obtain⟨ys,q,m⟩:=o a z;rw[h] at q;cases q;exact m)
 .exact .inl<|.inr ⟨ob,k _ _ h λz=>by obtain⟨ys,q,m⟩:=o a z;rw[h] at q;cases q;exact m⟩
 .exact .inr h
def Rd.keep(k:Q9 O H H')(n:¬O a)(h:Rd H a u):Rd H' a u:=by
 rcases h with h|⟨ob,h⟩
 .exact .inl<|k _ _ h n
 .exact .inr ⟨ob,k _ _ h n⟩
mutual
theorem Is.mono{K:Fg}(k:Q9 O H H')(ol:Z2 O H)(oo:∀a,O' a->H a≠aB->O a):∀(d:D) (v:V),Is K O H d v->Is K O' H' d v
 |.aG,v,h=>by unfold Is at h ⊢;exact h
 |.bl b,v,h=>by unfold Is at h ⊢;exact h
 |.int i,v,h=>by unfold Is at h ⊢;exact h
 |.str s,v,h=>by unfold Is at h ⊢;exact h
 |.ty n,v,h=>by unfold Is at h ⊢;exact h
 |.ref a,v,h=>by unfold Is at h ⊢;exact h
 |.tup l,v,h=>by
  unfold Is at h ⊢;obtain⟨a,xs,e,q,r⟩:=h;exact⟨a,xs,e,eI.keep k ol q,IsL.mono k ol oo l xs r⟩
 |.lst l,v,h=>by
  unfold Is at h ⊢;obtain⟨a,xs,e,nq,r⟩:=h;refine⟨a,xs,e,?_,IsL.mono k ol oo l xs r⟩;rcases nq with⟨n,q⟩|q
  .exact .inl ⟨λz=>n<|oo a z (by obtain⟨o,q⟩:=Rd.some q;rw[q];simp),Rd.keep k n q⟩
  .exact .inr q
 |.fL ks l,v,h=>by
  unfold Is at h ⊢;obtain⟨a,aM,e,n,q,e2,r⟩:=h;exact⟨a,aM,e,λz=>n<|oo a z (by obtain⟨o,q⟩:=Rd.some q;rw[q];simp),Rd.keep k n q,e2,IsL.mono k ol oo l _ r⟩
theorem IsL.mono{K:Fg}(k:Q9 O H H')(ol:Z2 O H)(oo:∀a,O' a->H a≠aB->O a):∀(l:List D) (vs:List V),IsL K O H l vs->IsL K O' H' l vs
 |[],vs,h=>by unfold IsL at h ⊢;exact h
 |d::l,vs,h=>by
  unfold IsL at h ⊢;obtain⟨v,r,e,h1,h2⟩:=h;exact⟨v,r,e,Is.mono k ol oo d v h1,IsL.mono k ol oo l r h2⟩
end
def aH.kp(s:aH H H')(O:Addr->Prop):Q9 O H H':=λb o e _=>s b o e
def Is.same{K:Fg}(s:aH H H')(ol:Z2 O H)(h:Is K O H d v):Is K O H' d v:=Is.mono (aH.kp s O) ol (λ_ z _=>z) d v h
def IsL.same{K:Fg}(s:aH H H')(ol:Z2 O H)(h:IsL K O H l vs):IsL K O H' l vs:=IsL.mono (aH.kp s O) ol (λ_ z _=>z) l vs h
section
variable{K:Fg}
def IsL.length:∀{l:List D} {vs:List V},IsL K O H l vs->l.length=vs.length
 |[],vs,h=>by unfold IsL at h;subst h;rfl
 |d::l,vs,h=>by unfold IsL at h;obtain⟨v,r,rfl,_,h2⟩:=h;simp[IsL.length h2]
def IsL.get:∀{l:List D} {vs:List V} {i:Nat} {d:D},IsL K O H l vs->l[i]?=aA d->∃v,vs[i]?=aA v/\Is K O H d v
 |[],_,_,_,_,e=>by simp at e
 |d::l,vs,0,d',h,e=>by
  unfold IsL at h;obtain⟨v,r,rfl,h1,h2⟩:=h;simp at e;subst e;exact⟨v,rfl,h1⟩
 |d::l,vs,i+1,d',h,e=>by
  unfold IsL at h;obtain⟨v,r,rfl,h1,h2⟩:=h;obtain⟨u,q1,q2⟩:=IsL.get (i:=i) h2 (by simpa using e);exact⟨u,by simpa using q1,q2⟩
def IsL.nil:IsL K O H [] []:=by unfold IsL;rfl
def IsL.cons(h:Is K O H d v)(t:IsL K O H l vs):IsL K O H (d::l) (v::vs):=by unfold IsL;exact⟨v,vs,rfl,h,t⟩
def IsL.append:∀{l m:List D} {vs us:List V},IsL K O H l vs->IsL K O H m us->IsL K O H (l++m) (vs++us)
 |[],_,_,_,h,t=>by unfold IsL at h;subst h;exact t
 |d::l,m,vs,us,h,t=>by unfold IsL at h;obtain⟨v,r,rfl,h1,h2⟩:=h;exact .cons h1<|IsL.append h2 t
def IsL.take:∀{l:List D} {vs:List V} (n:Nat),IsL K O H l vs->IsL K O H (l.take n) (vs.take n)
 |_,_,0,_=>by simpa using IsL.nil
 |[],_,_+1,h=>by unfold IsL at h;subst h;simpa using IsL.nil
 |d::l,vs,n+1,h=>by unfold IsL at h;obtain⟨v,r,rfl,h1,h2⟩:=h;exact .cons h1<|IsL.take n h2
def IsL.drop:∀{l:List D} {vs:List V} (n:Nat),IsL K O H l vs->IsL K O H (l.drop n) (vs.drop n)
 |_,_,0,h=>h
 |[],_,_+1,h=>by unfold IsL at h;subst h;simpa using IsL.nil
 |d::l,vs,n+1,h=>by unfold IsL at h;obtain⟨v,r,rfl,h1,h2⟩:=h;exact IsL.drop n h2
def IsL.reverse:∀{l:List D} {vs:List V},IsL K O H l vs->IsL K O H l.reverse vs.reverse
 |[],_,h=>by unfold IsL at h;subst h;exact IsL.nil
 |d::l,vs,h=>by
  unfold IsL at h;obtain⟨v,r,rfl,h1,h2⟩:=h;rw[df,df];exact(IsL.reverse h2).append (.cons h1 .nil)
def IsL.inv1(h:IsL K O H [d] vs):∃v,vs=[v]/\Is K O H d v:=by
 unfold IsL at h;obtain⟨v,r,rfl,h1,h2⟩:=h;unfold IsL at h2;subst h2;exact⟨v,rfl,h1⟩
def IsL.inv2(h:IsL K O H [d,e] vs):∃v u,vs=[v,u]/\Is K O H d v/\Is K O H e u:=by
 unfold IsL at h;obtain⟨v,r,rfl,h1,h2⟩:=h;obtain⟨u,rfl,h3⟩:=h2.inv1;exact⟨v,u,rfl,h1,h3⟩
def IsL.Xy(h:IsL K O H [d,e,f] vs):∃v u w,vs=[v,u,w]/\Is K O H d v/\Is K O H e u/\Is K O H f w:=by
 unfold IsL at h;obtain⟨v,r,rfl,h1,h2⟩:=h;obtain⟨u,w,rfl,h3,h4⟩:=h2.inv2;exact⟨v,u,w,rfl,h1,h3,h4⟩
def zY:Is K O H (.int i) v↔v=.int i:=by unfold Is;exact mq
def yY:Is K O H (.bl b) v↔v=.bl b:=by unfold Is;exact mq
def yE:Is K O H (.str s) v↔v=.str ⟨s.toArray⟩:=by unfold Is;exact mq
def jH:Is K O H .aG v↔v=.aG:=by unfold Is;exact mq
def Is.VM:Is K O H (.ty n) v↔v=.ty n:=by unfold Is;exact mq
def uX:Is K O H (.ref a) v↔v=.ref a:=by unfold Is;exact mq
def wE:Is K O H (.tup l) v↔∃a xs,v=.ref a/\eI K H a xs/\IsL K O H l xs:=by unfold Is;exact mq
def yV:Is K O H (.lst l) v↔∃a xs,v=.ref a/\Dr K O H a xs/\IsL K O H l xs:=by unfold Is;exact mq
def oZ:Is K O H (.fL ks l) v↔∃a aM,v=.ref a/\¬O a/\Rd H a (.dK aM)/\aM.map (·.1)=ks/\IsL K O H l (aM.map (·.2)):=by unfold Is;exact mq
end
inductive Sl where
 |un|v (d:D)|o (l:List D)|p (l:List D)|z (l:List D)|d (b:Bool) (ks:List Key) (l:List D)
noncomputable abbrev En:=List Sl
noncomputable def Sl.own:Sl->Option (List D)
 |.o l=>aA l
 |.p l=>aA l
 |.z l=>aA l
 |.d _ _ l=>aA l
 |_=>aB
noncomputable def Sl.mt:Sl->Option (List D)
 |.o l=>aA l
 |.p l=>aA l
 |.d _ _ l=>aA l
 |_=>aB
noncomputable def Sl.ls:Sl->Option (List D)
 |.o l=>aA l
 |.p l=>aA l
 |.z l=>aA l
 |_=>aB
noncomputable def Sl.ml:Sl->Option (List D)
 |.o l=>aA l
 |.p l=>aA l
 |_=>aB
def Cp{x:Sl}{l:List D}(h:x.ml=aA l):x.mt=aA l/\x.ls=aA l:=by
 cases x<;>first|(cases h;exact⟨rfl,rfl⟩)|cases h
def Rf{x:Sl}{l:List D}(h:x.ls=aA l):x.own=aA l:=by
 cases x<;>first|(cases h;rfl)|cases h
def nY{x:Option Sl}{l:List D}(h:x.bind Sl.ls=aA l):x.bind Sl.own=aA l:=by
 cases x with
 |none=>cases h
 |some x=>exact Rf (x:=x) h
def Lh(h:x.bind Sl.own=aA l):x.bind Sl.ls=aA l\/∃f ks,x=aA (.d f ks l):=by
 cases x with
 |none=>cases h
 |some x=>cases x<;>first|(cases h;exact .inl rfl)|(cases h;exact .inr ⟨_,_,rfl⟩)|cases h
noncomputable def Sl.pk:Sl->Option Bool
 |.p _=>aA false
 |.d true _ _=>aA true
 |_=>aB
def rL{x:Option Sl}{k:Bool}(h:x.bind Sl.pk=aA k):∃l,x.bind Sl.own=aA l:=by
 cases x with
 |none=>cases h
 |some x=>cases x<;>first|(cases h;done)|exact⟨_,rfl⟩
def Pe(h:x.bind Sl.pk=aA false):∃l,x=aA (.p l):=by
 cases x with
 |none=>cases h
 |some x=>cases x with
  |d f ks l=>cases f<;>cases h
  |p l=>exact⟨l,rfl⟩
  |_=>cases h
def Pf(h:x.bind Sl.pk=aA true):∃ks l,x=aA (.d true ks l):=by
 cases x with
 |none=>cases h
 |some x=>cases x with
  |d f ks l=>cases f<;>first|(cases h;done)|exact⟨ks,l,rfl⟩
  |_=>cases h
def q_(q:Sl->Option (List D))(r:En)(σ:St)(a:Addr):Prop:=∃(i:Nat) (l:List D),(r[i]?).bind q=aA l/\σ[i]?=aA (aA<|.ref a)
abbrev o7:=q_ Sl.own
abbrev iV:=q_ Sl.mt
def rS{x:Sl}{l:List D}(h:x.mt=aA l):x.own=aA l:=by
 cases x<;>first|(cases h;rfl)|cases h
def iV.own(h:iV r σ a):o7 r σ a:=by
 obtain⟨i,l,e,q⟩:=h;obtain⟨x,e1,e2⟩:=lu.mp e;exact⟨i,l,by rw[e1];exact rS e2,q⟩
def Ow(O0:Addr->Prop)(r:En)(σ:St):Addr->Prop:=λa=>O0 a\/o7 r σ a
structure R(K:Fg)(O0:Addr->Prop)(H:Hp)(r:En)(σ:St):Prop where
 len:r.length=σ.length
 val:∀(i:Nat) (d:D),r[i]?=aA (.v d)->∃v,σ[i]?=aA (aA v)/\Is K (Ow O0 r σ) H d v
 own:∀(i:Nat) (l:List D),(r[i]?).bind Sl.ls=aA l->∃a xs,σ[i]?=aA (aA<|.ref a)/\H a=aA (.lst xs)/\IsL K (Ow O0 r σ) H l xs
 apart:∀(i j:Nat) (a:Addr) (l m:List D),(r[i]?).bind Sl.own=aA l->(r[j]?).bind Sl.own=aA m->σ[i]?=aA (aA<|.ref a)->σ[j]?=aA (aA<|.ref a)->i=j
 o0:Z2 O0 H
 loc:∀(i:Nat) (l:List D) (a:Addr),(r[i]?=aA (.o l)\/r[i]?=aA (.z l)\/∃ks,r[i]?=aA (.d false ks l))->σ[i]?=aA (aA<|.ref a)->¬O0 a
 par:∀(i:Nat) (k:Bool) (a:Addr),(r[i]?).bind Sl.pk=aA k->σ[i]?=aA (aA<|.ref a)->O0 a
 fL:∀(i:Nat) (f:Bool) (ks:List Key) (l:List D),r[i]?=aA (.d f ks l)->∃a aM,σ[i]?=aA (aA<|.ref a)/\H a=aA (.dK aM)/\aM.map (·.1)=ks/\IsL K (Ow O0 r σ) H l (aM.map (·.2))
def R.obj{K:Fg}{O0:Addr->Prop}{H:Hp}{r:En}{σ:St}(h:R K O0 H r σ){j:Nat}{m:List D}(e:(r[j]?).bind Sl.own=aA m):∃a o,σ[j]?=aA (aA<|.ref a)/\H a=aA o/\Mb o:=by
 rcases Lh e with e|⟨f,ks,e⟩
 .obtain⟨a,xs,e1,e2,_⟩:=h.own j m e;exact⟨a,_,e1,e2,trivial⟩
 .obtain⟨a,aM,e1,e2,_⟩:=h.fL j f ks m e;exact⟨a,_,e1,e2,trivial⟩
def R.ol{K:Fg}(h:R K O0 H r σ):Z2 (Ow O0 r σ) H:=λa z=>by
 rcases z with z|⟨i,l,e,q⟩
 .exact h.o0 a z
 .rcases Lh e with e|⟨f,ks,e⟩
  .obtain⟨b,xs,e1,e2,_⟩:=h.own i l e;rw[q] at e1;cases e1;exact⟨.lst xs,e2,trivial⟩
  .obtain⟨b,aM,e1,e2,_⟩:=h.fL i f ks l e;rw[q] at e1;cases e1;exact⟨.dK aM,e2,trivial⟩
def R.Al{K:Fg}(h:R K O0 H r σ)(n:H a=aB):¬Ow O0 r σ a:=λz=>by
 obtain⟨o,e,_⟩:=h.ol a z;rw[n] at e;cases e
def R.same{K:Fg}(h:R K O0 H r σ)(s:aH H H'):R K O0 H' r σ where
 len:=h.len
 val:=λi d e=>by obtain⟨v,e1,q⟩:=h.val i d e;exact⟨v,e1,q.same s h.ol⟩
 own:=λi l e=>by obtain⟨a,xs,e1,e2,q⟩:=h.own i l e;exact⟨a,xs,e1,s _ _ e2,q.same s h.ol⟩
 fL:=λi f ks l e=>by obtain⟨a,aM,e1,e2,e3,q⟩:=h.fL i f ks l e;exact⟨a,aM,e1,s _ _ e2,e3,q.same s h.ol⟩
 apart:=h.apart
 o0:=λa z=>by obtain⟨xs,e,m⟩:=h.o0 a z;exact⟨xs,s _ _ e,m⟩
 loc:=h.loc
 par:=h.par
structure Kp(H:Hp)(r:En)(σ:St)(H':Hp)(r':En)(σ':St):Prop where
 keep:Q9 (iV r σ) H H'
 live:∀b,H' b=aB->H b=aB
 lst:∀b o,H b=aA o->Mb o->∃o',H' b=aA o'/\Mb o'
 new:∀b,o7 r' σ' b->o7 r σ b\/H b=aB
 BV:∀b,iV r' σ' b->iV r σ b\/H b=aB
 par:∀(i:Nat) (k:Bool),(r[i]?).bind Sl.pk=aA k->(r'[i]?).bind Sl.pk=aA k/\σ'[i]?=σ[i]?
 fz:∀(i:Nat) (l:List D),r[i]?=aA (.z l)->r'[i]?=aA (.z l)/\σ'[i]?=σ[i]?
def Kp.of_same(r:En)(σ:St)(s:aH H H'):Kp H r σ H' r σ:=
 ⟨λb o e _=>s b o e,λb e=>s.free e,λb o e m=>⟨o,s _ _ e,m⟩,λb z=>.inl z,λb z=>.inl z,λi k e=>⟨e,rfl⟩,λi l e=>⟨e,rfl⟩⟩
def Kp.refl(H:Hp)(r:En)(σ:St):Kp H r σ H r σ:=.of_same r σ<|aH.refl H
def Kp.trans(a:Kp H r σ H1 r1 σ1)(b:Kp H1 r1 σ1 H2 r2 σ2):Kp H r σ H2 r2 σ2 where
 keep:=λc o e n=>b.keep c o (a.keep c o e n) λz=>(a.BV c z).elim n λq=>by rw[e] at q;cases q
 live:=λc e=>a.live c<|b.live c e
 lst:=λc o e m=>by obtain⟨o1,q,m1⟩:=a.lst c o e m;exact b.lst c o1 q m1
 new:=λc z=>(b.new c z).elim (a.new c) λq=>.inr<|a.live c q
 BV:=λc z=>(b.BV c z).elim (a.BV c) λq=>.inr<|a.live c q
 par:=λi k e=>by
  obtain⟨e1,q1⟩:=a.par i k e;obtain⟨e2,q2⟩:=b.par i k e1;exact⟨e2,q2.trans q1⟩
 fz:=λi l e=>by
  obtain⟨e1,q1⟩:=a.fz i l e;obtain⟨e2,q2⟩:=b.fz i l e1;exact⟨e2,q2.trans q1⟩
def PE.aK(h:PE X e t)(i:∀σ H Q,t' σ H Q->t σ H Q):PE X e t':=λpZ s σ H Q I q=>h pZ s σ H Q I<|i σ H Q q
def PT.aK(h:PT X e t)(i:∀σ H Q,t' σ H Q->t σ H Q):PT X e t':=λpZ s σ H Q I q=>h pZ s σ H Q I<|i σ H Q q
def PA.aK(h:PA X e t)(i:∀σ H Q,t' σ H Q->t σ H Q):PA X e t':=λpos pZ s σ H Q I q=>h pos pZ s σ H Q I<|i σ H Q q
def PS.aK{st:Stmt}(h:PS X st t)(i:∀D σ H,t' D σ H->t D σ H):PS X st t':=λpZ s σ H D I q=>h pZ s σ H D I<|i D σ H q
def eS.aK{st:List Stmt}(h:eS X st t)(i:∀D σ H,t' D σ H->t D σ H):eS X st t':=λpZ s σ H D I q=>h pZ s σ H D I<|i D σ H q
abbrev ME:=En->Option D
abbrev ML:=En->Option (List D)
abbrev MB:=En->Option Bool
def lE(K:Fg)(f:ME):TE:=λσ H Q=>∃O0 r d,R K O0 H r σ/\f r=aA d/\∀v H',aH H H'->Is K (Ow O0 r σ) H' d v->Q v H'
def lT(K:Fg)(f:MB):TT:=λσ H Q=>∃O0 r b,R K O0 H r σ/\f r=aA b/\∀H',aH H H'->Q b H'
def lA(K:Fg)(f:ML):TA:=λσ H Q=>∃O0 r l,R K O0 H r σ/\f r=aA l/\∀vs H',aH H H'->IsL K (Ow O0 r σ) H' l vs->Q vs H'
def lF(K:Fg)(f:ML):TE:=λσ H Q=>∃O0 r l,R K O0 H r σ/\f r=aA l/\∀a xs H',aH H H'->H a=aB->H' a=aA (.lst xs)->IsL K (λb=>Ow O0 r σ b\/b=a) H' l xs->Q (.ref a) H'
def lB(K:Fg)(f:ML):TE:=λσ H Q=>∃O0 r l,R K O0 H r σ/\f r=aA l/\∀a xs H',aH H H'->aV K H' a xs->IsL K (Ow O0 r σ) H' l xs->Q (.ref a) H'
def lX(K:Fg)(f:En->Option (D×En)):TE:=λσ H Q=>∃O0 r d r',R K O0 H r σ/\f r=aA (d,r')/\∀v H',R K O0 H' r' σ->Kp H r σ H' r' σ->Is K (Ow O0 r' σ) H' d v->Q v H'
def DE(X:Cx)(e:Expr)(f:ME):Prop:=PE X e<|lE X.K f
def DT(X:Cx)(e:Expr)(f:MB):Prop:=PT X e<|lT X.K f
def DA(X:Cx)(es:List Expr)(f:ML):Prop:=PA X es<|lA X.K f
def DF(X:Cx)(e:Expr)(f:ML):Prop:=PE X e<|lF X.K f
def DB(X:Cx)(e:Expr)(f:ML):Prop:=PE X e<|lB X.K f
def DX(X:Cx)(e:Expr)(f:En->Option (D×En)):Prop:=PE X e<|lX X.K f
inductive Fl where
 |nx (r:En)|bk (r:En)|ct (r:En)|rt (d:D) (r:En)|rf (l:List D) (r:En)|rg (ks:List Key) (l:List D) (r:En)
abbrev MS:=En->Option Fl
def FA(H:Hp)(r:En)(σ:St)(a:Addr):Prop:=H a=aB\/∃(i:Nat) (l:List D),(r[i]?=aA (.o l)\/∃ks,r[i]?=aA (.d false ks l))/\σ[i]?=aA (aA<|.ref a)
def vq(K:Fg)(O0:Addr->Prop)(H:Hp)(r:En)(σ:St)(Dn:Ends):Fl->Prop
 |.nx r'=>∀σ' H',R K O0 H' r' σ'->Kp H r σ H' r' σ'->Dn.nx σ' H'
 |.bk r'=>∀σ' H',R K O0 H' r' σ'->Kp H r σ H' r' σ'->Dn.bk σ' H'
 |.ct r'=>∀σ' H',R K O0 H' r' σ'->Kp H r σ H' r' σ'->Dn.ct σ' H'
 |.rt d r'=>∀v σ' H',R K O0 H' r' σ'->Kp H r σ H' r' σ'->Is K O0 H' d v->Dn.rt v H'
 |.rf l r'=>∀a xs σ' H',R K O0 H' r' σ'->Kp H r σ H' r' σ'->FA H r σ a->¬O0 a->H' a=aA (.lst xs)->IsL K (λb=>O0 b\/b=a) H' l xs->Dn.rt (.ref a) H'
 |.rg ks l r'=>∀a aM σ' H',R K O0 H' r' σ'->Kp H r σ H' r' σ'->FA H r σ a->¬O0 a->H' a=aA (.dK aM)->aM.map (·.1)=ks->IsL K (λb=>O0 b\/b=a) H' l (aM.map (·.2))->Dn.rt (.ref a) H'
def lS(K:Fg)(g:MS):TS:=λDn σ H=>∃O0 r fl,R K O0 H r σ/\g r=aA fl/\vq K O0 H r σ Dn fl
def DS(X:Cx)(st:Stmt)(g:MS):Prop:=PS X st<|lS X.K g
def lQ(X:Cx)(st:List Stmt)(g:MS):Prop:=eS X st<|lS X.K g
def vq.before{K:Fg}{O0:Addr->Prop}{H H1:Hp}{r r1:En}{σ σ1:St}{Dn:Ends}{fl:Fl}(R1:R K O0 H1 r1 σ1)(k:Kp H r σ H1 r1 σ1)(h:vq K O0 H r σ Dn fl):vq K O0 H1 r1 σ1 Dn fl:=by
 have OB:∀a,FA H1 r1 σ1 a->FA H r σ a:=λa z=>by
  rcases z with z|⟨i,l,e,q⟩
  .exact .inl<|k.live a z
  .have eo:(r1[i]?).bind Sl.own=aA l:=by rcases e with e|⟨ks,e⟩<;>rw[e]<;>rfl
   have np:∀k2,(r1[i]?).bind Sl.pk≠aA k2:=λk2 z=>by rcases e with e|⟨ks,e⟩<;>rw[e] at z<;>cases z
   have nz:∀l2,r1[i]?≠aA (.z l2):=λl2 z=>by rcases e with e|⟨ks,e⟩<;>rw[e] at z<;>cases z
   rcases k.new a ⟨i,l,eo,q⟩ with⟨j,m,e2,q2⟩|z
   .cases ej:r[j]? with
    |none=>rw[ej] at e2;cases e2
    |some x=>
     rw[ej] at e2;cases x with
     |un=>cases e2
     |v d=>cases e2
     |o l'=>exact .inr ⟨j,l',.inl ej,q2⟩
     |p l'=>
      obtain⟨e3,q3⟩:=k.par j false (by rw[ej];rfl);obtain⟨l2,e4⟩:=rL e3
      have:=R1.apart i j a l l2 eo e4 q<|q3.trans q2
      subst this;exact absurd e3<|np _
     |z l'=>
      obtain⟨e3,q3⟩:=k.fz j l' ej
      have:=R1.apart i j a l l' eo (by rw[e3];rfl) q<|q3.trans q2
      subst this;exact absurd e3<|nz _
     |d f ks l'=>
      cases f with
      |false=>exact .inr ⟨j,l',.inr ⟨ks,ej⟩,q2⟩
      |true=>
       obtain⟨e3,q3⟩:=k.par j true (by rw[ej];rfl);obtain⟨l2,e4⟩:=rL e3
       have:=R1.apart i j a l l2 eo e4 q<|q3.trans q2
       subst this;exact absurd e3<|np _
   .exact .inl z
 cases fl with
 |nx r'=>exact λσ' H' h1 h2=>h σ' H' h1<|k.trans h2
 |bk r'=>exact λσ' H' h1 h2=>h σ' H' h1<|k.trans h2
 |ct r'=>exact λσ' H' h1 h2=>h σ' H' h1<|k.trans h2
 |rt d r'=>exact λv σ' H' h1 h2 h3=>h v σ' H' h1 (k.trans h2) h3
 |rf l r'=>exact λa xs σ' H' h1 h2 h3 h4 h5 h6=>h a xs σ' H' h1 (k.trans h2) (OB a h3) h4 h5 h6
 |rg ks l r'=>exact λa xs σ' H' h1 h2 h3 h4 h5 h6 h7=>h a xs σ' H' h1 (k.trans h2) (OB a h3) h4 h5 h6 h7
def mC(d:D):ME:=λ_=>aA d
def zD(i:Nat):ME:=λr=>match r[i]? with
 |some (.v d)=>aA d
 |_=>aB
def jP(i:Nat):ML:=λr=>(r[i]?).bind Sl.ls
def zG(m:D->D->Option D)(f g:ME):ME:=λr=>(f r).bind λx=>(g r).bind λy=>m x y
def aF(m:D->Option D)(f:ME):ME:=λr=>(f r).bind m
def zN:ML:=λ_=>aA []
def zC(f:ME)(g:ML):ML:=λr=>(f r).bind λx=>(g r).bind λl=>aA (x::l)
def vD(f:ML):ME:=λr=>(f r).bind λl=>if l.length<=ag then aA (.tup l) else aB
def yB(f:ML):ML:=λr=>(f r).bind λl=>if l.length<=ag then aA l else aB
def xI(f:ML):ME:=λr=>(f r).map .lst
def xj(f:ME):ML:=λr=>(f r).bind λd=>match d with
 |.lst l=>aA l
 |_=>aB
def Bw(f g:ME):ME:=λr=>(f r).bind λd=>match d with
 |.bl true=>g r
 |.bl false=>aA<|.bl false
 |_=>aB
def BW(f g:ME):ME:=λr=>(f r).bind λd=>match d with
 |.bl true=>aA<|.bl true
 |.bl false=>g r
 |_=>aB
noncomputable def Ĝ:D->Option D
 |.bl b=>aA<|.bl !b
 |_=>aB
def bF(f g:MB):MB:=λr=>(f r).bind λb=>if b=true then g r else aA false
def cU(f g:MB):MB:=λr=>(f r).bind λb=>if b=true then aA true else g r
def jW(f:MB):MB:=λr=>(f r).map (!·)
noncomputable def AC:D->Option Bool
 |.bl b=>aA b
 |_=>aB
def aD(f:ME):MB:=λr=>(f r).bind AC
noncomputable def AQ:D->Option Bool
 |.aG=>aA false
 |.bl b=>aA b
 |.int i=>aA<|i != 0
 |.str s=>if s.length<=ag then aA (!s.isEmpty) else aB
 |.tup l=>aA<|!l.isEmpty
 |.lst l=>aA<|!l.isEmpty
 |_=>aB
def vL(fl:ML):MB:=λr=>(fl r).map λl=>!l.isEmpty
def uG(f:ME):MB:=λr=>(f r).bind AQ
section
variable{X:Cx}{pos:Pos}{a b c:Expr}{f g:ME}
def aI(e:o.bind h=aA y):∃x,o=aA x/\h x=aA y:=by
 cases o with
 |none=>cases e
 |some x=>exact⟨x,rfl,e⟩
def KA(h:PE X a t)(i:∀O0 σ H r d Q,R X.K O0 H r σ->f r=aA d->(∀v H',aH H H'->Is X.K (Ow O0 r σ) H' d v->Q v H')->t σ H Q):DE X a f:=
 PE.aK h λσ H Q ⟨O0,r,d,hR,e,q⟩=>i O0 σ H r d Q hR e q
def zA(i:Nat)(h:PE X (.Name x pos) (sA i)):DE X (.Name x pos) (zD i):=
 KA h λO0 σ H r d Q hR e q=>by
  unfold zD at e;have e':r[i]?=aA (.v d):=by
   split at e
   .rename_i d' h;cases e;exact h
   .cases e
  obtain⟨v,e1,q1⟩:=hR.val i d e';exact⟨v,e1,q v H (aH.refl H) q1⟩
def jA(i:Nat)(h:PE X (.Name x pos) (sA i)):DB X (.Name x pos) (jP i):=
 PE.aK h λσ H Q ⟨O0,r,l,hR,e,q⟩=>by
  obtain⟨a,xs,e1,e2,q1⟩:=hR.own i l e;exact⟨.ref a,e1,q a xs H (aH.refl H) (aV.of e2) q1⟩
def YK(h:PE X a (tC v))(hd:∀O H,Is X.K O H d v):DE X a (mC d):=
 KA h λO0 σ H r d' Q hR e q=>by
  unfold mC at e;cases e;exact q v H (aH.refl H)<|hd _ _
def zF{i j}:DE X (.Constant (.int i) j pos) (mC<|.int i):=YK Li λO H=>by unfold Is;rfl
def AT{i j}:DE X (.Constant (.bool i) j pos) (mC<|.bl i):=YK Qi λO H=>by unfold Is;rfl
def bZ{j}:DE X (.Constant .none j pos) (mC .aG):=YK Sa λO H=>by unfold Is;rfl
def zU{j}(e:x.cps.toList=s:=by rfl):DE X (.Constant (.str x) j pos) (mC<|.str s):=YK Sd λO H=>by
 unfold Is;subst e;simp
def eT(K:Fg)(r2:R2)(m:D->D->Option D):Prop:=∀(O:Addr->Prop) (H:Hp) (dx dy d:D) (vx vy:V) (Q:VK),Z2 O H->Is K O H dx vx->Is K O H dy vy->m dx dy=aA d->(∀v H',aH H H'->Is K O H' d v->Q v H')->r2 vx vy H Q
def two{ta tb:TE}{r2:R2}{m:D->D->Option D}(hd:eT X.K r2 m){σ:St}{H:Hp}{Q:VK}(h:lE X.K (zG m f g) σ H Q):Cs r2 (lE X.K f) (lE X.K g) σ H Q:=by
 obtain⟨O0,r,d,hR,e,q⟩:=h;obtain⟨x,e1,e⟩:=aI e;obtain⟨y,e2,e⟩:=aI e;refine⟨O0,r,x,hR,e1,λv1 H1 s1 i1=>⟨O0,r,y,hR.same s1,e2,λv2 H2 s2 i2=>?_⟩⟩;exact hd (Ow O0 r σ) H2 x y d v1 v2 Q (hR.same<|s1.trans s2).ol (i1.same s2 (hR.same s1).ol) i2 e λv H' s' i'=>q v H' ((s1.trans s2).trans s') i'
def zL{op:Operator}{r2:R2}{m:D->D->Option D}(ho:c_ X (binaryOp op) r2)(hd:eT X.K r2 m)(ha:DE X a f)(hb:DE X b g):DE X (.BinOp a op b pos) (zG m f g):=
 PE.aK (Ki ho ha hb) λσ H Q h=>two (ta:=lE X.K f) (tb:=lE X.K g) hd h
def mP{op:CmpOp}{r2:R2}{m:D->D->Option D}(ho:c_ X (bz op) r2)(hd:eT X.K r2 m)(ha:DE X a f)(hb:DE X b g)(hm:gu op b=false):DE X (.Compare a [op] [b] pos) (zG m f g):=
 PE.aK (S7 ho ha hb hm) λσ H Q h=>two (ta:=lE X.K f) (tb:=lE X.K g) hd h
def z6{op:CmpOp}{r2:R2}{m:D->D->Option D}(ho:c_ X (bz op) r2)(hd:eT X.K r2 m)(ha:DE X a f)(hb:DE X b g)(hm:gu op b=false):DT X (.Compare a [op] [b] pos) (aD<|zG m f g):=by
 refine PT.aK (X8 ho ha hb hm) λσ H Q h=>?_
 obtain⟨O0,r,k,hR,e,q⟩:=h;obtain⟨d,e1,e⟩:=aI e;refine two (ta:=lE X.K f) (tb:=lE X.K g) (m:=m) hd ⟨O0,r,d,hR,e1,λv H' s' i'=>?_⟩;cases d<;>first|cases e|skip
 rw[yY] at i';exact⟨_,i',q H' s'⟩
def PH(ho:Fw X (unaryOp op) r1)(hd:∀(O:Addr->Prop) (H:Hp) (dx d:D) (vx:V) (Q:VK),Is X.K O H dx vx->m dx=aA d->(∀v,Is X.K O H d v->Q v H)->r1 vx H Q)(ha:DE X a f):DE X (.UnaryOp op a pos) (aF m f):=by
 refine PE.aK (Kj ho ha) λσ H Q h=>?_
 obtain⟨O0,r,d,hR,e,q⟩:=h;obtain⟨x,e1,e⟩:=aI e;exact⟨O0,r,x,hR,e1,λv1 H1 s1 i1=>hd _ H1 x d v1 Q i1 e λv i=>q v H1 s1 i⟩
def Ej{op}(h:DE X a f):DE X (.BoolOp op [a] pos) f:=Sb h
def Gr{rest:List Expr}(ha:DE X a f)(hb:DE X (.BoolOp .And (b::rest) pos) g):DE X (.BoolOp .And (a::b::rest) pos) (Bw f g):=by
 refine PE.aK (R8 ha hb) λσ H Q h=>?_
 obtain⟨O0,r,d,hR,e,q⟩:=h;obtain⟨x,e1,e⟩:=aI e;refine⟨O0,r,x,hR,e1,λv1 H1 s1 i1=>?_⟩;cases x with
 |bl k=>
  rw[yY] at i1;refine⟨k,i1,?_⟩;cases k with
  |true=>
   rw[if_pos rfl];exact⟨O0,r,d,hR.same s1,e,λv H' s' i'=>q v H' (s1.trans s') i'⟩
  |false=>
   rw[if_neg ah];cases e;exact q _ H1 s1 (by rw[yY])
 |_=>cases e
def KC{rest:List Expr}(ha:DE X a f)(hb:DE X (.BoolOp .Or (b::rest) pos) g):DE X (.BoolOp .Or (a::b::rest) pos) (BW f g):=by
 refine PE.aK (Qj ha hb) λσ H Q h=>?_
 obtain⟨O0,r,d,hR,e,q⟩:=h;obtain⟨x,e1,e⟩:=aI e;refine⟨O0,r,x,hR,e1,λv1 H1 s1 i1=>?_⟩;cases x with
 |bl k=>
  rw[yY] at i1;refine⟨k,i1,?_⟩;cases k with
  |true=>
   rw[if_pos rfl];cases e;exact q _ H1 s1 (by rw[yY])
  |false=>
   rw[if_neg ah];exact⟨O0,r,d,hR.same s1,e,λv H' s' i'=>q v H' (s1.trans s') i'⟩
 |_=>cases e
def oC(ha:DT X a tf):PW X (.BoolOp .And [a] pos) (lT X.K tf):=TD ha
def gC(ha:DT X a tf):PW X (.BoolOp .Or [a] pos) (lT X.K tf):=RG ha
def PW.aK(h:PW X e t)(i:∀σ H Q,t' σ H Q->t σ H Q):PW X e t':=λwh pZ s σ H Q I q=>h wh pZ s σ H Q I<|i σ H Q q
def oD{rest:List Expr}(ha:DT X a tf)(hb:PW X (.BoolOp .And (b::rest) pos) (lT X.K tg)):PW X (.BoolOp .And (a::b::rest) pos) (lT X.K<|bF tf tg):=by
 refine PW.aK (RE ha hb) λσ H Q h=>?_
 obtain⟨O0,r,d,hR,e,q⟩:=h;obtain⟨x,e1,e⟩:=aI e;refine⟨O0,r,x,hR,e1,λH1 s1=>?_⟩;cases x with
 |true=>
  rw[if_pos rfl];exact⟨O0,r,d,hR.same s1,e,λH' s'=>q H'<|s1.trans s'⟩
 |false=>
  rw[if_neg ah];cases e;exact q H1 s1
def cR{rest:List Expr}(ha:DT X a tf)(hb:PW X (.BoolOp .Or (b::rest) pos) (lT X.K tg)):PW X (.BoolOp .Or (a::b::rest) pos) (lT X.K<|cU tf tg):=by
 refine PW.aK (Qk ha hb) λσ H Q h=>?_
 obtain⟨O0,r,d,hR,e,q⟩:=h;obtain⟨x,e1,e⟩:=aI e;refine⟨O0,r,x,hR,e1,λH1 s1=>?_⟩;cases x with
 |true=>
  rw[if_pos rfl];cases e;exact q H1 s1
 |false=>
  rw[if_neg ah];exact⟨O0,r,d,hR.same s1,e,λH' s'=>q H'<|s1.trans s'⟩
def Q6(h:PW X a (lT X.K tf)):DT X a tf:=h.pt
def uV(ha:DT X a tf):DT X (.UnaryOp .Not a pos) (jW tf):=by
 refine PT.aK (RD ha) λσ H Q h=>?_
 obtain⟨O0,r,d,hR,e,q⟩:=h;unfold jW at e;cases e1:tf r with
 |none=>rw[e1] at e;cases e
 |some k=>
  rw[e1] at e;cases e;exact⟨O0,r,k,hR,e1,λH1 s1=>q H1 s1⟩
def Tt{K:Fg}(h:Is K O H d v)(e:AQ d=aA k):FK K v H k:=by
 cases d with
 |fL ks l=>cases e
 |aG=>rw[jH] at h;subst h;cases e;rfl
 |bl b=>rw[yY] at h;subst h;cases e;rfl
 |int i=>rw[zY] at h;subst h;cases e;rfl
 |str s=>
  rw[yE] at h;subst h;simp only[AQ] at e;split at e
  .rename_i hl;cases e;refine⟨by simpa [me] using hl,?_⟩;cases s with
   |nil=>rfl
   |cons c r=>
    have:((r.length:Int)+1)≠0:=by omega
    simpa [me] using this
  .cases e
 |tup l=>
  rw[wE] at h;obtain⟨a,xs,rfl,hs,hl⟩:=h;cases e;refine .inr<|.inl ⟨xs,hs,?_⟩
  have:=hl.length
  cases l<;>cases xs<;>simp_all
 |lst l=>
  rw[yV] at h;obtain⟨a,xs,rfl,hs,hl⟩:=h;cases e;refine .inl ⟨xs,hs.sq,?_⟩
  have:=hl.length
  cases l<;>cases xs<;>simp_all
 |ty n=>cases e
 |ref a=>cases e
def qP(ha:DE X a f)(he:∀gH,isTrue a X.env gH=(do let v <- gH;standAt a.pos;holding [v] (truthy v)):=by intro _;rfl):DT X a (uG f):=by
 refine PT.aK (Nl ha he) λσ H Q h=>?_
 obtain⟨O0,r,d,hR,e,q⟩:=h;obtain⟨x,e1,e⟩:=aI e;exact⟨O0,r,x,hR,e1,λv1 H1 s1 i1=>⟨d,Tt i1 e,q H1 s1⟩⟩
def oE(ha:DB X a fl)(he:∀gH,isTrue a X.env gH=(do let v <- gH;standAt a.pos;holding [v] (truthy v)):=by intro _;rfl):DT X a (vL fl):=by
 refine PT.aK (Nl ha he) λσ H Q h=>?_
 obtain⟨O0,r,d,hR,e,q⟩:=h;unfold vL at e;cases e1:fl r with
 |none=>rw[e1] at e;cases e
 |some l=>
  rw[e1] at e;cases e;refine⟨O0,r,l,hR,e1,λa xs H1 s1 i1 i2=>⟨_,.inl ⟨xs,i1,?_⟩,q H1 s1⟩⟩
  have:=i2.length
  cases l<;>cases xs<;>simp_all
def zJ:DA X [] zN:=PA.aK kT λσ H Q ⟨O0,r,l,hR,e,q⟩=>by
 unfold zN at e;cases e;exact q [] H (aH.refl H) .nil
def zB(ha:DE X a f)(hr:DA X es fs)(hs:sL X a es:=by rfl):DA X (a::es) (zC f fs):=by
 refine PA.aK (wV ha hr hs) λσ H Q h=>?_
 obtain⟨O0,r,d,hR,e,q⟩:=h;obtain⟨x,e1,e⟩:=aI e;obtain⟨l,e2,e⟩:=aI e;cases e;exact⟨O0,r,x,hR,e1,λv1 H1 s1 i1=>⟨O0,r,l,hR.same s1,e2,λvs H2 s2 i2=>q _ H2 (s1.trans s2)<|.cons (i1.same s2 (hR.same s1).ol) i2⟩⟩
def xU(n:H p=aB):aH H (upd H p o):=λb u e=>by rw[qM<|kY e n];exact e
def qB{x1}(h:DA X es fs):DE X (.Tuple es x1 pos) (vD fs):=by
 refine PE.aK (Lk h) λσ H Q h=>?_
 obtain⟨O0,r,d,hR,e,q⟩:=h;obtain⟨l,e1,e⟩:=aI e;split at e
 .rename_i hl;cases e;refine⟨O0,r,l,hR,e1,λvs H1 s1 i1=>⟨by rw[<-i1.length];exact hl,λp hp=>q _ _ (s1.trans<|xU hp) ?_⟩⟩;rw[wE];exact⟨p,vs,rfl,eI.of wL,i1.same (xU hp) (hR.same s1).ol⟩
 .cases e
def yJ(h:DA X es fs):DF X (.List es pos) (yB fs):=by
 refine PE.aK (R_ h) λσ H Q h=>?_
 obtain⟨O0,r,l',hR,e,q⟩:=h;obtain⟨l,e1,e⟩:=aI e;split at e
 .rename_i hl;have e':l=l':=bp e;subst e';refine⟨O0,r,l,hR,e1,λvs H1 s1 i1=>⟨by rw[<-i1.length];exact hl,λp hp=>q _ _ _ (s1.trans<|xU hp) (s1.free hp) wL ?_⟩⟩;refine IsL.mono (aH.kp (xU hp) _) (hR.same s1).ol (λa z n=>?_) _ vs i1;rcases z with z|z
  .exact z
  .subst z;exact absurd hp n
 .cases e
def j5(h:DF X a fl):DE X a (xI fl):=by
 refine PE.aK h λσ H Q h=>?_
 obtain⟨O0,r,d,hR,e,q⟩:=h;unfold xI at e;cases e1:fl r with
 |none=>rw[e1] at e;cases e
 |some l=>
  rw[e1] at e;cases e;refine⟨O0,r,l,hR,e1,λp xs H1 s1 n1 e2 i1=>q _ H1 s1 ?_⟩;rw[yV];have ol:Z2 (λb=>Ow O0 r σ b\/b=p) H1:=λb z=>z.elim (λz=>(hR.same s1).ol b z) λz=>by subst z;exact⟨.lst xs,e2,trivial⟩
  exact⟨p,xs,rfl,.inl ⟨hR.Al n1,.inl e2⟩,IsL.mono (aH.kp (aH.refl H1) _) ol (λa z _=>.inl z) l xs i1⟩
def BA(h:DE X a f):DB X a (xj f):=by
 refine PE.aK h λσ H Q h=>?_
 obtain⟨O0,r,l,hR,e,q⟩:=h;obtain⟨d,e1,e⟩:=aI e;refine⟨O0,r,d,hR,e1,λv H1 s1 i1=>?_⟩;cases d with
 |lst l'=>
  cases e;rw[yV] at i1;obtain⟨p,xs,rfl,rd,il⟩:=i1;exact q p xs H1 s1 rd.sq il
 |_=>cases e
end
def yP:MS:=λr=>aA<|.nx r
def yC(g h:MS):MS:=λr=>(g r).bind λfl=>match fl with
 |.nx r'=>h r'
 |x=>aA x
def y9(i:Nat)(d:D)(r:En):Option En:=match r[i]? with
 |some (.p _)=>aB
 |some (.z _)=>aB
 |some (.d true _ _)=>aB
 |some _=>aA<|r.set i<|.v d
 |none=>aB
def AO(i:Nat)(l:List D)(r:En):Option En:=match r[i]? with
 |some (.p _)=>aB
 |some (.z _)=>aB
 |some (.d true _ _)=>aB
 |some _=>aA<|r.set i<|.o l
 |none=>aB
def xF(i:Nat)(f:ME):MS:=λr=>(f r).bind λd=>(y9 i d r).map .nx
def dD(i:Nat)(f:ML):MS:=λr=>(f r).bind λl=>(AO i l r).map .nx
def qE(f:ME):MS:=λr=>(f r).map λd=>.rt d r
def ZB(i:Nat):MS:=λr=>match r[i]? with
 |some (.o l)=>aA<|.rf l r
 |_=>aB
def aJ(c:MB)(g h:MS):MS:=λr=>(c r).bind λb=>if b=true then g r else h r
def QZ(f:ME):MS:=λr=>(f r).map λ_=>.nx r
def sX(f:En->Option (D×En)):MS:=λr=>(f r).map λp=>.nx p.2
def vE(i:Nat)(f:En->Option (D×En)):MS:=λr=>(f r).bind λp=>(y9 i p.1 p.2).map .nx
def F_(f:En->Option (D×En)):MS:=λr=>(f r).map λp=>.rt p.1 p.2
def j7:Nat->MB->MS->MS
 |0,_,_=>λ_=>aB
 |n+1,c,g=>λr=>(c r).bind λb=>if b=true then (g r).bind λfl=>match fl with
   |.nx r'=>j7 n c g r'
   |.ct r'=>j7 n c g r'
   |.bk r'=>aA<|.nx r'
   |x=>aA x
  else aA<|.nx r
def gM(bd:D->En->Option En)(g:MS):List D->MS
 |[],r=>aA<|.nx r
 |d::l,r=>(bd d r).bind λr1=>(g r1).bind λfl=>match fl with
   |.nx r'=>gM bd g l r'
   |.ct r'=>gM bd g l r'
   |.bk r'=>aA<|.nx r'
   |x=>aA x
def dQ(bd:D->En->Option En)(it:ML)(g:MS):MS:=λr=>(it r).bind λl=>gM bd g l r
def zK{α:Type}{l:List α}{i j:Nat}{x:α}(h:i≠j):(l.set i x)[j]?=l[j]?:=by rw[List.getElem?_set];simp[h]
def yD{α:Type}{l:List α}{i:Nat}{x:α}(h:i<l.length):(l.set i x)[i]?=aA x:=by rw[List.getElem?_set];simp[h]
section
variable{K:Fg}{O0:Addr->Prop}{H H1:Hp}{r:En}{σ:St}{i:Nat}{d:D}{v:V}
def Y6{q:Sl->Option (List D)}(hq:∀d,q (.v d)=aB){a:Addr}{x:Option V}(h:q_ q (r.set i<|.v d) (σ.set i x) a):q_ q r σ a:=by
 obtain⟨j,l,e,q'⟩:=h;by_cases hj:i=j
 .subst hj;by_cases hl:i<r.length
  .rw[yD hl] at e;have e':q (.v d)=aA l:=e;rw[hq] at e';cases e'
  .rw[mz<|by simpa using hl] at e;cases e
 .rw[zK hj] at e q';exact⟨j,l,e,q'⟩
def R.BP(h:R K O0 H r σ)(hi:i<r.length)(np:∀l,(r[i]?).bind Sl.pk=aB/\r[i]?≠aA (.z l))(hv:Is K (Ow O0 r σ) H d v):R K O0 H (r.set i<|.v d) (σ.set i<|some v)/\Kp H r σ H (r.set i<|.v d) (σ.set i<|some v):=by
 have Ay:i<σ.length:=by rw[<-h.len];exact hi
 have sub:∀a,Ow O0 (r.set i<|.v d) (σ.set i<|some v) a->H a≠aB->Ow O0 r σ a:=λa z _=>z.elim .inl λz=>.inr<|Y6 (λ_=>rfl) z
 have ne:∀(j:Nat) (l:List D),((r.set i<|.v d)[j]?).bind Sl.own=aA l->i≠j:=λj l e z=>by subst z;rw[yD hi] at e;cases e
 refine⟨⟨by simp[h.len],λj d' e=>?_,λj l e=>?_,λj k a l m e1 e2 q1 q2=>?_,h.o0,λj l a e q=>?_,λj l a e q=>?_,λj f ks l e=>?_⟩,⟨λb o e _=>e,λb e=>e,λb o e m=>⟨o,e,m⟩,λb z=>.inl<|Y6 (λ_=>rfl) z,λb z=>.inl<|Y6 (λ_=>rfl) z,λj l e=>?_,λj l e=>?_⟩⟩
 .by_cases hj:i=j
  .subst hj;rw[yD hi] at e;cases e;exact⟨v,yD Ay,Is.mono (aH.kp (aH.refl H) _) h.ol sub _ _ hv⟩
  .rw[zK hj] at e;obtain⟨u,e1,q⟩:=h.val j d' e;exact⟨u,by rw[zK hj];exact e1,Is.mono (aH.kp (aH.refl H) _) h.ol sub _ _ q⟩
 .have hj:=ne j l<|nY e;rw[zK hj] at e;obtain⟨a,xs,e1,e2,q⟩:=h.own j l e;exact⟨a,xs,by rw[zK hj];exact e1,e2,IsL.mono (aH.kp (aH.refl H) _) h.ol sub _ _ q⟩
 .have hj:=ne j l e1;have hk:=ne k m e2;rw[zK hj] at e1 q1;rw[zK hk] at e2 q2;exact h.apart j k a l m e1 e2 q1 q2
 .have hj:i≠j:=ne j l (by rcases e with e|e|⟨ks,e⟩<;>rw[e]<;>rfl);rw[zK hj] at e q;exact h.loc j l a e q
 .have hj:i≠j:=ne j _ (rL e).choose_spec;rw[zK hj] at e q;exact h.par j l a e q
 .have hj:=ne j l (by rw[e];rfl);rw[zK hj] at e;obtain⟨a,aM,e1,e2,e3,q⟩:=h.fL j f ks l e;exact⟨a,aM,by rw[zK hj];exact e1,e2,e3,IsL.mono (aH.kp (aH.refl H) _) h.ol sub _ _ q⟩
 .have hj:i≠j:=λz=>by subst z;rw[(np []).1] at e;cases e
  exact⟨by rw[zK hj];exact e,zK hj⟩
 .have hj:i≠j:=λz=>by subst z;exact(np l).2 e
  exact⟨by rw[zK hj];exact e,zK hj⟩
def R.setG{y:Sl}{o':HO}{p:Addr}(h:R K O0 H r σ)(s:aH H H1)(n:H p=aB)(e:H1 p=aA o')(mb:Mb o')(yv:∀d,y≠.v d)(yl:∀m,y.ls=aA m->∃xs,o'=.lst xs/\IsL K (λb=>Ow O0 r σ b\/b=p) H1 m xs)(yk:y.pk=aB)(yd:∀f ks m,y=.d f ks m->∃aM,o'=.dK aM/\aM.map (·.1)=ks/\IsL K (λb=>Ow O0 r σ b\/b=p) H1 m (aM.map (·.2)))(hi:i<r.length)(np:∀l,(r[i]?).bind Sl.pk=aB/\r[i]?≠aA (.z l)):R K O0 H1 (r.set i y) (σ.set i<|some<|.ref p)/\Kp H r σ H1 (r.set i y) (σ.set i<|some<|.ref p):=by
 have Ay:i<σ.length:=by rw[<-h.len];exact hi
 have ow:∀{q:Sl->Option (List D)} a,q_ q (r.set i y) (σ.set i<|some<|.ref p) a->q_ q r σ a\/a=p:=λ{q} a z=>by
  obtain⟨j,m,e1,q1⟩:=z;by_cases hj:i=j
  .subst hj;rw[yD Ay] at q1;cases q1;exact .inr rfl
  .rw[zK hj] at e1 q1;exact .inl ⟨j,m,e1,q1⟩
 have sub:∀a,Ow O0 (r.set i y) (σ.set i<|some<|.ref p) a->H a≠aB->Ow O0 r σ a:=λa z nn=>z.elim .inl λz=>(ow a z).elim .inr λz=>by subst z;exact absurd n nn
 have zj:Z2 (λb=>Ow O0 r σ b\/b=p) H1:=λb z=>z.elim (λz=>(h.same s).ol b z) λz=>by subst z;exact⟨_,e,mb⟩
 have new:∀{m xs},IsL K (λb=>Ow O0 r σ b\/b=p) H1 m xs->IsL K (Ow O0 (r.set i y)<|σ.set i<|some<|.ref p) H1 m xs:=λhl=>IsL.mono (aH.kp (aH.refl H1) _) zj (λa z _=>z.elim (λz=>.inl<|.inl z) λz=>(ow a z).imp .inr id) _ _ hl
 have par:∀(j:Nat) (k:Bool),(r[j]?).bind Sl.pk=aA k->i≠j:=λj k e1 z=>by subst z;rw[(np []).1] at e1;cases e1
 have par':∀(j:Nat) (k:Bool),((r.set i y)[j]?).bind Sl.pk=aA k->i≠j:=λj k e1 z=>by
  subst z;rw[yD hi] at e1;cases yk.symm.trans e1
 refine⟨⟨by simp[h.len],λj d' e1=>?_,λj m e1=>?_,λj k a l1 m e1 e2 q1 q2=>?_,(h.same s).o0,λj m a e1 q=>?_,λj m a e1 q=>?_,λj f ks m e1=>?_⟩,⟨λb o e1 _=>s b o e1,λb e1=>s.free e1,λb o e1 mb=>⟨o,s _ _ e1,mb⟩,λb z=>(ow b z).imp id λz=>by subst z;exact n,λb z=>(ow b z).imp id λz=>by subst z;exact n,λj m e1=>?_,λj m e1=>?_⟩⟩
 .have hj:i≠j:=λz=>by subst z;rw[yD hi] at e1;exact yv d'<|bp e1
  rw[zK hj] at e1;obtain⟨u,e2,q⟩:=h.val j d' e1;exact⟨u,by rw[zK hj];exact e2,Is.mono (aH.kp s _) h.ol sub _ _ q⟩
 .by_cases hj:i=j
  .subst hj;rw[yD hi] at e1;obtain⟨xs,rfl,hl⟩:=yl m e1;exact⟨p,xs,yD Ay,e,new hl⟩
  .rw[zK hj] at e1;obtain⟨a,ys,e2,e3,q⟩:=h.own j m e1;exact⟨a,ys,by rw[zK hj];exact e2,s _ _ e3,IsL.mono (aH.kp s _) h.ol sub _ _ q⟩
 .have out:∀(j:Nat) (m:List D) (a:Addr),i≠j->((r.set i y)[j]?).bind Sl.own=aA m->(σ.set i<|some<|.ref p)[j]?=aA (aA<|.ref a)->a≠p:=λj m a hj e1 q1 z=>by
   rw[zK hj] at e1 q1;obtain⟨b,ys,e2,e3,_⟩:=h.obj e1;rw[q1] at e2;cases e2;subst z;rw[n] at e3;cases e3
  by_cases hj:i=j
  .by_cases hk:i=k
   .exact hj.symm.trans hk
   .subst hj;rw[yD Ay] at q1;cases q1;exact absurd rfl<|out k m p hk e2 q2
  .by_cases hk:i=k
   .subst hk;rw[yD Ay] at q2;cases q2;exact absurd rfl<|out j l1 p hj e1 q1
   .rw[zK hj] at e1 q1;rw[zK hk] at e2 q2;exact h.apart j k a l1 m e1 e2 q1 q2
 .by_cases hj:i=j
  .subst hj;rw[yD Ay] at q;cases q;exact λz=>by obtain⟨ys,e3,_⟩:=h.o0 p z;rw[n] at e3;cases e3
  .rw[zK hj] at e1 q;exact h.loc j m a e1 q
 .have hj:=par' j m e1;rw[zK hj] at e1 q;exact h.par j m a e1 q
 .by_cases hj:i=j
  .subst hj;rw[yD hi] at e1;obtain⟨aM,rfl,hk,hl⟩:=yd f ks m<|bp e1;exact⟨p,aM,yD Ay,e,hk,new hl⟩
  .rw[zK hj] at e1;obtain⟨a,aM,e2,e3,e4,q⟩:=h.fL j f ks m e1;exact⟨a,aM,by rw[zK hj];exact e2,s _ _ e3,e4,IsL.mono (aH.kp s _) h.ol sub _ _ q⟩
 .have hj:=par j m e1;exact⟨by rw[zK hj];exact e1,zK hj⟩
 .have hj:i≠j:=λz=>by subst z;exact(np m).2 e1
  exact⟨by rw[zK hj];exact e1,zK hj⟩
def R.V1{l:List D}{xs:List V}{p:Addr}(h:R K O0 H r σ)(s:aH H H1)(n:H p=aB)(e:H1 p=aA (.lst xs))(hl:IsL K (λb=>Ow O0 r σ b\/b=p) H1 l xs)(hi:i<r.length)(np:∀l,(r[i]?).bind Sl.pk=aB/\r[i]?≠aA (.z l)):R K O0 H1 (r.set i<|.o l) (σ.set i<|some<|.ref p)/\Kp H r σ H1 (r.set i<|.o l) (σ.set i<|some<|.ref p):=
 h.setG s n e trivial (λ_ z=>by cases z) (λm z=>by cases z;exact⟨_,rfl,hl⟩) rfl (λ_ _ _ z=>by cases z) hi np
def mZ{r':En}(e:y9 i d r=aA r'):i<r.length/\(∀l,(r[i]?).bind Sl.pk=aB/\r[i]?≠aA (.z l))/\r'=r.set i (.v d):=by
 unfold y9 at e;cases e1:r[i]? with
 |none=>rw[e1] at e;cases e
 |some x=>
  have hi:i<r.length:=(ar.mp e1).1;rw[e1] at e;cases x with
  |p l=>cases e
  |z l=>cases e
  |d f ks l=>cases f<;>first|(cases e;done)|(cases e;exact⟨hi,λl=>⟨rfl,(λz=>by cases z)⟩,rfl⟩)
  |_=>cases e;exact⟨hi,λl=>⟨rfl,(λz=>by cases z)⟩,rfl⟩
def Vp{r':En}{l:List D}(e:AO i l r=aA r'):i<r.length/\(∀l,(r[i]?).bind Sl.pk=aB/\r[i]?≠aA (.z l))/\r'=r.set i (.o l):=by
 unfold AO at e;cases e1:r[i]? with
 |none=>rw[e1] at e;cases e
 |some x=>
  have hi:i<r.length:=(ar.mp e1).1;rw[e1] at e;cases x with
  |p l=>cases e
  |z l=>cases e
  |d f ks l=>cases f<;>first|(cases e;done)|(cases e;exact⟨hi,λl=>⟨rfl,(λz=>by cases z)⟩,rfl⟩)
  |_=>cases e;exact⟨hi,λl=>⟨rfl,(λz=>by cases z)⟩,rfl⟩
def a8{α β:Type}{o:Option α}{h:α->β}{y:β}(e:o.map h=aA y):∃x,o=aA x/\h x=y:=by
 cases o with
 |none=>cases e
 |some x=>exact⟨x,rfl,bp e⟩
def LL{O:Addr->Prop}(h:R K O0 H r σ)(hi:Is K (Ow O0 r σ) H1 d v)(s:aH H H1):Is K O0 H1 d v:=Is.mono (aH.kp (aH.refl H1) _) (h.same s).ol (λ_ z _=>.inl z) _ _ hi
end
section
variable{X:Cx}{pos:Pos}{e:Expr}{f:ME}{fl:ML}{g h:MS}{st:Stmt}{rest:List Stmt}
def yM:lQ X [] yP:=eS.aK TC λDn σ H ⟨O0,r,f',hR,e,q⟩=>by
 unfold yP at e;cases e;exact q σ H hR<|Kp.refl H r σ
def zI(h1:DS X st g)(h2:lQ X rest h):lQ X (st::rest) (yC g h):=by
 refine eS.aK (rJ h1 h2) λDn σ H hq=>?_
 obtain⟨O0,r,fl,hR,e,q⟩:=hq;obtain⟨f1,e1,e2⟩:=aI e;cases f1 with
 |nx r1=>exact⟨O0,r,.nx r1,hR,e1,λσ' H' R' k=>⟨O0,r1,fl,R',e2,q.before R' k⟩⟩
 |bk r1=>cases e2;exact⟨O0,r,_,hR,e1,q⟩
 |ct r1=>cases e2;exact⟨O0,r,_,hR,e1,q⟩
 |rt d r1=>cases e2;exact⟨O0,r,_,hR,e1,q⟩
 |rf l r1=>cases e2;exact⟨O0,r,_,hR,e1,q⟩
 |rg ks l r1=>cases e2;exact⟨O0,r,_,hR,e1,q⟩
def zM(h1:DS X st g):lQ X [st] g:=MP h1
def yF(i:Nat){x:Str}{pos':Pos}(he:DE X e f)(hN:X.N.Nodup)(hi:X.N[i]?=aA x:=by rfl)(hx:Loc X.env.scope x:=by first|exact Or.inl rfl|exact Or.inr rfl)(hs:gi e (aA<|.Name x pos') pos.line X.env=pure false:=by rfl)(hf:sM X x:=by first|exact .inl rfl|exact .inr rfl):DS X (.Assign [.Name x pos'] e pos) (xF i f):=by
 refine PS.aK (JN hN hi hx he hs hf) λDn σ H hq=>?_
 obtain⟨O0,r,fl,hR,e,q⟩:=hq;obtain⟨d,e1,e2⟩:=aI e;obtain⟨r',e3,rfl⟩:=a8 e2;obtain⟨hl,np,rfl⟩:=mZ e3;refine⟨O0,r,d,hR,e1,λv H1 s1 i1=>?_⟩;obtain⟨R1,k1⟩:=(hR.same s1).BP hl np i1;exact q _ H1 R1<|(Kp.of_same r σ s1).trans k1
def j8(i:Nat){x:Str}{pos':Pos}(he:DF X e fl)(hN:X.N.Nodup)(hi:X.N[i]?=aA x:=by rfl)(hx:Loc X.env.scope x:=by first|exact Or.inl rfl|exact Or.inr rfl)(hs:gi e (aA<|.Name x pos') pos.line X.env=pure false:=by rfl)(hf:sM X x:=by first|exact .inl rfl|exact .inr rfl):DS X (.Assign [.Name x pos'] e pos) (dD i fl):=by
 refine PS.aK (JN hN hi hx he hs hf) λDn σ H hq=>?_
 obtain⟨O0,r,yj,hR,e,q⟩:=hq;obtain⟨l,e1,e2⟩:=aI e;obtain⟨r',e4,rfl⟩:=a8 e2;obtain⟨hl,np,rfl⟩:=Vp e4;refine⟨O0,r,l,hR,e1,λp xs H1 s1 n1 e3 i1=>?_⟩;obtain⟨R1,k1⟩:=hR.V1 s1 n1 e3 i1 hl np;exact q _ H1 R1 k1
def yH(he:DE X e f):DS X (.Return (aA e) pos) (qE f):=by
 refine PS.aK (Ep he) λDn σ H hq=>?_
 obtain⟨O0,r,fl,hR,e,q⟩:=hq;obtain⟨d,e1,rfl⟩:=a8 e;exact⟨O0,r,d,hR,e1,λv H1 s1 i1=>q v σ H1 (hR.same s1) (Kp.of_same r σ s1)<|LL (O:=O0) hR i1 s1⟩
def tJ(i:Nat){x:Str}{pos':Pos}(h:PE X (.Name x pos') (sA i)):DS X (.Return (aA<|.Name x pos') pos) (ZB i):=by
 refine PS.aK (Ep h) λDn σ H hq=>?_
 obtain⟨O0,r,yj,hR,e,q⟩:=hq;unfold ZB at e;have⟨l,e1,e2⟩:∃l,r[i]?=aA (.o l)/\yj=.rf l r:=by
  split at e
  .rename_i l h;cases e;exact⟨l,h,rfl⟩
  .cases e
 subst e2;obtain⟨a,xs,q1,q2,q3⟩:=hR.own i l (by rw[e1];rfl);refine⟨.ref a,q1,q a xs σ H hR (Kp.refl H r σ) (.inr ⟨i,l,.inl e1,q1⟩) (hR.loc i l a (.inl e1) q1) q2 ?_⟩;exact IsL.mono (aH.kp (aH.refl H) _) hR.ol (λb z _=>z.elim .inl λz=>by subst z;exact .inr ⟨i,l,by rw[e1];rfl,q1⟩) _ _ q3
def xE{c:Expr}{sa sb:List Stmt}{tc:MB}(hc:DT X c tc)(ha:lQ X sa g)(hb:lQ X sb h):DS X (.If c sa sb pos) (aJ tc g h):=by
 refine PS.aK (Kk hc ha hb) λDn σ H hq=>?_
 obtain⟨O0,r,yj,hR,e,q⟩:=hq;obtain⟨k,e1,e2⟩:=aI e;refine⟨O0,r,k,hR,e1,λH1 s1=>?_⟩;have R1:=hR.same s1;have q1:=vq.before R1 (Kp.of_same r σ s1) q;cases k with
 |true=>rw[if_pos rfl] at e2;exact BC ⟨O0,r,yj,R1,e2,q1⟩
 |false=>rw[if_neg ah] at e2;exact Cb ⟨O0,r,yj,R1,e2,q1⟩
def GQ(he:DE X e f)(hs:gi e aB pos.line X.env=pure false:=by rfl):DS X (.Expr e pos) (QZ f):=by
 refine PS.aK (G1 he hs) λDn σ H hq=>?_
 obtain⟨O0,r,yj,hR,e,q⟩:=hq;obtain⟨d,e1,rfl⟩:=a8 e;exact⟨O0,r,d,hR,e1,λv H1 s1 i1=>q σ H1 (hR.same s1)<|Kp.of_same r σ s1⟩
def pI{fx:En->Option (D×En)}(he:DX X e fx)(hs:gi e aB pos.line X.env=pure false:=by rfl):DS X (.Expr e pos) (sX fx):=by
 refine PS.aK (G1 he hs) λDn σ H hq=>?_
 obtain⟨O0,r,yj,hR,e,q⟩:=hq;obtain⟨⟨d,r'⟩,e1,rfl⟩:=a8 e;exact⟨O0,r,d,r',hR,e1,λv H1 R1 k1 i1=>q σ H1 R1 k1⟩
def bD(i:Nat){x:Str}{pos':Pos}{fx:En->Option (D×En)}(he:DX X e fx)(hN:X.N.Nodup)(hi:X.N[i]?=aA x:=by rfl)(hx:Loc X.env.scope x:=by first|exact Or.inl rfl|exact Or.inr rfl)(hs:gi e (aA<|.Name x pos') pos.line X.env=pure false:=by rfl)(hf:sM X x:=by first|exact .inl rfl|exact .inr rfl):DS X (.Assign [.Name x pos'] e pos) (vE i fx):=by
 refine PS.aK (JN hN hi hx he hs hf) λDn σ H hq=>?_
 obtain⟨O0,r,fl,hR,e,q⟩:=hq;obtain⟨⟨d,r1⟩,e1,e2⟩:=aI e;obtain⟨r',e3,rfl⟩:=a8 e2;obtain⟨hl,np,rfl⟩:=mZ e3;refine⟨O0,r,d,r1,hR,e1,λv H1 R1 k1 i1=>?_⟩;obtain⟨R2,k2⟩:=R1.BP hl np i1;exact q _ H1 R2<|k1.trans k2
def Sv{fx:En->Option (D×En)}(he:DX X e fx):DS X (.Return (aA e) pos) (F_ fx):=by
 refine PS.aK (Ep he) λDn σ H hq=>?_
 obtain⟨O0,r,fl,hR,e,q⟩:=hq;obtain⟨⟨d,r1⟩,e1,rfl⟩:=a8 e;exact⟨O0,r,d,r1,hR,e1,λv H1 R1 k1 i1=>q v σ H1 R1 k1<|LL (O:=O0) R1 i1<|aH.refl H1⟩
def oV(n:Nat){c:Expr}{body:List Stmt}{tc:MB}(hp:PassesOwn (model X.prog X.w) X.A X.env X.xe)(hc:DT X c tc)(hb:lQ X body g):DS X (.While c body [] pos) (j7 n tc g):=by
 refine PS.aK (Nj hp hc hb) λDn σ H hq=>?_
 obtain⟨O0,r,fl,hR,e,q⟩:=hq;refine⟨λm σ1 H1=>∃r1,R X.K O0 H1 r1 σ1/\Kp H r σ H1 r1 σ1/\j7 m tc g r1=aA fl,⟨n,r,hR,Kp.refl H r σ,e⟩,?_⟩;rintro m σ1 H1 ⟨r1,R1,k1,e1⟩;cases m with
 |zero=>cases e1
 |succ m=>
  obtain⟨b,e2,e3⟩:=aI e1;refine⟨O0,r1,b,R1,e2,λH2 s2=>?_⟩;have R2:=R1.same s2;have k2:=k1.trans<|Kp.of_same r1 σ1 s2;cases b with
  |false=>
   rw[if_neg ah] at e3;cases e3;exact Cb<|q σ1 H2 R2 k2
  |true=>
   rw[if_pos rfl] at e3;obtain⟨f1,e4,e5⟩:=aI e3;refine BC ⟨λσ3 H3=>∃r3,R X.K O0 H3 r3 σ3/\Kp H r σ H3 r3 σ3/\j7 m tc g r3=aA fl,λσ3 H3 z=>⟨m,Nat.lt_succ_self m,z⟩,O0,r1,f1,R2,e4,?_⟩;cases f1 with
   |nx r3=>exact λσ3 H3 R3 k3=>⟨r3,R3,k2.trans k3,e5⟩
   |ct r3=>exact λσ3 H3 R3 k3=>⟨r3,R3,k2.trans k3,e5⟩
   |bk r3=>cases e5;exact λσ3 H3 R3 k3=>q σ3 H3 R3<|k2.trans k3
   |rt d r3=>cases e5;exact vq.before R2 k2 q
   |rf l r3=>cases e5;exact vq.before R2 k2 q
   |rg ks l r3=>cases e5;exact vq.before R2 k2 q
end
def lG(K:Fg)(bd:D->En->Option En):TG:=λv σ H Q=>∃O0 r d r',R K O0 H r σ/\Is K (Ow O0 r σ) H d v/\bd d r=aA r'/\∀σ',R K O0 H r' σ'->Kp H r σ H r' σ'->Q σ' H
def DG(X:Cx)(tg:Expr)(bd:D->En->Option En):Prop:=PG X tg<|lG X.K bd
def Bv(K:Fg)(O M:Addr->Prop)(H0:Hp)(J:It)(l:List D):Prop:=∀(i:Nat) (H:Hp) (O':Addr->Prop),Q9 M H0 H->(∀a,O' a->H0 a≠aB->O a) ->
 (i<l.length->J.go i H/\∀x H',J.BN i H x H'->aH H H'/\∀d,l[i]?=aA d->Is K O' H' d x)/\(i=l.length->J.stop i H)
def lI(K:Fg)(it:ML):TI:=λσ H Rr=>∃O0 r l,R K O0 H r σ/\it r=aA l/\∀J H',aH H H'->Bv K (Ow O0 r σ) (iV r σ) H' J l->Rr J H'
def DI(X:Cx)(tg iter:Expr)(it:ML):Prop:=PI X tg iter<|lI X.K it
def PG.aK{X:Cx}{e:Expr}{t t':TG}(h:PG X e t)(i:∀v σ H Q,t' v σ H Q->t v σ H Q):PG X e t':=λpZ s σ H v u Q I r q=>h pZ s σ H v u Q I r<|i v σ H Q q
def PI.aK{X:Cx}{tg e:Expr}{t t':TI}(h:PI X tg e t)(i:∀σ H Q,t' σ H Q->t σ H Q):PI X tg e t':=λpZ s σ H Q I q=>h pZ s σ H Q I<|i σ H Q q
def tK{α:Type}{l:List α}{i:Nat}{d:α}(h:l[i]?=aA d):l.drop i=d::l.drop (i+1):=by
 obtain⟨lt,eq⟩:=ar.mp h;rw[<-eq,qr lt]
section
variable{X:Cx}{pos:Pos}{tg iter:Expr}{bd:D->En->Option En}{it:ML}{g:MS}{body:List Stmt}
def dN(hp:PassesOwn (model X.prog X.w) X.A X.env X.xe)(hc:X.calm=true)(hi:DI X tg iter it)(hg:DG X tg bd)(hb:lQ X body g)(hs:∀x,fk iter X.env x=pure x:=by intro _;rfl):DS X (.For tg iter body [] pos) (dQ bd it g):=by
 refine PS.aK (LG hp hc hi hg hb hs) λDn σ H hq=>?_
 obtain⟨O0,r,fl,hR,e,q⟩:=hq;obtain⟨l,e1,e2⟩:=aI e;refine⟨O0,r,l,hR,e1,λJ H0 s0 yl=>?_⟩;have R0:=hR.same s0;refine⟨λi m σ1 H1=>m=l.length-i/\i<=l.length/\∃r1,R X.K O0 H1 r1 σ1/\Kp H0 r σ H1 r1 σ1/\gM bd g (l.drop i) r1=aA fl,⟨l.length,by simp,cz _,r,R0,Kp.refl H0 r σ,by simpa using e2⟩,?_⟩;rintro i m σ1 H1 ⟨rfl,Oi,r1,R1,k1,e3⟩;have k0:=(Kp.of_same r σ s0).trans k1;obtain⟨y1,y2⟩:=yl i H1 (Ow O0 r1 σ1) k1.keep λa z n=>z.elim .inl λz=>(k1.new a z).elim .inr λz=>absurd z n
 by_cases iH:i<l.length
 .obtain⟨go,yd⟩:=y1 iH;have hd:l[i]?=aA l[i]:=by simp[iH]
  rw[tK hd] at e3;obtain⟨r2,e4,e5⟩:=aI e3;obtain⟨f1,e6,e7⟩:=aI e5;refine .inr ⟨go,λσ3 H3=>∃r3,R X.K O0 H3 r3 σ3/\Kp H0 r σ H3 r3 σ3/\gM bd g (l.drop<|i+1) r3=aA fl,λσ3 H3 z=>⟨l.length-(i+1),by omega,rfl,iH,z⟩,λx H2 yx=>?_⟩;obtain⟨s2,ix⟩:=yd x H2 yx;have R2:=R1.same s2;refine⟨O0,r1,l[i],r2,R2,ix _ hd,e4,λσ2 Br k2=>⟨O0,r2,f1,Br,e6,?_⟩⟩;have k3:=(k1.trans<|Kp.of_same r1 σ1 s2).trans k2;have k4:=(k0.trans<|Kp.of_same r1 σ1 s2).trans k2;cases f1 with
  |nx r3=>exact λσ3 H3 R3 kk=>⟨r3,R3,k3.trans kk,e7⟩
  |ct r3=>exact λσ3 H3 R3 kk=>⟨r3,R3,k3.trans kk,e7⟩
  |bk r3=>cases e7;exact λσ3 H3 R3 kk=>q σ3 H3 R3<|k4.trans kk
  |rt d r3=>cases e7;exact vq.before Br k4 q
  |rf l' r3=>cases e7;exact vq.before Br k4 q
  |rg ks l' r3=>cases e7;exact vq.before Br k4 q
 .have hl:l.drop i=[]:=mj (by omega);rw[hl] at e3;cases e3;exact .inl ⟨y2<|by omega,q σ1 H1 R1 k0⟩
def xD(i:Nat){x:Str}(hN:X.N.Nodup)(hi:X.N[i]?=aA x:=by rfl)(hx:Loc X.env.scope x:=by first|exact Or.inl rfl|exact Or.inr rfl)(hf:sM X x:=by first|exact .inl rfl|exact .inr rfl):DG X (.Name x pos) (y9 i):=by
 refine PG.aK (S8 hN hi hx hf) λv σ H Q h=>?_
 obtain⟨O0,r,d,r',hR,iv,e,q⟩:=h;obtain⟨hl,np,rfl⟩:=mZ e;obtain⟨R1,k1⟩:=hR.BP hl np iv;exact q _ R1 k1
def dU:List D->En->Option En:=λl r=>if l.isEmpty then aA r else aB
def wU(b:D->En->Option En)(bs:List D->En->Option En):List D->En->Option En:=λl r=>match l with
 |[]=>aB
 |d::t=>(b d r).bind λr1=>bs t r1
def Xf(K:Fg)(bs:List D->En->Option En):Bp:=λvs σ H Q=>∃O0 r l r',R K O0 H r σ/\IsL K (Ow O0 r σ) H l vs/\bs l r=aA r'/\∀σ',R K O0 H r' σ'->Kp H r σ H r' σ'->Q σ' H
def FF(X:Cx)(ts:List Expr)(bs:List D->En->Option En):Prop:=xa X ts<|Xf X.K bs
def xa.aK{e:List Expr}{t t':Bp}(h:xa X e t)(i:∀v σ H Q,t' v σ H Q->t v σ H Q):xa X e t':=λpZ s σ H v u Q I r q=>h pZ s σ H v u Q I r<|i v σ H Q q
def ZR:FF X [] dU:=by
 refine xa.aK S9 λvs σ H Q h=>?_
 obtain⟨O0,r,l,r',hR,il,e,q⟩:=h;unfold dU at e;cases l with
 |nil=>
  unfold IsL at il;cases e;exact⟨il,q σ hR<|Kp.refl H r σ⟩
 |cons d l=>cases e
def uA{e:Expr}{es:List Expr}{bs:List D->En->Option En}(h1:DG X e bd)(h2:FF X es bs)(hs:(gm (e::es) X.env).map (·.2)=assign e X.env::(gm es X.env).map (·.2):=by rfl):FF X (e::es) (wU bd bs):=by
 refine xa.aK (Um h1 h2 hs) λvs σ H Q h=>?_
 obtain⟨O0,r,l,r',hR,il,e,q⟩:=h;cases l with
 |nil=>cases e
 |cons d t=>
  unfold IsL at il;obtain⟨v,us,rfl,i1,i2⟩:=il;obtain⟨r1,e1,e2⟩:=aI e;refine⟨v,us,rfl,O0,r,d,r1,hR,i1,e1,λσ1 R1 k1=>⟨O0,r1,t,r',R1,?_,e2,λσ2 R2 k2=>q σ2 R2<|k1.trans k2⟩⟩;exact IsL.mono (aH.kp (aH.refl H) _) hR.ol (λa z n=>z.elim .inl λz=>(k1.new a z).elim .inr λz=>absurd z n) _ _ i2
end
inductive Rs where
 |v (d:D)|f (l:List D)|g (ks:List Key) (l:List D)
noncomputable abbrev MF:=List Sl->Option (Rs×List Sl)
structure B8(K:Fg)(O0:Addr->Prop)(H:Hp)(as:List Sl)(vs:List V)(H':Hp)(fT:List Sl):Prop where
 keep:Q9 (iV as<|vs.map aA) H H'
 live:∀b,H' b=aB->H b=aB
 lst:∀b o,H b=aA o->Mb o->∃o',H' b=aA o'/\Mb o'
 par:∀(i:Nat) (l:List D),as[i]?=aA (.p l)->∃l' a xs,fT[i]?=aA (.p l')/\vs[i]?=aA (.ref a)/\H' a=aA (.lst xs)/\IsL K O0 H' l' xs
 pad:∀(i:Nat) (ks:List Key) (l:List D),as[i]?=aA (.d true ks l)->∃ya l' a aM,fT[i]?=aA (.d true ya l')/\vs[i]?=aA (.ref a)/\H' a=aA (.dK aM)/\aM.map (·.1)=ya/\IsL K O0 H' l' (aM.map (·.2))
def OU(K:Fg)(O0:Addr->Prop)(H:Hp)(as:List Sl)(vs:List V)(fT:List Sl)(Q:VK):Rs->Prop
 |.v d=>∀v H',B8 K O0 H as vs H' fT->Is K O0 H' d v->Q v H'
 |.f l=>∀a xs H',B8 K O0 H as vs H' fT->H a=aB->H' a=aA (.lst xs)->IsL K (λb=>O0 b\/b=a) H' l xs->Q (.ref a) H'
 |.g ks l=>∀a aM H',B8 K O0 H as vs H' fT->H a=aB->H' a=aA (.dK aM)->aM.map (·.1)=ks->IsL K (λb=>O0 b\/b=a) H' l (aM.map (·.2))->Q (.ref a) H'
def l5(K:Fg)(n:Nat)(m:MF):Sp:=λvs H Q _=>∃O0 as rs fT,as.length=n/\R K O0 H as (vs.map aA)/\(∀(i:Nat) (l:List D),as[i]?≠aA (.o l)/\as[i]?≠aA (.z l)/\∀ks,as[i]?≠aA (.d false ks l))/\m as=aA (rs,fT)/\OU K O0 H as vs fT Q rs
def aY(n N:Nat)(g:MS):MF:=λas=>(g<|as++bq (N-n) .un).bind λfl=>match fl with
 |.rt d r'=>aA (.v d,r'.take n)
 |.rf l r'=>aA (.f l,r'.take n)
 |.rg ks l r'=>aA (.g ks l,r'.take n)
 |.nx r'=>aA (.v .aG,r'.take n)
 |_=>aB
section
variable{K:Fg}
def nF{q:Sl->Option (List D)}(hq:q .un=aB){as:List Sl}{vs:List V}{k n:Nat}{a:Addr}(hl:as.length=vs.length):q_ q (as++bq k .un) (vs.map aA++bq n aB) a↔q_ q as (vs.map aA) a:=by
 constructor
 .rintro ⟨i,l,e,q'⟩;by_cases hi:i<as.length
  .rw[au hi] at e;rw[au (by simp;omega)] at q';exact⟨i,l,e,q'⟩
  .rw[bn<|by omega,de] at e;split at e
   .have e':q .un=aA l:=e;rw[hq] at e';cases e'
   .cases e
 .rintro ⟨i,l,e,q'⟩;have hi:i<as.length:=by
   cases e1:as[i]? with
   |none=>rw[e1] at e;cases e
   |some x=>exact(ar.mp e1).1
  exact⟨i,l,by rw[au hi];exact e,by rw[au (by simp;omega)];exact q'⟩
def R.start{O0:Addr->Prop}{H:Hp}{as:List Sl}{vs:List V}{k:Nat}(h:R K O0 H as (vs.map aA)):R K O0 H (as++bq k .un) (vs.map aA++bq k aB):=by
 have hl:as.length=vs.length:=by simpa using h.len
 have own:∀a,Ow O0 (as++bq k .un) (vs.map aA++bq k aB) a->H a≠aB->Ow O0 as (vs.map aA) a:=λa z _=>z.imp id (nF rfl hl).mp
 have pre:∀(i:Nat) (x:Sl),(as++bq k .un)[i]?=aA x->x≠.un->as[i]?=aA x/\(vs.map aA++bq k aB)[i]?=(vs.map aA)[i]?:=λi x e n=>by
  by_cases hi:i<as.length
  .rw[au hi] at e;exact⟨e,au (by simp;omega)⟩
  .rw[bn<|by omega,de] at e;split at e
   .cases e;exact absurd rfl n
   .cases e
 have HE:∀{q:Sl->Option (List D)} (hq:q .un=aB) (i:Nat) (l:List D),((as++bq k .un)[i]?).bind q=aA l->(as[i]?).bind q=aA l/\(vs.map aA++bq k aB)[i]?=(vs.map aA)[i]?:=λ{q} hq i l e=>by
  cases e1:(as++bq k .un)[i]? with
  |none=>rw[e1] at e;cases e
  |some x=>
   obtain⟨q1,q2⟩:=pre i x e1 (by rintro rfl;rw[e1] at e;have e':q .un=aA l:=e;rw[hq] at e';cases e');rw[e1] at e;exact⟨by rw[q1];exact e,q2⟩
 refine⟨by simp[hl],λi d e=>?_,λi l e=>?_,λi j a l m e1 e2 q1 q2=>?_,h.o0,λi l a e q=>?_,λi l a e q=>?_,λi f ks l e=>?_⟩
 .obtain⟨q1,q2⟩:=pre i _ e (by intro z;cases z);obtain⟨v,e3,q3⟩:=h.val i d q1;exact⟨v,q2.trans e3,Is.mono (aH.kp (aH.refl H) _) h.ol own _ _ q3⟩
 .obtain⟨q1,q2⟩:=HE (q:=Sl.ls) rfl i l e;obtain⟨a,xs,e3,e4,q3⟩:=h.own i l q1;exact⟨a,xs,q2.trans e3,e4,IsL.mono (aH.kp (aH.refl H) _) h.ol own _ _ q3⟩
 .obtain⟨p1,p2⟩:=HE (q:=Sl.own) rfl i l e1;obtain⟨p3,p4⟩:=HE (q:=Sl.own) rfl j m e2;exact h.apart i j a l m p1 p3 (p2 ▸ q1)<|p4 ▸ q2
 .rcases e with e|e|⟨ks,e⟩
  .obtain⟨p1,p2⟩:=pre i _ e (by intro z;cases z);exact h.loc i l a (.inl p1)<|p2 ▸ q
  .obtain⟨p1,p2⟩:=pre i _ e (by intro z;cases z);exact h.loc i l a (.inr<|.inl p1)<|p2 ▸ q
  .obtain⟨p1,p2⟩:=pre i _ e (by intro z;cases z);exact h.loc i l a (.inr<|.inr ⟨ks,p1⟩)<|p2 ▸ q
 .obtain⟨x,p0,e0⟩:=lu.mp e;obtain⟨p1,p2⟩:=pre i _ p0 (by rintro rfl;cases e0);exact h.par i l a (by rw[p1];exact e0)<|p2 ▸ q
 .obtain⟨p1,p2⟩:=pre i _ e (by intro z;cases z);obtain⟨a,aM,e3,e4,e5,q3⟩:=h.fL i f ks l p1;exact⟨a,aM,p2.trans e3,e4,e5,IsL.mono (aH.kp (aH.refl H) _) h.ol own _ _ q3⟩
def PJ{st:Stmt}(F:xb K x qual st f fd)(S:b_ N ps (zZ st))(n:Nat)(nN:Nat)(hn:ps.length=n:=by rfl)(hN:N.length=nN:=by rfl)(hb:∀(aN:Value),fd.code=aN->∀(A:Around) (outer:List Env) (s:Shared) (H:Hp) (E:XK),eR k (A.deeper<|envOfC qual (zZ st) s.heap.objs.size f aN) ->
   lQ (gE iW P w K mg base N qual (zZ st) f aN A outer s H E).Ak (cF st) g):eG P w K mg base iW (k+1) f fd ps (l5 K n<|aY n nN g):=by
 subst hn hN;obtain⟨oc,od,kV,doc,pm,an,aN,ct,xx,rfl,lk,fJ⟩:=F.ex;refine Gk lk fJ S (λvs H Q E h=>?_) λA outer s H vs Q E hr h=>?_
 .obtain⟨O0,as,rs,fT,hl,hR,_⟩:=h
  have:=hR.len
  simp at this;omega
 .obtain⟨O0,as,rs,fT,hl,hR,no,e,q⟩:=h;have Ax:as.length=vs.length:=by simpa using hR.len
  refine⟨_,eS.Ak<|hb aN rfl A outer s H E hr,?_⟩;obtain⟨fl,e1,e2⟩:=aI e;have iN:L2.start N vs=vs.map aA++bq (N.length-ps.length) aB:=by unfold L2.start;rw[<-Ax,hl]
  rw[iN];have R0:=R.start (k:=N.length-ps.length) hR;have fin:∀(σ':St) (H':Hp) (r':En),R K O0 H' r' σ'->Kp H (as++bq (N.length-ps.length) .un) (vs.map aA++bq (N.length-ps.length) aB) H' r' σ'->B8 K O0 H as vs H' (r'.take ps.length):=λσ' H' r' R' k'=>by
   refine⟨λb o eb nb=>k'.keep b o eb λz=>nb<|(nF rfl Ax).mp z,k'.live,k'.lst,λi l ei=>?_,λi ks l ei=>?_⟩
   rotate_left
   .have hi:i<as.length:=(ar.mp ei).1;obtain⟨e3,e4⟩:=k'.par i true (by rw[au hi,ei];rfl);obtain⟨ya,l',e3⟩:=Pf e3;rw[au (by simp;omega)] at e4;obtain⟨a,aM,e5,e6,e7,e8⟩:=R'.fL i true ya l' e3;rw[e4] at e5;have ev:vs[i]?=aA (.ref a):=by
     rw[az] at e5;cases e8:vs[i]? with
     |none=>rw[e8] at e5;cases e5
     |some y=>rw[e8] at e5;cases e5;rfl
    exact⟨ya,l',a,aM,by rw[lm<|by omega];exact e3,ev,e6,e7,IsL.mono (aH.kp (aH.refl H') _) R'.ol (λ_ z _=>.inl z) _ _ e8⟩
   have hi:i<as.length:=(ar.mp ei).1;obtain⟨e3,e4⟩:=k'.par i false (by rw[au hi,ei];rfl);obtain⟨l',e3⟩:=Pe e3;rw[au (by simp;omega)] at e4;obtain⟨a,xs,e5,e6,e7⟩:=R'.own i l' (by rw[e3];rfl);rw[e4] at e5;have ev:vs[i]?=aA (.ref a):=by
    rw[az] at e5;cases e8:vs[i]? with
    |none=>rw[e8] at e5;cases e5
    |some y=>rw[e8] at e5;cases e5;rfl
   exact⟨l',a,xs,by rw[lm<|by omega];exact e3,ev,e6,IsL.mono (aH.kp (aH.refl H') _) R'.ol (λ_ z _=>.inl z) _ _ e7⟩
  refine⟨O0,_,fl,R0,e1,?_⟩;cases fl with
  |nx r'=>cases e2;exact λσ' H' R' k'=>q .aG H' (fin σ' H' r' R' k') (by rw[jH])
  |bk r'=>cases e2
  |ct r'=>cases e2
  |rt d r'=>cases e2;exact λv σ' H' R' k' i'=>q v H' (fin σ' H' r' R' k') i'
  |rf l r'=>
   cases e2;refine λa xs σ' H' R' k' fr Wt ea il=>q a xs H' (fin σ' H' r' R' k') ?_ ea il
   rcases fr with z|⟨i,m,ei,_⟩
   .exact z
   .exfalso;by_cases hi:i<as.length
    .rw[au hi] at ei;rcases ei with ei|⟨ks,ei⟩
     .exact(no i m).1 ei
     .exact(no i m).2.2 ks ei
    .rw[bn<|by omega,de] at ei;rcases ei with ei|⟨ks,ei⟩<;>split at ei<;>cases ei
  |rg ks l r'=>
   cases e2;refine λa aM σ' H' R' k' fr Wt ea ek il=>q a aM H' (fin σ' H' r' R' k') ?_ ea ek il
   rcases fr with z|⟨i,m,ei,_⟩
   .exact z
   .exfalso;by_cases hi:i<as.length
    .rw[au hi] at ei;rcases ei with ei|⟨ya,ei⟩
     .exact(no i m).1 ei
     .exact(no i m).2.2 ya ei
    .rw[bn<|by omega,de] at ei;rcases ei with ei|⟨ya,ei⟩<;>split at ei<;>cases ei
def dR{st:Stmt}(F:xb K x qual st f fd)(S:b_ N ps (zZ st))(n:Nat)(nN:Nat)(hn:ps.length=n:=by rfl)(hN:N.length=nN:=by rfl)(hb:∀(aN:Value) (A:Around) (outer:List Env) (s:Shared) (H:Hp) (E:XK),eR k (A.deeper<|envOfC qual (zZ st) s.heap.objs.size f aN) ->
   lQ (gE iW P w K mg base N qual (zZ st) f aN A outer s H E).Ak (cF st) g):eG P w K mg base iW (k+1) f fd ps (l5 K n<|aY n nN g):=PJ F S n nN hn hN λaN _=>hb aN
def Jg(n:Nat):eG P w K mg base iW k f fd ps (l5 K n λ_=>aB):=
 ⟨(λvs H Q E h=>by obtain⟨_,_,_,_,_,_,_,e,_⟩:=h;cases e),(λA outer s H args us vs Q E _ _ _ _ h=>by obtain⟨_,_,_,_,_,_,_,e,_⟩:=h;cases e)⟩
end
noncomputable def HA:Rs->D
 |.v d=>d
 |.f l=>.lst l
 |.g ks l=>.fL ks l
def zW(n:Nat)(m:MF)(fs:ML):ME:=λr=>(fs r).bind λds=>if ds.length=n then (m<|ds.map .v).map λp=>HA p.1 else aB
def dL(n:Nat)(m:MF)(fs:ML):ML:=λr=>(fs r).bind λds=>if ds.length=n then (m<|ds.map .v).bind λp=>match p.1 with
 |.f l=>aA l
 |_=>aB
 else aB
section
variable{K:Fg}
def Ec(ol:Z2 O H)(h:IsL K O H ds vs):R K O H (ds.map .v) (vs.map aA):=by
 have no:∀(i:Nat) (l:List D),((ds.map Sl.v)[i]?).bind Sl.own≠aA l:=λi l e=>by
  rw[az] at e;cases e1:ds[i]? with
  |none=>rw[e1] at e;cases e
  |some x=>rw[e1] at e;cases e
 refine⟨by simp[h.length],λi d e=>?_,λi l e=>absurd (nY e)<|no i l,λi j a l m e1=>absurd e1<|no i l,ol,λi l a e=>absurd (show((ds.map Sl.v)[i]?).bind Sl.own=aA l by rcases e with e|e|⟨_,e⟩<;>rw[e]<;>rfl)<|no i l,λi l a e=>absurd (rL e).choose_spec<|no i _,λi _ ks l e=>absurd (show((ds.map Sl.v)[i]?).bind Sl.own=aA l by rw[e];rfl)<|no i l⟩;rw[az] at e;cases e1:ds[i]? with
 |none=>rw[e1] at e;cases e
 |some x=>
  rw[e1] at e;cases e;obtain⟨v,e2,q⟩:=h.get e1;exact⟨v,by rw[az,e2];rfl,Is.mono (aH.kp (aH.refl H) _) ol (λa z _=>z.elim id λ⟨j,l,ej,_⟩=>absurd ej<|no j l) _ _ q⟩
def Y7{ds:List D}{σ:St}{a:Addr}:¬iV (ds.map .v) σ a:=λ⟨i,l,e,_⟩=>by
 rw[az] at e;cases e1:ds[i]? with
 |none=>rw[e1] at e;cases e
 |some x=>rw[e1] at e;cases e
def B8.same{O0:Addr->Prop}{H H':Hp}{ds:List D}{vs:List V}{fT:List Sl}(h:B8 K O0 H (ds.map .v) vs H' fT):aH H H':=λb o e=>h.keep b o e Y7
end
section
variable{X:Cx}{k n:Nat}{f:Addr}{fd:FuncData}{ps:List Str}{m:MF}{x:Str}{p pos:Pos}{e:Expr}{es:List Expr}{fs:ML}
def G5{O0:Addr->Prop}{r:En}{σ:St}{H H1:Hp}{ds:List D}{vs:List V}{rs:Rs}{fT:List Sl}{Q:VK}{E:XK}(hR:R X.K O0 H r σ)(s1:aH H H1)(il:IsL X.K (Ow O0 r σ) H1 ds vs)(hl:ds.length=n)(em:m (ds.map .v)=aA (rs,fT))(q:OU X.K (Ow O0 r σ) H1 (ds.map .v) vs fT Q rs):l5 X.K n m (vs++[]) H1 Q E:=by
 rw[dk];refine⟨Ow O0 r σ,ds.map .v,rs,fT,by simpa using hl,Ec (hR.same s1).ol il,λi l=>?_,em,q⟩;rw[az];cases e1:ds[i]? with
 |none=>exact⟨(λz=>by cases z),(λz=>by cases z),(λ_ z=>by cases z)⟩
 |some y=>exact⟨(λz=>by cases z),(λz=>by cases z),(λ_ z=>by cases z)⟩
def zX(F:eG X.prog X.w X.K X.mg X.base iW k f fd ps (l5 X.K n m))(hr:eR k X.A)(hg:Gl X x)(hm:X.mg x=aA (.ref f))(hk:dj X.K (.ref f)=true)(hb:Binds X.K fd ps [])(ha:DA X (e::es) fs)(fE:e_ x:=by decide)(he:sL X e es:=by rfl)(hpl:xi X es pos:=by rfl):DE X (.Call (.Name x p) (e::es) [] pos) (zW n m fs):=by
 refine PE.aK (ZD (E:=λ_ _ _=>False) (dvs:=[]) F hr hg hm hk hb .nil D' ha fE he hpl) λσ H Q h=>?_
 obtain⟨O0,r,d,hR,e,q⟩:=h;obtain⟨ds,e1,e2⟩:=aI e;split at e2
 .rename_i hl;obtain⟨⟨rs,fT⟩,e3,rfl⟩:=a8 e2;refine⟨O0,r,ds,hR,e1,λvs H1 s1 il=>G5 hR s1 il hl e3 ?_⟩;cases rs with
  |v d=>exact λv H2 pf iv=>q v H2 (s1.trans pf.same) iv
  |f l=>
   refine λa xs H2 pf na ea iM=>q _ H2 (s1.trans pf.same) ?_
   have R1:=hR.same s1;have zj:Z2 (λb=>Ow O0 r σ b\/b=a) H2:=λb z=>z.elim (λz=>(R1.same pf.same).ol b z) λz=>by subst z;exact⟨.lst xs,ea,trivial⟩
   show Is X.K (Ow O0 r σ) H2 (.lst l)<|.ref a;rw[yV];exact⟨a,xs,rfl,.inl ⟨R1.Al na,.inl ea⟩,IsL.mono (aH.kp (aH.refl H2) _) zj (λ_ z _=>.inl z) _ _ iM⟩
  |g ks l=>
   refine λa aM H2 pf na ea ek iM=>q _ H2 (s1.trans pf.same) ?_
   have zj:Z2 (λb=>Ow O0 r σ b\/b=a) H2:=λb z=>z.elim (λz=>((hR.same s1).same pf.same).ol b z) λz=>by subst z;exact⟨.dK aM,ea,trivial⟩
   show Is X.K (Ow O0 r σ) H2 (.fL ks l)<|.ref a;rw[oZ];exact⟨a,aM,rfl,(hR.same s1).Al na,.inl ea,ek,IsL.mono (aH.kp (aH.refl H2) _) zj (λ_ z _=>.inl z) _ _ iM⟩
 .cases e2
def Ur(F:eG X.prog X.w X.K X.mg X.base iW k f fd ps (l5 X.K 0 m))(hr:eR k X.A)(hg:Gl X x)(hm:X.mg x=aA (.ref f))(hk:dj X.K (.ref f)=true)(hb:Binds X.K fd ps [])(fE:e_ x:=by decide):DE X (.Call (.Name x p) [] [] pos) (zW 0 m zN):=by
 refine PE.aK (Uk (E:=λ_ _ _=>False) (dvs:=[]) F hr hg hm hk hb .nil D' fE) λσ H Q h=>?_
 obtain⟨O0,r,d,hR,e,q⟩:=h;obtain⟨ds,e1,e2⟩:=aI e;unfold zN at e1;cases e1;split at e2
 .rename_i hl;obtain⟨⟨rs,fT⟩,e3,rfl⟩:=a8 e2;refine G5 (E:=λ_ _ _=>False) hR (aH.refl H) .nil hl e3 ?_;cases rs with
  |v d=>exact λv H2 pf iv=>q v H2 pf.same iv
  |f l=>
   refine λa xs H2 pf na ea iM=>q _ H2 pf.same ?_
   have zj:Z2 (λb=>Ow O0 r σ b\/b=a) H2:=λb z=>z.elim (λz=>(hR.same pf.same).ol b z) λz=>by subst z;exact⟨.lst xs,ea,trivial⟩
   show Is X.K (Ow O0 r σ) H2 (.lst l)<|.ref a;rw[yV];exact⟨a,xs,rfl,.inl ⟨hR.Al na,.inl ea⟩,IsL.mono (aH.kp (aH.refl H2) _) zj (λ_ z _=>.inl z) _ _ iM⟩
  |g ks l=>
   refine λa aM H2 pf na ea ek iM=>q _ H2 (pf.same) ?_
   have zj:Z2 (λb=>Ow O0 r σ b\/b=a) H2:=λb z=>z.elim (λz=>(hR.same pf.same).ol b z) λz=>by subst z;exact⟨.dK aM,ea,trivial⟩
   show Is X.K (Ow O0 r σ) H2 (.fL ks l)<|.ref a;rw[oZ];exact⟨a,aM,rfl,hR.Al na,.inl ea,ek,IsL.mono (aH.kp (aH.refl H2) _) zj (λ_ z _=>.inl z) _ _ iM⟩
 .cases e2
def ZS(F:eG X.prog X.w X.K X.mg X.base iW k f fd ps (l5 X.K n m))(hr:eR k X.A)(hg:Gl X x)(hm:X.mg x=aA (.ref f))(hk:dj X.K (.ref f)=true)(hb:Binds X.K fd ps [])(ha:DA X (e::es) fs)(fE:e_ x:=by decide)(he:sL X e es:=by rfl)(hpl:xi X es pos:=by rfl):DF X (.Call (.Name x p) (e::es) [] pos) (dL n m fs):=by
 refine PE.aK (ZD (E:=λ_ _ _=>False) (dvs:=[]) F hr hg hm hk hb .nil D' ha fE he hpl) λσ H Q h=>?_
 obtain⟨O0,r,l,hR,e,q⟩:=h;obtain⟨ds,e1,e2⟩:=aI e;split at e2
 .rename_i hl;obtain⟨⟨rs,fT⟩,e3,e4⟩:=aI e2;refine⟨O0,r,ds,hR,e1,λvs H1 s1 il=>G5 hR s1 il hl e3 ?_⟩;cases rs with
  |v d=>cases e4
  |f l'=>cases e4;exact λa xs H2 pf na ea iM=>q a xs H2 (s1.trans pf.same) (s1.free na) ea iM
  |g ks l'=>cases e4
 .cases e2
end
noncomputable def Gs:D->Option (List D)
 |.lst l=>aA l
 |.tup l=>aA l
 |_=>aB
def eA(f:ME):ML:=λr=>(f r).bind Gs
def oB{l:List D}{i:Nat}(h:i<l.length):∃d,l[i]?=aA d:=⟨l[i],by simp[h]⟩
def MC{K:Fg}{O M:Addr->Prop}(mo:∀a,M a->O a){H:Hp}{a:Addr}{xs:List V}{ds:List D}(ol:Z2 O H)(rd:∀H1,Q9 M H H1->aV K H1 a xs)(il:IsL K O H ds xs):Bv K O M H (Jc K a) ds:=by
 intro i H1 O' kp oo;have An:Q9 O H H1:=λb o e n=>kp b o e λz=>n<|mo b z
 have xu:aV K H1 a xs:=rd H1 kp;refine⟨λhi=>⟨?_,λx H' y=>?_⟩,λhi=>⟨xs,xu,by rw[<-il.length];exact oy hi.symm⟩⟩
 .obtain⟨d,e⟩:=oB hi;obtain⟨v,e1,_⟩:=il.get e;exact⟨xs,v,xu,e1⟩
 .obtain⟨rfl,y⟩:=y;refine⟨aH.refl _,λd e=>?_⟩;obtain⟨v,e1,q⟩:=il.get e
  have:=y xs xu
  rw[e1] at this;cases this;exact Is.mono An ol oo _ _ q
def Si{K:Fg}{O M:Addr->Prop}(mo:∀a,M a->O a){H:Hp}{a:Addr}{xs:List V}{ds:List D}(ol:Z2 O H)(rd:eI K H a xs)(il:IsL K O H ds xs):Bv K O M H (Ja K a) ds:=by
 intro i H1 O' kp oo;have An:Q9 O H H1:=λb o e n=>kp b o e λz=>n<|mo b z
 have xu:eI K H1 a xs:=eI.keep An ol rd;refine⟨λhi=>⟨?_,λx H' y=>?_⟩,λhi=>⟨xs,xu,by rw[<-il.length];exact oy hi.symm⟩⟩
 .obtain⟨d,e⟩:=oB hi;obtain⟨v,e1,_⟩:=il.get e;exact⟨xs,v,xu,e1⟩
 .obtain⟨rfl,y⟩:=y;refine⟨aH.refl _,λd e=>?_⟩;obtain⟨v,e1,q⟩:=il.get e
  have:=y xs xu
  rw[e1] at this;cases this;exact Is.mono An ol oo _ _ q
def Lm(hl:PE X l tl):PI X tg l (λσ H Rr=>tl σ H λx H1=>∃a,x=.ref a/\(((∃xs,aV X.K H1 a xs)/\Rr (Jc X.K a) H1)\/((∃xs,eI X.K H1 a xs)/\Rr (Ja X.K a) H1))):=by
 intro pZ s σ H R I h;refine aS (hl pZ s σ H _ I h) λv s1 ⟨x,H1,I1,r1,q1⟩=>?_
 obtain⟨a,e,q⟩:=q1;subst e;cases r1;rcases q with⟨⟨xs,hq⟩,q⟩|⟨⟨xs,hq⟩,q⟩
 .obtain⟨its,rv,p,hz⟩:=I1.list hq;refine oj p.isList ?_;refine⟨s1.heap.objs.size,[s1.heap.objs.size],_,_,H1,rfl,I1.kept (t':=s1.toks) λb o e=>ay _ e,Vv a _,⟨_,cn _ rfl,rfl,rfl⟩,λb hb=>?_,q⟩;have e:b=s1.heap.objs.size:=by simpa using hb
  subst e;exact I1.Bn (ao _)<|I1.aP.fresh<|ao _
 .obtain⟨its,rv,p,hz⟩:=I1.tuple hq;refine wpAny_pyIter_tuple (show s1.heap.IsTuple a its.toArray from p) ?_;refine⟨s1.heap.objs.size,[s1.heap.objs.size],_,_,H1,rfl,I1.kept (t':=s1.toks) λb o e=>ay _ e,JF a _,⟨_,cn _ rfl,rfl,rfl⟩,λb hb=>?_,q⟩;have e:b=s1.heap.objs.size:=by simpa using hb
  subst e;exact I1.Bn (ao _)<|I1.aP.fresh<|ao _
def bH(hl:DE X l f):DI X tg l (eA f):=by
 refine PI.aK (Lm hl) λσ H Rr h=>?_
 obtain⟨O0,r,ds,hR,e,q⟩:=h;obtain⟨d,e1,e2⟩:=aI e;refine⟨O0,r,d,hR,e1,λv H1 s1 i1=>?_⟩;have ol:=(hR.same s1).ol;cases d with
 |lst l'=>
  cases e2;rw[yV] at i1;obtain⟨a,xs,rfl,rd,il⟩:=i1;exact⟨a,rfl,.inl ⟨⟨xs,rd.sq⟩,q _ H1 s1<|MC (λa z=>.inr z.own) ol (λH2 k2=>rd.imp (λz=>Rd.keep k2 (λy=>z.1<|.inr y.own) z.2) id) il⟩⟩
 |tup l'=>
  cases e2;rw[wE] at i1;obtain⟨a,xs,rfl,rd,il⟩:=i1;exact⟨a,rfl,.inr ⟨⟨xs,rd⟩,q _ H1 s1<|Si (λa z=>.inr z.own) ol rd il⟩⟩
 |_=>cases e2
noncomputable def xq(lo:Int)(n:Nat):List D:=(db n).map λi=>.int<|lo+(i:Nat)
def Sg{K:Fg}(lo:Int)(n:Nat):Bv K O M H (Fy lo n) (xq lo n):=by
 intro i H1 O' kp oo;have hl:(xq lo n).length=n:=by simp[xq]
 refine⟨λhi=>⟨by rw[hl] at hi;exact hi,λx H' y=>?_⟩,λhi=>by rw[hl] at hi;exact oy hi.symm⟩;obtain⟨rfl,rfl⟩:=y;refine⟨aH.refl _,λd e=>?_⟩;rw[hl] at hi;unfold xq at e;rw[az,va hi] at e;cases e;rw[zY]
noncomputable def intD:D->Option Int
 |.int i=>aA i
 |_=>aB
def mT(f:ME):ML:=λr=>(f r).bind λd=>(intD d).bind λj=>if -(2 ^ 62)<=j/\j<2 ^ 62 then aA (xq 0 j.toNat) else aB
def r8(e:intD d=aA i):d=.int i:=by
 cases d<;>first|cases e;rfl|cases e
def ZQ(hg:Gl X "range")(hm:X.mg "range" = aB)(ha:DE X l f)(hs:aq [l] X.env=[(false,eval l X.env)]:=by rfl):DI X tg (.Call (.Name "range" p) [l] [] pos) (mT f):=by
 refine PI.aK (VD hg hm (wV ha kT hs) hs) λσ H Rr h=>?_
 obtain⟨O0,r,ds,hR,e,q⟩:=h;obtain⟨d,e1,e2⟩:=aI e;obtain⟨j,e3,e4⟩:=aI e2;cases r8 e3;split at e4
 .rename_i hj;cases e4;refine⟨O0,r,_,hR,e1,λv H1 s1 i1=>?_⟩;rw[zY] at i1;exact⟨j,by rw[i1],hj.1,hj.2,q _ H1 s1<|Sg 0 _⟩
 .cases e4
noncomputable def k_(env:Env):List (Str×NameKind)->List (Str×Addr)->List (Str×Addr)
 |[],acc=>acc
 |(n,k)::r,acc=>if k=.free then k_ env r ((n,(env.cells.lookup n).getD 0)::acc) else k_ env r acc
theorem oX:∀(names:List (Str×NameKind)) (acc:List (Str×Addr)),(∀y∈names,y.2=.free->∃c,env.cells.lookup y.1=aA c) ->
  (forIn names acc (λ(x:Str×NameKind) (cs:List (Str×Addr))=>match x with
   |(name,kind)=>if (kind == NameKind.free)=true then do let a <- cellOf env name;pure (ForInStep.yield ((name,a)::cs)) else pure<|ForInStep.yield cs):Sem (List<|Str×Addr))=pure (k_ env names acc)
 |[],acc,_=>rfl
 |(n,k)::r,acc,h=>by
  rw[List.forIn_cons];by_cases hk:k=.free
  .obtain⟨c,hc⟩:=h (n,k) be hk;have ih:=oX r ((n,c)::acc) λy hy=>h y<|cj _ hy
   subst hk;show((do let a <- cellOf env n;pure (ForInStep.yield ((n,a)::acc))) >>= _:Sem _)=_;unfold cellOf;rw[hc];unfold k_;rw[if_pos rfl,hc];exact ih
  .have hb:(k == NameKind.free)=false:=by simpa using hk
   have ih:=oX r acc λy hy=>h y<|cj _ hy
   unfold k_;rw[if_neg hk];simp only[hb];exact ih
def mI(h:∀y∈scope.names,y.2=.free->∃c,env.cells.lookup y.1=aA c):closureFor scope env=pure (k_ env scope.names []):=by
 unfold closureFor
 have:=oX (env:=env) scope.names [] h
 first
  |exact this
  |(simp only[bind_pure];exact this)
  |(rw[<-this];rfl)
theorem XI:∀(names:List (Str×NameKind)) (acc:List (Str×Addr)),(∀y∈names,y.2=.free->∃c,env.cells.lookup y.1=aA c)->(∀c,acc.lookup x=aA c->env.cells.lookup x=aA c) ->
  (k_ env names acc).lookup x=aA c->env.cells.lookup x=aA c
 |[],acc,_,ha,e=>ha c e
 |(n,k)::r,acc,h,ha,e=>by
  unfold k_ at e;split at e
  .rename_i hk;refine XI r _ (λy hy=>h y<|cj _ hy) (λc' e'=>?_) e;rw[dz] at e';split at e'
   .rename_i hx;have EZ:x=n:=by simpa using hx
    subst EZ;obtain⟨c2,q⟩:=h (x,k) be hk;rw[q] at e' ⊢;simpa using e'
   .exact ha c' e'
  .exact XI r _ (λy hy=>h y<|cj _ hy) ha e
theorem XJ:∀(names:List (Str×NameKind)) (acc:List (Str×Addr)),(∃c,acc.lookup x=aA c)->∃c,(k_ env names acc).lookup x=aA c
 |[],acc,h=>h
 |(n,k)::r,acc,h=>by
  unfold k_;split
  .refine XJ r _ ?_;rw[dz];split
   .exact⟨_,rfl⟩
   .exact h
  .exact XJ r _ h
theorem tL:∀(names:List (Str×NameKind)) (acc:List (Str×Addr)),(x,NameKind.free)∈names->∃c,(k_ env names acc).lookup x=aA c
 |[],_,h=>nomatch h
 |(n,k)::r,acc,h=>by
  unfold k_;rcases av.mp h with z|z
  .cases z;rw[if_pos rfl];refine XJ r _ ?_;rw[dz];simp
  .split
   .exact tL r _ z
   .exact tL r _ z
theorem dE{env:Env}:∀{names:List (Str×NameKind)} {x:Str} {k:NameKind},(names.map λ(n,k)=>if (k == NameKind.free && env.scope.kind == .function && env.kindOf n == aA .cell) then (n,NameKind.cell) else (n,k)).lookup x=aA k ->
  ∃k',names.lookup x=aA k'/\(k=k'\/(k'=.free/\k=.cell))
 |[],_,_,h=>by simp at h
 |(n,k0)::r,x,k,h=>by
  have h':ur x ((if (k0 == NameKind.free && env.scope.kind == .function && env.kindOf n == aA .cell)=true then (n,NameKind.cell) else (n,k0))::(r.map λ(n,k)=>if (k == NameKind.free && env.scope.kind == .function && env.kindOf n == aA .cell) then (n,NameKind.cell) else (n,k)))=aA k:=h;rw[dz];by_cases hc:(k0 == NameKind.free && env.scope.kind == .function && env.kindOf n == aA .cell)=true
  .rw[if_pos hc,dz] at h';split at h'
   .rename_i hx;cases h';refine⟨k0,rfl,.inr ⟨?_,rfl⟩⟩;simp only[bo,beq_iff_eq] at hc;exact hc.1.1
   .rename_i hx;exact dE h'
  .rw[if_neg hc,dz] at h';split at h'
   .rename_i hx;cases h';exact⟨k0,rfl,.inl rfl⟩
   .rename_i hx;exact dE h'
theorem nD{env:Env}:∀{names:List (Str×NameKind)} {x:Str},names.lookup x=aA .free ->
  let l:=(names.map λ(n,k)=>if (k == NameKind.free && env.scope.kind == .function && env.kindOf n == aA .cell) then (n,NameKind.cell) else (n,k));l.lookup x=aA .cell\/l.lookup x=aA .free
 |[],_,h=>by simp at h
 |(n,k0)::r,x,h=>by
  show ur x ((if (k0 == NameKind.free && env.scope.kind == .function && env.kindOf n == aA .cell)=true then (n,NameKind.cell) else (n,k0))::_)=_\/ur x ((if (k0 == NameKind.free && env.scope.kind == .function && env.kindOf n == aA .cell)=true then (n,NameKind.cell) else (n,k0))::_)=_;rw[dz] at h;cases hx:x == n with
  |true=>
   rw[hx] at h;cases h;split
   .left;rw[dz,hx]
   .right;rw[dz,hx]
  |false=>
   rw[hx] at h;have ih:=nD (env:=env) h;split
   .rw[dz,hx];exact ih
   .rw[dz,hx];exact ih
def eO(X:Cx)(N':List Str)(scope:Scope)(C:Addr)(fp:List Addr)(s:Shared)(H:Hp):Cx where
 prog:=X.prog
 w:=X.w
 K:=X.K
 mg:=X.mg
 base:=X.base
 A:=X.A
 N:=N'
 s₀:=s
 H₀:=H
 env:=compEnvC scope (k_ X.env scope.names []) C X.env
 outer:=X.stack
 stack:=X.stack
 ex:=fp
 fn:=λ_=>false
 calm:=X.calm
 pn:=[]
 xe:=λ_ _=>False
structure sN(X:Cx)(N':List Str)(cap:List Nat)(scope:Scope):Prop where
 kind:scope.kind=.function
 nc:∀y∈scope.names,y.2≠.cell
 nm:∀y∈scope.names,y.2=.local->scope.names.lookup y.1=aA .local
 fr:∀y∈scope.names,y.2=.free->X.env.kindOf y.1=aA .cell\/X.env.kindOf y.1=aA .free
 Fm:∀(i j:Nat),cap[i]?=aA j->∃x,N'[i]?=aA x/\X.N[j]?=aA x/\scope.names.lookup x=aA .free
 len:cap.length<=N'.length
def za(cap:List Nat)(n:Nat)(σ:St):St:=(cap.map λj=>(σ[j]?).getD aB)++bq (n-cap.length) aB
def sN.IH(o:sN X N' cap scope)(ok:X.Ok):∀y∈scope.names,y.2=.free->∃c,X.env.cells.lookup y.1=aA c:=λy hy e=>ok.has y.1<|o.fr y hy e
def sN.sub(o:sN X N' cap scope)(ok:X.Ok)(e:(k_ X.env scope.names []).lookup x=aA c):X.env.cells.lookup x=aA c:=XI scope.names [] (o.IH ok) (λ_ z=>by simp at z) e
def T9(o:sN X N' cap scope)(I:Inv X pZ σ H s)(wq:∀b∈fp,lU X pZ H b)(iH:∀b∈fp,b<s.heap.objs.size){h':Heap}{t':Nat}(ns:h'.Ns s.heap.objs.size (λ_=>aB))(kp:∀b u,s.heap.get? b=aA u->h'.get? b=aA u):Inv (eO X N' scope s.heap.objs.size fp s H) [] (za cap N'.length σ) H { s with heap:=h',toks:=t' }:=by
 have hf:H s.heap.objs.size=aB:=I.aP.fresh<|ao _;have Wq:∀b∈fp,b∉fR X.stack:=λb hb z=>by
  obtain⟨f0,f1,f2,f3,f4,f5⟩:=wq b hb;rcases av.mp (I.EF b z) with q|q
  .exact f1 q
  .exact f2 q
 have Wg:(eO X N' scope s.heap.objs.size fp s H).Ok:=by
  refine⟨I.ok.mod,o.kind,I.ok.glob,I.ok.blt,ao _,λx y c e1 e2=>I.ok.inj x y c (o.sub I.ok e1)<|o.sub I.ok e2,λx hx=>?_,λx c z=>(by cases z),I.ok.hd,I.ok.frames,.inl rfl,λb hb=>⟨bv<|iH b hb,λx c e=>(wq b hb).2.2.2.2.1 x c<|o.sub I.ok e⟩,
   λb ob e=>I.bs b ob e,bf I.ok.ww I.sz,λb ob e hb=>?_,Wq,I.stack,⟨I.Hs,I.tabIn⟩⟩
  .have key:scope.names.lookup x=aA .free:=by
    rcases hx with hx|hx
    .obtain⟨k',e1,e2⟩:=dE (env:=X.env) (names:=scope.names) (x:=x) (k:=.cell) hx;rcases e2 with e2|e2
     .subst e2;exact absurd rfl<|o.nc _<|fg e1
     .rw[e2.1] at e1;exact e1
    .obtain⟨k',e1,e2⟩:=dE (env:=X.env) (names:=scope.names) (x:=x) (k:=.free) hx;rcases e2 with e2|e2
     .subst e2;exact e1
     .exact absurd e2.2 (by decide)
   exact tL scope.names []<|fg key
  .rcases(wq b hb).2.2.2.1 with z|z
   .exact I.ok.Am b ob e z
   .exact absurd (ba (ba (ax e) I.ok.ww) z)<|gw _
 refine⟨Wg,rfl,I.bare,Un.kept kp,⟨λ_=>aB,ns,λi x v hN hs hv=>?_⟩,λx c e=>?_,hf,λx c e=>I.n_ x c<|o.sub I.ok e,λp hp=>?_,I.aP.kept kp,?_⟩
 .have hN:N'[i]?=aA x:=hN;by_cases hi:i<cap.length
  .unfold za at hs;rw[au<|by simpa using hi,az] at hs;obtain⟨j,hj⟩:∃j,cap[i]?=aA j:=⟨cap[i],by simp[hi]⟩;rw[hj] at hs;have yh:σ[j]?=aA (aA v):=by
    have E3:(σ[j]?).getD aB=aA v:=bp hs;cases e:σ[j]? with
    |none=>rw[e] at E3;cases E3
    |some y=>rw[e] at E3;have:y=aA v:=E3;rw[this]
   obtain⟨x',e1,e2,e3⟩:=o.Fm i j hj;rw[hN] at e1;cases e1;have hk:=o.fr (x,.free) (fg e3) rfl;obtain⟨m,hn,hl⟩:=I.loc;have Ye:Fu X.env.scope x:=hk.elim (λz=>.inr<|.inl z) λz=>.inr<|.inr z
   obtain⟨u,r,lk⟩:=hl j x v e2 yh Ye;refine⟨u,r,.inr ⟨nD (env:=X.env) e3,?_⟩⟩;rcases lk with⟨z,_⟩|⟨_,c,hc,Fb⟩
   .have z':X.env.kindOf x=aA .local:=z;rw[z'] at hk;rcases hk with hk|hk<;>cases hk
   .obtain⟨c',i9⟩:=tL (env:=X.env) scope.names []<|fg e3;have Bj:=o.sub I.ok i9;rw[hc] at Bj;cases Bj;obtain⟨ob,q1,q2⟩:=Fb;exact⟨c,i9,ob,kp _ _ q1,q2⟩
  .unfold za at hs;rw[bn<|by simpa using kh hi,de] at hs;split at hs<;>cases hs
 .obtain⟨v,ob,q1,q2⟩:=I.cell x c<|o.sub I.ok e;exact⟨v,ob,kp _ _ q1,q2⟩
 .exact absurd (show p∈([]:List (Addr×Obj)) from hp) (by simp)
 .unfold za;show _=N'.length;rw[ae,af,ui]
  have:=o.len
  omega
def n8(I:Inv X pZ σ H s)(wq:∀b∈fp,lU X pZ H b)(J:Inv (eO X N' scope s.heap.objs.size fp s H) [] σ2 H2 s2)(sb:kf s.heap.objs.size s2.heap h'):Inv X pZ σ H2 { s2 with heap:=h' }:=by
 have hb:Un (fR X.stack) fp H H2 s.heap s2.heap:=J.base;have ne:∀b o,s.heap.get? b=aA o->b≠s.heap.objs.size:=λb o e=>bv<|ax e
 have fr:H2 s.heap.objs.size=aB:=J.free;refine I.IX (s':={ s2 with heap:=h' }) (ch:=fp) J.os ?_ ?_ J.bare λb hb=>⟨(wq b hb).2.2.2.1,(wq b hb).2.1,(wq b hb).2.2.2.2.1,(wq b hb).2.2.2.2.2⟩
 .refine⟨λb o e n h1 h2=>?_,λb o e n h1 h2=>?_,λb o e n h2=>hb.free b o e n h2,λb o e h2=>?_,hb.v_,hb.vm,hb.wa⟩
  .exact sb.extBut b o (ne b o e)<|hb.keep b o e n h1 h2
  .obtain⟨sl,q⟩:=hb.slot b o e n h1 h2;exact⟨sl,sb.extBut b _ (ne b o e) q⟩
  .obtain⟨o',q⟩:=hb.there b o e h2;exact⟨o',sb.extBut b _ (ne b o e) q⟩
 .intro b u e;have nb:∀c w,H2 c=aA w->c≠s.heap.objs.size:=λc w q z=>by rw[z,fr] at q;cases q
  refine(J.aP b u e).xt (λc v hc q=>sb.extBut c v ?_ q) (λ_ q=>q) (λ_ _ q=>q) λ_ _ _ q=>q
  rcases hc with z|z
  .rw[z];exact nb b u e
  .exact nb c _ z
def Gz(tc:Option TT)(te:TE)(K1:V->Hp->Prop)(K0:Hp->Prop):St->Hp->Prop:=λσ H=>match tc with
 |none=>te σ H K1
 |some c=>c σ H λb H1=>if b=true then te σ H1 K1 else K0 H1
def Ga(cap:List Nat)(n:Nat)(wi:TI)(g:TG)(tc:Option TT)(te:TE):TE:=λσ H Q=>wi σ H λJ H1=>∀p,H1 p=aB->∃W:Nat->Nat->List V->St->Hp->Prop,(∃m,W 0 m [] (za cap n σ)<|upd H1 p<|.lst [])/\∀i m ys σ2 H2,W i m ys σ2 H2->H2 p=aA (.lst ys)/\ys.length<ag /\
 ((J.stop i H2/\Q (.ref p) H2)\/(J.go i H2/\∀x H3,J.BN i H2 x H3->g x σ2 H3 λσ4 H4=>Gz tc te (λy H5=>H5 p=aA (.lst ys)/\∃m',m'<m/\W (i+1) m' (ys++[y]) σ4 (upd H5 p<|.lst<|ys++[y])) (λH5=>∃m',m'<m/\W (i+1) m' ys σ4 H5) σ4 H4))
def QL(W:Nat->Shared->Prop)(each:∀k t,W k t->wpAny (model prog w) A (pyNext it) (λgot t1=>match got with
   |none=>Z (.ok .next) t1
   |some y=>wpAny (model prog w) A (letOwnedTupleGo Ho it y) (λ_ t2=>wpAny (model prog w) A (assign Ho env y) (λ_ t3=>
     wpAny (model prog w) A (forIn tests true λc b=>if b=true then do let ok <- isTrue c env (eval c env);pure (ForInStep.yield ok) else pure<|ForInStep.yield b) (λgood t4=>
      if good=true then wpAny (model prog w) A (eval elt env) (λx t5=>
       wpAny (model prog w) A (call (.builtin "list.append") [out,x]) (λ_ t6=>∃j,j<k/\W j t6) (λ_ _=>False) t5) (λ_ _=>False) t4
      else ∃j,j<k/\W j t4) (λ_ _=>False) t3) (λ_ _=>False) t2) (λ_ _=>False) t1) (λ_ _=>False) t)(k:Nat)(h0:W k t0):codeAny (model prog w) A (.compLoop (.ListComp elt [⟨Ho,src,tests,0⟩] scope pos) 0 it out env) Z t0:=by
 refine codeAny_loop rfl W (λk t hW=>?_) k h0;show wpAny _ A ((compTurn (.ListComp elt [⟨Ho,src,tests,0⟩] scope pos) 0 it out env).onRaise (λx=>do noteFrame x env;theTreesLotGoes x)) _ _ t;refine wpAny_noted ?_;rw[compTurn_list];refine aj<|qu<|aj<|fu (each k t hW) (λgot t1 g1=>?_) λ_ _ no=>no.elim;cases got with
 |none=>exact bb g1
 |some y=>
  refine aj<|fu g1 (λ_ t2 g2=>aj<|fu g2 (λ_ t3 g3=>aj<|fu g3 (λgood t4 g4=>?_) λ_ _ no=>no.elim) λ_ _ no=>no.elim) λ_ _ no=>no.elim;cases good with
  |false=>exact bb ⟨rfl,g4⟩
  |true=>
   exact aj<|aj<|fu g4 (λx t5 g5=>aj<|fu g5 (λ_ t6 g6=>bb<|bb ⟨rfl,g6⟩) λ_ _ no=>no.elim) λ_ _ no=>no.elim
def QK{elt tg iter:Expr}{ifs:List Expr}{pos:Pos}{g:TG}{tc:Option TT}{te:TE}{J:It}{it:Addr}{tn:Nat->Heap->Prop}{Q:VK}{RR:Value->Addr->Result->Shared->Prop}(hc:X.calm=true)(o:sN X N' cap scope)(hg:∀C fp s H,PG (eO X N' scope C fp s H) tg g)(ht:match (generalizing:=false) tc with|none=>ifs=[]|some c=>∃e,ifs=[e]/\∀C fp s H,PT (eO X N' scope C fp s H) e c)(he:∀C fp s H,PE (eO X N' scope C fp s H) elt te)(I:Inv X pZ σ H s)(T:Turn X.prog X.w X.K tg J fp it tn)(st:tn 0 s.heap)(wq:∀b∈fp,lU X pZ H b)(hw:∀p,H p=aB->∃W:Nat->Nat->List V->St->Hp->Prop,(∃m,W 0 m [] (za cap N'.length σ)<|upd H p<|.lst [])/\∀i m ys σ2 H2,W i m ys σ2 H2->H2 p=aA (.lst ys)/\ys.length<ag /\
   ((J.stop i H2/\Q (.ref p) H2)\/(J.go i H2/\∀x H3,J.BN i H2 x H3->g x σ2 H3 λσ4 H4=>Gz tc te (λy H5=>H5 p=aA (.lst ys)/\∃m',m'<m/\W (i+1) m' (ys++[y]) σ4 (upd H5 p<|.lst<|ys++[y])) (λH5=>∃m',m'<m/\W (i+1) m' ys σ4 H5) σ4 H4)))(Ï:∀(p:Addr) (s3 s':Shared) (H3 H2:Hp) (σ2:St),Inv X pZ σ H3 s3->(∀b∈fp,lU X pZ H3 b)->Inv (eO X N' scope s3.heap.objs.size fp s3 H3) [] σ2 H2 s'->Q (.ref p) H2->RR (.ref p) s3.heap.objs.size (.ok .next) s'):wpAny (model X.prog X.w) X.A (newList []) (λacc s₃=>wpAny (model X.prog X.w) X.A (newFunctionEnv scope X.env.globals (k_ X.env scope.names []) [] X.env.qual aB .none<|some X.env) (λOM s₄=>
   codeAny (model X.prog X.w) X.A (.compStart (.ListComp elt [⟨tg,iter,ifs,0⟩] scope pos) 0 (.ref it) acc { OM with scope:=relabel scope X.env }) (RR acc OM.locals) s₄) X.xe s₃) X.xe s:=by
 refine gf ?_;obtain⟨W,⟨m0,w0⟩,turn⟩:=hw s.heap.objs.size<|I.aP.fresh<|ao _;have Ww:∀b∈fp,b<s.heap.objs.size:=λb hb=>by
  obtain⟨ob,e,_⟩:=T.obj 0 _ st b hb;exact ax e
 have I3:=I.CF (its:=[]) (ys:=[]) (t':=s.toks) .nil<|cz _;generalize Od:({ s with heap:=s.heap.push { cls:=.type "list",data:=.seq ([]:List Value).toArray },toks:=s.toks }:Shared)=s3 at I3;have į:({ s with heap:=s.heap.push { cls:=.type "list",dict:=aB,data:=.seq ([]:List Value).toArray } }:Shared)=s3:=Od;have IB:∀b∈fp,lU X pZ (upd H s.heap.objs.size<|.lst []) b:=λb hb=>⟨by rw[qM<|bv<|Ww b hb];exact(wq b hb).1,(wq b hb).2⟩
 have Ct:tn 0 s3.heap:=T.keep 0 _ _ st λb _ ob e=>by rw[<-Od];exact ay _ e
 have NT:∀b∈fp,b<s3.heap.objs.size:=λb hb=>by
  obtain⟨ob,e,_⟩:=T.obj 0 _ Ct b hb;exact ax e
 refine wpAny_newFunctionEnv o.nc (by intro y hy;simp at hy) (λh₁ Yu Yk=>?_) o.kind;have old:∀b ob,s3.heap.get? b=aA ob->h₁.get? b=aA ob:=λb ob e=>Yk.extBut b ob (bv<|ax e)<|ay _ e
 have I4:=T9 (t':=s3.toks+([]:List (Str×Value)).length) o I3 IB NT (by simpa using Yu) old;have NB:tn 0 h₁:=T.keep 0 _ _ Ct λb _ ob e=>old b ob e
 have IQ:∀H',(∀b∈fp,H' b=aB)->∀b∈fp,lU (eO X N' scope s3.heap.objs.size fp s3<|upd H s.heap.objs.size<|.lst []) [] H' b:=λH' hn b hb=>by
  refine⟨hn b hb,bv<|NT b hb,I4.ok.AA b hb,.inl hb,(I4.ok.B5 b hb).2,λp hp=>absurd (show p∈([]:List (Addr×Obj)) from hp)<|by simp⟩
 have loop:codeAny (model X.prog X.w) X.A (.compLoop (.ListComp elt [⟨tg,iter,ifs,0⟩] scope pos) 0 (.ref it) (.ref s.heap.objs.size)<|compEnvC scope (k_ X.env scope.names []) s3.heap.objs.size X.env) (RR (.ref s.heap.objs.size) s3.heap.objs.size) { s3 with heap:=h₁,toks:=s3.toks+([]:List (Str×Value)).length }:=by
  refine QL (λn s'=>∃i ys σ' H',Inv (eO X N' scope s3.heap.objs.size fp s3<|upd H s.heap.objs.size<|.lst []) [] σ' H' s'/\tn i s'.heap/\(∀b∈fp,H' b=aB)/\W i n ys σ' H') ?_ m0 ⟨0,[],_,_,I4,NB,λb hb=>(IB b hb).1,w0⟩;rintro n s5 ⟨i,ys,σ5,H5,I5,BO,Ff,w5⟩;obtain⟨ı,Yb,br⟩:=turn i n ys σ5 H5 w5;rcases br with⟨stop,q⟩|⟨go,step⟩
  .refine aS (T.done (eO X N' scope s3.heap.objs.size fp s3<|upd H s.heap.objs.size<|.lst []) rfl rfl rfl hc i [] s5 _ H5 (λ_ _=>False) I5 (IQ H5 Ff) BO stop) λr s6 ⟨hr,I6⟩=>?_
   subst hr;exact Ï _ s3 s6 _ H5 _ I3 IB I6 q
  .refine aS (T.item (eO X N' scope s3.heap.objs.size fp s3<|upd H s.heap.objs.size<|.lst []) rfl rfl rfl hc i [] s5 _ H5 (λ_ _=>False) I5 (IQ H5 Ff) BO go) λr s6 ⟨u,hr,h6⟩=>?_
   subst hr;refine aS h6 λ_ s7 ⟨x,H7,I7,r7,y7,Hu,Ñ⟩=>?_
   have ô:=I7.pinned (IQ H7 Ñ)<|T.obj _ _ Hu;refine aS (hg _ _ _ _ _ s7 _ H7 x u _ ô r7<|step x H7 y7) λ_ s8 ⟨σ8,H8,I8,q8⟩=>?_
   have again:∀{H9:Hp} {σ9:St} {s9:Shared} {Hl:List V},Inv (eO X N' scope s3.heap.objs.size fp s3<|upd H s.heap.objs.size<|.lst []) ([]++WA fp s7.heap) σ9 H9 s9->(∃m',m'<n/\W (i+1) m' Hl σ9 H9) ->
     ∃m,m<n/\∃i ys σ' H',Inv (eO X N' scope s3.heap.objs.size fp s3<|upd H s.heap.objs.size<|.lst []) [] σ' H' s9/\tn i s9.heap/\(∀b∈fp,H' b=aB)/\W i m ys σ' H':=λ{H9 σ9 s9 Hl} I9 z=>by
    obtain⟨m',hm,w9⟩:=z;refine⟨m',hm,i+1,Hl,σ9,H9,I9.vz,T.keep _ _ _ Hu λb hb ob e=>(I9.pin (b,ob)<|cr _<|cr _<|gW hb e).1,λb hb=>?_,w9⟩;obtain⟨ob,e,d⟩:=T.obj _ _ Hu b hb;exact(I9.pin (b,ob)<|cr _<|cr _<|gW hb e).2.1
   have app:∀{s9:Shared} {H9:Hp} {y:V} {u9:Value},Inv (eO X N' scope s3.heap.objs.size fp s3<|upd H s.heap.objs.size<|.lst []) ([]++WA fp s7.heap) σ8 H9 s9->RelV y u9->(H9 s.heap.objs.size=aA (.lst ys)/\∃m',m'<n/\W (i+1) m' (ys++[y]) σ8 (upd H9 s.heap.objs.size<|.lst<|ys++[y])) ->
     wpAny (model X.prog X.w) X.A (call (.builtin "list.append") [.ref s.heap.objs.size,u9]) (λ_ s₅=>∃m,m<n/\∃i ys σ' H',Inv (eO X N' scope s3.heap.objs.size fp s3<|upd H s.heap.objs.size<|.lst []) [] σ' H' s₅/\tn i s₅.heap/\(∀b∈fp,H' b=aB)/\W i m ys σ' H') (λ_ _=>False) s9:=λ{s9 H9 y u9} I9 r9 z9=>by
    refine aS (dJ (X:=eO X N' scope s3.heap.objs.size fp s3<|upd H s.heap.objs.size<|.lst []) _ s9 σ8 H9 (.ref s.heap.objs.size) [y] (.ref s.heap.objs.size) [u9] (λ_ H'=>∃m',m'<n/\W (i+1) m' (ys++[y]) σ8 H') I9 rfl (.cons r9 .nil) ⟨_,ys,y,rfl,rfl,z9.1,Yb,z9.2⟩) λ_ Hx ⟨_,ø,Dt,_,Hk⟩=>?_
    exact again Dt Hk
   cases tc with
   |none=>
    have hi:ifs=[]:=ht;subst hi;refine wpAny_tests_nil ?_;rw[if_pos rfl];exact aS (he _ _ _ _ _ s8 σ8 H8 _ I8 q8) λu9 s9 ⟨y,H9,I9,r9,z9⟩=>app I9 r9 z9
   |some c=>
    obtain⟨e,Zy,IE⟩:=ht;subst Zy;refine wpAny_tests_one<|aS (IE _ _ _ _ _ s8 σ8 H8 _ I8 q8) λb s9 ⟨H9,I9,q9⟩=>?_;cases b with
    |false=>
     rw[if_neg ah] at q9 ⊢;exact again I9 q9
    |true=>
     rw[if_pos rfl] at q9 ⊢;exact aS (he _ _ _ _ _ s9 σ8 H9 _ I9 q9) λĠ Hx ⟨y,ø,Dt,V9,Hk⟩=>app Dt V9 Hk
 exact codeAny_compStart_list loop<|T.self X.A 0 _ _ _ NB loop
def Ng(hc:X.calm=true)(o:sN X N' cap scope)(hi:PI X tg iter wi)(hg:∀C fp s H,PG (eO X N' scope C fp s H) tg g)(ht:match (generalizing:=false) tc with|none=>ifs=[]|some c=>∃e,ifs=[e]/\∀C fp s H,PT (eO X N' scope C fp s H) e c)(he:∀C fp s H,PE (eO X N' scope C fp s H) elt te)(hs:∀x,fk iter X.env x=pure x:=by intro _;rfl):PE X (.ListComp elt [⟨tg,iter,ifs,0⟩] scope pos) (Ga cap N'.length wi g tc te):=by
 intro pZ s σ H Q I h;rw[eval_ListComp];refine qw (use:=aB) rfl hs (mI<|o.IH I.ok) o.kind o.nm<|aS (hi pZ s σ H _ I h) λxv s1 h1=>aS h1 λEX s2 h2=>?_;obtain⟨it,fp,tn,J,H2,rfl,I2,T,Aa,f2,hw⟩:=h2;refine QK (Q:=Q) hc o hg ht he I2 T Aa f2 hw ?_;intro p s3 s' H3 H4 σ4 I3 f3 J4 q;obtain⟨m,hn,_⟩:=J4.loc;exact⟨m,hn,λh' sb=>⟨.ref p,H4,n8 I3 f3 J4 sb,rfl,q⟩⟩
def Y3(hc:X.calm=true)(o:sN X N' cap scope)(hi:PI X tg iter wi)(hg:∀C fp s H,PG (eO X N' scope C fp s H) tg g)(ht:match (generalizing:=false) tc with|none=>ifs=[]|some c=>∃e,ifs=[e]/\∀C fp s H,PT (eO X N' scope C fp s H) e c)(he:∀C fp s H,PE (eO X N' scope C fp s H) elt te)(hN:X.N.Nodup)(hy:X.N[i]?=aA y)(hx:Loc X.env.scope y)(hf:sM X y)(wp:gi (.ListComp elt [⟨tg,iter,ifs,0⟩] scope pos) (aA<|.Name y py) A3.line X.env=pure true)(hs:∀x,fk iter X.env x=pure x:=by intro _;rfl):PS X (.Assign [.Name y py] (.ListComp elt [⟨tg,iter,ifs,0⟩] scope pos) A3) (FY (Ga cap N'.length wi g tc te)<|Cj i):=by
 intro pZ s σ H D I h;rw[exec_Assign_Name_used _ _ _ _ wp];refine aj<|qu<|aj ?_;show wpAny _ X.A (do let _ <- comprehension (.ListComp elt [⟨tg,iter,ifs,0⟩] scope pos) scope X.env _ (newList []) false (eval iter X.env) (aA<|assign (.Name y py) X.env)) _ _ s;refine aj (fu (qw (use:=aA<|assign (.Name y py) X.env) (Q:=λ_ s'=>SP X pZ D .next s') rfl hs (mI<|o.IH I.ok) o.kind o.nm
  (aS (hi pZ s σ H _ I h) λxv s1 h1=>aS h1 λEX s2 h2=>?_)) (λ_ s' hq=>bb<|bb hq) λ_ _ e=>e)
 obtain⟨it,fp,tn,J,H2,rfl,I2,T,Aa,f2,hw⟩:=h2;refine QK (Q:=λv H1=>Cj i v σ H1 D.nx) hc o hg ht he I2 T Aa f2 hw ?_;intro p s3 s' H3 H4 σ4 I3 f3 J4 q;obtain⟨m,hn,_⟩:=J4.loc;have I5:Inv X pZ σ H4 s':=n8 I3 f3 J4<|kf.refl _ _;have fc:lU X pZ H4 s3.heap.objs.size:=I3.Bn (ao _) J4.free;show wpAny _ X.A (assign (.Name y py) X.env<|.ref p) _ _ _;refine wpAny_assign_Name<|X3 (v:=.ref p) I5 hN hy hx rfl (λs6 I6 ⟨a,sb,ha⟩=>?_) hf;have vj:s3.heap.objs.size≠a:=by
  rcases ha with ha|ha
  .rw[ha];exact fc.2.1
  .exact λz=>fc.2.2.2.2.1 y a ha z.symm
 refine⟨m,hn.sameBut sb vj,λh' V4=>⟨_,H4,?_,q⟩⟩;exact I6.turned (t':=s6.toks) (it:=s3.heap.objs.size) (λb ob hb e=>V4.extBut b ob hb e) fc.1 fc.2.1 fc.2.2.2.1 fc.2.2.2.2.1 fc.2.2.2.2.2
noncomputable def xC:D->D->Option D
 |.int i,.int j=>aA<|.int<|i+j
 |.str s,.str t=>if s.length+t.length<=ag then aA (.str<|s++t) else aB
 |.lst l,.lst m=>if l.length+m.length<=ag then aA (.lst<|l++m) else aB
 |.tup l,.tup m=>if l.length+m.length<=ag/\l.isEmpty=false/\m.isEmpty=false then aA (.tup<|l++m) else aB
 |_,_=>aB
noncomputable def Z3:D->D->Option D
 |.int i,.int j=>aA<|.int<|i-j
 |_,_=>aB
noncomputable def AJ:D->D->Option D
 |.int i,.int j=>if (-(2 ^ 64)<i/\i<2 ^ 64)\/(-(2 ^ 64)<j/\j<2 ^ 64) then aA (.int<|i*j) else aB
 |_,_=>aB
noncomputable def qX:D->D->Option D
 |.int i,.int j=>if 0<j/\j<1073741824 then aA (.int<|i / j) else aB
 |_,_=>aB
noncomputable def jM:D->D->Option D
 |.int i,.int j=>if 0<j then aA (.int<|i % j) else aB
 |_,_=>aB
noncomputable def AM:D->D->Option D
 |.int i,.int j=>if 0<=j/\j<=1000000/\i.natAbs<2 ^ 64 then aA (.int<|i ^ j.toNat) else aB
 |_,_=>aB
noncomputable def nX:D->Option D
 |.int i=>aA<|.int<|-i
 |_=>aB
noncomputable def a_:D->D->Option D
 |.int i,.int j=>aA<|.bl<|decide (j<i)
 |_,_=>aB
noncomputable def Dq:D->D->Option Bool
 |.int i,.int j=>aA<|decide (i=j)
 |.str s,.str t=>aA<|decide (s=t)
 |.bl a,.bl b=>aA<|decide (a=b)
 |.aG,.aG=>aA true
 |.aG,.int _=>aA false
 |.int _,.aG=>aA false
 |.aG,.str _=>aA false
 |.str _,.aG=>aA false
 |.int _,.str _=>aA false
 |.str _,.int _=>aA false
 |_,_=>aB
def OF(x y:D):Option D:=(Dq x y).map .bl
def NW(x y:D):Option D:=(Dq x y).map λb=>.bl !b
noncomputable def iQ(x y:D):Option D:=match y with
 |.aG=>match x with
  |.aG=>aA<|.bl true
  |_=>aA<|.bl false
 |_=>aB
noncomputable def WP(x y:D):Option D:=match y with
 |.aG=>match x with
  |.aG=>aA<|.bl false
  |_=>aA<|.bl true
 |_=>aB
def Kl(K:Fg):R2:=λx y H Q=>∃l b xs zs,x=.ref l/\y=.ref b/\aV K H l xs/\aV K H b zs/\xs.length+zs.length<=ag/\∀p,H p=aB->Q (.ref p) (upd H p<|.lst<|xs++zs)
def NM:c_ X (binaryOp .Add) (Kl X.K):=by
 intro pZ s σ H x y v u Q I rx ry h;obtain⟨l,b,xs,zs,rfl,rfl,hH,hB,hz,q⟩:=h;cases rx;cases ry;obtain⟨its,r,⟨⟨cls,dd,data,sl⟩,n,e,hc,Ã,hd⟩,z⟩:=I.list hH;obtain⟨fF,r2,⟨⟨OL,Fk,data2,zf⟩,n2,e2,Fc,Â,hd2⟩,z2⟩:=I.list hB;have hl:=r.length;have Ir:=r2.length;cases (show cls=_ from hc);cases (show dd=_ from Ã);cases (show data=_ from hd);cases (show OL=_ from Fc);cases (show Fk=_ from Â);cases (show data2=_ from hd2);refine sd ⟨_,e,rfl⟩ ⟨_,e2,rfl⟩ noFill_list_add seq_list_add PySem.F.slot_list_add PySem.F.entry_list_add (PySem.F.args_list_add_2 _ _) (list_addW l b its.toArray fF.toArray n n2 aB aB sl zf (by rw[ai,ai];omega)) ⟨e,e2,?_⟩;have ea:its.toArray++fF.toArray=(its++fF).toArray:=by simp
 rw[ea];exact⟨.ref _,_,I.CF (t':=s.toks) (r.append r2) (by rw[ae];omega),rfl,q _ I.fresh⟩
def Kn(K:Fg):R2:=λx y H Q=>sR (λi j=>.int<|i+j) x y H Q\/(∃i j,x=.str i/\y=.str j/\i.length+j.length<=ag/\Q (.str<|i++j) H)\/Kl K x y H Q\/Km K x y H Q
def zR:c_ X (binaryOp .Add) (Kn X.K):=Wf.or<|We.or<|NM.or S3
def G6(s t:List Nat):((⟨s.toArray⟩:Str)++(⟨t.toArray⟩:Str))=(⟨(s++t).toArray⟩:Str):=by
 show(⟨s.toArray++t.toArray⟩:Str)=_;simp
def str_len(s:List Nat):(⟨s.toArray⟩:Str).length=s.length:=by simp[me]
def zS{K:Fg}:eT K (Kn K) xC:=by
 intro O H dx dy d vx vy Q ol ix iy e q;unfold xC at e;split at e
 .have e:=bp e;subst e;rw[zY] at ix iy;exact .inl ⟨_,_,ix,iy,q _ H (aH.refl H)<|by rw[zY]⟩
 .rename_i s t;split at e
  .rename_i hl;cases e;rw[yE] at ix iy;refine .inr<|.inl ⟨_,_,ix,iy,by rw[str_len,str_len];exact hl,q _ H (aH.refl H) ?_⟩;rw[yE,G6]
  .cases e
 .rename_i l m;split at e
  .rename_i hl;cases e;rw[yV] at ix iy;obtain⟨a,xs,rfl,hs,il⟩:=ix;obtain⟨b,ys,rfl,sI,iM⟩:=iy;have e1:=il.length;have e2:=iM.length;refine .inr<|.inr<|.inl ⟨a,b,xs,ys,rfl,rfl,hs.sq,sI.sq,by omega,λp hp=>q _ _ (xU hp) ?_⟩;rw[yV];refine⟨p,_,rfl,.inl ⟨λz=>?_,.inl wL⟩,(il.append iM).same (xU hp) ol⟩;obtain⟨zs,ez,_⟩:=ol p z;rw[hp] at ez;cases ez
  .cases e
 .rename_i l m;split at e
  .rename_i hl;cases e;rw[wE] at ix iy;obtain⟨a,xs,rfl,hs,il⟩:=ix;obtain⟨b,ys,rfl,sI,iM⟩:=iy;have e1:=il.length;have e2:=iM.length;refine .inr<|.inr<|.inr ⟨a,b,xs,ys,rfl,rfl,hs,sI,?_,by omega,λz=>?_,λ_ p hp=>q _ _ (xU hp) ?_⟩
   .rintro rfl
    have:l=[]:=by simpa using e1
    subst this;simp at hl
   .subst z
    have:m=[]:=by simpa using e2
    subst this;simp at hl
   .rw[wE];exact⟨p,_,rfl,eI.of wL,(il.append iM).same (xU hp) ol⟩
  .cases e
 .cases e
def DC{K:Fg}(h:∀dx dy d,m dx dy=aA d->∃i j,dx=.int i/\dy=.int j/\C i j/\∀O H,Is K O H d<|g i j):eT K (rI C g) m:=by
 intro O H dx dy d vx vy Q ol ix iy e q;obtain⟨i,j,rfl,rfl,hc,hd⟩:=h dx dy d e;rw[zY] at ix iy;exact⟨i,j,ix,iy,hc,q _ H (aH.refl H)<|hd O H⟩
def Kg{K:Fg}(h:∀dx dy d,m dx dy=aA d->∃i j,dx=.int i/\dy=.int j/\∀O H,Is K O H d<|g i j):eT K (sR g) m:=by
 intro O H dx dy d vx vy Q ol ix iy e q;obtain⟨i,j,rfl,rfl,hd⟩:=h dx dy d e;rw[zY] at ix iy;exact⟨i,j,ix,iy,q _ H (aH.refl H)<|hd O H⟩
def nW{K:Fg}:eT K (sR λi j=>.int<|i-j) Z3:=Kg λdx dy d e=>by
 unfold Z3 at e;split at e
 .cases e;exact⟨_,_,rfl,rfl,λO H=>by rw[zY]⟩
 .cases e
def EA{K:Fg}:eT K (rI FG λi j=>.int<|i*j) AJ:=DC λdx dy d e=>by
 unfold AJ at e;split at e
 .split at e
  .rename_i hc;cases e;exact⟨_,_,rfl,rfl,hc,λO H=>by rw[zY]⟩
  .cases e
 .cases e
def qW{K:Fg}:eT K (rI Jw λi j=>.int<|i / j) qX:=DC λdx dy d e=>by
 unfold qX at e;split at e
 .split at e
  .rename_i hc;cases e;exact⟨_,_,rfl,rfl,hc,λO H=>by rw[zY]⟩
  .cases e
 .cases e
def wQ{K:Fg}:eT K (rI (λ_ j=>0<j) λi j=>.int<|i % j) jM:=DC λdx dy d e=>by
 unfold jM at e;split at e
 .split at e
  .rename_i hc;cases e;exact⟨_,_,rfl,rfl,hc,λO H=>by rw[zY]⟩
  .cases e
 .cases e
def Lq{K:Fg}:eT K (rI Jx λi j=>.int<|i ^ j.toNat) AM:=DC λdx dy d e=>by
 unfold AM at e;split at e
 .split at e
  .rename_i hc;cases e;exact⟨_,_,rfl,rfl,hc,λO H=>by rw[zY]⟩
  .cases e
 .cases e
def bX{K:Fg}:eT K (sR λi j=>.bl<|decide (j<i)) a_:=Kg λdx dy d e=>by
 unfold a_ at e;split at e
 .cases e;exact⟨_,_,rfl,rfl,λO H=>by rw[yY]⟩
 .cases e
def KR{K:Fg}(ix:Is K O H dx vx)(iy:Is K O H dy vy)(e:Dq dx dy=aA b):FX vx vy=true/\decide (vx=vy)=b:=by
 cases dx<;>cases dy<;>first|(simp only[Dq,reduceCtorEq] at e;done)|skip
 all_goals simp only[Dq,cq] at e
 all_goals subst e
 all_goals first|rw[zY] at ix|rw[yE] at ix|rw[yY] at ix|rw[jH] at ix
 all_goals first|rw[zY] at iy|rw[yE] at iy|rw[yY] at iy|rw[jH] at iy
 all_goals subst ix iy
 all_goals refine⟨rfl,?_⟩
 all_goals simp
def P0{K:Fg}:eT K HD OF:=by
 intro O H dx dy d vx vy Q ol ix iy e q;obtain⟨b,e1,rfl⟩:=a8 e;obtain⟨h1,h2⟩:=KR ix iy e1;exact⟨h1,q _ H (aH.refl H)<|by rw[yY,h2]⟩
def Qf{K:Fg}:eT K HB NW:=by
 intro O H dx dy d vx vy Q ol ix iy e q;obtain⟨b,e1,rfl⟩:=a8 e;obtain⟨h1,h2⟩:=KR ix iy e1;exact⟨h1,q _ H (aH.refl H)<|by rw[yY,h2]⟩
def Is.NP{K:Fg}(h:Is K O H d v):decide (v=.aG)=(match d with | .aG=>true|_=>false):=by
 cases d with
 |fL ks l=>rw[oZ] at h;obtain⟨a,aM,rfl,_⟩:=h;rfl
 |aG=>rw[jH] at h;subst h;rfl
 |bl b=>rw[yY] at h;subst h;rfl
 |int i=>rw[zY] at h;subst h;rfl
 |str s=>rw[yE] at h;subst h;rfl
 |ty n=>rw[Is.VM] at h;subst h;rfl
 |ref a=>rw[uX] at h;subst h;rfl
 |tup l=>rw[wE] at h;obtain⟨a,xs,rfl,_⟩:=h;rfl
 |lst l=>rw[yV] at h;obtain⟨a,xs,rfl,_⟩:=h;rfl
def WM{K:Fg}:eT K (λx y H Q=>y=.aG/\Q (.bl<|decide (x=.aG)) H) iQ:=by
 intro O H dx dy d vx vy Q ol ix iy e q;unfold iQ at e;cases dy<;>first|(cases e;done)|skip
 rw[jH] at iy;refine⟨iy,q _ H (aH.refl H) ?_⟩;have h:=ix.NP;cases dx<;>cases e<;>rw[yY,h]
def MD{K:Fg}:eT K (λx y H Q=>y=.aG/\Q (.bl<|!decide (x=.aG)) H) WP:=by
 intro O H dx dy d vx vy Q ol ix iy e q;unfold WP at e;cases dy<;>first|(cases e;done)|skip
 rw[jH] at iy;refine⟨iy,q _ H (aH.refl H) ?_⟩;have h:=ix.NP;cases dx<;>cases e<;>rw[yY,h]<;>rfl
noncomputable def uJ:D->Bool
 |.int _=>true
 |.str _=>true
 |_=>false
noncomputable def sK:D->D->Bool
 |.int i,.int j=>decide (i=j)
 |.str s,.str t=>decide (s=t)
 |_,_=>false
def inD(neg:Bool)(x y:D):Option D:=match y with
 |.lst l=>if uJ x=true/\l.all uJ=true then aA (.bl (if neg then !(l.any λz=>sK z x) else l.any λz=>sK z x)) else aB
 |.tup l=>if uJ x=true/\l.all uJ=true then aA (.bl (if neg then !(l.any λz=>sK z x) else l.any λz=>sK z x)) else aB
 |_=>aB
def ZN{K:Fg}(h:Is K O H d v)(f:uJ d=true):gZ v=true:=by
 cases d<;>first|(cases f;done)|skip
 .rw[zY] at h;subst h;rfl
 .rw[yE] at h;subst h;rfl
def KQ{K:Fg}(h:Is K O H d v)(f:uJ d=true)(h':Is K O H e u)(f':uJ e=true):sJ v u=sK d e:=by
 cases d<;>first|(cases f;done)|skip
 all_goals cases e<;>first|(cases f';done)|skip
 all_goals first|rw[zY] at h|rw[yE] at h
 all_goals first|rw[zY] at h'|rw[yE] at h'
 all_goals subst h h'
 .simp[sJ,sK];rw[Bool.beq_eq_decide_eq]
 .rfl
 .rfl
 .rename_i s t;simp only[sJ,sK];by_cases z:s=t
  .subst z;simp
  .rw[decide_eq_false z,beq_eq_false_iff_ne];intro z'
   have:s.toArray=t.toArray:=by injection z'
   exact z (by simpa using this)
theorem DY{K:Fg}(h:Is K O H d v)(f:uJ d=true):∀{l:List D} {xs:List V},IsL K O H l xs->l.all uJ=true->xs.all gZ=true/\EY v xs=l.any λz=>sK z d
 |[],xs,il,_=>by unfold IsL at il;subst il;exact⟨rfl,rfl⟩
 |e::l,xs,il,fa=>by
  unfold IsL at il;obtain⟨u,r,rfl,i1,i2⟩:=il;rw[ie,bo] at fa;obtain⟨q1,q2⟩:=DY h f i2 fa.2;refine⟨by rw[ie,ZN i1 fa.1,q1];rfl,?_⟩;unfold EY at q2 ⊢;rw[lq,lq,q2,KQ i1 fa.1 h f]
def WN{K:Fg}(neg:Bool):eT K (HC K neg) (inD neg):=by
 intro O H dx dy d vx vy Q ol ix iy e q;unfold inD at e;cases dy<;>first|(cases e;done)|skip
 .rename_i l;simp only at e;split at e
  .rename_i hl;cases e;rw[wE] at iy;obtain⟨a,xs,rfl,hs,il⟩:=iy;obtain⟨q1,q2⟩:=DY ix hl.1 il hl.2;exact⟨a,xs,rfl,.inr hs,ZN ix hl.1,q1,q _ H (aH.refl H)<|by rw[yY,q2]⟩
  .cases e
 .rename_i l;simp only at e;split at e
  .rename_i hl;cases e;rw[yV] at iy;obtain⟨a,xs,rfl,hs,il⟩:=iy;obtain⟨q1,q2⟩:=DY ix hl.1 il hl.2;exact⟨a,xs,rfl,.inl hs.sq,ZN ix hl.1,q1,q _ H (aH.refl H)<|by rw[yY,q2]⟩
  .cases e
def aC:D->D->Option D
 |.lst l,.int i=>eZ l i
 |.tup l,.int i=>eZ l i
 |.str s,.int i=>if s.length<=ag then (eZ s i).map λc=>.str [c] else aB
 |_,_=>aB
def GW(hl:l.length=m.length)(e:eZ l i=aA x):∃j:Nat,l[j]?=aA x/\∀y,m[j]?=aA y->eZ m i=aA y:=by
 unfold eZ at e ⊢;obtain⟨j,e1,e2⟩:=aI e;exact⟨j,e2,λy ey=>by rw[<-hl,e1];exact ey⟩
def mM(fl:ML)(g:ME):ME:=λr=>(fl r).bind λl=>(g r).bind λd=>(intD d).bind λi=>eZ l i
def WR(fl:ML):ME:=λr=>(fl r).map λl=>.int l.length
def P4{K:Fg}:eT K (NF K) aC:=by
 intro O H dx dy d vx vy Q ol ix iy e q;unfold aC at e;split at e
 .rename_i l i;rw[yV] at ix;rw[zY] at iy;obtain⟨p,xs,rfl,hs,il⟩:=ix;obtain⟨j,e1,e2⟩:=GW il.length e;obtain⟨v,e3,iv⟩:=il.get e1;exact .inl ⟨p,xs,i,v,rfl,iy,hs.sq,e2 v e3,q _ H (aH.refl H) iv⟩
 .rename_i l i;rw[wE] at ix;rw[zY] at iy;obtain⟨p,xs,rfl,hs,il⟩:=ix;obtain⟨j,e1,e2⟩:=GW il.length e;obtain⟨v,e3,iv⟩:=il.get e1;exact .inr<|.inl ⟨p,xs,i,v,rfl,iy,hs,e2 v e3,q _ H (aH.refl H) iv⟩
 .rename_i s i;split at e
  .rename_i hl;obtain⟨c,e1,rfl⟩:=a8 e;rw[yE] at ix;rw[zY] at iy;exact .inr<|.inr ⟨_,i,c,ix,iy,by rw[str_len];exact hl,by simpa using e1,q _ H (aH.refl H)<|by rw[yE]⟩
  .cases e
 .cases e
def z0(ha:DE X a f)(hb:DE X b g)(hs:QX b:=by intro _ _;rfl):DE X (.Subscript a b pos) (zG aC f g):=
 PE.aK (F5 Qt ha hb hs) λσ H Q h=>two (ta:=lE X.K f) (tb:=lE X.K g) P4 h
def gD(ha:DB X a fl)(hb:DE X b g)(hs:QX b:=by intro _ _;rfl):DE X (.Subscript a b pos) (mM fl g):=by
 refine PE.aK (F5 N4 ha hb hs) λσ H Q h=>?_
 obtain⟨O0,r,d,hR,e,q⟩:=h;obtain⟨l,e1,e⟩:=aI e;obtain⟨d',e2,e⟩:=aI e;obtain⟨i,e3,e⟩:=aI e;cases r8 e3;refine⟨O0,r,l,hR,e1,λp xs H1 s1 rd il=>⟨O0,r,_,hR.same s1,e2,λv2 H2 s2 i2=>?_⟩⟩;rw[zY] at i2;obtain⟨j,e4,e5⟩:=GW il.length e;obtain⟨v,e6,iv⟩:=il.get e4;exact⟨p,xs,i,v,rfl,i2,s2.seq rd,e5 v e6,q v H2 (s1.trans s2)<|iv.same s2 (hR.same s1).ol⟩
noncomputable def kA:D->Option D
 |.lst l=>aA<|.int l.length
 |.tup l=>aA<|.int l.length
 |.str s=>if s.length<=ag then aA (.int s.length) else aB
 |_=>aB
def QN:iJ X (.builtin "len") (λxs H Q=>(∃p ys,xs=[.ref p]/\(aV X.K H p ys\/eI X.K H p ys)/\Q (.int ys.length) H)\/(∃z,xs=[.str z]/\z.length<=ag/\Q (.int z.length) H)):=é.or YM
def SN{K:Fg}{O:Addr->Prop}{H:Hp}{x d:D}{v:V}{Q:VK}(i1:Is K O H x v)(e:kA x=aA d)(q:∀v,Is K O H d v->Q v H):(∃p ys,[v]=[.ref p]/\(aV K H p ys\/eI K H p ys)/\Q (.int ys.length) H)\/(∃z,[v]=[.str z]/\z.length<=ag/\Q (.int z.length) H):=by
 cases x<;>first|(simp only[kA,reduceCtorEq] at e;done)|skip
 .simp only[kA] at e;split at e
  .rename_i hl;cases e;rw[yE] at i1;subst i1;exact .inr ⟨_,rfl,by rw[str_len];exact hl,q _<|by rw[zY,str_len]⟩
  .cases e
 .simp only[kA,cq] at e;subst e;rw[wE] at i1;obtain⟨p,ys,rfl,hs,il⟩:=i1;exact .inl ⟨p,ys,rfl,.inr hs,q _<|by rw[zY,il.length]⟩
 .simp only[kA,cq] at e;subst e;rw[yV] at i1;obtain⟨p,ys,rfl,hs,il⟩:=i1;exact .inl ⟨p,ys,rfl,.inl hs.sq,q _<|by rw[zY,il.length]⟩
def qQ(hg:Gl X "len")(hm:X.mg "len" = aB)(ha:DE X a f)(hs:aq [a] X.env=(false,eval a X.env)::aq [] X.env:=by rfl):DE X (.Call (.Name "len" p') [a] [] pos) (aF kA f):=by
 refine PE.aK (dY QN hg hm PySem.boot_len (wV ha kT hs) (he:=hs)) λσ H Q h=>?_
 obtain⟨O0,r,d,hR,e,q⟩:=h;obtain⟨x,e1,e2⟩:=aI e;exact⟨O0,r,x,hR,e1,λv H1 s1 i1=>SN i1 e2 λv' iv=>q v' H1 s1 iv⟩
def QE(hg:Gl X "len")(hm:X.mg "len" = aB)(ha:DB X a fl)(hs:aq [a] X.env=(false,eval a X.env)::aq [] X.env:=by rfl):DE X (.Call (.Name "len" p') [a] [] pos) (WR fl):=by
 refine PE.aK (dY QN hg hm PySem.boot_len (wV ha kT hs) (he:=hs)) λσ H Q h=>?_
 obtain⟨O0,r,d,hR,e,q⟩:=h;obtain⟨l,e1,rfl⟩:=a8 e;exact⟨O0,r,l,hR,e1,λp xs H1 s1 rd il=>.inl ⟨p,xs,rfl,.inl rd,q _ H1 s1<|by rw[zY,il.length]⟩⟩
noncomputable def AZ:D->Option String
 |.aG=>aA "NoneType"
 |.bl _=>aA "bool"
 |.int _=>aA "int"
 |.str _=>aA "str"
 |.tup _=>aA "tuple"
 |.lst _=>aA "list"
 |_=>aB
noncomputable def Hr:List (String×String×Bool):=[("bool", "int",true),("NoneType", "int",false),("NoneType", "str",false),("NoneType", "bool",false),("NoneType", "tuple",false),("NoneType", "list",false),
 ("bool", "str",false),("bool", "tuple",false),("bool", "list",false),("int", "bool",false),("int", "str",false),("int", "tuple",false),("int", "list",false),
 ("str", "int",false),("str", "bool",false),("str", "tuple",false),("str", "list",false),("tuple", "int",false),("tuple", "bool",false),("tuple", "str",false),("tuple", "list",false),
 ("list", "int",false),("list", "bool",false),("list", "str",false),("list", "tuple",false)]
def AU(t T:String):Option Bool:=if t=T then aA true else (Hr.find? λx=>x.1 == t && x.2.1 == T).map (·.2.2)
def pT(T:String)(d:D):Option D:=(AZ d).bind λt=>(AU t T).map .bl
def Tl(K:Fg):∀p∈Hr,nh K (.type p.1) (.type p.2.1)=aA p.2.2:=by
 unfold Hr
 repeat (first|exact vb _|refine ut.mpr ⟨rfl,?_⟩)
def Ra(K:Fg)(e:AU t T=aA b):nh K (.type t) (.type T)=aA b:=by
 unfold AU at e;split at e
 .rename_i h;subst h;cases e;unfold nh;rw[if_pos<|by simp]
 .obtain⟨⟨x,y,c⟩,e1,e2⟩:=a8 e;have hm:=qq e1;have hp:=List.find?_some e1;simp only[bo,beq_iff_eq] at hp;obtain⟨rfl,rfl⟩:=hp;subst e2;exact(Tl K _ hm).trans rfl
def OT(K:Fg)(H:Hp)(x:V)(t:String):Prop:=match x with
 |.aG=>t = "NoneType"
 |.bl _=>t = "bool"
 |.int _=>t = "int"
 |.str _=>t = "str"
 |.ref a=>(t = "list" /\ ∃xs,aV K H a xs)\/(t = "tuple" /\ ∃xs,eI K H a xs)
 |_=>False
def QO:iJ X (.builtin "isinstance") (λxs H Q=>∃x t T b,xs=[x,.ty T]/\OT X.K H x t/\AU t T=aA b/\Q (.bl b) H):=by
 intro pZ s σ H xs us Q I r h;obtain⟨x,t,T,b,rfl,ht,e,q⟩:=h;obtain⟨u,v,rfl,r1,r2⟩:=XO r;cases (show v=Value.type T from r2);have e':=Ra X.K e;have fin:∀tk,EP X pZ σ Q (.bool b) { s with toks:=tk }:=λtk=>⟨.bl b,H,I.tok tk,rfl,q⟩
 cases x with
 |aG=>cases (show t=_ from ht);exact n5 I r1 (.aG) e' fin
 |bl y=>cases (show t=_ from ht);exact n5 I r1 (.bl y) e' fin
 |int i=>cases (show t=_ from ht);exact n5 I r1 (.int i) e' fin
 |str y=>cases (show t=_ from ht);exact n5 I r1 (.str y) e' fin
 |ref a=>
  cases (show u=Value.ref a from r1);rcases(show(t = "list" /\ ∃xs,aV X.K H a xs)\/(t = "tuple" /\ ∃xs,eI X.K H a xs) from ht) with⟨rfl,xs,hs⟩|⟨rfl,xs,hs⟩
  .obtain⟨its,_,⟨o,n,h1,h2,_⟩,_⟩:=I.list hs;exact di ox I.fO ⟨o,h1,h2⟩ e' (λz=>nomatch z) fin
  .obtain⟨its,_,⟨o,h1,h2,_⟩,_⟩:=I.tuple hs;exact di PySem.W.kitx_tuple I.fO ⟨o,h1,h2⟩ e' (λz=>nomatch z) fin
 |_=>exact fj ht
def RS{K:Fg}(h:Is K O H d v)(e:AZ d=aA t):OT K H v t:=by
 cases d<;>first|(simp only[AZ,reduceCtorEq] at e;done)|skip
 all_goals simp only[AZ,cq] at e
 all_goals subst e
 .rw[jH] at h;subst h;rfl
 .rw[yY] at h;subst h;rfl
 .rw[zY] at h;subst h;rfl
 .rw[yE] at h;subst h;rfl
 .rw[wE] at h;obtain⟨a,xs,rfl,hs,_⟩:=h;exact .inr ⟨rfl,xs,hs⟩
 .rw[yV] at h;obtain⟨a,xs,rfl,hs,_⟩:=h;exact .inl ⟨rfl,xs,hs.sq⟩
def QF(hg:Gl X "isinstance")(hm:X.mg "isinstance" = aB)(ha:DE X a f)(hT:PE X (.Name x pt) (tC<|.ty T))(hs:aq [a,.Name x pt] X.env=(false,eval a X.env)::aq [.Name x pt] X.env:=by rfl)(sI:aq [.Name x pt] X.env=(false,eval (.Name x pt) X.env)::aq [] X.env:=by rfl):DE X (.Call (.Name "isinstance" p') [a,.Name x pt] [] pos) (aF (pT T) f):=by
 refine PE.aK (dY QO hg hm pz (wV ha (wV hT kT sI) hs) (he:=hs)) λσ H Q h=>?_
 obtain⟨O0,r,d,hR,e,q⟩:=h;obtain⟨x,e1,e2⟩:=aI e;obtain⟨t,e3,e4⟩:=aI e2;obtain⟨b,e5,rfl⟩:=a8 e4;exact⟨O0,r,x,hR,e1,λv H1 s1 i1=>⟨v,t,T,b,rfl,RS i1 e3,e5,q _ H1 s1<|by rw[yY]⟩⟩
def ZF(r:En)(i:Nat):Option (List D):=(r[i]?).bind Sl.ml
def X7(i:Nat)(l:List D)(r:En):Option En:=match r[i]? with
 |some (.o _)=>aA<|r.set i<|.o l
 |some (.p _)=>aA<|r.set i<|.p l
 |_=>aB
section
variable{K:Fg}
def X6(e:X7 i l' r=aA r'):∃x y,r[i]?=aA x/\r'=r.set i y/\y.own=aA l'/\y.mt=aA l'/\(∃l,x.mt=aA l)/\True:=by
 unfold X7 at e;cases e1:r[i]? with
 |none=>rw[e1] at e;cases e
 |some x=>rw[e1] at e;cases x<;>cases e<;>exact⟨_,_,rfl,rfl,rfl,rfl,⟨_,rfl⟩,trivial⟩
def R.V'{x y:Sl}{o':HO}(h:R K O0 H r σ)(ex:r[i]?=aA x)(xm:x.mt=aA l0)(ha:σ[i]?=aA (aA<|.ref a))(kp:∀b o,b≠a->H b=aA o->H' b=aA o)(lv:∀b,b≠a->H' b=aB->H b=aB)(e':H' a=aA o')(Wz:Mb o')(yv:∀d,y≠.v d)(yl:∀m,y.ls=aA m->∃xs,o'=.lst xs/\IsL K (Ow O0 r σ) H' m xs)(yc:∀m,(aA y=aA (.o m)\/aA y=aA (.z m)\/∃ks,aA y=aA (.d false ks m))->∃n,(aA x=aA (.o n)\/aA x=aA (.z n)\/∃ks,aA x=aA (.d false ks n)))(yk:y.pk=x.pk)(yd:∀f ks m,y=.d f ks m->∃aM,o'=.dK aM/\aM.map (·.1)=ks/\IsL K (Ow O0 r σ) H' m (aM.map (·.2))):R K O0 H' (r.set i y) σ/\Kp H r σ H' (r.set i y) σ:=by
 have hi:i<r.length:=(ar.mp ex).1;have xo:(r[i]?).bind Sl.own=aA l0:=by rw[ex];exact rS xm
 have HG:o7 r σ a:=⟨i,l0,xo,ha⟩;have NY:iV r σ a:=⟨i,l0,by rw[ex];exact xm,ha⟩;have IZ:∀{q:Sl->Option (List D)},q_ q r σ a->∀b,q_ q (r.set i y) σ b->q_ q r σ b:=λz b ⟨j,m,e1,q1⟩=>by
  by_cases hj:i=j
  .subst hj;rw[ha] at q1;cases q1;exact z
  .rw[zK hj] at e1;exact⟨j,m,e1,q1⟩
 have sub:∀{H2:Hp} b,Ow O0 (r.set i y) σ b->H2 b≠aB->Ow O0 r σ b:=λb z _=>z.imp id<|IZ HG b
 have keep:Q9 (Ow O0 r σ) H H':=λb o e1 n=>kp b o (λz=>n (by subst z;exact .inr HG)) e1
 have lst:∀b o,H b=aA o->Mb o->∃o',H' b=aA o'/\Mb o':=λb o e1 mb=>by
  by_cases hb:b=a
  .subst hb;exact⟨_,e',Wz⟩
  .exact⟨o,kp b _ hb e1,mb⟩
 have NN:Z2 (Ow O0 r σ) H':=λb z=>by obtain⟨o,q,mb⟩:=h.ol b z;exact lst b o q mb
 have NJ:∀{j:Nat} {m:List D} {b:Addr},i≠j->(r[j]?).bind Sl.own=aA m->σ[j]?=aA (aA<|.ref b)->b≠a:=λhj e1 q1 z=>by
  subst z;exact hj<|h.apart i _ _ l0 _ xo e1 ha q1
 have get:∀(j:Nat) (m:List D),((r.set i y)[j]?).bind Sl.own=aA m->∃m',(r[j]?).bind Sl.own=aA m':=λj m e1=>by
  by_cases hj:i=j
  .subst hj;exact⟨l0,xo⟩
  .rw[zK hj] at e1;exact⟨m,e1⟩
 refine⟨⟨by simp[h.len],λj d e1=>?_,λj m e1=>?_,λj k b m n e1 e2 q1 q2=>?_,λb z=>?_,λj m b e1 q1=>?_,λj m b e1 q1=>?_,λj f ks m e1=>?_⟩,⟨λb o e1 n=>kp b o (λz=>n (by subst z;exact NY)) e1,λb e1=>?_,lst,λb z=>.inl<|IZ HG b z,λb z=>.inl<|IZ NY b z,λj m e1=>?_,λj m e1=>?_⟩⟩
 .have hj:i≠j:=λz=>by subst z;rw[yD hi] at e1;exact yv d<|bp e1
  rw[zK hj] at e1;obtain⟨v,q1,q2⟩:=h.val j d e1;exact⟨v,q1,Is.mono keep h.ol sub _ _ q2⟩
 .by_cases hj:i=j
  .subst hj;rw[yD hi] at e1;obtain⟨xs,rfl,il⟩:=yl m e1;exact⟨a,xs,ha,e',IsL.mono (aH.kp (aH.refl H') _) NN sub _ _ il⟩
  .rw[zK hj] at e1;obtain⟨b,ys,q1,q2,q3⟩:=h.own j m e1;exact⟨b,ys,q1,kp b _ (NJ hj (nY e1) q1) q2,IsL.mono keep h.ol sub _ _ q3⟩
 .obtain⟨m',z1⟩:=get j m e1;obtain⟨n',z2⟩:=get k n e2;exact h.apart j k b m' n' z1 z2 q1 q2
 .obtain⟨o,q,mb⟩:=h.o0 b z;exact lst b o q mb
 .by_cases hj:i=j
  .subst hj;rw[yD hi] at e1;obtain⟨n,z⟩:=yc m e1;exact h.loc i n b (by rw[ex];exact z) q1
  .rw[zK hj] at e1;exact h.loc j m b e1 q1
 .by_cases hj:i=j
  .subst hj;rw[yD hi] at e1;exact h.par i m b (by rw[ex];exact yk.symm.trans e1) q1
  .rw[zK hj] at e1;exact h.par j m b e1 q1
 .by_cases hj:i=j
  .subst hj;rw[yD hi] at e1;obtain⟨aM,rfl,hk,il⟩:=yd f ks m<|bp e1;exact⟨a,aM,ha,e',hk,IsL.mono (aH.kp (aH.refl H') _) NN sub _ _ il⟩
  .rw[zK hj] at e1;obtain⟨b,aM,q1,q2,q4,q3⟩:=h.fL j f ks m e1;exact⟨b,aM,q1,kp b _ (NJ hj (by rw[e1];rfl) q1) q2,q4,IsL.mono keep h.ol sub _ _ q3⟩
 .by_cases hb:b=a
  .subst hb;rw[e'] at e1;cases e1
  .exact lv b hb e1
 .by_cases hj:i=j
  .subst hj;rw[ex] at e1;exact⟨by rw[yD hi];exact yk.trans e1,rfl⟩
  .exact⟨by rw[zK hj];exact e1,rfl⟩
 .have hj:i≠j:=λz=>by subst z;rw[ex] at e1;cases e1;cases xm
  exact⟨by rw[zK hj];exact e1,rfl⟩
def R.put(h:R K O0 H r σ)(e:X7 i l' r=aA r')(ha:σ[i]?=aA (aA<|.ref a))(kp:∀b o,b≠a->H b=aA o->H' b=aA o)(lv:∀b,b≠a->H' b=aB->H b=aB)(e':H' a=aA (.lst xs'))(il:IsL K (Ow O0 r σ) H' l' xs'):R K O0 H' r' σ/\Kp H r σ H' r' σ:=by
 unfold X7 at e;cases e1:r[i]? with
 |none=>rw[e1] at e;cases e
 |some x=>
  rw[e1] at e;cases x<;>cases e<;>exact h.V' e1 rfl ha kp lv e' trivial (λ_ z=>by cases z) (λm z=>by cases z;exact⟨_,rfl,il⟩) (λm z=>by rcases z with z|z|⟨_,z⟩<;>first|(cases z;done)|exact⟨_,.inl rfl⟩) rfl (λ_ _ _ z=>by cases z)
theorem R.upd(h:R K O0 H r σ)(e:X7 i l' r=aA r')(ha:σ[i]?=aA (aA<|.ref a))(hx:H a=aA (.lst xs))(il:IsL K (Ow O0 r σ) H l' xs'):R K O0 (upd H a<|.lst xs') r' σ/\Kp H r σ (upd H a<|.lst xs') r' σ:=by
 have HH:Ow O0 r σ a:=by
  obtain⟨x,y,ex,_,_,_,⟨l0,xm⟩,_⟩:=X6 e;exact .inr ⟨i,l0,by rw[ex];exact rS xm,ha⟩
 refine h.put e ha (λb o hb e1=>by rw[qM hb];exact e1) (λb hb e1=>by rw[qM hb] at e1;exact e1) wL ?_;exact IsL.mono (λb o e1 n=>by rw[qM λz=>n (by subst z;exact HH)];exact e1) h.ol (λ_ z _=>z) _ _ il
end
def oM(i:Nat)(f:ME):En->Option (D×En):=λr=>(f r).bind λd=>(ZF r i).bind λl=>if l.length<ag then (X7 i (l++[d]) r).map λr'=>(.aG,r') else aB
def YT(i:Nat)(f:En->Option (D×En)):En->Option (D×En):=λr0=>(f r0).bind λp=>(ZF r0 i).bind λ_=>(ZF p.2 i).bind λl=>if l.length<ag then (X7 i (l++[p.1]) p.2).map λr'=>(.aG,r') else aB
def iS(i:Nat):En->Option (D×En):=λr=>(ZF r i).bind λl=>(l[l.length-1]?).bind λd=>(X7 i l.dropLast r).map λr'=>(d,r')
def zt(i:Nat)(f:ME):En->Option (D×En):=λr=>(f r).bind λd=>(Gs d).bind λm=>(ZF r i).bind λl=>if l.length+m.length<=ag then (X7 i (l++m) r).map λr'=>(.aG,r') else aB
def IsL.dropLast{K:Fg}(h:IsL K O H l vs):IsL K O H l.dropLast vs.dropLast:=by
 rw[uk,uk,h.length];exact h.take _
def YQ{K:Fg}(h:R K O0 H r σ)(e:ZF r i=aA l):∃a xs,σ[i]?=aA (aA<|.ref a)/\H a=aA (.lst xs)/\IsL K (Ow O0 r σ) H l xs:=by
 obtain⟨y,e1,e2⟩:=aI e;exact h.own i l (by rw[e1];exact(Cp e2).2)
def wY(i:Nat)(h:PE X (.Name x pn) (sA i))(he:DE X e f)(fI:sW apos eB:=by rfl)(fK:fq (.Name x pn) "append" X.env (eval (.Name x pn) X.env)=eval (.Name x pn) X.env:=by rfl)(iE:xc X [e] eB:=by rfl)(hs:aq [e] X.env=(false,eval e X.env)::aq [] X.env:=by rfl):DX X (.Call (.Attribute (.Name x pn) "append" apos) [e] [] eB) (oM i f):=by
 refine PE.aK (WE dv ic ib dJ h (wV he kT hs) fK iE fI hs) λσ H Q hq=>?_
 obtain⟨O0,r,d',r',hR,e,q⟩:=hq;obtain⟨d,e1,e⟩:=aI e;obtain⟨l,e2,e⟩:=aI e;split at e
 .rename_i hl;obtain⟨r2,e3,e4⟩:=a8 e;cases e4;obtain⟨a,xs,q1,q2,q3⟩:=YQ hR e2;refine⟨.ref a,q1,.inl ⟨rfl,xs,aV.of q2⟩,O0,r,d,hR,e1,λv H1 s1 i1=>?_⟩;have R1:=hR.same s1;obtain⟨R2,k2⟩:=R1.upd (xs':=xs++[v]) e3 q1 (s1 _ _ q2)<|(q3.same s1 hR.ol).append<|.cons i1 .nil;exact⟨a,xs,v,rfl,rfl,s1 _ _ q2,by rw[<-q3.length];exact hl,q _ _ R2 ((Kp.of_same r σ s1).trans k2)<|by rw[jH]⟩
 .cases e
def g0(i:Nat)(h:PE X (.Name x pn) (sA i))(he:DX X e fx)(fI:sW apos eB:=by rfl)(fK:fq (.Name x pn) "append" X.env (eval (.Name x pn) X.env)=eval (.Name x pn) X.env:=by rfl)(iE:xc X [e] eB:=by rfl)(hs:aq [e] X.env=(false,eval e X.env)::aq [] X.env:=by rfl):DX X (.Call (.Attribute (.Name x pn) "append" apos) [e] [] eB) (YT i fx):=by
 refine PE.aK (WE dv ic ib dJ h (wV he kT hs) fK iE fI hs) λσ H Q hq=>?_
 obtain⟨O0,r,d',r',hR,e,q⟩:=hq;obtain⟨⟨d,r1⟩,e1,e⟩:=aI e;obtain⟨l0,e0,e⟩:=aI e;obtain⟨l,e2,e⟩:=aI e;split at e
 .rename_i hl;obtain⟨r2,e3,e4⟩:=a8 e;cases e4;obtain⟨a0,VG,p1,p2,p3⟩:=YQ hR e0;refine⟨.ref a0,p1,.inl ⟨rfl,VG,aV.of p2⟩,O0,r,d,r1,hR,e1,λv H1 R1 k1 i1=>?_⟩;obtain⟨a,xs,q1,q2,q3⟩:=YQ R1 e2;rw[p1] at q1;cases q1;obtain⟨R2,k2⟩:=R1.upd (xs':=xs++[v]) e3 p1 q2<|q3.append<|.cons i1 .nil;exact⟨_,xs,v,rfl,rfl,q2,by rw[<-q3.length];exact hl,q _ _ R2 (k1.trans k2)<|by rw[jH]⟩
 .cases e
def YI(i:Nat)(h:PE X (.Name x pn) (sA i))(fK:fq (.Name x pn) "pop" X.env (eval (.Name x pn) X.env)=eval (.Name x pn) X.env:=by rfl)(fI:sW apos eB:=by rfl):DX X (.Call (.Attribute (.Name x pn) "pop" apos) [] [] eB) (iS i):=by
 refine PE.aK (R9 dv PySem.F.slot_list_pop PySem.F.type_list_pop Rh h fK fI) λσ H Q hq=>?_
 obtain⟨O0,r,d',r',hR,e,q⟩:=hq;obtain⟨l,e2,e⟩:=aI e;obtain⟨d,e1,e⟩:=aI e;obtain⟨r2,e3,e4⟩:=a8 e;have e5:d=d':=congrArg eh e4;have e6:r2=r':=congrArg Prod.snd e4;subst e5 e6;obtain⟨a,xs,q1,q2,q3⟩:=YQ hR e2;obtain⟨v,ev,iv⟩:=q3.get e1;obtain⟨R2,k2⟩:=hR.upd (xs':=xs.dropLast) e3 q1 q2 q3.dropLast;refine⟨.ref a,q1,.inl ⟨rfl,xs,aV.of q2⟩,a,xs,v,rfl,rfl,q2,by rw[<-q3.length];exact ev,q _ _ R2 k2 ?_⟩;have HH:Ow O0 r σ a:=by
  obtain⟨y,z1,z2⟩:=aI e2;exact .inr ⟨i,l,by rw[z1];exact rS (Cp z2).1,q1⟩
 have HI:∀b,Ow O0 r2 σ b->H b≠aB->Ow O0 r σ b:=λb z n=>z.imp id λz=>(k2.new b z).elim id λz=>absurd z n
 exact Is.mono (λb o e1 n=>by rw[qM λz=>n (by subst z;exact HH)];exact e1) hR.ol HI _ _ iv
noncomputable def Dw:Option Sl->Sl
 |some (.v d)=>.v d
 |_=>.un
def xg(cap:List Nat)(n:Nat)(r:En):En:=(cap.map λj=>Dw r[j]?)++bq (n-cap.length) .un
def vQ(bd:D->En->Option En)(c:MB)(x:ME):List D->En->Option (List D)
 |[],_=>aA []
 |d::t,r=>(bd d r).bind λr1=>(c r1).bind λb=>if b=true then (x r1).bind λy=>(vQ bd c x t r1).map (y::·) else vQ bd c x t r1
def mS:MB:=λ_=>aA true
def qG(cap:List Nat)(n:Nat)(it:ML)(bd:D->En->Option En)(c:MB)(x:ME):ML:=λr=>(it r).bind λl=>if l.length<ag then vQ bd c x l (xg cap n r) else aB
def vY(cap:List Nat)(n:Nat)(it:ML)(bd:D->En->Option En)(x:ME):ML:=qG cap n it bd mS x
theorem R.cap{K:Fg}{O0:Addr->Prop}{H H2:Hp}{r:En}{σ:St}{cap:List Nat}{n:Nat}{p:Addr}{ys:List V}(h:R K O0 H r σ)(s:aH H H2)(hp:H p=aB)(ep:H2 p=aA (.lst ys)):R K (λb=>Ow O0 r σ b\/b=p) H2 (xg cap n r) (za cap n σ):=by
 have BS:∀(i:Nat) (l:List D),((xg cap n r)[i]?).bind Sl.own≠aA l:=λi l e=>by
  unfold xg at e;by_cases hi:i<cap.length
  .rw[au<|by simpa using hi,az] at e;obtain⟨j,hj⟩:∃j,cap[i]?=aA j:=⟨cap[i],by simp[hi]⟩;rw[hj] at e;have e':(Dw r[j]?).own=aA l:=e;cases ej:r[j]? with
   |none=>rw[ej] at e';cases e'
   |some y=>rw[ej] at e';cases y<;>cases e'
  .rw[bn<|by simpa using kh hi,de] at e;split at e<;>cases e
 have ol:Z2 (λb=>Ow O0 r σ b\/b=p) H2:=λb z=>z.elim (λz=>(h.same s).ol b z) λz=>by subst z;exact⟨.lst ys,ep,trivial⟩
 refine⟨by simp[xg,za],λi d e=>?_,λi l e=>absurd (nY e)<|BS i l,λi j a l m e1=>absurd e1<|BS i l,ol,λi l a e=>absurd (show((xg cap n r)[i]?).bind Sl.own=aA l by rcases e with e|e|⟨_,e⟩<;>rw[e]<;>rfl)<|BS i l,λi l a e=>absurd (rL e).choose_spec<|BS i _,λi _ ks l e=>absurd (show((xg cap n r)[i]?).bind Sl.own=aA l by rw[e];rfl)<|BS i l⟩;unfold xg at e;by_cases hi:i<cap.length
 .rw[au<|by simpa using hi,az] at e;obtain⟨j,hj⟩:∃j,cap[i]?=aA j:=⟨cap[i],by simp[hi]⟩;rw[hj] at e;have e':Dw r[j]?=.v d:=bp e;have ej:r[j]?=aA (.v d):=by
   cases ej:r[j]? with
   |none=>rw[ej] at e';cases e'
   |some y=>rw[ej] at e';cases y<;>cases e';rfl
  obtain⟨v,e1,q⟩:=h.val j d ej;refine⟨v,?_,?_⟩
  .unfold za;rw[au<|by simpa using hi,az,hj];show aA ((σ[j]?).getD aB)=_;rw[e1];rfl
  .refine Is.mono (aH.kp s _) h.ol (λa z nn=>?_) _ _ q;rcases z with(z|z)|⟨k,l,ek,_⟩
   .exact z
   .subst z;exact absurd hp nn
   .exact absurd ek<|BS k l
 .rw[bn<|by simpa using kh hi,de] at e;split at e<;>cases e
section
variable{X:Cx}{N':List Str}{cap:List Nat}{scope:Scope}{elt tg iter:Expr}{ifs:List Expr}{pos:Pos}{it:ML}{bd:D->En->Option En}{c:MB}{x:ME}
def g8{tc:Option TT}(Yh:∀{σ:St} {H:Hp} {K1:V->Hp->Prop} {K0:Hp->Prop} {te:TE},(lT X.K c σ H λb H1=>if b=true then te σ H1 K1 else K0 H1)->Gz tc te K1 K0 σ H)(n:Nat){σ:St}{H:Hp}{Q:VK}(h:lF X.K (qG cap n it bd c x) σ H Q):Ga cap n (lI X.K it) (lG X.K bd) tc (lE X.K x) σ H Q:=by
 obtain⟨O0,r,out,hR,e,q⟩:=h;obtain⟨l,e1,e2⟩:=aI e;split at e2
 .rename_i hlen;refine⟨O0,r,l,hR,e1,λJ H1 s1 yl p hp=>?_⟩;have Of:H p=aB:=s1.free hp;refine⟨λi m ys σ2 H2=>m=l.length-i/\i<=l.length/\ys.length<=i/\H2 p=aA (.lst ys)/\aH H1 H2/\∃r2 dn rest,R X.K (λb=>Ow O0 r σ b\/b=p) H2 r2 σ2/\(∀a,¬o7 r2 σ2 a)/\IsL X.K (λb=>Ow O0 r σ b\/b=p) H2 dn ys/\vQ bd c x (l.drop i) r2=aA rest/\dn++rest=out,
   ⟨l.length,by simp,cz _,ao _,wL,xU hp,xg cap n r,[],out,?_,?_,.nil,by simpa using e2,rfl⟩,?_⟩
  .exact R.cap hR (s1.trans<|xU hp) Of wL
  .rintro a ⟨i,l',e',_⟩;unfold xg at e';by_cases hi:i<cap.length
   .rw[au<|by simpa using hi,az] at e';obtain⟨j,hj⟩:∃j,cap[i]?=aA j:=⟨cap[i],by simp[hi]⟩;rw[hj] at e';have Fi:(Dw r[j]?).own=aA l':=e';cases ej:r[j]? with
    |none=>rw[ej] at Fi;cases Fi
    |some y=>rw[ej] at Fi;cases y<;>cases Fi
   .rw[bn<|by simpa using kh hi,de] at e';split at e'<;>cases e'
  .rintro i m ys σ2 H2 ⟨rfl,Oi,ĭ,iT,s2,r2,dn,rest,R2,NQ,iM,e3,eo⟩;refine⟨iT,by omega,?_⟩;obtain⟨y1,y2⟩:=yl i H2 (λb=>Ow O0 r σ b\/b=p) (aH.kp s2 _) λa z nn=>z.elim id λz=>by subst z;exact absurd hp nn
   by_cases iH:i<l.length
   .obtain⟨go,yd⟩:=y1 iH;have hd:l[i]?=aA l[i]:=by simp[iH]
    rw[tK hd] at e3;obtain⟨r3,e4,e5⟩:=aI e3;obtain⟨b,e6,e7⟩:=aI e5;refine .inr ⟨go,λv H3 yv=>?_⟩;obtain⟨s3,iv⟩:=yd v H3 yv;have R3:=R2.same s3;have HI:∀a,Ow (λb=>Ow O0 r σ b\/b=p) r2 σ2 a->Ow O0 r σ a\/a=p:=λa z=>z.elim id λz=>absurd z<|NQ a
    refine⟨_,r2,l[i],r3,R3,?_,e4,λσ4 R4 k4=>?_⟩
    .exact Is.mono (aH.kp (aH.refl H3) _) R3.o0 (λa z _=>HI a z) _ _<|iv _ hd
    have CC:∀a,¬o7 r3 σ4 a:=λa z=>by
     rcases k4.new a z with z'|z'
     .exact NQ a z'
     .obtain⟨xs,ex,_⟩:=R4.ol a<|.inr z;rw[z'] at ex;cases ex
    have ģ:∀a,Ow (λb=>Ow O0 r σ b\/b=p) r3 σ4 a->Ow O0 r σ a\/a=p:=λa z=>z.elim id λz=>absurd z<|CC a
    refine Yh ⟨_,r3,b,R4,e6,λH5 s5=>?_⟩;have R5:=R4.same s5;cases b with
    |false=>
     rw[if_neg ah] at e7;refine Cb ⟨l.length-(i+1),by omega,rfl,iH,by omega,(s3.trans s5) _ _ iT,s2.trans<|s3.trans s5,r3,dn,rest,R5,CC,?_,e7,eo⟩;exact iM.same (s3.trans s5) R2.o0
    |true=>
     rw[if_pos rfl] at e7;obtain⟨y,e8,e9⟩:=aI e7;obtain⟨V7,IV,Ý⟩:=a8 e9;refine BC ⟨_,r3,y,R5,e8,λu H6 s6 iu=>?_⟩;have Hw:=s3.trans<|s5.trans s6;have Yo:=Hw _ _ iT;have R6:=R5.same s6;have kk:Q9 (λb=>Ow O0 r σ b\/b=p) H6 (upd H6 p<|.lst<|ys++[u]):=λb' o e' nn=>by rw[qM λz=>nn<|.inr z];exact e'
     refine⟨Yo,l.length-(i+1),by omega,rfl,iH,by simp;omega,wL,?_,r3,dn++[y],V7,?_,CC,?_,IV,?_⟩
     .intro b' o e';have hb:b'≠p:=λz=>by subst z;rw[hp] at e';cases e'
      rw[qM hb];exact Hw _ _<|s2 _ _ e'
     .refine⟨R6.len,λj d ej=>?_,λj m ej=>?_,R6.apart,λb' z=>?_,R6.loc,R6.par,λj f ks m ej=>?_⟩
      .obtain⟨w,q1,q2⟩:=R6.val j d ej;exact⟨w,q1,Is.mono (λb' o e' nn=>kk b' o e' λz=>nn<|.inl z) R6.ol (λ_ z _=>z) _ _ q2⟩
      .obtain⟨a',xs',q1,q2,_⟩:=R6.own j m ej;exact absurd ⟨j,m,nY ej,q1⟩<|CC a'
      .rcases z with z|z
       .by_cases hb:b'=p
        .subst hb;exact⟨_,wL,trivial⟩
        .rw[qM hb];exact R6.o0 b'<|.inl z
       .subst z;exact⟨_,wL,trivial⟩
      .obtain⟨a',aM,q1,q2,_⟩:=R6.fL j f ks m ej;exact absurd ⟨j,m,by rw[ej];rfl,q1⟩<|CC a'
     .have i1:=iM.same Hw R2.o0;have i2:Is X.K (λb=>Ow O0 r σ b\/b=p) H6 y u:=Is.mono (aH.kp (aH.refl H6) _) R6.ol (λa z _=>.inl z) _ _ iu;exact IsL.mono kk R6.o0 (λ_ z _=>z) _ _<|i1.append<|.cons i2 .nil
     .rw[<-eo,<-Ý];simp
   .have hl:l.drop i=[]:=mj (by omega);rw[hl] at e3;have Ú:aA []=aA rest:=e3;cases Ú;rw[dk] at eo;subst eo;exact .inl ⟨y2<|by omega,q p ys H2 (s1.trans s2) Of iT iM⟩
 .cases e2
def uK(hc:X.calm=true)(o:sN X N' cap scope)(hi:DI X tg iter it)(hg:∀C fp s H,DG (eO X N' scope C fp s H) tg bd)(he:∀C fp s H,DE (eO X N' scope C fp s H) elt x)(n:Nat)(hn:N'.length=n:=by rfl)(hs:∀x,fk iter X.env x=pure x:=by intro _;rfl):DF X (.ListComp elt [⟨tg,iter,[],0⟩] scope pos) (vY cap n it bd x):=by
 subst hn;exact PE.aK (Ng (g:=lG X.K bd) (te:=lE X.K x) (tc:=aB) hc o hi hg rfl he hs) λσ H Q h=>g8 (tc:=aB) (λ{σ H K1 K0 te} z=>by
  obtain⟨O0,r,b,hR,e,q⟩:=z;unfold mS at e;cases e;have z1:(if true=true then te σ H K1 else K0 H):=q H<|aH.refl H;rw[if_pos rfl] at z1;exact z1) N'.length h
def QA(hc:X.calm=true)(o:sN X N' cap scope)(hi:DI X tg iter it)(hg:∀C fp s H,DG (eO X N' scope C fp s H) tg bd)(ht:∀C fp s H,DT (eO X N' scope C fp s H) ce c)(he:∀C fp s H,DE (eO X N' scope C fp s H) elt x)(n:Nat)(hn:N'.length=n:=by rfl)(hs:∀x,fk iter X.env x=pure x:=by intro _;rfl):DF X (.ListComp elt [⟨tg,iter,[ce],0⟩] scope pos) (qG cap n it bd c x):=by
 subst hn;exact PE.aK (Ng (g:=lG X.K bd) (te:=lE X.K x) (tc:=aA<|lT X.K c) hc o hi hg ⟨ce,rfl,ht⟩ he hs) λσ H Q h=>g8 (tc:=aA<|lT X.K c) (λz=>z) N'.length h
end
def AH(X:Cx)(scope:Scope):List Nat->List Str->Prop
 |[],_=>True
 |j::t,x::r=>X.N[j]?=aA x/\scope.names.lookup x=aA .free/\AH X scope t r
 |_::_,[]=>False
def AH.get:∀{cap:List Nat} {N':List Str},AH X scope cap N'->∀(i j:Nat),cap[i]?=aA j->∃x,N'[i]?=aA x/\X.N[j]?=aA x/\scope.names.lookup x=aA .free
 |[],_,_,i,j,e=>by simp at e
 |k::t,[],h,_,_,_=>fj h
 |k::t,x::r,h,0,j,e=>by
  have e':k=j:=by simpa using e
  subst e';exact⟨x,rfl,h.1,h.2.1⟩
 |k::t,x::r,h,i+1,j,e=>by
  obtain⟨y,q1,q2⟩:=AH.get h.2.2 i j (by simpa using e);exact⟨y,by simpa using q1,q2⟩
def AH.len:∀{cap:List Nat} {N':List Str},AH X scope cap N'->cap.length<=N'.length
 |[],_,_=>cz _
 |k::t,[],h=>fj h
 |k::t,x::r,h=>Nat.succ_le_succ<|AH.len h.2.2
def v6(kind:scope.kind=.function:=by rfl)(nc:∀y∈scope.names,y.2≠.cell:=by decide +kernel)(nm:∀y∈scope.names,y.2=.local->scope.names.lookup y.1=aA .local:=by decide +kernel)(fr:∀y∈scope.names,y.2=.free->X.env.kindOf y.1=aA .cell\/X.env.kindOf y.1=aA .free:=by repeat (first|exact vb _|refine ut.mpr ⟨λe=>(by first|exact absurd e (by decide)|exact .inl rfl|exact .inr rfl),?_⟩))(Fm:AH X scope cap N':=by repeat (first|exact trivial|refine⟨rfl,rfl,?_⟩)):sN X N' cap scope:=⟨kind,nc,nm,fr,Fm.get,Fm.len⟩
end DD
namespace ZZ
open PySem
end ZZ
namespace DD
open PySem PySem.Spec PyProof.Rows L2
def T_{ch:List Addr}(I:Inv X pZ σ H s)(fQ:∀b∈ch,lU X pZ H b)(hT:s.heap.objs.size<=T)(kp:∀b o,b∉ch->s.heap.get? b=aA o->h'.get? b=aA o)(hz:vs.length<=ag)(hv:Vals vs its)(ht:IsTup h' T its.toArray):Inv X pZ σ (upd H T<|.tup vs) { s with heap:=h',toks:=t' }:=by
 have hn:H T=aB:=I.aP.fresh hT;have old:∀{b:Addr} {o:Obj},s.heap.get? b=aA o->b≠T:=λe=>bv<|ba (ax e) hT
 have tr:∀{b:Addr} {u:HO},H b=aA u->b≠T:=λe=>kY e hn
 have Cr:∀{b:Addr} {u:HO},H b=aA u->b∉ch:=λ{b u} e z=>by rw[(fQ b z).1] at e;cases e
 refine I.step (g':=s.gens) (d':=s.drawn) (ch:=ch) (λb hb=>⟨(fQ b hb).2.2.2.1,(fQ b hb).2.1,(fQ b hb).2.2.2.2.1,(fQ b hb).2.2.2.2.2⟩) (λb o _ _ hc e _=>kp b o hc e) (λb o _ _ hc e _=>⟨o.slots,kp b o hc e⟩)
  (λb o _ e n=>by rw[qM<|old e];exact n) (λb o hc e=>⟨o,kp b o hc e⟩) (λb xs e=>by rw[qM<|tr e];exact e) (λb o u e=>by rw[qM<|tr e];exact e) (λb ps e=>⟨#[],by rw[qM<|tr e,e];simp⟩) (λm hm=>?_) (λb u e=>?_) I.bare
 .obtain⟨o,es,ep,ho,r⟩:=hm;exact⟨o,es,ep,kp _ o (λz=>(fQ _ z).2.1 rfl) ho,r⟩
 .by_cases hb:b=T
  .subst hb;rw[wL] at e;cases e;exact⟨hz,its,hv,ht⟩
  .rw[qM hb] at e;refine(I.aP b u e).xt (λc v hc q=>kp c v ?_ q) (λc q=>by rw[qM<|tr q];exact q) (λc xs q=>by rw[qM<|tr q];exact q) λc o u q=>by rw[qM<|tr q];exact q
   rcases hc with z|z
   .rw[z];exact Cr e
   .exact Cr z
def UZ{ch:List Addr}(I:Inv X pZ σ H s)(fQ:∀b∈ch,lU X pZ H b)(kp:∀b o,b∉ch->s.heap.get? b=aA o->h'.get? b=aA o):Inv X pZ σ H { s with heap:=h',toks:=t' }:=by
 have Cr:∀{b:Addr} {u:HO},H b=aA u->b∉ch:=λ{b u} e z=>by rw[(fQ b z).1] at e;cases e
 refine I.step (g':=s.gens) (d':=s.drawn) (ch:=ch) (λb hb=>⟨(fQ b hb).2.2.2.1,(fQ b hb).2.1,(fQ b hb).2.2.2.2.1,(fQ b hb).2.2.2.2.2⟩) (λb o _ _ hc e _=>kp b o hc e) (λb o _ _ hc e _=>⟨o.slots,kp b o hc e⟩)
  (λb o _ e n=>n) (λb o hc e=>⟨o,kp b o hc e⟩) (λb xs e=>e) (λb o u e=>e) (λb ps e=>⟨#[],by rw[e];simp⟩) (λm hm=>?_) (λb u e=>?_) I.bare
 .obtain⟨o,es,ep,ho,r⟩:=hm;exact⟨o,es,ep,kp _ o (λz=>(fQ _ z).2.1 rfl) ho,r⟩
 .refine(I.aP b u e).xt (λc v hc q=>kp c v ?_ q) (λ_ q=>q) (λ_ _ q=>q) λ_ _ _ q=>q
  rcases hc with z|z
  .rw[z];exact Cr e
  .exact Cr z
def Eh{h:Heap}{a b:Addr}{o o':Obj}{n m:String}(e:h.get? a=aA o)(c:o.cls=.type n)(e':h.get? b=aA o')(c':o'.cls=.type m)(d:n≠m):a≠b:=by
 rintro rfl;rw[e] at e';cases e';rw[c] at c';injection c' with q;exact d q
def Jd(K:Fg)(a:Addr):It:=
 ⟨λi H=>∃xs x,aV K H a xs/\xs[i]?=aA x,λi H x H'=>∃T y,x=.ref T/\H T=aB/\H'=upd H T (.tup [.int i,y])/\∀xs,aV K H a xs->xs[i]?=aA y,λi H=>∃xs,aV K H a xs/\xs.length=i⟩
def Vu{P:Program}{w:World}{K:Fg}{elts:List Expr}{k:Nat}{tp:Pos}(a e it:Addr)(Om:e≠it):Turn P w K (.Tuple elts k tp) (Jd K a) [e,it] e (λi h=>(∃old,IsEnum h e it i old)/\h.IsListIter it a i) where
 mem:=by simp
 obj:=λi h st b hb=>by
  obtain⟨⟨old,h1⟩,o,h2,h3,h4⟩:=st;have IG:b=e\/b=it:=by simpa using hb
  rcases IG with rfl|rfl
  .exact⟨_,h1,λv z=>by cases z⟩
  .exact⟨o,h2,λv z=>by rw[h4] at z;cases z⟩
 keep:=λi h g st kp=>⟨let ⟨old,h1⟩:=st.1;⟨old,kp e (by simp) _ h1⟩,st.2.at λo q=>kp it (by simp) o q⟩
 item:=by
  intro X hP hw hK hc i pZ s σ H E I hf st hg;subst hP hw hK;obtain⟨xs,x,hq,hx⟩:=hg;obtain⟨its,rv,p,hz⟩:=I.list hq;obtain⟨u,hu,ru⟩:=rv.get hx;obtain⟨oa,na,ea,ca,_⟩:=id p;obtain⟨⟨old,h1⟩,oi,h2,h3,h4⟩:=id st;have IJ:a≠e:=Eh ea ca h1 rfl (by decide);have II:a≠it:=Eh ea ca h2 h3 (by decide);have W:=WalksT.enumerate (prog:=X.prog) (w:=X.w) (A:=X.A) (I.ok.hd hc) e it a Om IJ II its.toArray;have hi:i<its.toArray.size:=by
   obtain⟨q,_⟩:=ar.mp hu;simpa using q
  refine W.item i s _ _ hi ⟨st.1,st.2,p.isList⟩ λT vals g tk pt hT eL mid kp=>⟨_,rfl,W.go elts k tp i T _ _ _ mid λg2 Aa N0=>?_⟩
  obtain⟨t,y,hy,rfl⟩:=pt;have Ik:y=u:=by
   have:its[i]?=aA y:=by simpa using hy
   rw[hu] at this;exact(bp this).symm
  subst Ik;have Xx:IsTup g2 T #[.int i t,y]:=by
   obtain⟨o,q1,q2⟩:=eL;exact⟨o,N0 T o (W.apart i T _ mid) q1,q2⟩
  refine⟨.ref T,upd H T<|.tup [.int i,x],T_ (s:=s) (t':=tk) I (its:=[.int i t,y]) (ch:=[e,it]) hf hT (λb o hb q=>N0 b o hb<|kp b o hb q) (by show 2<=ag;decide) (.cons ⟨t,rfl⟩<|.cons ru .nil) Xx,rfl,⟨T,x,rfl,I.aP.fresh hT,rfl,λys Yc=>by rw[I.HN Yc hq];exact hx⟩,⟨Aa.1,Aa.2.1⟩,λb hb=>?_⟩;have Ê:b≠T:=by
   have IG:b=e\/b=it:=by simpa using hb
   rcases IG with rfl|rfl
   .exact bv<|ba (ax h1) hT
   .exact bv<|ba (ax h2) hT
  rw[qM Ê];exact(hf b hb).1
 done:=by
  intro X hP hw hK hc i pZ s σ H E I hf st hg;subst hP hw hK;obtain⟨xs,hq,hx⟩:=hg;obtain⟨its,rv,p,hz⟩:=I.list hq;obtain⟨oa,na,ea,ca,_⟩:=id p;obtain⟨⟨old,h1⟩,oi,h2,h3,h4⟩:=id st;have IJ:a≠e:=Eh ea ca h1 rfl (by decide);have II:a≠it:=Eh ea ca h2 h3 (by decide);have W:=WalksT.enumerate (prog:=X.prog) (w:=X.w) (A:=X.A) (I.ok.hd hc) e it a Om IJ II its.toArray;have hl:its.toArray.size=i:=by rw[ai,<-rv.length];exact hx
  exact W.done s _ _ (by rw[hl];exact⟨st.1,st.2,p.isList⟩) λg tk kp=>⟨rfl,UZ I hf kp⟩
 self:=λ_ _ _ _ _ st h=>let ⟨⟨_,h1⟩,_⟩:=st;wpAny_pyIter_enum h1 h
section
variable{X:Cx}{pos:Pos}{a b c:Expr}{f g h:ME}
def cO(ha:DE X a f):DE X (.UnaryOp .USub a pos) (aF nX f):=PH LD (λO H dx d vx Q i e q=>by
 cases dx<;>first|(simp only[nX,reduceCtorEq] at e;done)|skip
 simp only[nX,cq] at e;subst e;rw[zY] at i;exact⟨_,i,q _<|by rw[zY]⟩) ha
noncomputable def fC:D->D->Option D
 |.int i,.int j=>aA<|.bl<|decide (i<=j)
 |.str s,.str t=>aA<|.bl<|!decide (t<s)
 |_,_=>aB
def Ro:c_ X (bz .LtE) (λx y H Q=>∃i j,x=.str i/\y=.str j/\Q (.bl<|!decide (j.cps.toList<i.cps.toList)) H):=by
 intro pZ s σ H x y v u Q I rx ry hq;obtain⟨i,j,rfl,rfl,q⟩:=hq;obtain⟨t,rfl⟩:=rx;obtain⟨t',rfl⟩:=ry;exact PySem.P.le_str ⟨.bl _,H,I,rfl,q⟩
def Jr:R2:=λx y H Q=>sR (λi j=>.bl<|decide (i<=j)) x y H Q\/∃i j,x=.str i/\y=.str j/\Q (.bl<|!decide (j.cps.toList<i.cps.toList)) H
def WG:c_ X (bz .LtE) Jr:=Wc.or Ro
def WL{K:Fg}:eT K Jr fC:=by
 intro O H dx dy d vx vy Q ol ix iy e q;unfold fC at e;split at e
 .have e:=bp e;subst e;rw[zY] at ix iy;exact .inl ⟨_,_,ix,iy,q _ H (aH.refl H)<|by rw[yY]⟩
 .have e:=bp e;subst e;rw[yE] at ix iy;exact .inr ⟨_,_,ix,iy,q _ H (aH.refl H)<|by rw[yY]⟩
 .cases e
def bY(m m':D->D->Option D)(f g h:ME):ME:=λr=>(f r).bind λx=>(g r).bind λy=>(m x y).bind λk=>match k with
 |.bl true=>(h r).bind λz=>m' y z
 |.bl false=>aA<|.bl false
 |_=>aB
def ZX{r2 r3:R2}{m m':D->D->Option D}(hd:eT X.K r2 m)(zm:eT X.K r3 m'){σ:St}{H:Hp}{Q:VK}(hq:lE X.K (bY m m' f g h) σ H Q):GJ r2 r3 (lE X.K f) (lE X.K g) (lE X.K h) σ H Q:=by
 obtain⟨O0,r,d,hR,e,q⟩:=hq;obtain⟨x,e1,e⟩:=aI e;obtain⟨y,e2,e⟩:=aI e;obtain⟨k,e3,e⟩:=aI e;refine⟨O0,r,x,hR,e1,λv1 H1 s1 i1=>⟨O0,r,y,hR.same s1,e2,λv2 H2 s2 i2=>?_⟩⟩;have R2:=hR.same<|s1.trans s2;refine hd (Ow O0 r σ) H2 x y k v1 v2 _ R2.ol (i1.same s2 (hR.same s1).ol) i2 e3 λv H3 s3 i3=>?_
 have sQ:=(s1.trans s2).trans s3;cases k with
 |bl kb=>
  rw[yY] at i3;refine⟨kb,i3,?_⟩;cases kb with
  |true=>
   obtain⟨z,e4,e5⟩:=aI e;refine BC ⟨O0,r,z,hR.same sQ,e4,λv3 H4 s4 i4=>?_⟩;exact zm (Ow O0 r σ) H4 y z d v2 v3 Q (hR.same<|sQ.trans s4).ol (i2.same (s3.trans s4) R2.ol) i4 e5 λv' H' s' i'=>q v' H' ((sQ.trans s4).trans s') i'
  |false=>
   cases e;exact Cb (q _ H3 sQ<|by rw[yY])
 |_=>cases e
def M3(ho:c_ X (bz op) r2)(hd:eT X.K r2 m)(iG:c_ X (bz wj) r3)(zm:eT X.K r3 m')(ha:DE X a f)(hb:DE X b g)(hc:DE X c h)(hm:lastMarks [op,wj] [b,c]=false:=by with_unfolding_all rfl):DE X (.Compare a [op,wj] [b,c] pos) (bY m m' f g h):=
 PE.aK (Ul ho iG ha hb hc hm) λσ H Q hq=>ZX hd zm hq
def Uv(ho:c_ X (bz op) r2)(hd:eT X.K r2 m)(iG:c_ X (bz wj) r3)(zm:eT X.K r3 m')(ha:DE X a f)(hb:DE X b g)(hc:DE X c h)(hm:lastMarks [op,wj] [b,c]=false:=by with_unfolding_all rfl):DT X (.Compare a [op,wj] [b,c] pos) (aD<|bY m m' f g h):=by
 refine PT.aK (Uq ho iG ha hb hc hm) λσ H Q hq=>?_
 obtain⟨O0,r,k,hR,e,q⟩:=hq;obtain⟨d,e1,e⟩:=aI e;refine ZX (m:=m) (m':=m') hd zm ⟨O0,r,d,hR,e1,λv H' s' i'=>?_⟩;cases d<;>first|cases e|skip
 rw[yY] at i';exact⟨_,i',q H' s'⟩
noncomputable def AV:List D->Option (List Int)
 |[]=>aA []
 |.int i::r=>(AV r).map (i::·)
 |_=>aB
def Q2(fs:ML):ME:=λr=>(fs r).bind λl=>match l with
 |[.int i,.int j]=>aA<|.int (if j > i then j else i)
 |[.int i,.int j,.int k]=>aA<|.int (if j > i then (if k > j then k else j) else (if k > i then k else i))
 |_=>aB
def Vb(hc:X.calm=true):iJ X (.builtin "max") (λxs H Q=>∃i j k,xs=[.int i,.int j,.int k]/\Q (.int (if j > i then (if k > j then k else j) else (if k > i then k else i))) H):=by
 intro pZ s σ H xs us Q I r hq;obtain⟨i,j,k,rfl,q⟩:=hq;cases r with
 |cons r1 r=>
  obtain⟨u2,u3,rfl,⟨t2,rfl⟩,⟨t3,rfl⟩⟩:=XO r;obtain⟨t1,rfl⟩:=r1;refine max_three_ints (I.ok.hd hc) λh' tk kp=>⟨_,H,I.kept kp,?_,q⟩
  split<;>split<;>exact⟨_,rfl⟩
def QD(hc:X.calm=true)(hg:Gl X "max")(hm:X.mg "max" = aB)(ha:DA X (a::es) fs)(hs:sL X a es:=by rfl)(hpl:xi X es pos:=by rfl):DE X (.Call (.Name "max" p') (a::es) [] pos) (Q2 fs):=by
 refine PE.aK (dY ((Va hc).or<|Vb hc) hg hm ue ha (he:=hs) (hpl:=hpl)) λσ H Q hq=>?_
 obtain⟨O0,r,d,hR,e,q⟩:=hq;obtain⟨l,e1,e2⟩:=aI e;refine⟨O0,r,l,hR,e1,λvs H1 s1 il=>?_⟩;split at e2
 .cases e2;obtain⟨v,u,rfl,i1,i2⟩:=il.inv2;rw[zY] at i1 i2;exact .inl ⟨_,_,by rw[i1,i2],q _ H1 s1<|by rw[zY]⟩
 .cases e2;obtain⟨v,u,w,rfl,i1,i2,i3⟩:=il.Xy;rw[zY] at i1 i2 i3;exact .inr ⟨_,_,_,by rw[i1,i2,i3],q _ H1 s1<|by rw[zY]⟩
 .cases e2
def BF(fl:ML):ME:=λr=>(fl r).bind λl=>(AV l).bind λns=>match ns with
 |[]=>aB
 |i::t=>aA<|.int<|t.foldl max i
theorem M_{K:Fg}:∀{l:List D} {ns:List Int} {vs:List V},AV l=aA ns->IsL K O H l vs->vs=ns.map V.int
 |[],ns,vs,e,il=>by cases e;unfold IsL at il;subst il;rfl
 |d::l,ns,vs,e,il=>by
  unfold IsL at il;obtain⟨v,r,rfl,i1,i2⟩:=il;cases d<;>first|(simp only[AV,reduceCtorEq] at e;done)|skip
  simp only[AV] at e;obtain⟨ms,e1,rfl⟩:=a8 e;rw[zY] at i1;rw[i1,M_ e1 i2];rfl
theorem W4:∀(t:List Int) (i:Int),t.foldl max i∈i::t/\∀x∈i::t,x<=t.foldl max i
 |[],i=>⟨be,λx hx=>by simp at hx;rw[hx];exact Int.le_refl _⟩
 |j::t,i=>by
  obtain⟨h1,h2⟩:=W4 t<|max i j;refine⟨?_,λx hx=>?_⟩
  .rw[List.foldl_cons];rcases av.mp h1 with z|z
   .rw[z];rcases Int.le_total i j with y|y
    .rw[Int.max_eq_right y];simp
    .rw[Int.max_eq_left y];simp
   .exact cj _<|cj _ z
  .rw[List.foldl_cons];have hm:=h2 (max i j) be;rcases av.mp hx with z|z
   .rw[z];exact tq (Int.le_max_left i j) hm
   .rcases av.mp z with z|z
    .rw[z];exact tq (Int.le_max_right i j) hm
    .exact h2 x<|cj _ z
def Vc(hc:X.calm=true):iJ X (.builtin "max") (λxs H Q=>∃p i ns,xs=[.ref p]/\aV X.K H p ((i::ns).map V.int)/\Q (.int<|ns.foldl max i) H):=by
 intro pZ s σ H xs us Q I r hq;obtain⟨p,i,ns,rfl,hS,q⟩:=hq;obtain⟨u,rfl,ru⟩:=Vals.one r;cases ru;obtain⟨its,rv,pl,hz⟩:=I.list hS;have hi:IntsAre its (i::ns):=JW rv;obtain⟨xs,e⟩:=hi.allInts.items;have sT:(i::ns)=xs.toList.map (·.1):=by rw[<-hi.numsOf,<-nums_intItems,<-e]
 have vi:0<xs.size:=by
  have h3:=congrArg cx sT;have h4:ns.length+1=xs.toList.length:=by simpa using h3
  have h5:xs.toList.length=xs.size:=by simp
  omega
 have NG:=pl.isList;rw[e] at NG;refine max_intList (I.ok.hd hc) NG vi λv h' tk hv hk=>?_
 obtain⟨t,rfl⟩:=intItems_at hv;obtain⟨h1,h2⟩:=argBest_gt (numAt xs)<|xs.size-1;refine⟨.int<|ns.foldl max i,H,I.kept hk,⟨t,?_⟩,q⟩;obtain⟨m1,m2⟩:=W4 ns i
 congr 1
 refine Int.le_antisymm ?_ ?_
 .refine m2 _ ?_;rw[sT,numAt_eq];exact getD_mem (by rw[af,gr];omega)
 .rw[sT] at m1;obtain⟨k,Bf,ek⟩:=mem_getD m1;rw[<-ek];rw[af,gr] at Bf;rw[<-numAt_eq];exact h2 k (by omega)
def LX(hc:X.calm=true)(hg:Gl X "max")(hm:X.mg "max" = aB)(ha:DB X a fl)(hs:aq [a] X.env=(false,eval a X.env)::aq [] X.env:=by rfl):DE X (.Call (.Name "max" p') [a] [] pos) (BF fl):=by
 refine PE.aK (dY (Vc hc) hg hm ue (wV ha kT hs) (he:=hs)) λσ H Q hq=>?_
 obtain⟨O0,r,d,hR,e,q⟩:=hq;obtain⟨l,e1,e2⟩:=aI e;obtain⟨ns,e3,e4⟩:=aI e2;refine⟨O0,r,l,hR,e1,λp xs H1 s1 sq il=>?_⟩;cases ns with
 |nil=>cases e4
 |cons i t=>
  cases e4;have ex:=M_ e3 il;subst ex;exact⟨p,i,t,rfl,sq,q _ H1 s1<|by rw[zY]⟩
noncomputable def iP(i:Int):List Nat:=(ot<|toString i).cps.toList
def zc:D->Option D
 |.int i=>if i.natAbs.log2<1920 then aA (.str<|iP i) else aB
 |.str s=>aA<|.str s
 |_=>aB
def Vd:iJ X (.type "str") (λxs H Q=>∃x,xs=[.str x]/\Q (.str x) H):=by
 intro pZ s σ H xs us Q I r hq;obtain⟨x,rfl,q⟩:=hq;obtain⟨u,rfl,t,rfl⟩:=Vals.one r;exact PySem.P.str_of_str ⟨.str x,H,I,⟨t,rfl⟩,q⟩
def M5(hg:Gl X "str")(hm:X.mg "str" = aB)(ha:DE X a f)(hs:aq [a] X.env=(false,eval a X.env)::aq [] X.env:=by rfl):DE X (.Call (.Name "str" p') [a] [] pos) (aF zc f):=by
 refine PE.aK (nE (è.or Vd) hg hm PyProof.Rows.boot_str (wV ha kT hs) (he:=hs)) λσ H Q hq=>?_
 obtain⟨O0,r,d,hR,e,q⟩:=hq;obtain⟨x,e1,e2⟩:=aI e;refine⟨O0,r,x,hR,e1,λv H1 s1 i1=>?_⟩;cases x<;>first|(simp only[zc,reduceCtorEq] at e2;done)|skip
 .simp only[zc] at e2;split at e2
  .rename_i hl;cases e2;rw[zY] at i1;exact .inl ⟨_,by rw[i1],hl,q _ H1 s1 (by rw[yE];unfold iP;simp)⟩
  .cases e2
 .simp only[zc,cq] at e2;subst e2;have BZ:=i1;rw[yE] at BZ;exact .inr ⟨_,by rw[BZ],q _ H1 s1 (by rw[<-BZ];exact i1)⟩
def Gv(fl:ML):ME:=λr=>(fl r).map .tup
def J6(hg:Gl X "tuple")(hm:X.mg "tuple" = aB)(ha:DB X a fl)(hs:aq [a] X.env=(false,eval a X.env)::aq [] X.env:=by rfl):DE X (.Call (.Name "tuple" p') [a] [] pos) (Gv fl):=by
 refine PE.aK (nE tO hg hm PyProof.Rows.boot_tuple (wV ha kT hs) (he:=hs)) λσ H Q hq=>?_
 obtain⟨O0,r,d,hR,e,q⟩:=hq;obtain⟨l,e1,rfl⟩:=a8 e;refine⟨O0,r,l,hR,e1,λp xs H1 s1 sq il=>⟨p,xs,rfl,.inl ⟨sq,λt ht=>q _ _ (s1.trans<|xU ht) ?_⟩⟩⟩;rw[wE];exact⟨t,xs,rfl,eI.of wL,il.same (xU ht) (hR.same s1).ol⟩
def i_(h:DF X a fl):DB X a fl:=by
 refine PE.aK h λσ H Q hq=>?_
 obtain⟨O0,r,l,hR,e,q⟩:=hq;refine⟨O0,r,l,hR,e,λp xs H1 s1 n1 e1 il=>q p xs H1 s1 (aV.of e1) ?_⟩;have ol:Z2 (λb=>Ow O0 r σ b\/b=p) H1:=λb z=>z.elim (λz=>(hR.same s1).ol b z) λz=>by subst z;exact⟨.lst xs,e1,trivial⟩
 exact IsL.mono (aH.kp (aH.refl H1) _) ol (λa z _=>.inl z) l xs il
end
def FV(f:ME)(bd:D->En->Option En):MS:=λr=>(f r).bind λd=>(bd d r).map .nx
def Rx(he:DE X e f)(hg:DG X tg bd)(hs:swapsWithSole [tg] e pos.line X.env=pure false:=by rfl)(hw:swappedStores [tg] e X.env=pure aB:=by rfl)(h1:(gm [tg] X.env).map (·.2)=[assign tg X.env]:=by rfl):DS X (.Assign [tg] e pos) (FV f bd):=by
 refine PS.aK (RC he hg hs hw h1) λDn σ H hq=>?_
 obtain⟨O0,r,fl,hR,e,q⟩:=hq;obtain⟨d,e1,e2⟩:=aI e;obtain⟨r',e3,rfl⟩:=a8 e2;refine⟨O0,r,d,hR,e1,λv H1 s1 i1=>⟨O0,r,d,r',hR.same s1,i1,e3,λσ' R' k'=>q σ' H1 R'<|(Kp.of_same r σ s1).trans k'⟩⟩
open PySem PySem.Spec PyProof.Rows L2 PySem.StrLaws
def dS(xs:List α)(lo hi:Option Int):List α:=(xs.drop<|HT.aO xs.length 0 lo).take<|HT.aO xs.length xs.length hi-HT.aO xs.length 0 lo
def G2(n d:Nat)(hd:d<=n)(o:Option Int):HT.aO n d o<=n:=HT.NE n d hd o
def X4(lo hi:Option Int)(n:Nat):kr lo hi 1 n=kr (aA ((HT.aO n 0 lo:Nat):Int)) (aA ((HT.aO n n hi:Nat):Int)) 1 n:=by
 have key:∀(v:Option Int) (d:Nat),d<=n->(match v with|none=>(d:Int)|some i=>max 0<|min (if i<0 then i+(n:Int) else i) (n:Int))=max 0 (min (if ((HT.aO n d v:Nat):Int)<0 then ((HT.aO n d v:Nat):Int)+(n:Int) else ((HT.aO n d v:Nat):Int)) (n:Int)):=by
  intro v d hd;have hle:=G2 n d hd v;have h0:¬(((HT.aO n d v:Nat):Int)<0):=by omega
  rw[if_neg h0];cases v with
  |none=>
   have e:HT.aO n d aB=d:=rfl;rw[e];show(d:Int)=_;omega
  |some i=>
   have e:HT.aO n d (aA i)=if i<0 then (i+(n:Int)).toNat else min i.toNat n:=rfl
   show max 0 (min (if i<0 then i+(n:Int) else i) (n:Int))=_;rw[e] at hle ⊢
   split<;>split at hle<;>omega
 have e1:(1:Int) > 0:=by omega
 unfold oh;simp only[e1,if_true];have k1:=key lo 0<|cz _;have k2:=key hi n<|ao _;cases lo<;>cases hi<;>simp only at k1 k2 ⊢<;>rw[<-k1,<-k2]<;>rfl
def mY(x:Str)(lo hi:Option Int):sliceText x lo hi=⟨(dS x.cps.toList lo hi).toArray⟩:=by
 have hl:x.cps.toList.length=x.length:=by simp[me]
 unfold dS;rw[hl];have ha:=G2 x.length 0 (cz _) lo;have hb:=G2 x.length x.length (ao _) hi;have e:sliceText x lo hi=sliceText x (aA ((HT.aO x.length 0 lo:Nat):Int)) (aA ((HT.aO x.length x.length hi:Nat):Int)):=by
  unfold sliceText;rw[X4 lo hi x.length]
 rw[e];by_cases Í:HT.aO x.length 0 lo<=HT.aO x.length x.length hi
 .exact sliceText_nat x Í hb
 .have z:HT.aO x.length x.length hi-HT.aO x.length 0 lo=0:=by omega
  rw[z,List.take_zero];have em:kr (aA ((HT.aO x.length 0 lo:Nat):Int)) (aA ((HT.aO x.length x.length hi:Nat):Int)) 1 x.length=[]:=by
   have e1:(1:Int) > 0:=by omega
   unfold oh;simp only[e1,if_true];have h0:¬(((HT.aO x.length 0 lo:Nat):Int)<0):=by omega
   have h1:¬(((HT.aO x.length x.length hi:Nat):Int)<0):=by omega
   rw[if_neg h0,if_neg h1];unfold PySem.sliceRange;simp only[e1,if_true];split
   .omega
   .rfl
  unfold sliceText;rw[em];split
  .rename_i q;have q':x.length=0:=by
                  have:0=x.length:=by simpa using q
                  exact this.symm
   apply Str.ext'
   have:x.cps.size=0:=q'
   exact Array.eq_empty_of_size_eq_zero this
  .rfl
def Ju:V->Option Int->Option Int->Hp->VK->Prop:=λx lo hi H Q=>∃z,x=.str z/\z.length<=ag/\Q (.str ⟨(dS z.cps.toList lo hi).toArray⟩) H
def TY(xs:List α)(lo hi:Option Int):(dS xs lo hi).length<=xs.length:=by
 unfold dS;rw[ck,cw];omega
def pB:AG X Ju:=by
 intro pZ s σ H x v vl vu lo hi sl Q I rx hs pl pu hq;obtain⟨z,rfl,hz,q⟩:=hq;obtain⟨t,rfl⟩:=rx;refine⟨"str",_,PySem.F.slot_str_getitem.lookup,jv _ _ _,?_⟩;have main:∀(l u:Option (Int×Tok)),l.map (·.1)=lo->u.map (·.1)=hi->s.heap.IsSlice sl l u aB->wpAny (model X.prog X.w) X.A (getItem (.str z t)<|.ref sl) (EP X pZ σ Q) X.xe s:=by
  intro l u hl hu C9;refine wpAny_getItem_str_slice C9 rfl ?_;have e:∀t' k,EP X pZ σ Q (.str (sliceText z lo hi) t') { s with toks:=k }:=λt' k=>⟨.str _,H,I.tok k,⟨t',rfl⟩,by rw[mY];exact q⟩
  have hle:(sliceText z lo hi).length<=ag:=by
   rw[mY,str_len]
   have:=TY z.cps.toList lo hi
   have h2:z.cps.toList.length=z.length:=by simp[me]
   omega
  unfold sliceMade slicePicked;rw[hl,hu];exact post_val_or_str ⟨hle,e⟩
 obtain⟨o,h1,h2,h3⟩:=hs;cases pl with
 |none=>cases pu with
  |none=>exact main aB aB rfl rfl ⟨o,h1,h2,h3⟩
  |int j tj=>exact main aB (aA (j,tj)) rfl rfl ⟨o,h1,h2,h3⟩
 |int i ti=>cases pu with
  |none=>exact main (aA (i,ti)) aB rfl rfl ⟨o,h1,h2,h3⟩
  |int j tj=>exact main (aA (i,ti)) (aA (j,tj)) rfl rfl ⟨o,h1,h2,h3⟩
abbrev MO:=En->Option (Option Int)
def wG:MO:=λ_=>aA aB
def xL(f:ME):MO:=λr=>(f r).bind λd=>(intD d).map aA
def lO(K:Fg)(f:MO):TO:=λσ H Q=>∃O0 r o,R K O0 H r σ/\f r=aA o/\∀H',aH H H'->Q o H'
def DO(X:Cx)(e:Option Expr)(f:MO):Prop:=PO X e<|lO X.K f
def PO.aK(h:PO X e t)(i:∀σ H Q,t' σ H Q->t σ H Q):PO X e t':=λpZ s σ H Q I q=>h pZ s σ H Q I<|i σ H Q q
def xZ:DO X aB wG:=PO.aK Tc λσ H Q ⟨O0,r,o,hR,e,q⟩=>by
 unfold wG at e;cases e;exact q H<|aH.refl H
def xK(ha:DE X a f):DO X (aA a) (xL f):=PO.aK (TB ha) λσ H Q ⟨O0,r,o,hR,e,q⟩=>by
 obtain⟨d,e1,e2⟩:=aI e;obtain⟨i,e3,rfl⟩:=a8 e2;cases r8 e3;exact⟨O0,r,_,hR,e1,λv H1 s1 i1=>⟨i,by rw[zY] at i1;exact i1,q H1 s1⟩⟩
def ze(d:D)(lo hi:Option Int):Option D:=match d with
 |.lst l=>aA<|.lst<|dS l lo hi
 |.tup l=>if HT.aO l.length 0 lo=0/\HT.aO l.length l.length hi=l.length then aB else aA<|.tup<|dS l lo hi
 |.str s=>if s.length<=ag then aA (.str<|dS s lo hi) else aB
 |_=>aB
def aT(f:ME)(lo hi:MO):ME:=λr=>(f r).bind λd=>(lo r).bind λi=>(hi r).bind λj=>ze d i j
def Pj(K:Fg):V->Option Int->Option Int->Hp->VK->Prop:=λx lo hi H Q=>FR K x lo hi H Q\/Jv K x lo hi H Q\/Ju x lo hi H Q
def IsL.cut{K:Fg}(h:IsL K O H l xs)(lo hi:Option Int):IsL K O H (dS l lo hi) (zx xs lo hi):=by
 unfold dS zx;rw[h.length];exact(h.drop _).take _
def kN{lo:Option Expr}(ha:DE X a f)(hl:DO X lo fl)(hh:DO X hi fh):DE X (.Subscript a (.Slice lo hi aB p2) pos) (aT f fl fh):=by
 refine PE.aK (Nh (r:=Pj X.K) (ND.or<|VX.or pB) ha hl hh) λσ H Q hq=>?_
 obtain⟨O0,r,d,hR,e,q⟩:=hq;obtain⟨x,e1,e⟩:=aI e;obtain⟨i,e2,e⟩:=aI e;obtain⟨j,e3,e⟩:=aI e;refine⟨O0,r,x,hR,e1,λv H1 s1 i1=>⟨O0,r,i,hR.same s1,e2,λH2 s2=>⟨O0,r,j,hR.same<|s1.trans s2,e3,λH3 s3=>?_⟩⟩⟩;have sQ:=(s1.trans s2).trans s3;have R3:=hR.same sQ;have i3:=i1.same (s2.trans s3) (hR.same s1).ol;cases x<;>first|(simp only[ze,reduceCtorEq] at e;done)|skip
 .simp only[ze] at e;split at e
  .rename_i Iu;cases e;rw[yE] at i3;refine .inr<|.inr ⟨_,i3,by rw[str_len];exact Iu,q _ H3 sQ<|by rw[yE]⟩
  .cases e
 .simp only[ze] at e;split at e
  .cases e
  .rename_i hw;cases e;rw[wE] at i3;obtain⟨p,xs,rfl,hs,il⟩:=i3;refine .inr<|.inl ⟨p,xs,rfl,hs,by rw[<-il.length];exact hw,λt ht=>q _ _ (sQ.trans<|xU ht) ?_⟩;rw[wE];exact⟨t,_,rfl,eI.of wL,(il.cut i j).same (xU ht) R3.ol⟩
 .simp only[ze,cq] at e;subst e;rw[yV] at i3;obtain⟨p,xs,rfl,hs,il⟩:=i3;refine .inl ⟨p,xs,rfl,hs.sq,λt ht=>q _ _ (sQ.trans<|xU ht) ?_⟩;rw[yV];exact⟨t,_,rfl,.inl ⟨R3.Al ht,.inl wL⟩,(il.cut i j).same (xU ht) R3.ol⟩
def RK(n:Nat):gg aB aB (-1) (n:Int)=((n:Int)-1,-1):=by
 unfold gg;simp
def RM(n:Nat):dg ((n:Int)-1) (-1) (-1)=n:=by
 unfold dg;have h1:¬((-1:Int) > 0):=by omega
 simp only[h1,if_false];split
 .have : -(-1:Int)=1:=by omega
  rw[this,Int.ediv_one];omega
 .omega
def RL{sl:Addr}{t:Tok}{n:Nat}{Q:Int×Int×Nat->Shared->Prop}(hs:s.heap.IsSliceOf sl .none .none (.int (-1) t))(h:Q ((n:Int)-1,-1,n) s):wpAny (model prog w) A (jh (.ref sl)<|pure (n:Int)) Q E s:=by
 obtain⟨os,ho,hc,hd⟩:=id hs;unfold jh qt;refine aj<|aj<|lg ho hd (x:=.none) rfl<|aj<|lg ho hd (x:=.none) rfl<|aj<|lg ho hd (x:=.int (-1) t) rfl<|bb ?_;refine aj<|slicePart_int ?_;show wpAny _ _ (if ((-1:Int) == 0)=true then _ else _) _ _ s;rw[if_neg<|by decide];refine aj<|ng<|aj<|ng<|aj<|bb ?_;show wpAny _ _ (match gg aB aB (-1) (n:Int) with|(lo,hi)=>pure (lo,(-1:Int),dg lo hi<|-1)) _ _ s;rw[RK n];show wpAny _ _ (pure ((n:Int)-1,(-1:Int),dg ((n:Int)-1) (-1)<|-1)) _ _ s;rw[RM];exact bb h
theorem K_:∀(l:List α),(∀m∈l,F m=aA (G m))->l.filterMap F=l.map G
 |[],_=>rfl
 |a::l,h=>by
  rw[ko,h a be,bg,K_ l λm hm=>h m<|cj _ hm]
def UR(xs:Array Value):((db xs.size).filterMap λ(m:Nat)=>xs[((xs.size:Int)-1+(m:Int)*(-1)).toNat]?).toArray=xs.toList.reverse.toArray:=by
 congr 1
 apply List.ext_getElem?;intro k;have e:∀m,m<xs.size->xs[((xs.size:Int)-1+(m:Int)*(-1)).toNat]?=aA (xs.toList.reverse.getD m .none):=by
  intro m hm;have h1:((xs.size:Int)-1+(m:Int)*(-1)).toNat=xs.size-1-m:=by omega
  rw[h1,ql,uj<|by simpa using hm];have h2:xs.size-1-m<xs.size:=by omega
  simp[h2]
 have e2:(db xs.size).filterMap (λ(m:Nat)=>xs[((xs.size:Int)-1+(m:Int)*(-1)).toNat]?)=(db xs.size).map λm=>xs.toList.reverse.getD m .none:=by
  exact K_ _ λm hm=>e m<|jz.mp hm
 rw[e2,az];by_cases hk:k<xs.size
 .rw[va hk,ft<|by simpa using hk];simp[ql,hk]
 .rw[mz<|by simpa using hk,mz<|by simpa using hk];rfl
def TL(ht:IsTup s.heap t its)(hs:s.heap.IsSliceOf sl .none .none (.int (-1) tk))(vi:its.size<=ag)(h:Q (.ref s.heap.objs.size) { s with heap:=s.heap.push { cls:=.type "tuple",data:=.seq its.toList.reverse.toArray } }):wpAny (model prog w) A (getItem (.ref t)<|.ref sl) Q E s:=by
 have hz:sizeOk (.seq its.toList.reverse.toArray):=by show its.toList.reverse.toArray.size<=ag;simpa using vi
 obtain⟨os,ho,hc,hd⟩:=id hs;have hT:s.TypeIs (.ref sl) "slice" := ⟨os,ho,hc⟩;unfold getItem
 try with_reducible refine ja ?_
 first|refine aj (bb ?_)|skip
 refine aj<|wpAny_sequenceKey ht.typeIs (by decide) ?_;refine aj<|ri (name:=ot "__getitem__") ht.typeIs dw<|wpAny_call_entry dw ht.typeIs ux ?_<|args_tuple_getitem _ _;show wpAny _ _ (qp (.ref t) >>= _) _ _ s;refine aj<|tupleItemsOf_ ht<|aj<|ro hT ?_;rw[if_pos<|by decide];refine aj<|RL hs ?_;show wpAny _ _ (if (((its.size:Int)-1) == 0 && (-1:Int) == 1 && its.size == its.size)=true then _ else _) _ _ s;rw[if_neg<|by simp,UR]
 first
  |exact aj (m:=dt _)<|gf (bb ⟨_,rfl,bb h⟩) hz
  |exact aj (m:=dt _)<|gf (aj<|bb<|bb ⟨_,rfl,bb h⟩) hz
  |exact aj<|aj (m:=dt _)<|gf (bb<|bb ⟨_,rfl,bb h⟩) hz
  |exact aj<|aj (m:=dt _)<|gf (bb ⟨_,rfl,bb h⟩) hz
def Px(K:Fg)(ta:TE):TE:=λσ H Q=>ta σ H λx H1=>(∃p xs,x=.ref p/\aV K H1 p xs/\∀q,H1 q=aB->Q (.ref q) (upd H1 q<|.lst xs.reverse))\/(∃p xs,x=.ref p/\eI K H1 p xs/\∀q,H1 q=aB->Q (.ref q) (upd H1 q<|.tup xs.reverse))
def Lj(he:PE X a ta):PE X (.Subscript a (.Slice aB aB (aA<|.UnaryOp .USub (.Constant (.int 1) j p3) pos) p2) pn) (Px X.K ta):=by
 intro pZ s σ H Q I h;refine Subscript_<|aS (he pZ s σ H _ I h) λv s1 ⟨x,H1,I1,r1,q1⟩=>?_;refine wpAny_Slice ?_;rw[qx];refine bb<|bb ?_;rw[evalPart_some];have iN:PE X (.UnaryOp .USub (.Constant (.int 1) j p3) pos) (Nz (rU λi=>.int<|-i)<|tC<|.int 1):=Kj LD Li;refine aS (iN pZ s1 σ H1 (λw H'=>w=.int (-1)/\H'=H1) I1 ⟨1,rfl,rfl,rfl⟩) λu s2 ⟨y,H2,I2,r2,q2,eH⟩=>?_
 subst eH q2;obtain⟨t,rfl⟩:=r2;have I4:Inv X pZ σ H2 { s2 with heap:=s2.heap.push { cls:=.type "slice",data:=.fields #[.none,.none,.int (-1) t] } }:=I2.kept (t':=s2.toks) λb ob q=>ay _ q
 have C9:({ s2 with heap:=s2.heap.push { cls:=.type "slice",data:=.fields #[.none,.none,.int (-1) t] } }:Shared).heap.IsSliceOf s2.heap.objs.size .none .none (.int (-1) t):=Heap.IsSliceOf.new ..;rcases q1 with⟨p,xs,rfl,hx,q⟩|⟨p,xs,rfl,hx,q⟩
 .cases r1;obtain⟨its,r,pl,hz⟩:=I4.list hx;have hlen:=r.length;refine tail_any (ops:=[.ref p,.ref s2.heap.objs.size]) pl.isList.typeIs on.lookup (qv pl.isList C9 .none .none (.int (-1) t) (by simp) ?_ (by simp only[ai];omega)) (by with_unfolding_all rfl);rw[PySem.W.krv_pick];exact⟨.ref _,_,I4.CF (t':=s2.toks) r.reverse (by rw[du];exact hz),rfl,q _ I4.fresh⟩
 .cases r1;obtain⟨its,r,pl,hz⟩:=I4.tuple hx;have hlen:=r.length;refine tail_any (ops:=[.ref p,.ref s2.heap.objs.size]) pl.typeIs dw.lookup (TL pl C9 (by simp only[ai];omega) ?_) (by with_unfolding_all rfl);refine⟨.ref _,_,I4.laid (t':=s2.toks) (o:=.tup xs.reverse) (λb ob q=>ay _ q) (ao _) ?_,rfl,q _<|I4.aP.fresh<|ao _⟩;exact⟨by rw[du];exact hz,_,r.reverse,rl _ _⟩
noncomputable def AN:D->Option D
 |.lst l=>aA<|.lst l.reverse
 |.tup l=>aA<|.tup l.reverse
 |_=>aB
def Rv(ha:DE X a f):DE X (.Subscript a (.Slice aB aB (aA<|.UnaryOp .USub (.Constant (.int 1) j p3) pos) p2) pn) (aF AN f):=by
 refine PE.aK (Lj ha) λσ H Q hq=>?_
 obtain⟨O0,r,d,hR,e,q⟩:=hq;obtain⟨x,e1,e2⟩:=aI e;refine⟨O0,r,x,hR,e1,λv H1 s1 i1=>?_⟩;have R1:=hR.same s1;cases x<;>first|(simp only[AN,reduceCtorEq] at e2;done)|skip
 .simp only[AN,cq] at e2;subst e2;rw[wE] at i1;obtain⟨p,xs,rfl,hs,il⟩:=i1;refine .inr ⟨p,xs,rfl,hs,λt ht=>q _ _ (s1.trans<|xU ht) ?_⟩;rw[wE];exact⟨t,_,rfl,eI.of wL,il.reverse.same (xU ht) R1.ol⟩
 .simp only[AN,cq] at e2;subst e2;rw[yV] at i1;obtain⟨p,xs,rfl,hs,il⟩:=i1;refine .inl ⟨p,xs,rfl,hs.sq,λt ht=>q _ _ (s1.trans<|xU ht) ?_⟩;rw[yV];exact⟨t,_,rfl,.inl ⟨R1.Al ht,.inl wL⟩,il.reverse.same (xU ht) R1.ol⟩
def BG(fl:ML):ML:=λr=>(fl r).map List.reverse
def KO(ha:DB X a fl):DF X (.Subscript a (.Slice aB aB (aA<|.UnaryOp .USub (.Constant (.int 1) j p3) pos) p2) pn) (BG fl):=by
 refine PE.aK (Lj ha) λσ H Q hq=>?_
 obtain⟨O0,r,l',hR,e,q⟩:=hq;obtain⟨l,e1,rfl⟩:=a8 e;refine⟨O0,r,l,hR,e1,λp xs H1 s1 sq il=>.inl ⟨p,xs,rfl,sq,λt ht=>q t _ _ (s1.trans<|xU ht) (s1.free ht) wL ?_⟩⟩;refine IsL.mono (aH.kp (xU ht) _) (hR.same s1).ol (λb z n=>?_) _ _ il.reverse;rcases z with z|z
 .exact z
 .subst z;exact absurd ht n
noncomputable def X2:List D->Option (List<|List Nat)
 |[]=>aA []
 |.str s::r=>(X2 r).map (s::·)
 |_=>aB
noncomputable def wS(sep:List Nat):List (List Nat)->List Nat
 |[]=>[]
 |[s]=>s
 |s::r=>s++sep++wS sep r
theorem YY{K:Fg}:∀{l:List D} {ss:List (List Nat)} {vs:List V},X2 l=aA ss->IsL K O H l vs->vs=ss.map λs=>V.str ⟨s.toArray⟩
 |[],ss,vs,e,il=>by cases e;unfold IsL at il;subst il;rfl
 |d::l,ss,vs,e,il=>by
  unfold IsL at il;obtain⟨v,r,rfl,i1,i2⟩:=il;cases d<;>first|(simp only[X2,reduceCtorEq] at e;done)|skip
  simp only[X2] at e;obtain⟨ms,e1,rfl⟩:=a8 e;rw[yE] at i1;rw[i1,YY e1 i2];rfl
theorem t8:∀{ss:List (List Nat)} {us:List Value},Vals (ss.map λs=>V.str ⟨s.toArray⟩) us->StrsAre us (ss.map λs=>(⟨s.toArray⟩:Str))
 |[],us,r=>by rw[ip] at r;cases r;exact .nil
 |s::ss,us,r=>by
  rw[bg] at r;cases r with
  |cons r1 r2=>
   obtain⟨t,e⟩:=r1;subst e;exact .cons _ t<|t8 r2
theorem pR(sep:List Nat):∀ss:List (List Nat),ou (⟨sep.toArray⟩:Str) (ss.map λs=>(⟨s.toArray⟩:Str))=⟨(wS sep ss).toArray⟩
 |[]=>rfl
 |[s]=>rfl
 |s::t::r=>by
  have ih:=pR sep (t::r);show(⟨s.toArray⟩:Str)++⟨sep.toArray⟩++ou _ ((t::r).map λs=>(⟨s.toArray⟩:Str))=_;rw[ih,G6,G6];rfl
def Qm(K:Fg):V->List V->Hp->VK->Prop:=λx vs H Q=>∃sep p ss,x=.str ⟨sep.toArray⟩/\vs=[.ref p]/\aV K H p (ss.map λs=>V.str ⟨s.toArray⟩)/\(ss.map cx).sum+ss.length*sep.length<=16777216/\Q (.str ⟨(wS sep ss).toArray⟩) H
def Te:Bs X "str.join" (Qm X.K):=by
 intro pZ s σ H x vs v us Q I rx rv hq;obtain⟨sep,p,ss,rfl,rfl,hs,hl,q⟩:=hq;obtain⟨t,rfl⟩:=rx;obtain⟨u,rfl,ru⟩:=Vals.one rv;cases ru;obtain⟨its,r,pl,hz⟩:=I.list hs;refine join_list pl.isList (ys:=ss.map λs=>(⟨s.toArray⟩:Str)) (by simpa using t8 r) ?_ λt' k=>⟨.str _,H,I.tok k,⟨t',rfl⟩,?_⟩
 .have e:(ss.map λs=>(⟨s.toArray⟩:Str)).map (·.length)=ss.map cx:=by rw[ia];exact jr λs _=>str_len s
  rw[e,af,str_len];exact hl
 .show Q (.str<|Txt.join _ _) H;unfold Txt.join;rw[glued_eq_join,pR];exact q
def WS(f:ME)(fl:ML):ME:=λr=>(f r).bind λd=>match d with
 |.str sep=>(fl r).bind λl=>(X2 l).bind λss=>if (ss.map cx).sum+ss.length*sep.length<=16777216 then aA (.str<|wS sep ss) else aB
 |_=>aB
def ZT(ho:DE X a f)(ha:DB X b fl)(fK:fq a "join" X.env (eval a X.env)=eval a X.env:=by rfl)(fI:sW apos eB:=by rfl)(iE:xc X [b] eB:=by rfl)(hs:aq [b] X.env=(false,eval b X.env)::aq [] X.env:=by rfl):DE X (.Call (.Attribute a "join" apos) [b] [] eB) (WS f fl):=by
 refine PE.aK (WE mh PySem.F.slot_str_join PySem.F.type_str_join Te ho (wV ha kT hs) fK iE fI hs) λσ H Q hq=>?_
 obtain⟨O0,r,d,hR,e,q⟩:=hq;obtain⟨x,e1,e2⟩:=aI e;refine⟨O0,r,x,hR,e1,λv H1 s1 i1=>?_⟩;cases x<;>first|(simp only[reduceCtorEq] at e2;done)|skip
 simp only at e2;obtain⟨l,e3,e4⟩:=aI e2;obtain⟨ss,e5,e6⟩:=aI e4;rw[yE] at i1;subst i1;split at e6
 .rename_i hl;cases e6;refine⟨rfl,O0,r,l,hR.same s1,e3,λp xs H2 s2 sq il=>?_⟩;have ex:=YY e5 il;subst ex;exact⟨_,p,ss,rfl,rfl,sq,hl,q _ H2 (s1.trans s2)<|by rw[yE]⟩
 .cases e6
open PySem PySem.Spec PyProof.Rows L2 PySem.StrLaws PySem.Builtin.Str
def RJ:V->List V->Hp->VK->Prop:=λx vs H Q=>∃z y,x=.str z/\vs=[.str y]/\(y.length == 0)=false/\z.length<=ag/\(partsBetween z (occurrences z y 0 z.length<|z.length+1) y.length).length<=ag/\∀p,H p=aB->Q (.ref p) (upd H p<|.lst<|(jw z y).map V.str)
theorem rA:∀(l:List (Str×Tok)),Vals ((l.map (·.1)).map V.str) (strValues l)
 |[]=>.nil
 |(x,t)::l=>.cons ⟨t,rfl⟩<|rA l
def Vq(z y:Str)(h:(partsBetween z (occurrences z y 0 z.length<|z.length+1) y.length).length<=ag):(jw z y).length<=ag:=by
 unfold jw;have h1:1<=ag:=by decide
 split
 .exact h1
 .split
  .exact h1
  .exact h
def Ue:Bs X "str.split" RJ:=by
 intro pZ s σ H x vs v us Q I rx rv hq;obtain⟨z,y,rfl,rfl,hy,hz,hn,q⟩:=hq;obtain⟨t,rfl⟩:=rx;obtain⟨uu,rfl,u,rfl⟩:=Vals.one rv;have lay:∀(l:List (Str×Tok)) (tk:Nat),l.map (·.1)=jw z y->EP X pZ σ Q (.ref s.heap.objs.size) { s with heap:=s.heap.push { cls:=.type "list",data:=.seq (strValues l).toArray },toks:=tk }:=λl tk e=>by
  have hv:=rA l;rw[e] at hv;exact⟨.ref _,_,I.CF (t':=tk) hv (by rw[af];exact Vq z y hn),rfl,q _ I.fresh⟩
 cases h1:(decide (z.length<y.length) || decide (strKind z<strKind y)) with
 |true=>exact io jq (jv _ _ _) je (og _ _) (meets_str_split_cannot_occur z y t u h1)<|lay [(z,t)] s.toks (by unfold jw;rw[if_pos h1];rfl)
 |false=>
  cases hf:(occurrences z y 0 z.length<|z.length+1).isEmpty with
  |true=>exact io jq (jv _ _ _) je (og _ _) (meets_str_split_not_found z y t u h1 hy hf)<|lay [(z,t)] s.toks (by unfold jw;rw[if_neg<|ne_true_of_eq_false h1,if_pos hf];rfl)
  |false=>
   refine io jq (jv _ _ _) je (og _ _) (meets_str_split_sep z y t u h1 hy hf hz hn) ?_;show EP X pZ σ Q _ { s with toks:=_,heap:=s.heap.push { cls:=.type "list",data:=.seq (strsFrom s.toks<|partsBetween z (occurrences z y 0 z.length<|z.length+1) y.length).toArray } };rw[strsFrom_eq];exact lay (numbered s.toks _) _<|(numbered_texts _ _).trans (by unfold jw;rw[if_neg<|ne_true_of_eq_false h1,if_neg<|ne_true_of_eq_false hf])
noncomputable def xP(c:Nat):List Nat->List (List Nat)
 |[]=>[[]]
 |x::r=>if x=c then []::xP c r else match xP c r with
  |[]=>[[x]]
  |s::t=>(x::s)::t
noncomputable def vU(s sep:List Nat):List (List Nat):=(jw ⟨s.toArray⟩ ⟨sep.toArray⟩).map λx=>x.cps.toList
def v5(f g:ME):ML:=λr=>(f r).bind λd=>(g r).bind λe=>match d,e with
 |.str s,.str sep=>if sep.length≠0/\s.length<ag then aA ((vU s sep).map .str) else aB
 |_,_=>aB
theorem tN(hy:1<=y.length):∀(yn:List Nat) (a f:Nat),ChainTo z y n a yn f->a<=n->a+yn.length<=n
 |[],a,f,_,h=>h
 |c::r,a,f,h,_=>by
  obtain⟨h1,⟨h2,_⟩,h3⟩:=h
  have:=tN hy r (c+y.length) f h3 h2
  rw[ac];omega
def Tg(z y:Str)(hy:(y.length == 0)=false):(partsBetween z (occurrences z y 0 z.length<|z.length+1) y.length).length<=z.length+1:=by
 rw[len_partsBetween];obtain⟨e,hc⟩:=occ_chain z y<|z.length+1;have N_:1<=y.length:=by
  have:y.length≠0:=by simpa using hy
  omega
 have:=tN N_ _ 0 e hc<|cz _
 omega
theorem Y9{K:Fg}:∀(ts:List Str),IsL K O H ((ts.map λx=>x.cps.toList).map D.str) (ts.map V.str)
 |[]=>.nil
 |t::ts=>.cons (by rw[yE])<|Y9 ts
def cS(ho:DE X a f)(ha:DE X b g)(fK:fq a "split" X.env (eval a X.env)=eval a X.env:=by rfl)(fI:sW apos eB:=by rfl)(iE:xc X [b] eB:=by rfl)(hs:aq [b] X.env=(false,eval b X.env)::aq [] X.env:=by rfl):DF X (.Call (.Attribute a "split" apos) [b] [] eB) (v5 f g):=by
 refine PE.aK (WE mh sr sk Ue ho (wV ha kT hs) fK iE fI hs) λσ H Q hq=>?_
 obtain⟨O0,r,l,hR,e,q⟩:=hq;obtain⟨x,e1,e2⟩:=aI e;obtain⟨y,e3,e4⟩:=aI e2;refine⟨O0,r,x,hR,e1,λv H1 s1 i1=>?_⟩;cases x<;>first|(simp only[reduceCtorEq] at e4;done)|skip
 cases y<;>first|(simp only[reduceCtorEq] at e4;done)|skip
 rename_i s sep;simp only at e4;split at e4
 .rename_i hl;have e5:(vU s sep).map D.str=l:=bp e4;subst e5;rw[yE] at i1;subst i1;refine⟨rfl,O0,r,_,hR.same s1,e3,λv2 H2 s2 i2=>?_⟩;rw[yE] at i2;have hy:((⟨sep.toArray⟩:Str).length == 0)=false:=by rw[str_len];simpa using hl.1
  have h5:=Tg (⟨s.toArray⟩:Str) ⟨sep.toArray⟩ hy;have h6:(⟨s.toArray⟩:Str).length=s.length:=str_len s;refine⟨_,_,rfl,by rw[i2],hy,by rw[h6];omega,by omega,λp hp=>q p _ _ ((s1.trans s2).trans<|xU hp) ((s1.trans s2).free hp) wL ?_⟩;exact Y9 _
 .cases e4
def z1(F:V->Hp->Prop):List V->Hp->Prop
 |[x],H=>F x H
 |_,_=>False
def GG:∀{vs:List V} {H:Hp},z1 F vs H->∃x,vs=[x]/\F x H
 |[x],_,h=>⟨x,rfl,h⟩
 |[],_,h=>h.elim
 |_::_::_,_,h=>h.elim
def O4(n:Nat)(h:0≠j):@Ne Addr (n:Nat) (n+j:Nat):=λe=>h<|Nat.add_left_cancel (show n+0=n+j from e)
def PX{K:Fg}(mo:∀a,M a->O a)(h:Dr K O H a xs):∀H1,Q9 M H H1->aV K H1 a xs:=λH1 k=>h.imp (λz=>Rd.keep k (λy=>z.1<|mo _ y) z.2) id
def Ta(hg:Gl X "enumerate")(hm:X.mg "enumerate" = aB)(ha:PE X a ta)(hs:aq [a] X.env=[(false,eval a X.env)]:=by rfl):PI X (.Tuple elts k tp) (.Call (.Name "enumerate" p) [a] [] pos) (λσ H R=>ta σ H λx H1=>∃u,x=.ref u/\(∃xs,aV X.K H1 u xs)/\R (Jd X.K u) H1):=by
 intro pZ s σ H R I h;have hA:PA X [a] (Ea ta Cg):=wV ha kT hs;refine Call_<|rX I hg hm PyProof.Rows.boot_enumerate<|gb (aS (hA pos pZ s σ H (z1 λx H1=>∃u,x=.ref u/\(∃xs,aV X.K H1 u xs)/\R (Jd X.K u) H1) I h) λus s1 ⟨vs,H1,I1,r1,q1⟩=>?_) hs rfl;obtain⟨_,rfl,u,rfl,⟨xs,hx⟩,q⟩:=GG q1;obtain⟨uu,rfl,ru⟩:=Vals.one r1;cases ru;obtain⟨its,_,pl,_⟩:=I1.list hx;refine call_enumerate_list pl.isList λh' z1 z2 _ kp=>wpAny_pyIter_enum z1 ?_
 refine⟨_,[s1.heap.objs.size+1,s1.heap.objs.size],_,_,H1,rfl,I1.kept (t':=s1.toks) kp,Vu u _ _ (O4 _<|by decide).symm,⟨⟨_,z1⟩,z2⟩,λb hb=>?_,q⟩;have hle:s1.heap.objs.size<=b:=by
  simp only[ki,av,or_false] at hb;rcases hb with h|h
  .rw[h];exact Nat.le_add_right _ _
  .rw[h];exact ao _
 exact I1.Bn hle<|I1.aP.fresh hle
noncomputable def W8(l:List D):List D:=l.zipIdx.map λp=>.tup [.int (p.2:Nat),p.1]
def D_(f:ME):ML:=λr=>(f r).bind λd=>match d with
 |.lst l=>aA<|W8 l
 |_=>aB
def M7{l:List D}{i:Nat}{d:D}(h:(W8 l)[i]?=aA d):∃x,l[i]?=aA x/\d=.tup [.int i,x]:=by
 unfold W8 at h;rw[az,List.getElem?_zipIdx] at h;cases e1:l[i]? with
 |none=>rw[e1] at h;cases h
 |some x=>rw[e1] at h;simp at h;exact⟨x,rfl,h.symm⟩
def Sr(hg:Gl X "enumerate")(hm:X.mg "enumerate" = aB)(ha:DE X a f)(hs:aq [a] X.env=[(false,eval a X.env)]:=by rfl):DI X (.Tuple elts k tp) (.Call (.Name "enumerate" p) [a] [] pos) (D_ f):=by
 refine PI.aK (Ta hg hm ha hs) λσ H Rr hq=>?_
 obtain⟨O0,r,ds,hR,e,q⟩:=hq;obtain⟨x,e1,e⟩:=aI e;refine⟨O0,r,x,hR,e1,λv1 H1 s1 i1=>?_⟩;have R1:=hR.same s1;cases x<;>first|(simp only[reduceCtorEq] at e;done)|skip
 rename_i l;simp only[cq] at e;subst e;rw[yV] at i1;obtain⟨u,xs,rfl,hx,il⟩:=i1;refine⟨u,rfl,⟨xs,hx.sq⟩,q _ H1 s1 ?_⟩;intro i H2 O' kp oo;have An:Q9 (Ow O0 r σ) H1 H2:=λb o e n=>kp b o e λz=>n<|.inr z.own
 have Hv:=PX (M:=iV r σ) (λa z=>.inr z.own) hx H2 kp;have hlen:(W8 l).length=l.length:=by simp[W8]
 refine⟨λhi=>⟨?_,λy H' yy=>?_⟩,λhi=>⟨xs,Hv,by rw[<-il.length,<-hlen];exact hi.symm⟩⟩
 .obtain⟨d,ed⟩:=oB hi;obtain⟨dx,ex,_⟩:=M7 ed;obtain⟨vx,q1,_⟩:=il.get ex;exact⟨xs,vx,Hv,q1⟩
 .obtain⟨T,w,rfl,nT,rfl,h1⟩:=yy;refine⟨xU nT,λd ed=>?_⟩;obtain⟨dx,ex,rfl⟩:=M7 ed;obtain⟨vx,q1,i1⟩:=il.get ex;have p1:=h1 xs Hv;rw[q1] at p1;cases p1;have kk:Q9 (Ow O0 r σ) H1 (upd H2 T<|.tup [.int i,w]):=λb o e' n=>by
   have:=An b o e' n
   rw[qM<|kY this nT];exact this
  rw[wE];exact⟨T,_,rfl,eI.of wL,.cons (by rw[zY])<|.cons (Is.mono kk R1.ol oo _ _ i1) .nil⟩
def FW(i:Nat)(g:MS):MS:=λr=>match r[i]? with
 |some (.o l)=>g<|r.set i<|.v<|.lst l
 |_=>aB
def R.rel{K:Fg}(h:R K O0 H r σ)(e:r[i]?=aA (.o l)):R K O0 H (r.set i<|.v<|.lst l) σ/\Kp H r σ H (r.set i<|.v<|.lst l) σ:=by
 have hi:i<r.length:=(ar.mp e).1;obtain⟨a,xs,e1,e2,e3⟩:=h.own i l (by rw[e];rfl);have sub:∀{q:Sl->Option (List D)} (_:∀d,q (.v d)=aB) b,q_ q (r.set i<|.v<|.lst l) σ b->q_ q r σ b:=λ{q} hq b ⟨j,m,ej,qj⟩=>by
  by_cases hj:i=j
  .subst hj;rw[yD hi] at ej;have OJ:q (.v<|.lst l)=aA m:=ej;rw[hq] at OJ;cases OJ
  .rw[zK hj] at ej;exact⟨j,m,ej,qj⟩
 have EE:∀b,Ow O0 (r.set i<|.v<|.lst l) σ b->H b≠aB->Ow O0 r σ b:=λb z _=>z.imp id<|sub (λ_=>rfl) b
 have na:¬Ow O0 (r.set i<|.v<|.lst l) σ a:=λz=>by
  rcases z with z|⟨j,m,ej,qj⟩
  .exact h.loc i l a (.inl e) e1 z
  .have hj:i≠j:=λz=>by subst z;rw[yD hi] at ej;cases ej
   rw[zK hj] at ej;exact hj<|h.apart i j a l m (by rw[e];rfl) ej e1 qj
 have ne:∀(j:Nat) (m:List D),((r.set i<|.v<|.lst l)[j]?).bind Sl.own=aA m->i≠j:=λj m ej z=>by subst z;rw[yD hi] at ej;cases ej
 refine⟨⟨by simp[h.len],λj d ej=>?_,λj m ej=>?_,λj k b m n e4 e5 q1 q2=>?_,h.o0,λj m b ej q=>?_,λj m b ej q=>?_,λj f ks m ej=>?_⟩,⟨λb o eb _=>eb,λb eb=>eb,λb o eb mb=>⟨o,eb,mb⟩,λb z=>.inl<|sub (λ_=>rfl) b z,λb z=>.inl<|sub (λ_=>rfl) b z,λj m ej=>?_,λj m ej=>?_⟩⟩
 .by_cases hj:i=j
  .subst hj;rw[yD hi] at ej;cases ej;refine⟨.ref a,e1,?_⟩;rw[yV];exact⟨a,xs,rfl,.inl ⟨na,.inl e2⟩,IsL.mono (aH.kp (aH.refl H) _) h.ol EE _ _ e3⟩
  .rw[zK hj] at ej;obtain⟨v,q1,q2⟩:=h.val j d ej;exact⟨v,q1,Is.mono (aH.kp (aH.refl H) _) h.ol EE _ _ q2⟩
 .have hj:=ne j m<|nY ej;rw[zK hj] at ej;obtain⟨b,ys,q1,q2,q3⟩:=h.own j m ej;exact⟨b,ys,q1,q2,IsL.mono (aH.kp (aH.refl H) _) h.ol EE _ _ q3⟩
 .have hj:=ne j m e4;have hk:=ne k n e5;rw[zK hj] at e4;rw[zK hk] at e5;exact h.apart j k b m n e4 e5 q1 q2
 .have hj:i≠j:=ne j m (by rcases ej with ej|ej|⟨_,ej⟩<;>rw[ej]<;>rfl);rw[zK hj] at ej;exact h.loc j m b ej q
 .have hj:i≠j:=ne j _ (rL ej).choose_spec;rw[zK hj] at ej;exact h.par j m b ej q
 .have hj:=ne j m (by rw[ej];rfl);rw[zK hj] at ej;obtain⟨b,aM,q1,q2,q4,q3⟩:=h.fL j f ks m ej;exact⟨b,aM,q1,q2,q4,IsL.mono (aH.kp (aH.refl H) _) h.ol EE _ _ q3⟩
 .have hj:i≠j:=λz=>by subst z;rw[e] at ej;cases ej
  exact⟨by rw[zK hj];exact ej,rfl⟩
 .have hj:i≠j:=λz=>by subst z;rw[e] at ej;cases ej
  exact⟨by rw[zK hj];exact ej,rfl⟩
def Ry(i:Nat)(h:lQ X VT g):lQ X VT (FW i g):=by
 refine eS.aK h λDn σ H hq=>?_
 obtain⟨O0,r,fl,hR,e,q⟩:=hq;unfold FW at e;have⟨l,e1,e2⟩:∃l,r[i]?=aA (.o l)/\g (r.set i<|.v<|.lst l)=aA fl:=by
  split at e
  .rename_i l h;exact⟨l,h,e⟩
  .cases e
 obtain⟨R1,k1⟩:=hR.rel e1;exact⟨O0,_,fl,R1,e2,vq.before R1 k1 q⟩
def Bm(i:Nat)(r:En):Option En:=match r[i]? with
 |some (.o l)=>aA<|r.set i<|.z l
 |_=>aB
def AY(i:Nat)(r:En):Option En:=match r[i]? with
 |some (.z l)=>aA<|r.set i<|.o l
 |_=>aB
def Nw(i:Nat):Fl->Option Fl
 |.nx r=>(AY i r).map .nx
 |.bk r=>(AY i r).map .bk
 |.ct r=>(AY i r).map .ct
 |.rt d r=>(AY i r).map<|.rt d
 |.rf _ _=>aB
 |.rg _ _ _=>aB
def sZ(i:Nat)(g:MS):MS:=λr=>(Bm i r).bind λr1=>(g r1).bind<|Nw i
def R.swap{K:Fg}(h:R K O0 H r σ)(hy:(r[i]?=aA (.o l)/\y=.z l)\/(r[i]?=aA (.z l)/\y=.o l)):R K O0 H (r.set i y) σ/\∀b,o7 (r.set i y) σ b↔o7 r σ b:=by
 have eo:(r[i]?).bind Sl.own=aA l:=by rcases hy with⟨e,_⟩|⟨e,_⟩<;>rw[e]<;>rfl
 have yo:y.own=aA l:=by rcases hy with⟨_,e⟩|⟨_,e⟩<;>rw[e]<;>rfl
 have hi:i<r.length:=by
  rcases hy with⟨e,_⟩|⟨e,_⟩<;>exact(ar.mp e).1
 have own:∀j,((r.set i y)[j]?).bind Sl.own=(r[j]?).bind Sl.own:=λj=>by
  by_cases hj:i=j
  .subst hj;rw[yD hi,eo];exact yo
  .rw[zK hj]
 have Xb:∀j,((r.set i y)[j]?).bind Sl.ls=(r[j]?).bind Sl.ls:=λj=>by
  by_cases hj:i=j
  .subst hj;rw[yD hi];rcases hy with⟨e,e2⟩|⟨e,e2⟩<;>rw[e,e2]<;>rfl
  .rw[zK hj]
 have at_:∀b,o7 (r.set i y) σ b↔o7 r σ b:=λb=>⟨λ⟨j,m,e,q⟩=>⟨j,m,by rw[<-own j];exact e,q⟩,λ⟨j,m,e,q⟩=>⟨j,m,by rw[own j];exact e,q⟩⟩
 have ow:∀b,Ow O0 (r.set i y) σ b->H b≠aB->Ow O0 r σ b:=λb z _=>z.imp id (at_ b).mp
 refine⟨⟨by simp[h.len],λj d ej=>?_,λj m ej=>?_,λj k b m n e4 e5=>?_,h.o0,λj m b ej q=>?_,λj m b ej q=>?_,λj f ks m ej=>?_⟩,at_⟩
 .have hj:i≠j:=λz=>by subst z;rw[yD hi] at ej;cases ej;cases yo
  rw[zK hj] at ej;obtain⟨v,q1,q2⟩:=h.val j d ej;exact⟨v,q1,Is.mono (aH.kp (aH.refl H) _) h.ol ow _ _ q2⟩
 .rw[Xb j] at ej;obtain⟨b,ys,q1,q2,q3⟩:=h.own j m ej;exact⟨b,ys,q1,q2,IsL.mono (aH.kp (aH.refl H) _) h.ol ow _ _ q3⟩
 .rw[own j] at e4;rw[own k] at e5;exact h.apart j k b m n e4 e5
 .by_cases hj:i=j
  .subst hj;rcases hy with⟨e,_⟩|⟨e,_⟩
   .exact h.loc i l b (.inl e) q
   .exact h.loc i l b (.inr<|.inl e) q
  .rw[zK hj] at ej;exact h.loc j m b ej q
 .by_cases hj:i=j
  .subst hj;rw[yD hi] at ej;rcases hy with⟨_,e⟩|⟨_,e⟩<;>rw[e] at ej<;>cases ej
  .rw[zK hj] at ej;exact h.par j m b ej q
 .have hj:i≠j:=λz=>by
   subst z;rw[yD hi] at ej;rcases hy with⟨_,e⟩|⟨_,e⟩<;>rw[e] at ej<;>cases ej
  rw[zK hj] at ej;obtain⟨b,aM,q1,q2,q4,q3⟩:=h.fL j f ks m ej;exact⟨b,aM,q1,q2,q4,IsL.mono (aH.kp (aH.refl H) _) h.ol ow _ _ q3⟩
def oT(e:Bm i r=aA r1):∃l,r[i]?=aA (.o l)/\r1=r.set i (.z l):=by
 unfold Bm at e;split at e
 .rename_i l h;cases e;exact⟨l,h,rfl⟩
 .cases e
def UE(e:AY i r=aA r1):∃l,r[i]?=aA (.z l)/\r1=r.set i (.o l):=by
 unfold AY at e;split at e
 .rename_i l h;cases e;exact⟨l,h,rfl⟩
 .cases e
def tR{K:Fg}(hR:R K O0 H r σ)(e:Bm i r=aA r1)(k:Kp H r1 σ H' r2 σ2)(R2:R K O0 H' r2 σ2)(e':AY i r2=aA r3):R K O0 H' r3 σ2/\Kp H r σ H' r3 σ2:=by
 obtain⟨l,el,rfl⟩:=oT e;obtain⟨l2,OI,rfl⟩:=UE e';have hi:i<r.length:=(ar.mp el).1;have Zj:i<r2.length:=(ar.mp OI).1;obtain⟨R1,ï⟩:=hR.swap (y:=.z l)<|.inl ⟨el,rfl⟩;obtain⟨R3,î⟩:=R2.swap (y:=.o l2)<|.inr ⟨OI,rfl⟩;obtain⟨q1,q2⟩:=k.fz i l<|yD hi;have m1:∀b,iV (r.set i<|.z l) σ b->iV r σ b:=λb ⟨j,m,ej,qj⟩=>by
  have hj:i≠j:=λz=>by subst z;rw[yD hi] at ej;cases ej
  rw[zK hj] at ej;exact⟨j,m,ej,qj⟩
 refine⟨R3,⟨λb o eb n=>k.keep b o eb λz=>n<|m1 b z,k.live,k.lst,λb z=>(k.new b<|(î b).mp z).imp (ï b).mp id,λb z=>?_,λj m ej=>?_,λj m ej=>?_⟩⟩
 .obtain⟨j,m,ej,qj⟩:=z;by_cases hj:i=j
  .subst hj;exact .inl ⟨i,l,by rw[el];rfl,by rw[<-q2];exact qj⟩
  .rw[zK hj] at ej;exact(k.BV b ⟨j,m,ej,qj⟩).imp (m1 b) id
 .have hj:i≠j:=λz=>by subst z;rw[el] at ej;cases ej
  obtain⟨e1,e2⟩:=k.par j m (by rw[zK hj];exact ej);exact⟨by rw[zK hj];exact e1,e2⟩
 .have hj:i≠j:=λz=>by subst z;rw[el] at ej;cases ej
  obtain⟨e1,e2⟩:=k.fz j m (by rw[zK hj];exact ej);exact⟨by rw[zK hj];exact e1,e2⟩
def O5(i:Nat){st:Stmt}(h:DS X st g):DS X st (sZ i g):=by
 refine PS.aK h λDn σ H hq=>?_
 obtain⟨O0,r,fl,hR,e,q⟩:=hq;obtain⟨r1,e1,e2⟩:=aI e;obtain⟨f1,e3,e4⟩:=aI e2;have R1:R X.K O0 H r1 σ:=by
  obtain⟨l,el,rfl⟩:=oT e1;exact(hR.swap (y:=.z l)<|.inl ⟨el,rfl⟩).1
 refine⟨O0,r1,f1,R1,e3,?_⟩;cases f1 with
 |nx r2=>
  obtain⟨r3,e5,rfl⟩:=a8 e4;exact λσ' H' R' k'=>let ⟨R3,k3⟩:=tR hR e1 k' R' e5;q σ' H' R3 k3
 |bk r2=>
  obtain⟨r3,e5,rfl⟩:=a8 e4;exact λσ' H' R' k'=>let ⟨R3,k3⟩:=tR hR e1 k' R' e5;q σ' H' R3 k3
 |ct r2=>
  obtain⟨r3,e5,rfl⟩:=a8 e4;exact λσ' H' R' k'=>let ⟨R3,k3⟩:=tR hR e1 k' R' e5;q σ' H' R3 k3
 |rt d r2=>
  obtain⟨r3,e5,rfl⟩:=a8 e4;exact λv σ' H' R' k' iv=>let ⟨R3,k3⟩:=tR hR e1 k' R' e5;q v σ' H' R3 k3 iv
 |rf l r2=>cases e4
 |rg ks l r2=>cases e4
def lK(K:Fg)(f:ML):TE:=λσ H Q=>∃O0 r l,R K O0 H r σ/\f r=aA l/\∀u xs H',aH H H'->(∀H1,Q9 (iV r σ) H' H1->aV K H1 u xs)->IsL K (Ow O0 r σ) H' l xs->Q (.ref u) H'
def DK(X:Cx)(e:Expr)(f:ML):Prop:=PE X e<|lK X.K f
def l7(i:Nat):ML:=λr=>match r[i]? with
 |some (.z l)=>aA l
 |_=>aB
def yz(i:Nat)(h:PE X (.Name x pos) (sA i)):DK X (.Name x pos) (l7 i):=by
 refine PE.aK h λσ H Q hq=>?_
 obtain⟨O0,r,l,hR,e,q⟩:=hq;have e':r[i]?=aA (.z l):=by
  unfold l7 at e;split at e
  .rename_i l' h;cases e;exact h
  .cases e
 obtain⟨u,xs,e1,e2,e3⟩:=hR.own i l (by rw[e'];rfl);refine⟨.ref u,e1,q u xs H (aH.refl H) (λH1 k1=>aV.of<|k1 _ _ e2 λ⟨j,m,ej,qj⟩=>?_) e3⟩;obtain⟨y,ey,ym⟩:=aI ej
 have:=hR.apart i j u l m (by rw[e'];rfl) (by rw[ey];exact rS ym) e1 qj
 subst this;rw[e'] at ey;cases ey;cases ym
def Wr:Z2 (λ_=>False) H:=λ_ z=>z.elim
theorem KD(vj:l≠it):∀(n i:Nat) (s:Shared) (Q:List Value->Shared->Prop),s.heap.IsListIter it l i->s.heap.IsList l ys->i+n<=ys.size ->
  (∀g,g.IsListIter it l (i+n)->kf it s.heap g->Q ((ys.toList.drop i).take n) { s with heap:=g })->wpAny (model prog w) A (draw (.ref it) n) Q E s
 |0,i,s,Q,h1,_,_,h=>by
  show wpAny _ _ (pure []) Q E s;exact bb (by simpa using h s.heap h1 (kf.refl ..))
 |n+1,i,s,Q,h1,h2,h3,h=>by
  have hl:i<ys.size:=by omega
  show wpAny _ _ (pyNext (.ref it) >>= _) Q E s;refine aj<|rp h1 h2 (x:=ys[i]) (by simp[hl]) λg1 k1 t1=>?_;refine aj<|ja<|KD vj n (i+1) _ _ k1 (h2.extBut t1.extBut vj) (by omega) λg2 k2 t2=>bb ?_;have hd:ys.toList.drop i=ys[i]::ys.toList.drop (i+1):=by simp[qr,hl]
  have:=h g2 (by rw[show i+(n+1)=i+1+n by omega];exact k2)<|t1.trans t2
  rw[hd,List.take_succ_cons] at this;exact this
def Tu(hh:A.handled=aB)(h2:s.heap.IsList l ys)(h:∀g,Heap.ExtBut s.heap.objs.size s.heap g->Q ys.toList { s with heap:=g }):wpAny (model prog w) A (unpackItems (.ref l) ys.size aB) Q E s:=by
 have iH:l≠s.heap.objs.size:=by obtain⟨o,e,_⟩:=h2;exact bv<|ax e
 unfold unpackItems;refine aj ?_;unfold notIterableAtAll;refine aj<|pw h2.typeIs F.slot_list_iter.lookup<|bb ?_;simp only[iq,if_false];refine aj<|ja<|oj h2 ?_;refine aj<|ja<|KD iH ys.size 0 _ _ ⟨_,cn _ rfl,rfl,rfl⟩ (h2.push _) (by omega) λg1 k1 t1=>?_;have ha:List.take ys.size (List.drop 0 ys.toList)=ys.toList:=by rw[qm];exact td (by simp)
 rw[ha,if_neg<|by simp];refine aj<|ja<|uc hh k1 ((h2.push _).extBut t1.extBut iH) (by simp) λg2 t2=>?_;simp only[Option.isSome_none,iq,if_false];exact bb<|h g2 λb o hb e=>t2 b o hb<|t1.extBut b o hb<|ay _ e
def Se(hc:X.calm=true)(h:xa X es t)(hn:(gm es X.env).length=n:=by rfl)(iN:(gm es X.env).findIdx? (·.1)=aB:=by rfl):PG X (.Tuple es k pos) (λv σ H Q=>∃a xs,v=.ref a/\(eI X.K H a xs\/aV X.K H a xs)/\xs.length=n/\t xs σ H Q):=by
 intro pZ s σ H v u Q I r hw;obtain⟨a,xs,e1,hq,hl,hw⟩:=hw;subst e1;cases r;rcases hq with hq|hq
 .exact Sf hc h hn iN pZ s σ H (.ref a) (.ref a) Q I rfl ⟨a,xs,rfl,hq,hl,hw⟩
 .obtain⟨its,rv,pl,hz⟩:=I.list hq;rw[assign_Tuple];refine aj<|qu ?_;unfold unpack;rw[iN];have vi:(gm es X.env).length=its.toArray.size:=by rw[hn,ai,<-rv.length];exact hl.symm
  rw[vi];refine aj<|ja<|Tu (I.ok.hd hc) pl.isList λg hx=>?_;have I1:Inv X pZ σ H { s with heap:=g }:=I.kept (t':=s.toks) λb o e=>hx b o (bv<|ax e) e
  exact h pZ _ σ H xs _ Q I1 (by simpa using rv) hw
def cT(n:Nat)(bs:List D->En->Option En):D->En->Option En:=λd r=>match d with
 |.tup l=>if l.length=n then bs l r else aB
 |.lst l=>if l.length=n then bs l r else aB
 |_=>aB
def J2(hc:X.calm=true)(h:FF X es bs)(hn:(gm es X.env).length=n:=by rfl)(iN:(gm es X.env).findIdx? (·.1)=aB:=by rfl):DG X (.Tuple es k pos) (cT n bs):=by
 refine PG.aK (Se hc h hn iN) λv σ H Q h=>?_
 obtain⟨O0,r,d,r',hR,iv,e,q⟩:=h;cases d<;>first|(simp only[cT,reduceCtorEq] at e;done)|skip
 .rename_i l;rw[wE] at iv;obtain⟨a,xs,rfl,hs,il⟩:=iv;simp only[cT] at e;split at e
  .rename_i hl;exact⟨a,xs,rfl,.inl hs,by rw[<-il.length];exact hl,O0,r,l,r',hR,il,e,q⟩
  .cases e
 .rename_i l;rw[yV] at iv;obtain⟨a,xs,rfl,hs,il⟩:=iv;simp only[cT] at e;split at e
  .rename_i hl;exact⟨a,xs,rfl,.inr hs.sq,by rw[<-il.length];exact hl,O0,r,l,r',hR,il,e,q⟩
  .cases e
set_option maxRecDepth 9000 in
def O7(l:Addr)(xs:Array Value)(n:Nat)(b:Addr)(cl:Value)(dd:Option Addr)(ys:Array Value)(n2:Nat)(sl:Array (Option Value))(Bi:cl=.type "tuple")(h0:¬(!xs.isEmpty && ig (xs.size+ys.size))=true)(h1:xs.size<=ag)(h2:xs.size+ys.size<=ag+1):Meets (Builtin.«list.extend» ⟨[.ref l,.ref b],[]⟩) (λ_ R s=>s.heap.get? l=aA { cls:=.type "list",dict:=aB,data:=.seq xs n,slots:=#[] }/\s.heap.get? b=aA { cls:=cl,dict:=dd,data:=.seq ys n2,slots:=sl }/\R (.ok<|.ret Value.none) { s with heap:=s.heap.update l<|kx λx=>x++ys,toks:=s.toks }):=
 .of_wp λprog w A R s h=>by
  subst Bi;obtain⟨hp,g,d,tk,os⟩:=s;obtain⟨hl,hb,h⟩:=h;have f1:=AutoSeq1.idx_int;have f2:=re;have f3:=ub;have f4:=rm;have f5:=rn;have hz:(xs++ys).size<=ag+1:=by rw[Array.size_append];exact h2
  wp_walk using (pr hl rfl (hz:=h1) (_hz':=hz)),wpAny_loadPart' hl,wpAny_loadPart' hb;exact⟨_,rfl,h⟩
set_option maxRecDepth 9000 in
def O6(l:Addr)(xs:Array Value)(n:Nat)(b:Addr)(cl:Value)(dd:Option Addr)(ys:Array Value)(n2:Nat)(sl:Array (Option Value))(Bi:cl=.type "list")(h0:¬(!xs.isEmpty && ig (xs.size+ys.size))=true)(h1:xs.size<=ag)(h2:xs.size+ys.size<=ag+1):Meets (Builtin.«list.extend» ⟨[.ref l,.ref b],[]⟩) (λ_ R s=>s.heap.get? l=aA { cls:=.type "list",dict:=aB,data:=.seq xs n,slots:=#[] }/\s.heap.get? b=aA { cls:=cl,dict:=dd,data:=.seq ys n2,slots:=sl }/\R (.ok<|.ret Value.none) { s with heap:=s.heap.update l<|kx λx=>x++ys,toks:=s.toks }):=
 .of_wp λprog w A R s h=>by
  subst Bi;obtain⟨hp,g,d,tk,os⟩:=s;obtain⟨hl,hb,h⟩:=h;have f1:=AutoSeq1.idx_int;have f2:=re;have f3:=ub;have f4:=rm;have f5:=rn;have hz:(xs++ys).size<=ag+1:=by rw[Array.size_append];exact h2
  wp_walk using (pr hl rfl (hz:=h1) (_hz':=hz)),wpAny_loadPart' hl,wpAny_loadPart' hb;exact⟨_,rfl,h⟩
def Ql(K:Fg):V->List V->Hp->VK->Prop:=λx vs H Q=>∃l b xs zs,x=.ref l/\vs=[.ref b]/\H l=aA (.lst xs)/\(aV K H b zs\/eI K H b zs)/\xs.length+zs.length<=ag/\Q .aG (upd H l<|.lst<|xs++zs)
def Td:Bs X "list.extend" (Ql X.K):=by
 intro pZ s σ H x vs v us Q I rx rv h;obtain⟨l,b,xs,zs,rfl,rfl,hH,hB,hz,q⟩:=h;cases rx;obtain⟨u,rfl,ru⟩:=rv.one;cases ru;obtain⟨z,its,n,r,hl,e⟩:=I.HL hH;have fin:∀(fF:List Value),Vals zs fF->¬(!its.toArray.isEmpty && ig (its.toArray.size+fF.toArray.size))=true/\its.toArray.size<=ag/\its.toArray.size+fF.toArray.size<=ag+1 /\
   EP X pZ σ Q Value.none { s with heap:=s.heap.update l<|kx λx=>x++fF.toArray,toks:=s.toks }:=λfF r2=>by
  have Ir:=r2.length;have vi:its.toArray.size+fF.toArray.size<=ag:=by rw[ai,ai];omega
  refine⟨by rw[Uf vi,Bool.and_false];exact ah,by rw[ai];omega,by omega,.aG,_,I.HM (its':=its++fF) hH e (by simp) (r.append r2) ?_,rfl,q⟩;rw[ae];omega
 rcases hB with hB|hB
 .obtain⟨fF,r2,⟨⟨c2,d2,ß,zf⟩,n2,g2,hc,hd,hs⟩,z2⟩:=I.list hB;simp only at hc hd hs;subst hs;obtain⟨f1,f2,f3,f4⟩:=fin fF r2;exact io F.slot_list_extend ⟨_,e,rfl⟩ vc (uv _ _) (O6 l its.toArray n b _ _ fF.toArray n2 _ hc f1 f2 f3) ⟨e,g2,f4⟩
 .obtain⟨fF,r2,⟨⟨c2,d2,ß,zf⟩,g2,hc,n2,hs⟩,z2⟩:=I.tuple hB;simp only at hc hs;subst hs;obtain⟨f1,f2,f3,f4⟩:=fin fF r2;exact io F.slot_list_extend ⟨_,e,rfl⟩ vc (uv _ _) (O7 l its.toArray n b _ _ fF.toArray n2 _ hc f1 f2 f3) ⟨e,g2,f4⟩
def tH(i:Nat)(h:PE X (.Name x pn) (sA i))(he:DE X e f)(fI:sW apos eB:=by rfl)(fK:fq (.Name x pn) "extend" X.env (eval (.Name x pn) X.env)=eval (.Name x pn) X.env:=by rfl)(iE:xc X [e] eB:=by rfl)(hs:aq [e] X.env=(false,eval e X.env)::aq [] X.env:=by rfl):DX X (.Call (.Attribute (.Name x pn) "extend" apos) [e] [] eB) (zt i f):=by
 refine PE.aK (WE dv PySem.F.slot_list_extend PySem.F.type_list_extend Td h (wV he kT hs) fK iE fI hs) λσ H Q hq=>?_
 obtain⟨O0,r,d',r',hR,e,q⟩:=hq;obtain⟨d,e1,e⟩:=aI e;obtain⟨m,em,e⟩:=aI e;obtain⟨l,e2,e⟩:=aI e;split at e
 .rename_i hl;obtain⟨r2,e3,e4⟩:=a8 e;cases e4;obtain⟨a,xs,q1,q2,q3⟩:=YQ hR e2;refine⟨.ref a,q1,.inl ⟨rfl,xs,aV.of q2⟩,O0,r,d,hR,e1,λv H1 s1 i1=>?_⟩;have R1:=hR.same s1;have key:∃b zs,v=.ref b/\(aV X.K H1 b zs\/eI X.K H1 b zs)/\IsL X.K (Ow O0 r σ) H1 m zs:=by
   cases d<;>first|(cases em;done)|skip
   .cases em;rw[wE] at i1;obtain⟨b,zs,rfl,h1,h2⟩:=i1;exact⟨b,zs,rfl,.inr h1,h2⟩
   .cases em;rw[yV] at i1;obtain⟨b,zs,rfl,h1,h2⟩:=i1;exact⟨b,zs,rfl,.inl h1.sq,h2⟩
  obtain⟨b,zs,rfl,hb,il⟩:=key;obtain⟨R2,k2⟩:=R1.upd (xs':=xs++zs) e3 q1 (s1 _ _ q2)<|(q3.same s1 hR.ol).append il;exact⟨a,b,xs,zs,rfl,rfl,s1 _ _ q2,hb,by rw[<-q3.length,<-il.length];exact hl,q _ _ R2 ((Kp.of_same r σ s1).trans k2)<|by rw[jH]⟩
 .cases e
def xh:List V->List V->Bool
 |[],[]=>true
 |x::xs,y::ys=>sJ x y && xh xs ys
 |_,_=>false
def zy:List D->List D->Bool
 |[],[]=>true
 |x::xs,y::ys=>sK x y && zy xs ys
 |_,_=>false
def DQ(xs ys:List V)(j:Nat):Bool:=match xs[j]?,ys[j]? with
 |some x,aA y=>sJ x y
 |_,_=>false
theorem rH:∀(xs ys:List V),xs.length=ys.length->(db xs.length).all (DQ xs ys)=xh xs ys
 |[],[],_=>rfl
 |x::xs,y::ys,h=>by
  rw[ac,List.range_succ_eq_map,ie,pc,xh,<-rH xs ys<|by simpa using h];rfl
 |[],y::ys,h=>by simp at h
 |x::xs,[],h=>by simp at h
theorem XD:∀(xs ys:List V),xs.length≠ys.length->xh xs ys=false
 |[],[],h=>by simp at h
 |x::xs,y::ys,h=>by rw[xh,XD xs ys<|by simpa using h,Bool.and_false]
 |[],y::ys,h=>rfl
 |x::xs,[],h=>rfl
theorem XC{K:Fg}:∀{l:List D} {xs:List V},IsL K O H l xs->l.all uJ=true->xs.all gZ=true
 |[],xs,h,_=>by unfold IsL at h;subst h;rfl
 |d::l,xs,h,f=>by
  rw[ie,bo] at f;unfold IsL at h;obtain⟨v,r,rfl,h1,h2⟩:=h;rw[ie,ZN h1 f.1,XC h2 f.2];rfl
theorem L5{K:Fg}:∀{l m:List D} {xs ys:List V},IsL K O H l xs->IsL K O H m ys->l.all uJ=true->m.all uJ=true->xh xs ys=zy l m
 |[],m,xs,ys,h,h',_,_=>by
  unfold IsL at h;subst h;cases m with
  |nil=>unfold IsL at h';subst h';rfl
  |cons e m=>unfold IsL at h';obtain⟨v,r,rfl,_,_⟩:=h';rfl
 |d::l,m,xs,ys,h,h',f,f'=>by
  unfold IsL at h;obtain⟨v,r,rfl,h1,h2⟩:=h;cases m with
  |nil=>unfold IsL at h';subst h';rfl
  |cons e m=>
   rw[ie,bo] at f f';unfold IsL at h';obtain⟨v',r',rfl,Bl,Dm⟩:=h';rw[xh,zy,L5 h2 Dm f.2 f'.2,KQ h1 f.1 Bl f'.1]
def L6{K:Fg}:∀{l m:List D} {xs ys:List V},IsL K O H l xs->IsL K O H m ys->l.all uJ=true->m.all uJ=true->xs.all gZ=true/\ys.all gZ=true/\xh xs ys=zy l m:=λh h' f f'=>⟨XC h f,XC h' f',L5 h h' f f'⟩
def DH(K:Fg)(neg:Bool):R2:=λx y H Q=>∃p q xs ys,x=.ref p/\y=.ref q/\aV K H p xs/\aV K H q ys/\xs.all gZ=true/\ys.all gZ=true/\Q (.bl (if neg then !xh xs ys else xh xs ys)) H
def LO{xs:List V}{j:Nat}{x:V}(h:xs.all gZ=true)(e:xs[j]?=aA x):gZ x=true:=eg.mp h x<|kl e
def Mu(r:Vals xs its)(h:j<its.toArray.size):∃x,xs[j]?=aA x/\RelV x its.toArray[j]:=by
 have hj:j<xs.length:=by rw[r.length];simpa using h
 obtain⟨u,e,q⟩:=r.get (i:=j) (x:=xs[j]) (by simp[hj]);refine⟨xs[j],by simp[hj],?_⟩
 have:its.toArray[j]=u:=by
  have h':j<its.length:=by simpa using h
  simp only[List.getElem_toArray];rw[ft h'] at e;exact bp e
 rw[this];exact q
def Nb{A:Around}{s:Shared}{xs ys:List V}{its fF:List Value}(r:Vals xs its)(r2:Vals ys fF)(fx:xs.all gZ=true)(fy:ys.all gZ=true):∀j (h1:j<its.toArray.size) (h2:j<fF.toArray.size),da A s its.toArray[j] fF.toArray[j] (DQ xs ys j):=by
 intro j h1 h2;obtain⟨x,e1,q1⟩:=Mu r h1;obtain⟨y,e2,q2⟩:=Mu r2 h2
 have:DQ xs ys j=sJ x y:=by unfold DQ;rw[e1,e2]
 rw[this];exact KP q1 q2 (LO fx e1)<|LO fy e2
def Le(hu:X.A.units<cLine):c_ X (bz .Eq) (DH X.K false):=by
 intro pZ s σ H x y v u Q I rx ry h;obtain⟨p,q',xs,ys,rfl,rfl,h1,h2,fx,fy,q⟩:=h;cases rx;cases ry;obtain⟨its,r,pl,hz⟩:=I.list h1;obtain⟨fF,r2,vf,B0⟩:=I.list h2;have n1:=r.length;have n2:=r2.length;by_cases hl:xs.length=ys.length
 .refine SeqAt.eq_listAt pl.isList vf.isList (by simp only[ai];omega) hu (Nb r r2 fx fy)<|qC I q ?_;rw[ai,<-n1,rH xs ys hl];rfl
 .refine rj pl.isList vf.isList (by simp only[ai,bne_iff_ne];omega) hu<|qC I q ?_;rw[XD xs ys hl];rfl
def Lf(hu:X.A.units<cLine):c_ X (bz .NotEq) (DH X.K true):=by
 intro pZ s σ H x y v u Q I rx ry h;obtain⟨p,q',xs,ys,rfl,rfl,h1,h2,fx,fy,q⟩:=h;cases rx;cases ry;obtain⟨its,r,pl,hz⟩:=I.list h1;obtain⟨fF,r2,vf,B0⟩:=I.list h2;have n1:=r.length;have n2:=r2.length;by_cases hl:xs.length=ys.length
 .refine si.lists pl.isList vf.isList (by simp only[ai];omega) hu (Nb r r2 fx fy) _ _ _ _<|qC I q ?_;rw[ai,<-n1,rH xs ys hl];rfl
 .refine qf pl.isList vf.isList (by simp only[ai,bne_iff_ne];omega) hu _ _ _ _<|qC I q ?_;rw[XD xs ys hl];rfl
def aQ(x y:D):Option D:=match x,y with
 |.lst l,.lst m=>if l.all uJ=true/\m.all uJ=true then aA (.bl<|zy l m) else aB
 |x,y=>OF x y
def d_(x y:D):Option D:=match x,y with
 |.lst l,.lst m=>if l.all uJ=true/\m.all uJ=true then aA (.bl<|!zy l m) else aB
 |x,y=>NW x y
def Jl(K:Fg):R2:=λx y H Q=>DH K false x y H Q\/HD x y H Q
def Jt(K:Fg):R2:=λx y H Q=>DH K true x y H Q\/HB x y H Q
def qH(hu:X.A.units<cLine):c_ X (bz .Eq) (Jl X.K):=(Le hu).or Qg
def k8(hu:X.A.units<cLine):c_ X (bz .NotEq) (Jt X.K):=(Lf hu).or Qh
def qI{K:Fg}:eT K (Jl K) aQ:=by
 intro O H dx dy d vx vy Q ol ix iy e q;unfold aQ at e;split at e
 .rename_i l m;split at e
  .rename_i hf;cases e;rw[yV] at ix iy;obtain⟨a,xs,rfl,hs,il⟩:=ix;obtain⟨b,ys,rfl,yh,vh⟩:=iy;obtain⟨f1,f2,f3⟩:=L6 il vh hf.1 hf.2;exact .inl ⟨a,b,xs,ys,rfl,rfl,hs.sq,yh.sq,f1,f2,q _ H (aH.refl H) (by rw[yY,f3];rfl)⟩
  .cases e
 .exact .inr<|P0 O H dx dy d vx vy Q ol ix iy e q
def vB{K:Fg}:eT K (Jt K) d_:=by
 intro O H dx dy d vx vy Q ol ix iy e q;unfold d_ at e;split at e
 .rename_i l m;split at e
  .rename_i hf;cases e;rw[yV] at ix iy;obtain⟨a,xs,rfl,hs,il⟩:=ix;obtain⟨b,ys,rfl,yh,vh⟩:=iy;obtain⟨f1,f2,f3⟩:=L6 il vh hf.1 hf.2;exact .inl ⟨a,b,xs,ys,rfl,rfl,hs.sq,yh.sq,f1,f2,q _ H (aH.refl H) (by rw[yY,f3];rfl)⟩
  .cases e
 .exact .inr<|Qf O H dx dy d vx vy Q ol ix iy e q
def yw(hl:DK X l fl):DI X tg l fl:=by
 refine PI.aK (Lm hl) λσ H Rr h=>?_
 obtain⟨O0,r,ds,hR,e,q⟩:=h;refine⟨O0,r,ds,hR,e,λu xs H1 s1 kp il=>?_⟩;exact⟨u,rfl,.inl ⟨⟨xs,kp H1 λb o e _=>e⟩,q _ H1 s1<|MC (λa z=>.inr z.own) (hR.same s1).ol kp il⟩⟩
abbrev MZ:=En->Option (List D×List D)
def zP(fs:ML):MZ:=λr=>(fs r).map λes=>([],es)
def lZ(K:Fg)(i:Nat)(f:MZ):TA:=λσ H Q=>∃O0 r l ds es,R K O0 H r σ/\ZF r i=aA l/\f r=aA (ds,es)/\∀vs a us H',aH H H'->σ[i]?=aA (aA<|.ref a)->IsL K (Ow O0 r σ) H' ds vs->IsL K (Ow O0 r σ) H' es us->Q (vs++.ref a::us) H'
def DZ(X:Cx)(i:Nat)(es:List Expr)(f:MZ):Prop:=PA X es<|lZ X.K i f
def j_(h:PE X (.Name x pn) (sA i))(hr:DA X es fs)(hs:aq (.Name x pn::es) X.env=(false,eval (.Name x pn) X.env)::aq es X.env:=by rfl):DZ X i (.Name x pn::es) (zP fs):=by
 refine PA.aK (wV h hr hs) λσ H Q hq=>?_
 obtain⟨O0,r,l,ds,us,hR,em,e,q⟩:=hq;obtain⟨ğ,e1,e2⟩:=a8 e;cases e2;obtain⟨c,xs,q1,q2,q3⟩:=YQ hR em;exact⟨.ref c,q1,O0,r,_,hR,e1,λvs H1 s1 i1=>q [] c vs H1 s1 q1 .nil i1⟩
noncomputable def o3(ds:List D)(l:List D)(es:List D):List Sl:=ds.map .v++.p l::es.map .v
def bR(e:(o3 ds l es)[j]?=aA x):(∃d,x=.v d/\(ds++.aG::es)[j]?=aA d/\j≠ds.length)\/(x=.p l/\j=ds.length):=by
 unfold o3 at e;by_cases h:j<ds.length
 .rw[au<|by simpa using h,az] at e;rw[au h];cases e1:ds[j]? with
  |none=>rw[e1] at e;cases e
  |some d=>rw[e1] at e;cases e;exact .inl ⟨d,rfl,rfl,by omega⟩
 .rw[bn<|by simpa using h] at e;rw[bn<|by omega];simp only[af] at e;cases e2:j-ds.length with
  |zero=>rw[e2] at e;cases e;exact .inr ⟨rfl,by omega⟩
  |succ k=>
   rw[e2,ik,az] at e;rw[ik];cases e1:es[k]? with
   |none=>rw[e1] at e;cases e
   |some d=>rw[e1] at e;cases e;exact .inl ⟨d,rfl,rfl,by omega⟩
def bQ{ds l es m:List D}{j:Nat}{q:Sl->Option (List D)}(hq:∀d,q (.v d)=aB)(e:((o3 ds l es)[j]?).bind q=aA m):j=ds.length/\q (.p l)=aA m:=by
 obtain⟨x,e1,e2⟩:=aI e;rcases bR e1 with⟨d,rfl,_⟩|⟨rfl,h⟩
 .rw[hq] at e2;cases e2
 .exact⟨h,e2⟩
def pK:(vs++V.ref c::us)[vs.length]?=aA (.ref c):=by rw[bn<|ao _,Nat.sub_self];rfl
def TM{K:Fg}(h1:IsL K O H ds vs)(h2:IsL K O H es us)(e:(ds++.aG::es)[j]?=aA d)(hj:j≠ds.length):∃v,(vs++V.ref c::us)[j]?=aA v/\Is K O H d v:=by
 have hl:=h1.length;by_cases h:j<ds.length
 .rw[au h] at e;obtain⟨v,e1,i1⟩:=h1.get e;exact⟨v,by rw[au<|by omega];exact e1,i1⟩
 .rw[bn<|by omega] at e;rw[bn<|by omega];obtain⟨k,hk⟩:∃k,j-ds.length=k+1:=⟨j-ds.length-1,by omega⟩;rw[hk,ik] at e;rw[<-hl,hk,ik];exact h2.get e
def LN{K:Fg}(ol:Z2 O H)(hc:O c)(ec:H c=aA (.lst xs))(il:IsL K O H l xs)(h1:IsL K O H ds vs)(h2:IsL K O H es us):R K O H (o3 ds l es) ((vs++V.ref c::us).map aA):=by
 have hl:=h1.length;have Ir:=h2.length;have ow:∀b,Ow O (o3 ds l es) ((vs++V.ref c::us).map aA) b->H b≠aB->O b:=λb z _=>z.elim id λ⟨j,m,ej,qj⟩=>by
  obtain⟨rfl,_⟩:=bQ (λ_=>rfl) ej;rw[az,hl,pK] at qj;cases qj;exact hc
 refine⟨by simp[o3,hl,Ir],λj d e=>?_,λj m e=>?_,λj k b m m' e1 e2 q1 q2=>?_,ol,λj m b e q=>?_,λj m b e q=>?_,λj _ ks m e=>?_⟩
 .rcases bR e with⟨d',e',e2,e3⟩|⟨e',_⟩
  .cases e';obtain⟨v,e4,i4⟩:=TM (c:=c) h1 h2 e2 e3;exact⟨v,by rw[az,e4];rfl,Is.mono (aH.kp (aH.refl H) _) ol ow _ _ i4⟩
  .cases e'
 .obtain⟨rfl,e2⟩:=bQ (λ_=>rfl) e;cases e2;exact⟨c,xs,by rw[az,hl,pK];rfl,ec,IsL.mono (aH.kp (aH.refl H) _) ol ow _ _ il⟩
 .rw[(bQ (λ_=>rfl) e1).1,(bQ (λ_=>rfl) e2).1]
 .exfalso;rcases e with e|e|⟨_,e⟩<;>rcases bR e with⟨d',e',_⟩|⟨e',_⟩<;>cases e'
 .obtain⟨rfl,_⟩:=bQ (q:=Sl.own) (λ_=>rfl) (rL e).choose_spec;rw[az,hl,pK] at q;cases q;exact hc
 .rcases bR e with⟨d',e',_⟩|⟨e',_⟩<;>cases e'
def qS(n:Nat)(m:MF)(i:Nat)(z:MZ):En->Option (D×En):=λr=>(ZF r i).bind λl=>(z r).bind λq=>if q.1.length+1+q.2.length=n then (m<|o3 q.1 l q.2).bind λp=>match p.1 with
 |.v d=>match p.2[q.1.length]? with
  |some (.p l')=>(X7 i l' r).map λr'=>(d,r')
  |_=>aB
 |_=>aB
 else aB
def S5(e:X7 i l' r=aA r')(h:o7 r' σ b):o7 r σ b:=by
 obtain⟨x,y,ex,rfl,yo,ym,⟨l0,xm⟩,_⟩:=X6 e;obtain⟨j,m,ej,qj⟩:=h;by_cases hj:j=i
 .subst hj;exact⟨j,l0,by rw[ex];exact rS xm,qj⟩
 .rw[zK λz=>hj z.symm] at ej;exact⟨j,m,ej,qj⟩
def cE(F:eG X.prog X.w X.K X.mg X.base iW k fa fd ps (l5 X.K n m))(hr:eR k X.A)(hg:Gl X x)(hm:X.mg x=aA (.ref fa))(hk:dj X.K (.ref fa)=true)(hb:Binds X.K fd ps [])(ha:DZ X i (a::es) z)(fE:e_ x:=by decide)(he:sL X a es:=by rfl)(hpl:xi X es pos:=by rfl):DX X (.Call (.Name x p) (a::es) [] pos) (qS n m i z):=by
 refine PE.aK (ZD (E:=λ_ _ _=>False) (dvs:=[]) F hr hg hm hk hb .nil D' ha fE he hpl) λσ H Q hq=>?_
 obtain⟨O0,r,d,r',hR,e,q⟩:=hq;obtain⟨l,e1,e⟩:=aI e;obtain⟨⟨ds,us⟩,e2,e⟩:=aI e;split at e
 .rename_i hn;obtain⟨⟨rs,fT⟩,e3,e⟩:=aI e;refine⟨O0,r,l,ds,us,hR,e1,e2,λvs c ws H1 s1 hc i1 i2=>?_⟩;show l5 X.K n m ((vs++.ref c::ws)++[]) H1 Q _;rw[dk];have R1:=hR.same s1;obtain⟨c',xs,p1,p2,p3⟩:=YQ R1 e1;rw[hc] at p1;cases p1;have B1:Ow O0 r σ c:=by
   obtain⟨y,z1,z2⟩:=aI e1;exact .inr ⟨i,l,by rw[z1];exact rS (Cp z2).1,hc⟩
  refine⟨Ow O0 r σ,o3 ds l us,rs,fT,by simp[o3];simp only at hn;omega,LN R1.ol B1 p2 p3 i1 i2,λj m'=>⟨λe=>?_,λe=>?_,λ_ e=>?_⟩,e3,?_⟩
  .rcases bR e with⟨d',e',_⟩|⟨e',_⟩<;>cases e'
  .rcases bR e with⟨d',e',_⟩|⟨e',_⟩<;>cases e'
  .rcases bR e with⟨d',e',_⟩|⟨e',_⟩<;>cases e'
  .cases rs with
   |f l=>cases e
   |g ks l=>cases e
   |v d'=>
    simp only at e;split at e
    .rename_i l' ek;obtain⟨r2,e5,e6⟩:=a8 e;have Á:d'=d:=congrArg eh e6;have Ym:r2=r':=congrArg Prod.snd e6;subst Á Ym;refine λv H2 pf iv=>?_
     have Ze:(o3 ds l us)[ds.length]?=aA (.p l):=by unfold o3;rw[bn<|by simp];simp
     obtain⟨l2,c2,ĝ,f1,f2,f3,f4⟩:=pf.par ds.length l Ze;rw[ek] at f1;cases f1;rw[i1.length,pK] at f2;cases f2;have Wy:∀b,iV (o3 ds l us) ((vs++V.ref c::ws).map aA) b->b=c:=λb ⟨j,m',ej,qj⟩=>by
      obtain⟨rfl,_⟩:=bQ (λ_=>rfl) ej;rw[az,i1.length,pK] at qj;cases qj;rfl
     obtain⟨R2,k2⟩:=R1.put e5 hc (λb o hb eb=>pf.keep b o eb λz=>hb<|Wy b z) (λb hb eb=>pf.live b eb) f3 f4;exact q v H2 R2 ((Kp.of_same r σ s1).trans k2) (Is.mono (aH.kp (aH.refl H2) _) (λb zb=>zb.elim (R2.o0 b) λzb=>by
      obtain⟨ys,ey,mb⟩:=R1.ol b<|.inr zb;exact pf.lst b ys ey mb) (λb zb _=>zb.imp id<|S5 e5) _ _ iv)
    .cases e
 .cases e
def yR{c k}:aq (.Constant c k p::es) env=(false,eval (.Constant c k p) env)::aq es env:=rfl
def zQ{x}:aq (.Name x p::es) env=(false,eval (.Name x p) env)::aq es env:=rfl
def vW{l k}:aq (.Tuple l k p::es) env=(false,eval (.Tuple l k p) env)::aq es env:=rfl
def kE{f l k}:aq (.Call f l k p::es) env=(false,eval (.Call f l k p) env)::aq es env:=rfl
def JI{l}:aq (.List l p::es) env=(false,eval (.List l p) env)::aq es env:=rfl
def xV{a b}:aq (.Subscript a b p::es) env=(false,eval (.Subscript a b p) env)::aq es env:=rfl
def j9{a o b}:aq (.BinOp a o b p::es) env=(false,eval (.BinOp a o b p) env)::aq es env:=rfl
noncomputable def Cc:List Expr->Option (List<|List Nat)
 |[]=>aA []
 |.Constant (.str x) _ _::es=>(Cc es).map (x.cps.toList::·)
 |_=>aB
def lV(ss:List (List Nat)):ML:=λ_=>aA<|ss.map D.str
theorem gL:∀{es:List Expr} {ss:List (List Nat)},Cc es=aA ss->DA X es (lV ss)
 |[],ss,h=>by
  cases h;exact zJ
 |e::es,ss,h=>by
  cases e<;>first|(simp only[Cc,reduceCtorEq] at h;done)|skip
  rename_i c j p;cases c<;>first|(simp only[Cc,reduceCtorEq] at h;done)|skip
  rename_i x;simp only[Cc] at h;obtain⟨VU,e1,rfl⟩:=a8 h;exact zB (f:=mC<|.str x.cps.toList) (fs:=lV VU) (zU rfl) (gL e1) (hs:=yR)
section
variable{X:Cx}{pos:Pos}{a b tg:Expr}{f g:ME}
def jU:MS:=λ_=>aB
def qO{st:Stmt}:DS X st jU:=λ_ _ _ _ _ _ q=>by
 obtain⟨O0,r,fl,hR,e,q⟩:=q;cases e
noncomputable def Jb(x:Str):It:=⟨λi _=>i<x.cps.size,λi H v H'=>H'=H/\∃c,x.cps[i]?=aA c/\v=.str ⟨#[c]⟩,λi _=>x.cps.size<=i⟩
def UD{P:Program}{w:World}{K:Fg}(x:Str)(t:Tok)(it:Addr):Turn P w K tg (Jb x) [it] it (λi h=>h.IsStrIter it (strIterType x) x t i) where
 mem:=by simp
 obj:=λi h st b hb=>by
  obtain rfl:b=it:=by simpa using hb
  obtain⟨o,e,c,d⟩:=st;exact⟨o,e,λv z=>by rw[d] at z;cases z⟩
 keep:=λi h h' st k=>by
  obtain⟨o,e,c,d⟩:=st;exact⟨o,k it (by simp) o e,c,d⟩
 item:=by
  intro X hP hw hK hc i pZ s σ H E I hf st hg;subst hP hw hK;obtain⟨f0,f1,f2,f3,f4,f5⟩:=hf it (by simp);have hg:i<x.cps.size:=hg;have hx:x.cps[i]?=aA (x.cps[i]'hg):=la hg;have fin:∀h',h'.IsStrIter it (strIterType x) x t (i+1)->kf it s.heap h'->∃u,aA (Value.str ⟨#[x.cps[i]'hg]⟩ s.toks)=aA u /\
    wpAny (model X.prog X.w) X.A (letOwnedTupleGo tg (.ref it) u) (λ_ s2=>∃x' H',Inv X pZ σ H' s2/\RelV x' u/\(Jb x).BN i H x' H'/\s2.heap.IsStrIter it (strIterType x) x t (i+1)/\∀b∈[it],H' b=aB) E { s with heap:=h',toks:=s.toks+1 }:=λh' aW sb=>by
   have I1:Inv X pZ σ H { s with heap:=h',toks:=s.toks+1 }:=I.turned (t':=s.toks+1) (λb o hb e=>(sb.2 b hb).trans e) f0 f1 f3 f4 f5;obtain⟨o,e,c,d⟩:=id aW;refine⟨_,rfl,Cm (s:={ s with heap:=h',toks:=s.toks+1 }) e c d ?_ ⟨.str ⟨#[x.cps[i]'hg]⟩,H,I1,⟨_,rfl⟩,⟨rfl,_,hx,rfl⟩,aW,λb hb=>(hf b hb).1⟩⟩;unfold strIterType
   split<;>decide
  rcases ha:x.cps.all (·<128) with _|_
  .have ht:strIterType x = "str_iterator" := by unfold strIterType;rw[ha];rfl
   rw[ht] at st;exact wpAny_pyNext_wide_item st hx λh' aW sb=>fin h' (by rw[ht];exact aW) sb
  .have ht:strIterType x = "str_ascii_iterator" := by unfold strIterType;rw[ha];rfl
   rw[ht] at st;exact wpAny_pyNext_ascii_item st hx λh' aW sb=>fin h' (by rw[ht];exact aW) sb
 done:=by
  intro X hP hw hK hc i pZ s σ H E I hf st hg;subst hP hw hK;obtain⟨f0,f1,f2,f3,f4,f5⟩:=hf it (by simp);have hx:x.cps[i]?=aB:=by
   have:x.cps.size<=i:=hg
   simp[this]
  rcases ha:x.cps.all (·<128) with _|_
  .have ht:strIterType x = "str_iterator" := by unfold strIterType;rw[ha];rfl
   rw[ht] at st;exact wpAny_pyNext_wide_end (I.ok.hd hc) st hx λh' eb=>⟨rfl,I.turned (t':=s.toks) (λb o hb e=>eb b o hb e) f0 f1 f3 f4 f5⟩
  .have ht:strIterType x = "str_ascii_iterator" := by unfold strIterType;rw[ha];rfl
   rw[ht] at st;exact wpAny_pyNext_ascii_end (I.ok.hd hc) st hx λh' eb=>⟨rfl,I.turned (t':=s.toks) (λb o hb e=>eb b o hb e) f0 f1 f3 f4 f5⟩
 self:=λA i s Q E st h=>by
  rcases ha:x.cps.all (·<128) with _|_
  .have ht:strIterType x = "str_iterator" := by unfold strIterType;rw[ha];rfl
   rw[ht] at st;exact wpAny_pyIter_striter_wide st h
  .have ht:strIterType x = "str_ascii_iterator" := by unfold strIterType;rw[ha];rfl
   rw[ht] at st;exact wpAny_pyIter_striter_ascii st h
noncomputable def Lx:D->Option (List D)
 |.str s=>aA<|s.map λc=>.str [c]
 |_=>aB
def iX(f:ME):ML:=λr=>(f r).bind Lx
def Sh{K:Fg}{O M:Addr->Prop}{H:Hp}(s:List Nat):Bv K O M H (Jb ⟨s.toArray⟩) (s.map λc=>.str [c]):=by
 intro i H1 O' kp oo;refine⟨λhi=>⟨by rw[af] at hi;show i<s.toArray.size;simpa using hi,λx H' y=>?_⟩,λhi=>by rw[af] at hi;show s.toArray.size<=i;simp;omega⟩;obtain⟨rfl,c,ec,rfl⟩:=y;refine⟨aH.refl _,λd e=>?_⟩;rw[az] at e;have Ö:s[i]?=aA c:=by simpa using ec
 rw[Ö] at e;cases e;rw[yE]
def J1(hl:DE X a f):DI X tg a (iX f):=by
 intro pZ s σ H Rr I h;obtain⟨O0,r,ds,hR,e,q⟩:=h;obtain⟨d,e1,e2⟩:=aI e;cases d<;>first|(cases e2;done)|skip
 rename_i y;cases e2;refine aS (hl pZ s σ H (λv H1=>aH H H1/\v=.str ⟨y.toArray⟩) I ⟨O0,r,_,hR,e1,λv H1 s1 i1=>⟨s1,by rw[yE] at i1;exact i1⟩⟩) λv s1 ⟨x,H1,I1,r1,Cw,ex⟩=>?_
 subst ex;obtain⟨t,rfl⟩:=r1;refine wpAny_pyIter_strU ?_;refine⟨s1.heap.objs.size,[s1.heap.objs.size],_,_,H1,rfl,I1.kept (t':=s1.toks) λb o e=>ay _ e,UD _ t _,⟨_,cn _ rfl,rfl,rfl⟩,λb hb=>?_,q _ H1 Cw<|Sh y⟩;obtain rfl:b=s1.heap.objs.size:=by simpa using hb
 exact I1.Bn (ao _)<|I1.aP.fresh<|ao _
noncomputable def AK:List D->Option (List Bool)
 |[]=>aA []
 |.bl i::r=>(AK r).map (i::·)
 |_=>aB
def FO(fl:ML):ME:=λr=>(fl r).bind λl=>(AK l).map λbs=>.bl<|bs.all id
theorem Mm{K:Fg}{O:Addr->Prop}{H:Hp}:∀{l:List D} {ns:List Bool} {vs:List V},AK l=aA ns->IsL K O H l vs->vs=ns.map V.bl
 |[],ns,vs,e,il=>by cases e;unfold IsL at il;subst il;rfl
 |d::l,ns,vs,e,il=>by
  unfold IsL at il;obtain⟨v,r,rfl,i1,i2⟩:=il;cases d<;>first|(simp only[AK,reduceCtorEq] at e;done)|skip
  simp only[AK] at e;obtain⟨ms,e1,rfl⟩:=a8 e;rw[yY] at i1;rw[i1,Mm e1 i2];rfl
def U9(hc:X.calm=true):iJ X (.builtin "all") (λxs H Q=>∃(p:Addr) (bs:List Bool),xs=[.ref p]/\aV X.K H p (bs.map V.bl)/\Q (.bl<|bs.all id) H):=by
 intro pZ s σ H xs us Q I r hq;obtain⟨p,bs,rfl,hS,q⟩:=hq;obtain⟨u,rfl,ru⟩:=Vals.one r;cases ru;obtain⟨its,rv,pl,hz⟩:=I.list hS;have hl:=pl.isList;have iH:p<s.heap.objs.size:=by obtain⟨_,e,_⟩:=hl;exact ax e
 have ln:its.length=bs.length:=by have:=rv.length;rw[af] at this;exact this.symm
 refine call_all_walk<|oj hl ?_;refine⟨s.heap.objs.size,[s.heap.objs.size,p],[s.heap.objs.size],its.toArray.size,_,_,λi=>(bs[i]?).getD true,rfl,Walks.list (A:=X.A.in1) (I.ok.hd hc) _ p (bv iH) its.toArray,⟨⟨_,cn _ rfl,rfl,rfl⟩,hl.push _⟩,λi v s' Q' E' hP hQ=>?_,λh' tk hk=>?_⟩
 .have hv:its[i]?=aA v:=by simpa using hP
  have hi:i<bs.length:=by have:=(ar.mp hv).1;omega
  have e:bs[i]?=aA (bs[i]'hi):=ft hi;obtain⟨w',e1,e2⟩:=rv.get (i:=i) (x:=.bl<|bs[i]'hi) (by rw[az,e];rfl);rw[hv] at e1;cases e1;obtain rfl:v=.bool (bs[i]'hi):=e2;simp only[Option.getD_some,e] at hQ;exact gh hQ
 .have e:((db its.toArray.size).all λi=>(bs[i]?).getD true)=bs.all id:=by
   rw[ai,ln];exact LSm.range_all bs
  rw[e];exact⟨.bl _,H,I.kept<|LSm.kept_iter hk,rfl,q⟩
def Ru{p':Pos}{fl:ML}(hg:Gl X "all")(hm:X.mg "all" = aB)(ha:DB X a fl)(hc:X.calm=true:=by rfl)(hs:aq [a] X.env=(false,eval a X.env)::aq [] X.env:=by rfl):DE X (.Call (.Name "all" p') [a] [] pos) (FO fl):=by
 refine PE.aK (dY (U9 hc) hg hm PyProof.Rows.boot_all (wV ha kT hs) (he:=hs)) λσ H Q hq=>?_
 obtain⟨O0,r,d,hR,e,q⟩:=hq;obtain⟨l,e1,e2⟩:=aI e;obtain⟨bs,e3,rfl⟩:=a8 e2;refine⟨O0,r,l,hR,e1,λp xs H1 s1 sq il=>?_⟩;have ex:=Mm e3 il;subst ex;exact⟨p,bs,rfl,sq,q _ H1 s1<|by rw[yY]⟩
noncomputable def rZ:D->Option D
 |.str s=>if s≠[]/\s.length<=600/\(s.all λc=>decide (48<=c) && decide (c<=57))=true then aA (.int (cu s:Nat)) else aB
 |_=>aB
def U':iJ X (.type "int") (λxs H Q=>∃s:List Nat,xs=[.str ⟨s.toArray⟩]/\s≠[]/\s.length<=600/\(s.all λc=>decide (48<=c) && decide (c<=57))=true/\Q (.int (cu s:Nat)) H):=by
 intro pZ s σ H xs us Q I r hq;obtain⟨y,rfl,y0,y1,y2,q⟩:=hq;obtain⟨u,rfl,t,rfl⟩:=Vals.one r;have hd:PySem.NumText.AllDigits y:=λc hc=>by
  have:=eg.mp y2 c hc
  simpa using this
 refine PySem.W.KIN.call_text (n:=(cu y:Nat)) ?_ ?_ ⟨.int _,H,I.tok _,⟨_,rfl⟩,q⟩
 .have:=PySem.intText_digits (x:=⟨y.toArray⟩) (by simpa using hd) (by simpa using y0) (by rw[str_len];omega)
  simpa using this
 .rw[str_len];omega
def M4{p':Pos}(hg:Gl X "int")(hm:X.mg "int" = aB)(ha:DE X a f)(hs:aq [a] X.env=(false,eval a X.env)::aq [] X.env:=by rfl):DE X (.Call (.Name "int" p') [a] [] pos) (aF rZ f):=by
 refine PE.aK (nE U' hg hm uf (wV ha kT hs) (he:=hs)) λσ H Q hq=>?_
 obtain⟨O0,r,d,hR,e,q⟩:=hq;obtain⟨x,e1,e2⟩:=aI e;refine⟨O0,r,x,hR,e1,λv H1 s1 i1=>?_⟩;cases x<;>first|(simp only[rZ,reduceCtorEq] at e2;done)|skip
 simp only[rZ] at e2;split at e2
 .rename_i hl;cases e2;rw[yE] at i1;exact⟨_,by rw[i1],hl.1,hl.2.1,hl.2.2,q _ H1 s1<|by rw[zY]⟩
 .cases e2
def bE{x:Str}{i:Int}(h:∃t,X.mg x=aA (.int i t))(hg:Gl X x)(hd:e_ x:=by decide):DE X (.Name x pos) (mC<|.int i):=by
 obtain⟨t,h⟩:=h;exact YK (WD (v:=.int i) hg h ⟨t,rfl⟩ hd) λO H=>by rw[zY]
def Jy(mg:Str->Option Value)(K:Fg)(x:Str)(ss:List (List Nat)):Prop:=∃(p:Addr) (o:Obj) (its:Array Value) (n:Nat),mg x=aA (.ref p)/\K.lookup p=aA o/\o.cls=.type "tuple" /\ o.data=.seq its n/\its.size<=ag/\Vals (ss.map λs=>V.str ⟨s.toArray⟩) its.toList
theorem Na{K:Fg}{O:Addr->Prop}{H:Hp}:∀ss:List (List Nat),IsL K O H (ss.map D.str) (ss.map λs=>V.str ⟨s.toArray⟩)
 |[]=>IsL.nil
 |s::ss=>.cons (by rw[yE])<|Na ss
def So{x:Str}{ss:List (List Nat)}(h:Jy X.mg X.K x ss)(hg:Gl X x)(hd:e_ x:=by decide):DE X (.Name x pos) (mC<|.tup<|ss.map D.str):=by
 obtain⟨p,o,its,n,h1,h2,h3,h4,h5,h6⟩:=h;refine YK (WD (v:=.ref p) hg h1 rfl hd) λO H=>?_
 rw[wE];exact⟨p,_,rfl,.inr ⟨o,its,n,h2,h3,h4,h5,h6⟩,Na ss⟩
def Ent(e:DictEntry)(q:List Nat×List Nat):Prop:=∃t u,e.key=.str ⟨q.1.toArray⟩ t/\e.val=.str ⟨q.2.toArray⟩ u
def yu:List DictEntry->List (List Nat×List Nat)->Prop
 |[],l=>l=[]
 |e::es,l=>∃q r,l=q::r/\Ent e q/\yu es r
def Gg(mg:Str->Option Value)(K:Fg)(Ps:Params)(x:Str)(tbl:List (List Nat×List Nat)):Prop:=∃(p:Addr) (es:Array DictEntry) (n:Nat),mg x=aA (.ref p)/\(p == ly)=false/\K.lookup p=aA ⟨.type "dict",aB,.dict es n,#[]⟩/\km Ps es.toList/\yu es.toList tbl
noncomputable def look(tbl:List (List Nat×List Nat))(s:List Nat):Option (List Nat):=(tbl.find? λq=>decide (q.1=s)).map (·.2)
theorem tG:∀{es:List DictEntry} {tbl:List (List Nat×List Nat)} (s:List Nat),yu es tbl->match look tbl s with
  |some v=>∃u,(es.find? λd=>jb ⟨s.toArray⟩ d.key).map (·.val)=aA (.str ⟨v.toArray⟩ u)
  |none=>(es.find? λd=>jb ⟨s.toArray⟩ d.key).map (·.val)=aB
 |[],tbl,s,h=>by unfold yu at h;subst h;rfl
 |e::es,tbl,s,h=>by
  unfold yu at h;obtain⟨q,r,rfl,⟨t,u,h1,h2⟩,h3⟩:=h;have ih:=tG s h3;have k:jb (⟨s.toArray⟩:Str) e.key=decide (q.1=s):=by
   rw[h1];show((⟨q.1.toArray⟩:Str) == ⟨s.toArray⟩)=_;by_cases c:q.1=s
   .rw[decide_eq_true c,c];simp
   .rw[decide_eq_false c];refine beq_eq_false_iff_ne.mpr λz=>c ?_
    have z2:=congrArg (λx:Str=>x.cps.toList) z;simpa using z2
  unfold look at ih ⊢;rw[List.find?_cons,List.find?_cons,k];cases hc:decide (q.1=s)
  .exact ih
  .exact⟨u,by rw[iw,h2]⟩
def Lb{Ps:Params}{x:Str}{tbl:List (List Nat×List Nat)}{pZ:List (Addr×Obj)}{σ:St}{H:Hp}{s:Shared}{p:Addr}{es:Array DictEntry}{n:Nat}(I:Inv X pZ σ H s)(hl:X.K.lookup p=aA ⟨.type "dict",aB,.dict es n,#[]⟩)(hk:km X.w.params es.toList):s.heap.MapOf (strKind X.prog X.w) p (λk=>findBy jb es k):=PySem.W.mapOf_K (I.mod.BX.keeps I.bk) hl hk
def Jm(p:Addr)(tbl:List (List Nat×List Nat))(neg:Bool):R2:=λx y H Q=>∃s:List Nat,x=.str ⟨s.toArray⟩/\y=.ref p/\Q (.bl (if neg then !(look tbl s).isSome else (look tbl s).isSome)) H
def ZO(es:Array DictEntry)(k:Str):findBy jb es k=(es.toList.find? λd=>jb k d.key).map (·.val):=by
 obtain⟨l⟩:=es;unfold findBy;rw[List.find?_toArray]
def Uy{es:Array DictEntry}{tbl:List (List Nat×List Nat)}(s:List Nat)(h:yu es.toList tbl):(findBy jb es ⟨s.toArray⟩).isSome=(look tbl s).isSome:=by
 have q:=tG s h;rw[ZO];cases e:look tbl s with
 |none=>rw[e] at q;rw[q];rfl
 |some v=>rw[e] at q;obtain⟨u,q⟩:=q;rw[q];rfl
def VA{p:Addr}{tbl:List (List Nat×List Nat)}{es:Array DictEntry}{n:Nat}(hp:(p == ly)=false)(hl:X.K.lookup p=aA ⟨.type "dict",aB,.dict es n,#[]⟩)(hk:km X.w.params es.toList)(he:yu es.toList tbl):c_ X (bz .NotIn) (Jm p tbl true):=by
 intro pZ s σ H x y v u Q I rx ry h;obtain⟨z,rfl,rfl,q⟩:=h;obtain⟨t,rfl⟩:=rx;cases ry;refine wpAny_notIn_of (strKind_is _ _ _ t) hp (Lb (tbl:=tbl) (Ps:=X.w.params) (x:="") I hl hk) ⟨.bl _,H,I.tok _,rfl,?_⟩;simp only[Uy z he];exact q
def j'(tbl:List (List Nat×List Nat))(neg:Bool):D->Option D
 |.str s=>aA<|.bl (if neg then !(look tbl s).isSome else (look tbl s).isSome)
 |_=>aB
def Dy(p:Addr)(tbl:List (List Nat×List Nat))(neg:Bool)(x y:D):Option D:=match y with
 |.ref b=>if b=p then j' tbl neg x else aB
 |_=>aB
def Rk(p:Addr)(tbl:List (List Nat×List Nat))(neg:Bool):eT X.K (Jm p tbl neg) (Dy p tbl neg):=by
 intro O H dx dy d vx vy Q ol ix iy e q;cases dy<;>first|(simp only[Dy,reduceCtorEq] at e;done)|skip
 simp only[Dy] at e;split at e
 .rename_i hb;subst hb;cases dx<;>first|(simp only[j',reduceCtorEq] at e;done)|skip
  simp only[j',cq] at e;subst e;rw[yE] at ix;rw[uX] at iy;exact⟨_,ix,iy,q _ H (aH.refl H)<|by rw[yY]⟩
 .cases e
def LW{x:Str}{p:Addr}(h:X.mg x=aA (.ref p))(hg:Gl X x)(hd:e_ x:=by decide):DE X (.Name x pos) (mC<|.ref p):=
 YK (WD (v:=.ref p) hg h rfl hd) λO H=>by rw[uX]
def Rg{p:Addr}{tbl:List (List Nat×List Nat)}{neg:Bool}:zG (Dy p tbl neg) f (mC<|.ref p)=aF (j' tbl neg) f:=by
 funext r
 unfold zG aF mC;cases f r with
 |none=>rfl
 |some x=>exact if_pos rfl
def tI{x:Str}{tbl:List (List Nat×List Nat)}{p':Pos}(h:Gg X.mg X.K X.w.params x tbl)(hg:Gl X x)(ha:DE X a f)(hm:gu .NotIn (.Name x p')=false:=by rfl)(hd:e_ x:=by decide):DT X (.Compare a [.NotIn] [.Name x p'] pos) (aD<|aF (j' tbl true) f):=by
 obtain⟨p,es,n,h1,h2,h3,h4,h5⟩:=h;rw[<-Rg (p:=p)];exact z6 (VA h2 h3 h4 h5) (Rk p tbl true) ha (LW h1 hg hd) hm
def V8(p:Addr)(tbl:List (List Nat×List Nat)):R2:=λx y H Q=>∃s v:List Nat,x=.ref p/\y=.str ⟨s.toArray⟩/\look tbl s=aA v/\Q (.str ⟨v.toArray⟩) H
def PU{p:Addr}{tbl:List (List Nat×List Nat)}{es:Array DictEntry}{n:Nat}(hl:X.K.lookup p=aA ⟨.type "dict",aB,.dict es n,#[]⟩)(hk:km X.w.params es.toList)(he:yu es.toList tbl):yt X (V8 p tbl):=by
 intro value slice pZ s σ H x y v u Q I rx ry h hs;obtain⟨z,c,rfl,rfl,e,q⟩:=h;cases rx;obtain⟨t,rfl⟩:=ry;have Oh:=Lb (tbl:=tbl) (Ps:=X.w.params) (x:="") I hl hk;have Do:=tG z he;rw[e] at Do;obtain⟨u',Do⟩:=Do;rw[<-ZO] at Do;exact ma (x:=.str ⟨c.toArray⟩ u') Oh.typeIs slot_dict_getitem.lookup (wpAny_getItem_of (Q:=λr s'=>r=Value.str ⟨c.toArray⟩ u'/\EP X pZ σ Q r s') (strKind_is _ _ _ t) Oh Do ⟨rfl,.str ⟨c.toArray⟩,H,I.tok _,⟨u',rfl⟩,q⟩) hs
def atT(tbl:List (List Nat×List Nat)):D->Option D
 |.str s=>(look tbl s).map .str
 |_=>aB
def KL{x:Str}{tbl:List (List Nat×List Nat)}{p':Pos}(h:Gg X.mg X.K X.w.params x tbl)(hg:Gl X x)(hb:DE X b f)(hs:QX b:=by intro _ _;rfl)(hd:e_ x:=by decide):DE X (.Subscript (.Name x p') b pos) (aF (atT tbl) f):=by
 obtain⟨p,es,n,h1,h2,h3,h4,h5⟩:=h;refine PE.aK (F5 (PU h3 h4 h5) (LW (p:=p) h1 hg hd) hb hs) λσ H Q hq=>?_
 obtain⟨O0,r,d,hR,e,q⟩:=hq;obtain⟨k,e1,e2⟩:=aI e;cases k<;>first|(simp only[atT,reduceCtorEq] at e2;done)|skip
 simp only[atT] at e2;obtain⟨v,e3,rfl⟩:=a8 e2;refine⟨O0,r,_,hR,rfl,λv1 H1 s1 i1=>⟨O0,r,_,hR.same s1,e1,λv2 H2 s2 i2=>?_⟩⟩;rw[uX] at i1;rw[yE] at i2;exact⟨_,v,i1,i2,e3,q _ H2 (s1.trans s2)<|by rw[yE]⟩
end
open Builtin.Str
def Q3(i:Nat)(f:ME):En->Option (D×En):=λr=>(Bm i r).bind λr1=>(f r1).bind λd=>(ZF r i).bind λl=>if l.length<ag then (X7 i (l++[d]) r).map λr'=>(.aG,r') else aB
def cW(i:Nat)(h:PE X (.Name x pn) (sA i))(he:DE X e f)(fI:sW apos eB:=by rfl)(fK:fq (.Name x pn) "append" X.env (eval (.Name x pn) X.env)=eval (.Name x pn) X.env:=by rfl)(iE:xc X [e] eB:=by rfl)(hs:aq [e] X.env=(false,eval e X.env)::aq [] X.env:=by rfl):DX X (.Call (.Attribute (.Name x pn) "append" apos) [e] [] eB) (Q3 i f):=by
 refine PE.aK (WE dv ic ib dJ h (wV he kT hs) fK iE fI hs) λσ H Q hq=>?_
 obtain⟨O0,r,d',r',hR,e,q⟩:=hq;obtain⟨rz,ez,e⟩:=aI e;obtain⟨d,e1,e⟩:=aI e;obtain⟨l,e2,e⟩:=aI e;split at e
 .rename_i hl;obtain⟨r2,e3,e4⟩:=a8 e;cases e4;obtain⟨lz,Õ,rfl⟩:=oT ez;obtain⟨Rz,oz⟩:=hR.swap (y:=.z lz)<|.inl ⟨Õ,rfl⟩;obtain⟨a,xs,q1,q2,q3⟩:=YQ hR e2;refine⟨.ref a,q1,.inl ⟨rfl,xs,aV.of q2⟩,O0,_,d,Rz,e1,λv H1 s1 i1=>?_⟩;have R1:=hR.same s1;have i2:Is X.K (Ow O0 r σ) H1 d v:=Is.mono (λb o e' _=>e') (Rz.same s1).ol (λb z _=>z.imp id (oz b).mpr) _ _ i1;obtain⟨R2,k2⟩:=R1.upd (xs':=xs++[v]) e3 q1 (s1 _ _ q2)<|(q3.same s1 hR.ol).append<|.cons i2 .nil;exact⟨a,xs,v,rfl,rfl,s1 _ _ q2,by rw[<-q3.length];exact hl,q _ _ R2 ((Kp.of_same r σ s1).trans k2)<|by rw[jH]⟩
 .cases e
noncomputable def Q5:D->Option D
 |.bl b=>aA<|.int (if b then 1 else 0)
 |_=>aB
def U_:iJ X (.type "int") (λxs H Q=>∃b:Bool,xs=[.bl b]/\Q (.int (if b then 1 else 0)) H):=by
 intro pZ s σ H xs us Q I r hq;obtain⟨y,rfl,q⟩:=hq;obtain⟨u,rfl,ru⟩:=Vals.one r;obtain rfl:u=.bool y:=ru;exact call_int_bool ⟨.int _,H,I.tok _,⟨_,rfl⟩,q⟩
def GP(hg:Gl X "int")(hm:X.mg "int" = aB)(ha:DE X a f)(hs:aq [a] X.env=(false,eval a X.env)::aq [] X.env:=by rfl):DE X (.Call (.Name "int" p') [a] [] pos) (aF Q5 f):=by
 refine PE.aK (nE U_ hg hm uf (wV ha kT hs) (he:=hs)) λσ H Q hq=>?_
 obtain⟨O0,r,d,hR,e,q⟩:=hq;obtain⟨x,e1,e2⟩:=aI e;refine⟨O0,r,x,hR,e1,λv H1 s1 i1=>?_⟩;cases x<;>first|(simp only[Q5,reduceCtorEq] at e2;done)|skip
 cases e2;rw[yY] at i1;exact⟨_,by rw[i1],q _ H1 s1<|by rw[zY]⟩
def TH:V->List V->Hp->VK->Prop:=λx vs H Q=>∃z y k,x=.str z/\vs=[.str y,.int k]/\(y.length == 0)=false/\(decide (k < -(2 ^ 63:Int)) || decide (k ≥ 2 ^ 63))=false/\z.length<=ag/\(partsBetween z (occurrences z y 0 z.length<|limitOf z k) y.length).length<=ag/\∀p,H p=aB->Q (.ref p) (upd H p<|.lst<|(gy z y k).map V.str)
def JK(z y:Str)(k:Int)(h:(partsBetween z (occurrences z y 0 z.length<|limitOf z k) y.length).length<=ag):(gy z y k).length<=ag:=by
 unfold gy;have h1:1<=ag:=by decide
 split
 .exact h1
 .split
  .exact h1
  .exact h
def Gc(r:Vals [x,y] us):∃u v,us=[u,v]/\RelV x u/\RelV y v:=by
 cases r with
 |cons r1 r2=>
  obtain⟨v,rfl,rv⟩:=Vals.one r2;exact⟨_,v,rfl,r1,rv⟩
def U7:Bs X "str.split" TH:=by
 intro pZ s σ H x vs v us Q I rx rv hq;obtain⟨z,y,k,rfl,rfl,hy,hk,hz,hn,q⟩:=hq;obtain⟨t,rfl⟩:=rx;obtain⟨u1,u2,rfl,⟨u,rfl⟩,⟨kt,rfl⟩⟩:=Gc rv;have lay:∀(l:List (Str×Tok)) (tk:Nat),l.map (·.1)=gy z y k->EP X pZ σ Q (.ref s.heap.objs.size) { s with heap:=s.heap.push { cls:=.type "list",data:=.seq (strValues l).toArray },toks:=tk }:=λl tk e=>by
  have hv:=rA l;rw[e] at hv;exact⟨.ref _,_,I.CF (t':=tk) hv (by rw[af];exact JK z y k hn),rfl,q _ I.fresh⟩
 cases h1:(decide (z.length<y.length) || decide (strKind z<strKind y)) with
 |true=>exact io jq (jv _ _ _) je (ny _ _ _) (meets_str_split_max_cannot_occur z y k t u kt hk h1)<|lay [(z,t)] s.toks (by unfold gy;rw[if_pos h1];rfl)
 |false=>
  cases hf:(occurrences z y 0 z.length<|limitOf z k).isEmpty with
  |true=>exact io jq (jv _ _ _) je (ny _ _ _) (meets_str_split_max_not_found z y k t u kt hk h1 hy hf)<|lay [(z,t)] s.toks (by unfold gy;rw[if_neg<|ne_true_of_eq_false h1,if_pos hf];rfl)
  |false=>
   refine io jq (jv _ _ _) je (ny _ _ _) (meets_str_split_sep_max z y k t u kt hk h1 hy hf hz hn) ?_;show EP X pZ σ Q _ { s with toks:=_,heap:=s.heap.push { cls:=.type "list",data:=.seq (strsFrom s.toks<|partsBetween z (occurrences z y 0 z.length<|limitOf z k) y.length).toArray } };rw[strsFrom_eq];exact lay (numbered s.toks _) _<|(numbered_texts _ _).trans (by unfold gy;rw[if_neg<|ne_true_of_eq_false h1,if_neg<|ne_true_of_eq_false hf])
def Ug(z y:Str)(lim:Nat)(hy:(y.length == 0)=false):(partsBetween z (occurrences z y 0 z.length lim) y.length).length<=z.length+1:=by
 rw[len_partsBetween];obtain⟨e,hc⟩:=StrLaws.occ_chain z y lim;have N_:y.length≠0:=by simpa using hy
 have:=tN (by omega) _ 0 e hc<|cz _
 omega
noncomputable def bA(s sep:List Nat)(k:Int):List (List Nat):=(gy ⟨s.toArray⟩ ⟨sep.toArray⟩ k).map λx=>x.cps.toList
def mD(f g:ME)(k:Int):ML:=λr=>(f r).bind λd=>(g r).bind λe=>match d,e with
 |.str s,.str sep=>if sep.length≠0/\s.length<ag/\0<=k/\k<1000 then aA ((bA s sep k).map .str) else aB
 |_,_=>aB
def oF(ho:DE X a f)(ha:DE X b g)(fK:fq a "split" X.env (eval a X.env)=eval a X.env:=by rfl)(fI:sW apos eB:=by rfl)(iE:xc X [b,.Constant (.int k) j kp] eB:=by rfl)(hs:aq [b,.Constant (.int k) j kp] X.env=(false,eval b X.env)::aq [.Constant (.int k) j kp] X.env:=by rfl)(sI:aq [.Constant (.int k) j kp] X.env=(false,eval (.Constant (.int k) j kp) X.env)::aq [] X.env:=by rfl):DF X (.Call (.Attribute a "split" apos) [b,.Constant (.int k) j kp] [] eB) (mD f g k):=by
 refine PE.aK (WE mh sr sk U7 ho (wV ha (wV (zF (X:=X) (i:=k) (j:=j) (pos:=kp)) kT sI) hs) fK iE fI hs) λσ H Q hq=>?_
 obtain⟨O0,r,l,hR,e,q⟩:=hq;obtain⟨x,e1,e2⟩:=aI e;obtain⟨y,e3,e4⟩:=aI e2;refine⟨O0,r,x,hR,e1,λv H1 s1 i1=>?_⟩;cases x<;>first|(simp only[reduceCtorEq] at e4;done)|skip
 cases y<;>first|(simp only[reduceCtorEq] at e4;done)|skip
 rename_i s sep;simp only at e4;split at e4
 .rename_i hl;have e5:(bA s sep k).map D.str=l:=bp e4;subst e5;rw[yE] at i1;subst i1;refine⟨rfl,O0,r,_,hR.same s1,e3,λv2 H2 s2 i2=>?_⟩;rw[yE] at i2;refine⟨O0,r,.int k,hR.same<|s1.trans s2,rfl,λv3 H3 s3 i3=>?_⟩;rw[zY] at i3;have hy:((⟨sep.toArray⟩:Str).length == 0)=false:=by rw[str_len];simpa using hl.1
  have h5:=Ug (⟨s.toArray⟩:Str) ⟨sep.toArray⟩ (limitOf ⟨s.toArray⟩ k) hy;have h6:(⟨s.toArray⟩:Str).length=s.length:=str_len s;have h7:=hl.2.1;refine⟨_,_,k,rfl,by rw[i2,i3],hy,by simp;omega,by rw[h6];omega,by omega,λp hp=>q p _ _ (((s1.trans s2).trans s3).trans<|xU hp) (((s1.trans s2).trans s3).free hp) wL ?_⟩;exact Y9 _
 .cases e4
abbrev MJ:=En->Option (List<|List Nat)
def vv:MJ:=λ_=>aA []
def jE(f:ME)(g:MJ):MJ:=λr=>(f r).bind λd=>match d with
 |.str s=>(g r).map (s::·)
 |_=>aB
def lJ(K:Fg)(f:MJ)(out:Str):TE:=λσ H Q=>∃O0 r l,R K O0 H r σ/\f r=aA l/\out.length+(l.map cx).sum<=ag/\∀H',aH H H'->Q (.str<|out++⟨l.flatten.toArray⟩) H'
def DJ(X:Cx)(es:List Expr)(f:MJ):Prop:=∀pZ s σ H (Q:VK) (out:Str),Inv X pZ σ H s->lJ X.K f out σ H Q->wpAny (model X.prog X.w) X.A (joinParts out<|evalEach es X.env) (EP X pZ σ Q) X.xe s
def UV(x:Str):x++(⟨([]:List Nat).toArray⟩:Str)=x:=by
 show(⟨x.cps++#[]⟩:Str)=x;simp
def Ek:DJ X [] vv:=by
 intro pZ s σ H Q out I h;obtain⟨O0,r,l,hR,e,hl,q⟩:=h;cases e;have q':=q H<|aH.refl H;rw[List.flatten_nil,UV] at q';exact joinParts_nil ⟨.str out,H,I.tok _,⟨_,rfl⟩,q'⟩ (by simpa using hl)
def TN(x:Str)(y z:List Nat):(x++(⟨y.toArray⟩:Str))++(⟨z.toArray⟩:Str)=x++(⟨(y++z).toArray⟩:Str):=by
 show(⟨(x.cps++y.toArray)++z.toArray⟩:Str)=⟨x.cps++(y++z).toArray⟩;simp
def Mj(x:Str)(y:List Nat):(x++(⟨y.toArray⟩:Str)).length=x.length+y.length:=by
 show(x.cps++y.toArray).size=x.cps.size+y.length;simp
def Gi(Zv:∀pZ s σ H (Q:VK),Inv X pZ σ H s->lE X.K f σ H (λv H1=>∃x:Str,v=.str x/\x.length<=ag/\Q v H1)->wpAny (model X.prog X.w) X.A (eval a X.env) (EP X pZ σ Q) X.xe s)(h2:DJ X es gj):DJ X (a::es) (jE f gj):=by
 intro pZ s σ H Q out I h;obtain⟨O0,r,l,hR,e,hl,q⟩:=h;obtain⟨d,e1,e2⟩:=aI e;cases d<;>first|(cases e2;done)|skip
 rename_i y;simp only at e2;obtain⟨t,e3,rfl⟩:=a8 e2;rw[bg,jc] at hl;refine joinParts_cons<|fu (Zv pZ s σ H (λv H1=>aH H H1/\v=.str ⟨y.toArray⟩) I ⟨O0,r,_,hR,e1,λv H1 s1 i1=>?_⟩) (λv s1 ⟨x,H1,I1,r1,sm,ex⟩=>?_) λ_ _ z=>z
 .rw[yE] at i1;exact⟨_,i1,by rw[str_len];omega,s1,i1⟩
 .subst ex;obtain⟨tk,rfl⟩:=r1;refine⟨by rw[Mj];omega,h2 pZ s1 σ H1 Q _ I1 ⟨O0,r,t,hR.same sm,e3,by rw[Mj];omega,λH' s'=>?_⟩⟩;rw[TN];exact q H'<|sm.trans s'
def BB(h:DE X a f)(h2:DJ X es gj):DJ X (a::es) (jE f gj):=Gi (λpZ s σ H Q I ⟨O0,r,d,hR,e,q⟩=>h pZ s σ H Q I ⟨O0,r,d,hR,e,λv H1 s1 i1=>(q v H1 s1 i1).elim λ_ z=>z.2.2⟩) h2
def Jf(h:DE X a f)(h2:DJ X es gj):DJ X (.FormattedValue a (-1) aB fp::es) (jE f gj):=Gi (λpZ s σ H Q I ⟨O0,r,d,hR,e,q⟩=>by
 refine FormattedValue_plain<|fu (h pZ s σ H (λv H1=>∃x:Str,v=.str x/\x.length<=ag/\Q v H1) I ⟨O0,r,d,hR,e,q⟩) (λv s1 ⟨x,H1,I1,r1,y,ey,hy,q1⟩=>?_) λ_ _ z=>z;subst ey;obtain⟨tk,rfl⟩:=r1;exact formatField_str (λt' VP=>⟨.str y,H1,I1.tok _,⟨_,rfl⟩,q1⟩) hy) h2
def YR(g:MJ):ME:=λr=>(g r).bind λl=>if (l.map cx).sum<=ag then aA (.str l.flatten) else aB
def QG{rest:List Expr}(h:DJ X (v1::v2::rest) gj):DE X (.JoinedStr (v1::v2::rest) pos) (YR gj):=by
 intro pZ s σ H Q I hq;obtain⟨O0,r,d,hR,e,q⟩:=hq;obtain⟨l,e1,e2⟩:=aI e;split at e2
 .rename_i hl;cases e2;refine JoinedStr_many<|h pZ s σ H Q Str.empty I ⟨O0,r,l,hR,e1,by show 0+_<=_;omega,λH' s'=>?_⟩;have e0:(Str.empty++(⟨l.flatten.toArray⟩:Str))=⟨l.flatten.toArray⟩:=by
   show(⟨#[]++l.flatten.toArray⟩:Str)=_;simp
  rw[e0];exact q _ H' s' (by rw[yE])
 .cases e2
def Hh{K:Fg}{Dn:Ends}(h:lS K (xF i<|xI fl) Dn σ H):lF K fl σ H (λv H1=>Cj i v σ H1 Dn.nx):=by
 obtain⟨O0,r,yj,hR,e,q⟩:=h;obtain⟨d,e1,e2⟩:=aI e;obtain⟨r',e3,rfl⟩:=a8 e2;obtain⟨l,e4,rfl⟩:=a8 e1;obtain⟨hl,np,rfl⟩:=mZ e3;refine⟨O0,r,l,hR,e4,λp xs H1 s1 n1 e5 i1=>?_⟩;have ol:Z2 (λb=>Ow O0 r σ b\/b=p) H1:=λb z=>z.elim (λz=>(hR.same s1).ol b z) λz=>by subst z;exact⟨.lst xs,e5,trivial⟩
 have iv:Is K (Ow O0 r σ) H1 (.lst l) (.ref p):=by
  rw[yV];exact⟨p,xs,rfl,.inl ⟨hR.Al n1,.inl e5⟩,IsL.mono (aH.kp (aH.refl H1) _) ol (λa z _=>.inl z) l xs i1⟩
 obtain⟨R1,k1⟩:=(hR.same s1).BP hl np iv;exact q _ H1 R1<|(Kp.of_same r σ s1).trans k1
def Su(i:Nat)(hc:X.calm=true)(o:sN X N' cap scope)(hi:DI X tg iter it)(hg:∀C fp s H,DG (eO X N' scope C fp s H) tg bd)(he:∀C fp s H,DE (eO X N' scope C fp s H) elt x)(n:Nat)(hN:X.N.Nodup)(hn:N'.length=n:=by rfl)(hy:X.N[i]?=aA y:=by rfl)(hx:Loc X.env.scope y:=by first|exact Or.inl rfl|exact Or.inr rfl)(hf:sM X y:=by first|exact .inl rfl|exact .inr rfl)(wp:gi (.ListComp elt [⟨tg,iter,[],0⟩] scope pos) (aA<|.Name y py) A3.line X.env=pure true:=by rfl)(hs:∀x,fk iter X.env x=pure x:=by intro _;rfl):DS X (.Assign [.Name y py] (.ListComp elt [⟨tg,iter,[],0⟩] scope pos) A3) (xF i<|xI<|vY cap n it bd x):=by
 subst hn;exact PS.aK (Y3 (i:=i) (g:=lG X.K bd) (te:=lE X.K x) (tc:=aB) hc o hi hg rfl he hN hy hx hf wp hs) λDn σ H h=>g8 (tc:=aB) (λ{σ H K1 K0 te} z=>by
  obtain⟨O0,r,b,hR,e,q⟩:=z;unfold mS at e;cases e;have z1:(if true=true then te σ H K1 else K0 H):=q H<|aH.refl H;rw[if_pos rfl] at z1;exact z1) N'.length<|Hh h
def W9(i:Nat)(hc:X.calm=true)(o:sN X N' cap scope)(hi:DI X tg iter it)(hg:∀C fp s H,DG (eO X N' scope C fp s H) tg bd)(ht:∀C fp s H,DT (eO X N' scope C fp s H) ce c)(he:∀C fp s H,DE (eO X N' scope C fp s H) elt x)(n:Nat)(hN:X.N.Nodup)(hn:N'.length=n:=by rfl)(hy:X.N[i]?=aA y:=by rfl)(hx:Loc X.env.scope y:=by first|exact Or.inl rfl|exact Or.inr rfl)(hf:sM X y:=by first|exact .inl rfl|exact .inr rfl)(wp:gi (.ListComp elt [⟨tg,iter,[ce],0⟩] scope pos) (aA<|.Name y py) A3.line X.env=pure true:=by rfl)(hs:∀x,fk iter X.env x=pure x:=by intro _;rfl):DS X (.Assign [.Name y py] (.ListComp elt [⟨tg,iter,[ce],0⟩] scope pos) A3) (xF i<|xI<|qG cap n it bd c x):=by
 subst hn;exact PS.aK (Y3 (i:=i) (g:=lG X.K bd) (te:=lE X.K x) (tc:=aA<|lT X.K c) hc o hi hg ⟨ce,rfl,ht⟩ he hN hy hx hf wp hs) λDn σ H h=>g8 (tc:=aA<|lT X.K c) (λz=>z) N'.length<|Hh h
end DD
namespace TS
open PySem PyProof.Rows
open PySem PyProof.Rows PySem.W
end TS
namespace DD
open PySem PySem.Spec PyProof.Rows L2
noncomputable def f_:D->D->Option D
 |.int i,.int j=>aA<|.bl<|decide (i<j)
 |.str s,.str t=>aA<|.bl<|decide (s<t)
 |_,_=>aB
def Rp:c_ X (bz .Lt) (λx y H Q=>∃i j,x=.str i/\y=.str j/\Q (.bl<|decide (i.cps.toList<j.cps.toList)) H):=by
 intro pZ s σ H x y v u Q I rx ry hq;obtain⟨i,j,rfl,rfl,q⟩:=hq;obtain⟨t,rfl⟩:=rx;obtain⟨t',rfl⟩:=ry;exact PySem.P.lt_str ⟨.bl _,H,I,rfl,q⟩
def Js:R2:=λx y H Q=>sR (λi j=>.bl<|decide (i<j)) x y H Q\/∃i j,x=.str i/\y=.str j/\Q (.bl<|decide (i.cps.toList<j.cps.toList)) H
def rM:c_ X (bz .Lt) Js:=Wb.or Rp
def rR{K:Fg}:eT K Js f_:=by
 intro O H dx dy d vx vy Q ol ix iy e q;cases dx<;>cases dy<;>first|(simp only[f_,reduceCtorEq] at e;done)|skip
 .simp only[f_,cq] at e;subst e;rw[zY] at ix iy;exact .inl ⟨_,_,ix,iy,q _ H (aH.refl H)<|by rw[yY]⟩
 .simp only[f_,cq] at e;subst e;rw[yE] at ix iy;exact .inr ⟨_,_,ix,iy,q _ H (aH.refl H)<|by rw[yY]⟩
def Bx(neg:Bool)(f:ME)(fl:ML):MB:=λr=>(f r).bind λx=>(fl r).bind λl=>(inD neg x<|.lst l).bind AC
def RA(ha:DE X a f)(hb:DB X b fl)(hm:gu .In b=false:=by rfl):DT X (.Compare a [.In] [b] pos) (Bx false f fl):=by
 refine PT.aK (X8 dF ha hb hm) λσ H Q h=>?_
 obtain⟨O0,r,k,hR,e,q⟩:=h;obtain⟨x,e1,e⟩:=aI e;obtain⟨l,e2,e⟩:=aI e;obtain⟨d,e3,e4⟩:=aI e;refine⟨O0,r,x,hR,e1,λv1 H1 s1 i1=>⟨O0,r,l,hR.same s1,e2,λp xs H2 s2 sq il=>?_⟩⟩;have BZ:=i1.same s2 (hR.same s1).ol;simp only[inD] at e3;split at e3
 .rename_i hl;cases e3;obtain⟨q1,q2⟩:=DY BZ hl.1 il hl.2;cases e4;exact⟨p,xs,rfl,.inl sq,ZN BZ hl.1,q1,_,by simp only[iq,if_false];rw[q2],q H2<|s1.trans s2⟩
 .cases e3
def aL:Sl->Prop
 |.un=>True
 |.v _=>True
 |_=>False
def K'(h:aL x):x.pk=aB:=by
 cases x<;>first|rfl|exact h.elim
def yT(e:r[i]?=aA x)(h:aL x):y9 i d r=aA (r.set i<|.v d):=by
 unfold y9;rw[e];cases x<;>first|rfl|cases h
def LF(e:r[i]?=aA (.o<|S++[d])):iS i r=aA (d,r.set i<|.o S):=by
 simp[iS,ZF,e,Sl.ml,X7]
def YO(e:r[i]?=aA (.o S))(e2:f r=aA d)(h:S.length<ag):oM i f r=aA (.aG,r.set i<|.o<|S++[d]):=by
 simp[oM,ZF,e,Sl.ml,X7,e2,h]
def mX(e:r[i]?=aA (.v d)):zD i r=aA d:=by
 unfold zD;rw[e]
def xA(e:g r=aA (.nx r')):yC g h r=h r':=by
 unfold yC;rw[e];rfl
def JL(e:g r=aA (.rt d r')):yC g h r=aA (.rt d r'):=by
 unfold yC;rw[e];rfl
def ZA(e:f r=aA (d,r')):sX f r=aA (.nx r'):=by
 unfold sX;rw[e];rfl
def jI(e:f r=aA d)(e2:y9 i d r=aA r2):xF i f r=aA (.nx r2):=by
 unfold xF;rw[e];show(y9 i d r).map Fl.nx=_;rw[e2];rfl
def o5(e:c r=aA true):aJ c g h r=g r:=by
 unfold aJ;rw[e];rfl
def cC(e:c r=aA false):aJ c g h r=h r:=by
 unfold aJ;rw[e];rfl
def p9(h:c r=aA true)(e:g r=aA (.nx r')):j7 (n+1) c g r=j7 n c g r':=by
 show(c r).bind _=_;rw[h,aa,if_pos rfl,e,aa]
def mW(h:c r=aA false):j7 (n+1) c g r=aA (.nx r):=by
 show(c r).bind _=_;rw[h,aa,if_neg<|by simp]
def vI{α:Type}(x:α)(l:List α):eZ (x::l) 0=aA x:=qD (j:=0) rfl
def cN(h:bd d r=aA r1)(e:g r1=aA (.nx r')):gM bd g (d::l) r=gM bd g l r':=by
 show(bd d r).bind _=_;rw[h,aa,e,aa]
def zT(e1:f r=aA x)(e2:g r=aA y)(e:m x y=aA d):zG m f g r=aA d:=by
 unfold zG;rw[e1,aa,e2];exact e
def u8(e1:f r=aA x)(e:m x=aA d):aF m f r=aA d:=by
 unfold aF;rw[e1];exact e
def qU(e1:f r=aA (.int i))(e2:g r=aA (.int j)):zG xC f g r=aA (.int<|i+j):=zT e1 e2 rfl
def wR(e1:f r=aA (.int i))(e2:g r=aA (.int j))(h:0<j):zG jM f g r=aA (.int<|i % j):=zT e1 e2<|if_pos h
def Ez(e1:f r=aA (.int i))(e2:g r=aA (.int j))(h : -(2 ^ 64)<i/\i<2 ^ 64):zG AJ f g r=aA (.int<|i*j):=zT e1 e2<|if_pos<|.inl h
def jJ(e1:f r=aA (.int i))(e2:g r=aA (.int j))(h:0<j/\j<1073741824):zG qX f g r=aA (.int<|i / j):=zT e1 e2<|if_pos h
def zH:mC d r=aA d:=rfl
def zE(e1:f r=aA x)(e2:fl r=aA l):zC f fl r=aA (x::l):=by
 unfold zC;rw[e1,aa,e2];rfl
def zO:zN r=aA []:=rfl
def wH(e:fl r=aA l)(h:l.length<=100):xI (yB fl) r=aA (.lst l):=by
 unfold xI yB;rw[e,aa,if_pos<|bf h<|by decide];rfl
def qZ(e:fl r=aA l)(h:l.length<=100):vD fl r=aA (.tup l):=by
 unfold vD;rw[e,aa,if_pos<|bf h<|by decide]
def yG(e:fl r=aA l)(hl:l.length=n)(h:∃as,m (l.map .v)=aA (p,as)):zW n m fl r=aA (HA p):=by
 obtain⟨as,h⟩:=h;unfold zW;rw[e,aa,if_pos hl,h];rfl
def kB(e:f r=aA (.bl b)):aD f r=aA b:=by
 unfold aD;rw[e];rfl
def yO(e:f r=aA d):qE f r=aA (.rt d r):=by
 unfold qE;rw[e];rfl
def yL(d:D)(e:f r=aA d)(e2:y9 k d r=aA r2)(q:h r2=z):yC (xF k f) h r=z:=by
 rw[xA<|jI e e2];exact q
def yS(e:c r=aA false)(q:h r=z):yC (aJ c a yP) h r=z:=by
 rw[xA (r':=r) (by rw[cC e];rfl)];exact q
def wT(e:c r=aA true)(q:a r=aA (.rt d r')):yC (aJ c a yP) h r=aA (.rt d r'):=JL (by rw[o5 e];exact q)
def qR(e:s (as++bq (N-n) .un)=aA (.rt d r')):∃bs,aY n N s as=aA (.v d,bs):=by
 unfold aY;rw[e];exact⟨_,rfl⟩
def dB(h:s.length+t.length<=100):xC (.str s) (.str t)=aA (.str<|s++t):=if_pos (bf h<|by decide)
def dP{lo:MO}(e1:f r=aA x)(e2:lo r=aA a)(e3:hi r=aA b)(e:ze x a b=aA d):aT f lo hi r=aA d:=by
 unfold aT;rw[e1,aa,e2,aa,e3];exact e
def JQ(e:g r=aA (.int i)):aF nX g r=aA (.int<|-i):=u8 e rfl
def jL(e:g r=aA (.int i)):xL g r=aA (aA i):=by
 unfold xL;rw[e];rfl
def oA(e1:f r=aA (.int i))(e2:g r=aA (.int j)):aD (zG a_ f g) r=aA (decide (j<i)):=kB<|zT e1 e2 rfl
def Mc(h:l.length+m.length<=100000):xC (.lst l) (.lst m)=aA (.lst<|l++m):=if_pos (bf h<|by decide)
def QH(s:List α)(k:Nat):dS s aB (aA (k:Int))=s.take k:=by
 unfold dS;rw[HT.Cv,HT.EH,qm,Nat.sub_zero,uh];omega
def GO(s:List α)(i k:Nat):dS s (aA (i:Int)) (aA (k:Int))=(s.take k).drop i:=by
 unfold dS;rw[HT.Cv,HT.Cv,List.drop_take];by_cases h:i<=s.length
 .rw[Nat.min_eq_left h,uh,cw];rw[ug,ug,Nat.min_assoc,Nat.min_self]
 .have e1:s.drop (min i s.length)=[]:=ke (by omega);have e2:s.drop i=[]:=ke (by omega);rw[e1,e2];simp
def Er(e:f r=aA (.int (n:Int)))(h:n<1000):mT f r=aA ((db n).map λk=>.int<|(0:Int)+(k:Nat)):=by
 have h1 : -(2 ^ 62:Int)<=(n:Int)/\(n:Int)<2 ^ 62:=by constructor<;>omega
 have h2:DD.intD (.int (n:Int))=aA (n:Int):=by unfold DD.intD;rfl
 unfold mT;rw[e,aa,h2,aa,if_pos h1,Int.toNat_natCast];unfold xq;rfl
def mO(e1:f r=aA (.lst l))(e2:g r=aA (.lst m))(h:l.length+m.length<=100000):zG xC f g r=aA (.lst<|l++m):=zT e1 e2<|Mc h
def YG(h:bd x r=aA r1)(e:g r1=aA (.rt d r')):gM bd g (x::l) r=aA (.rt d r'):=by
 unfold gM;rw[h,aa,e];rfl
def Fz(K:Fg)(a:Addr)(n:Nat):It:=
 ⟨λi H=>∃xs x,aV K H a xs/\xs.length=n/\i<n/\xs[n-1-i]?=aA x,λi H x H'=>H'=H/\∀xs,aV K H a xs->xs[n-1-i]?=aA x,λi _=>i=n⟩
def Vt{K:Fg}(a it:Addr)(n:Nat):Turn P w K tg (Fz K a n) [it] it (λi h=>h.IsRevIter it a<|(n:Int)-1-(i:Int)) where
 mem:=by simp
 obj:=λi h st b hb=>by
  have e:b=it:=by simpa using hb
  subst e;obtain⟨o,e,c,d⟩:=st;exact⟨o,e,λv z=>by rw[d] at z;cases z⟩
 keep:=λi h h' st k=>st.at λo e=>k it (by simp) o e
 item:=by
  intro X hP hw hK hc i pZ s σ H E I hf st hg;subst hP hw hK;obtain⟨xs,x,hq,hn,hi,hx⟩:=hg;obtain⟨its,rv,p,hz⟩:=I.list hq;obtain⟨u,hu,ru⟩:=rv.get hx;obtain⟨f0,f1,f2,f3,f4,f5⟩:=hf it (by simp);have e1:(n:Int)-1-(i:Int)=((n-1-i:Nat):Int):=by clear st hu hx hq hn rv p;omega
  rw[e1] at st;refine wpAny_pyNext_rev_item st p.isList (x:=u) (by simpa using hu) λh' aW sb=>?_
  have e2:((n-1-i:Nat):Int)-1=(n:Int)-1-((i+1:Nat):Int):=by clear st aW hu hx hq hn rv p;omega
  rw[e2] at aW;have I1:Inv X pZ σ H { s with heap:=h' }:=I.turned (t':=s.toks) (λb o hb e=>(sb.2 b hb).trans e) f0 f1 f3 f4 f5;obtain⟨o,e,c,d⟩:=id aW;exact⟨u,rfl,Cm (s:={ s with heap:=h' }) e c d (by decide) ⟨x,H,I1,ru,⟨rfl,λys hy=>by rw[I.HN hy hq];exact hx⟩,aW,λb hb=>(hf b hb).1⟩⟩
 done:=by
  intro X hP hw hK hc i pZ s σ H E I hf st hg;subst hP hw hK;obtain rfl:i=n:=hg;obtain⟨f0,f1,f2,f3,f4,f5⟩:=hf it (by simp);have e1:(i:Int)-1-(i:Int)=-1:=by clear st;omega
  rw[e1] at st;exact wpAny_pyNext_rev_end (I.ok.hd hc) st λh' eb=>⟨rfl,I.turned (t':=s.toks) (λb o hb e=>eb b o hb e) f0 f1 f3 f4 f5⟩
 self:=λ_ _ _ _ _ st h=>um st h
def T6{K:Fg}(mo:∀a,M a->O a)(ol:Z2 O H)(rd:∀H1,Q9 M H H1->aV K H1 a xs)(il:IsL K O H ds xs):Bv K O M H (Fz K a xs.length) ds.reverse:=by
 intro i H1 O' kp oo;have An:Q9 O H H1:=λb o e n=>kp b o e λz=>n<|mo b z
 have xu:aV K H1 a xs:=rd H1 kp;have ll:=il.length;have bk:∀d,ds.reverse[i]?=aA d->i<xs.length/\ds[xs.length-1-i]?=aA d:=λd e=>by
  have hi:i<ds.length:=by
   obtain⟨h,_⟩:=ar.mp e;rw[du] at h;exact h
  rw[uj hi,ll] at e;exact⟨ll ▸ hi,e⟩
 refine⟨λhi=>⟨?_,λx H' y=>?_⟩,λhi=>by rw[du,ll] at hi;exact hi⟩
 .obtain⟨d,e⟩:=oB hi;obtain⟨Ol,e'⟩:=bk d e;obtain⟨v,e1,_⟩:=il.get e';exact⟨xs,v,xu,rfl,Ol,e1⟩
 .obtain⟨rfl,y⟩:=y;refine⟨aH.refl _,λd e=>?_⟩;obtain⟨Ol,e'⟩:=bk d e;obtain⟨v,e1,q⟩:=il.get e'
  have:=y xs xu
  rw[e1] at this;cases this;exact Is.mono An ol oo _ _ q
def S_(hg:Gl X "reversed")(hm:X.mg "reversed" = aB)(ha:PE X a ta)(hs:aq [a] X.env=[(false,eval a X.env)]:=by rfl):PI X tg (.Call (.Name "reversed" p) [a] [] pos) (λσ H R=>ta σ H λx H1=>∃u xs,x=.ref u/\aV X.K H1 u xs/\R (Fz X.K u xs.length) H1):=by
 intro pZ s σ H R I h;have hA:PA X [a] (Ea ta Cg):=wV ha kT hs;refine Call_<|rX I hg hm qk<|gb (aS (hA pos pZ s σ H (z1 λx H1=>∃u xs,x=.ref u/\aV X.K H1 u xs/\R (Fz X.K u xs.length) H1) I h) λus s1 ⟨vs,H1,I1,r1,q1⟩=>?_) hs rfl;obtain⟨_,rfl,u,xs,rfl,hx,q⟩:=GG q1;obtain⟨uu,rfl,ru⟩:=Vals.one r1;cases ru;obtain⟨its,rv,pl,_⟩:=I1.list hx;have hl:its.toArray.size=xs.length:=by rw[ai];exact rv.length.symm
 have z1:(s1.heap.push<|revObj u<|(its.toArray.size:Int)-1).IsRevIter s1.heap.objs.size u ((its.toArray.size:Int)-1):=⟨_,cn _ rfl,rfl,rfl⟩;refine call_reversed_list pl.isList<|um z1 ?_;refine⟨_,[s1.heap.objs.size],_,_,H1,rfl,I1.kept (t':=s1.toks) λb o e=>ay _ e,Vt u _ xs.length,?_,λb hb=>?_,q⟩
 .rw[hl] at z1 ⊢;rw[show((xs.length:Int)-1-((0:Nat):Int))=(xs.length:Int)-1 from Int.sub_zero _];exact z1
 .have e:b=s1.heap.objs.size:=by simpa using hb
  subst e;exact I1.Bn (ao _)<|I1.aP.fresh<|ao _
def Co(f:ME):ML:=λr=>(f r).bind λd=>match d with
 |.lst l=>aA l.reverse
 |_=>aB
def Sq(hg:Gl X "reversed")(hm:X.mg "reversed" = aB)(ha:DE X a f)(hs:aq [a] X.env=[(false,eval a X.env)]:=by rfl):DI X tg (.Call (.Name "reversed" p) [a] [] pos) (Co f):=by
 refine PI.aK (S_ hg hm ha hs) λσ H Rr hq=>?_
 obtain⟨O0,r,ds,hR,e,q⟩:=hq;obtain⟨x,e1,e⟩:=aI e;refine⟨O0,r,x,hR,e1,λv1 H1 s1 i1=>?_⟩;have ol:=(hR.same s1).ol;cases x<;>first|(simp only[reduceCtorEq] at e;done)|skip
 rename_i l;simp only[cq] at e;subst e;rw[yV] at i1;obtain⟨u,xs,rfl,hx,il⟩:=i1;exact⟨u,xs,rfl,hx.sq,q _ H1 s1<|T6 (λa z=>.inr z.own) ol (λH2 k2=>hx.imp (λz=>Rd.keep k2 (λy=>z.1<|.inr y.own) z.2) id) il⟩
def M8{K:Fg}(ol:Z2 O H)(hp:H p=aB)(h:IsL K O H l xs):IsL K (λb=>O b\/b=p) (upd H p<|.lst ys) l xs:=
 IsL.mono (aH.kp (xU hp) _) ol (λa z n=>z.elim id λz=>by subst z;exact absurd hp n) _ _ h
def Dz(fl:ML)(lo hi:MO):ML:=λr=>(fl r).bind λl=>(lo r).bind λi=>(hi r).map λj=>dS l i j
def Rw{lo:Option Expr}(ha:DB X a fm)(hl:DO X lo fl)(hh:DO X hi fh):DF X (.Subscript a (.Slice lo hi aB p2) pos) (Dz fm fl fh):=by
 refine PE.aK (Nh (r:=FR X.K) ND ha hl hh) λσ H Q hq=>?_
 obtain⟨O0,r,d,hR,e,q⟩:=hq;obtain⟨l,e1,e⟩:=aI e;obtain⟨i,e2,e⟩:=aI e;obtain⟨j,e3,rfl⟩:=a8 e;refine⟨O0,r,l,hR,e1,λp xs H1 s1 sq il=>⟨O0,r,i,hR.same s1,e2,λH2 s2=>⟨O0,r,j,hR.same<|s1.trans s2,e3,λH3 s3=>?_⟩⟩⟩;have sQ:=(s1.trans s2).trans s3;have R3:=hR.same sQ;have i3:=il.same (s2.trans s3) (hR.same s1).ol;refine⟨p,xs,rfl,(s2.trans s3).seq sq,λt ht=>q t _ _ (sQ.trans<|xU ht) (sQ.free ht) wL ?_⟩;exact M8 R3.ol ht<|i3.cut i j
def xk(f g:ML):ML:=λr=>(f r).bind λl=>(g r).bind λm=>if l.length+m.length<=ag then aA (l++m) else aB
def QB(ha:DB X a fl)(hb:DB X b gl):DF X (.BinOp a .Add b pos) (xk fl gl):=by
 refine PE.aK (Ki NM ha hb) λσ H Q h=>?_
 obtain⟨O0,r,d,hR,e,q⟩:=h;obtain⟨l,e1,e⟩:=aI e;obtain⟨m,e2,e⟩:=aI e;split at e
 .rename_i hz;cases e;refine⟨O0,r,l,hR,e1,λp xs H1 s1 sq il=>⟨O0,r,m,hR.same s1,e2,λp' ys H2 s2 Cu vh=>?_⟩⟩;refine⟨p,p',xs,ys,rfl,rfl,s2.seq sq,Cu,by rw[<-il.length,<-vh.length];exact hz,λt ht=>q t _ _ ((s1.trans s2).trans<|xU ht) ((s1.trans s2).free ht) wL ?_⟩;exact M8 (hR.same<|s1.trans s2).ol ht<|(il.same s2 (hR.same s1).ol).append vh
 .cases e
def K8(f g:ML):MB:=λr=>(f r).bind λl=>(g r).bind λm=>if m.isEmpty then aA (!l.isEmpty) else aB
def RI(K:Fg):R2:=λx y H Q=>∃p q xs,x=.ref p/\y=.ref q/\aV K H p xs/\aV K H q []/\Q (.bl<|!xs.isEmpty) H
def Uj(hu:X.A.units<cLine):c_ X (bz .NotEq) (RI X.K):=by
 intro pZ s σ H x y v u Q I rx ry h;obtain⟨p,q',xs,hx,hy,h1,h2,q⟩:=h;cases xs with
 |nil=>exact Lf hu pZ s σ H x y v u Q I rx ry ⟨p,q',[],[],hx,hy,h1,h2,rfl,rfl,q⟩
 |cons z zs=>
  subst hx hy;cases rx;cases ry;obtain⟨its,r,pl,hz⟩:=I.list h1;obtain⟨fF,r2,vf,B0⟩:=I.list h2;have n1:=r.length;have n2:=r2.length;simp only[ac,am] at n1 n2;refine qf pl.isList vf.isList (by simp only[ai,bne_iff_ne];omega) hu _ _ _ _<|qC I q ?_;rfl
def Ux(hu:X.A.units<cLine)(ha:DB X a fl)(hb:DB X b gl)(hm:gu .NotEq b=false:=by rfl):DT X (.Compare a [.NotEq] [b] pos) (K8 fl gl):=by
 refine PT.aK (X8 (Uj hu) ha hb hm) λσ H Q h=>?_
 obtain⟨O0,r,d,hR,e,q⟩:=h;obtain⟨l,e1,e⟩:=aI e;obtain⟨m,e2,e⟩:=aI e;split at e
 .rename_i hz;cases e;refine⟨O0,r,l,hR,e1,λp xs H1 s1 sq il=>⟨O0,r,m,hR.same s1,e2,λp' ys H2 s2 Cu vh=>?_⟩⟩;have hm:m=[]:=by simpa using hz
  subst hm;unfold IsL at vh;subst vh;have hb:l.isEmpty=xs.isEmpty:=by
   have:=il.length
   cases l<;>cases xs<;>simp_all
  exact⟨p,p',xs,rfl,rfl,s2.seq sq,Cu,_,rfl,by rw[<-hb];exact q H2<|s1.trans s2⟩
 .cases e
noncomputable def BI:List D->List D->Bool
 |[],[]=>false
 |.int _::_,.lst _::_=>true
 |_::m,_::l=>BI m l
 |[],_::_=>true
 |_::_,[]=>true
mutual
noncomputable def B7(l:List D):D->Bool
 |.tup m=>zq l m
 |.lst m=>BI m l && zq l m
 |.fL _ _=>false
 |_=>true
noncomputable def zq(l:List D):List D->Bool
 |[]=>true
 |d::m=>B7 l d && zq l m
end
theorem MU{K:Fg}:∀{m l:List D} {xs:List V},BI m l=true->IsL K O H m xs->IsL K O' H l xs->False
 |[],[],xs,c,_,_=>by simp[BI] at c
 |[],e::l,xs,_,h,h'=>by
  unfold IsL at h;subst h;unfold IsL at h';obtain⟨v,r,e,_⟩:=h';cases e
 |d::m,[],xs,_,h,h'=>by
  unfold IsL at h';subst h';unfold IsL at h;obtain⟨v,r,e,_⟩:=h;cases e
 |d::m,e::l,xs,c,h,h'=>by
  unfold IsL at h;obtain⟨v,r,rfl,h1,h2⟩:=h;unfold IsL at h';obtain⟨v',r',ee,Bl,Dm⟩:=h';cases ee;by_cases hc:BI m l=true
  .exact MU hc h2 Dm
  .unfold BI at c;split at c
   .rename_i e1 e2;cases e1
   .rename_i i t l' t' e1 e2;cases e1;cases e2;rw[zY] at h1;rw[yV] at Bl;obtain⟨a,ys,q,_⟩:=Bl;rw[h1] at q;cases q
   .rename_i e1 e2;cases e1;cases e2;exact hc c
   .rename_i e1 e2;cases e1
   .rename_i e1 e2;cases e2
mutual
theorem PD{K:Fg}(hO:∀b,O b->O' b\/b=a)(ha:H a=aA (.lst xs))(il:IsL K O' H l xs):∀(d:D) (v:V),B7 l d=true->Is K O' H d v->Is K O H d v
 |.aG,v,_,h=>by unfold Is at h ⊢;exact h
 |.bl b,v,_,h=>by unfold Is at h ⊢;exact h
 |.int i,v,_,h=>by unfold Is at h ⊢;exact h
 |.str s,v,_,h=>by unfold Is at h ⊢;exact h
 |.ty n,v,_,h=>by unfold Is at h ⊢;exact h
 |.ref a,v,_,h=>by unfold Is at h ⊢;exact h
 |.fL ks m,v,p,h=>by unfold B7 at p;cases p
 |.tup m,v,p,h=>by
  unfold B7 at p;unfold Is at h ⊢;obtain⟨b,ys,e,q,r⟩:=h;exact⟨b,ys,e,q,Ee hO ha il m ys p r⟩
 |.lst m,v,p,h=>by
  unfold B7 at p;rw[bo] at p;unfold Is at h ⊢;obtain⟨b,ys,e,q,r⟩:=h;refine⟨b,ys,e,?_,Ee hO ha il m ys p.2 r⟩;rcases q with⟨n,q⟩|q
  .refine .inl ⟨λz=>?_,q⟩;rcases hO b z with z|z
   .exact n z
   .subst z;rcases q with q|⟨o,q⟩
    .rw[ha] at q;cases q;exact MU p.1 r il
    .rw[ha] at q;cases q
  .exact .inr q
theorem Ee{K:Fg}(hO:∀b,O b->O' b\/b=a)(ha:H a=aA (.lst xs))(il:IsL K O' H l xs):∀(m:List D) (vs:List V),zq l m=true->IsL K O' H m vs->IsL K O H m vs
 |[],vs,_,h=>by unfold IsL at h ⊢;exact h
 |d::m,vs,p,h=>by
  unfold zq at p;rw[bo] at p;unfold IsL at h ⊢;obtain⟨v,r,e,h1,h2⟩:=h;exact⟨v,r,e,PD hO ha il d v p.1 h1,Ee hO ha il m r p.2 h2⟩
end
end DD
namespace ZZ
open PySem
end ZZ
namespace DD
open PySem PySem.Spec PyProof.Rows L2
open PySem PySem.Spec PyProof.Rows L2 PySem.W
def FI(P:Program)(w:World)(fs:List Addr)(H H':Hp)(h0 B h1:Heap):Prop:=∀h:Heap,B.StaysIn h->h1.UpToSlots h->Un fs [] H H' h0 h/\fG P w H' h
def aZ(P:Program)(w:World):AI:=λouter H s E e s'=>∃(a C:Addr) (B:Heap) (a0:Value) (H':Hp),e=.ref a/\s'.os=s.os/\AllBare s'.gens/\tv B outer a (.ref C) a0 s'.heap/\H' a=aB/\E (.ref C) aB H'/\FI P w (fR outer) H H' s.heap B s'.heap
def iB.there(x:iB P w H h a o):∃ob,h.get? a=aA ob:=by
 cases o with
 |lst xs=>obtain⟨_,_,_,_,e⟩:=x;exact⟨_,e⟩
 |tup xs=>obtain⟨_,_,_,ob,e,_⟩:=x;exact⟨_,e⟩
 |dK aM=>obtain⟨_,_,_,_,o,_,_,e,_⟩:=x;exact⟨_,e⟩
 |dT aM=>obtain⟨_,_,_,_,o,_,_,e,_⟩:=x;exact⟨_,e⟩
 |set S n=>obtain⟨o,_,_,_,e,_⟩:=x;exact⟨_,e⟩
 |ins C dx fs=>obtain⟨_,_,_,e,_⟩:=x;exact⟨_,e⟩
 |own y=>obtain⟨_,e⟩:=x;exact⟨_,e⟩
 |xd fs=>obtain⟨_,⟨_,_,_,e,_⟩,_⟩:=x;exact⟨_,e⟩
 |EI lo hi=>obtain⟨_,_,_,e⟩:=x;exact⟨_,e⟩
 |iO ob u=>obtain⟨e,_⟩:=x;exact⟨_,e⟩
 |tbl ps=>obtain⟨_,e,_⟩:=x;exact⟨_,e⟩
 |met f y=>exact⟨_,(show h.get? a=aA _ from x)⟩
 |ext φ=>obtain⟨_,⟨_,e⟩,_⟩:=x;exact⟨_,e⟩
def T7(x:fG P w H h)(n:h.get? a=aB):H a=aB:=by
 cases e:H a with
 |none=>rfl
 |some o=>obtain⟨ob,q⟩:=iB.there<|x a o e;rw[n] at q;cases q
section
variable{K:Fg}
def U2{X:Cx}{pZ:List (Addr×Obj)}{σ:St}{H1:Hp}{s2:Shared}{h3 h4:Heap}(I:Inv X pZ σ H1 s2)(hex:X.ex=[])(k3:∀b o,s2.heap.get? b=aA o->h3.get? b=aA o)(u4:h3.UpToSlots h4):FI X.prog X.w X.fs X.H₀ H1 X.s₀.heap (hideAll s2.heap<|fR X.stack) h4:=by
 intro h hB hu;have Xz:∀b∈fR X.stack,∃o,s2.heap.get? b=aA o/\∀vs,o.data≠.fields vs:=λb hb=>(I.stack.mem hb).2
 have put:∀b o,s2.heap.get? b=aA o->b∉fR X.stack->h.get? b=aA o:=λb o e n=>hB b o<|hideAll_get _ e n
 have NC:∀b o,s2.heap.get? b=aA o->b∈fR X.stack->∃sl,h.get? b=aA { o with slots:=sl }:=λb o e hb=>by
  obtain⟨o',e',d'⟩:=Xz b hb;rw[e] at e';cases e';obtain⟨s1,e1⟩:=u4 b o (k3 b o e) d';obtain⟨V6,e2⟩:=hu b _ e1 d';exact⟨V6,e2⟩
 have bs:=I.base;rw[hex] at bs;refine⟨⟨λb o e n hb hx=>?_,λb o e n hb hx=>?_,λb o e n hx=>bs.free b o e n hx,λb o e hx=>?_,bs.v_,bs.vm,bs.wa⟩,λb u e=>?_⟩
 .refine put b o (bs.keep b o e n hb hx) λz=>?_
  rcases av.mp (I.EF b z) with q|q
  .exact absurd (ba (ax e) (by rw[q];exact I.ok.above))<|gw _
  .exact hb q
 .obtain⟨sl,e1⟩:=bs.slot b o e n hb hx;by_cases z:b∈fR X.stack
  .obtain⟨zf,e2⟩:=NC b _ e1 z;exact⟨zf,e2⟩
  .exact⟨sl,put b _ e1 z⟩
 .obtain⟨o',e1⟩:=bs.there b o e hx;by_cases z:b∈fR X.stack
  .obtain⟨zf,e2⟩:=NC b _ e1 z;exact⟨_,e2⟩
  .exact⟨o',put b _ e1 z⟩
 .have nf:∀c v,H1 c=aA v->c∉fR X.stack:=λc v q z=>by rw[I.Hs c z] at q;cases q
  refine(I.aP b u e).xt (λc v hc q=>put c v q ?_) (λ_ q=>q) (λ_ _ q=>q) λ_ _ _ q=>q
  rcases hc with z|z
  .rw[z];exact nf b u e
  .exact nf c _ z
def T1(I:Inv (gE (aZ P w) P w K mg base N qual scope f cd A outer s H E) pZ σ H1 s2)(hx:Heap.MadeExcOf s2.heap h3 e (.ref C) args)(q:E (.ref C) aB H1):(gE (aZ P w) P w K mg base N qual scope f cd A outer s H E).xe (.ref e) { s2 with heap:=h3 }:=by
 let X:=gE (aZ P w) P w K mg base N qual scope f cd A outer s H E
 have Zi:∀env∈X.stack,∀b,env.frame=aA b->b∈fR X.stack:=λenv he b hb=>nv.mpr ⟨env,he,hb⟩
 refine wpAny_leaves_madeW (base:=hideAll s2.heap<|fR X.stack) (h:=s2.heap) I.ok.frames rfl (λb o z=>of_hideAll _ z) (funFrames_hide I.stack Zi) hx λh' t x1 x2 x3 x4=>?_
 exact⟨e,C,_,_,H1,rfl,I.os,I.bare,x1,T7 I.aP hx.new,q,U2 I rfl hx.keeps x4⟩
end
def AW(f:ME):ME:=λr=>(f r).bind λd=>match d with
 |.str s=>if (reprText ⟨s.toArray⟩).length<=ag then aA (.str (reprText ⟨s.toArray⟩).cps.toList) else aB
 |_=>aB
def J'(h:DE X a f)(h2:DJ X es gj):DJ X (.FormattedValue a 114 aB fp::es) (jE (AW f) gj):=Gi (λpZ s σ H Q I hq=>by
 obtain⟨O0,r,d,hR,e,q⟩:=hq;obtain⟨d',e1,e2⟩:=aI e;cases d'<;>first|(cases e2;done)|skip
 rename_i t;simp only at e2;split at e2
 .rename_i hl;cases e2;refine wpAny_FormattedValue_repr<|fu (h pZ s σ H (λv H1=>v=.str ⟨t.toArray⟩/\aH H H1) I ⟨O0,r,_,hR,e1,λv H1 s1 i1=>⟨by rw[yE] at i1;exact i1,s1⟩⟩) (λv s1 ⟨x,H1,I1,r1,ex,sm⟩=>?_) λ_ _ z=>z;subst ex;obtain⟨tk,rfl⟩:=r1;refine wpAny_pyReprObj_str ?_ hl;have q1:=q (.str<|reprText ⟨t.toArray⟩) H1 sm (by rw[yE,Array.toArray_toList]);obtain⟨y,ey,hy,q2⟩:=q1;cases ey;exact formatField_str (λt' VP=>⟨.str<|reprText ⟨t.toArray⟩,H1,(I1.tok _).tok _,⟨_,rfl⟩,q2⟩) hy
 .cases e2) h2
abbrev MX:=En->Option Str
def Xe(K:Fg)(mg:Str->Option Value)(E:XK)(x:MX):TS:=λ_ σ H=>∃O0 r n,R K O0 H r σ/\x r=aA n/\∀C H' r' σ',mg n=aA (.ref C)->R K O0 H' r' σ'->Kp H r σ H' r' σ'->E (.ref C) aB H'
def XS(X:Cx)(E:XK)(st:Stmt)(x:MX):Prop:=PS X st<|Xe X.K X.mg E x
section
variable{st:Stmt}{rest:List Stmt}
def Up:eS X rest (λ_ _ _=>False):=λpZ s σ H D I h=>h.elim
def qF(g:MS)(x:MX):MX:=λr=>(g r).bind λfl=>match fl with
 |.nx r1=>x r1
 |_=>aB
def fA(c:MB)(x y:MX):MX:=λr=>(c r).bind λb=>if b=true then x r else y r
def mR:MX:=λ_=>aB
end
section
variable{K:Fg}
def u7(n:Str)(g:ME):MX:=λr=>(g r).map λ_=>n
def UM(O:OwnCls x C bm newId mg base)(FB:ExcBaseFacts B newId Ĭ bm)(hg:Gl (gE (aZ P w) P w K mg base N qual scope f cd A outer s H E) x)(ha:DE (gE (aZ P w) P w K mg base N qual scope f cd A outer s H E) a g)(hs:aq [a] (gE (aZ P w) P w K mg base N qual scope f cd A outer s H E).env=(false,eval a (gE (aZ P w) P w K mg base N qual scope f cd A outer s H E).env)::aq [] (gE (aZ P w) P w K mg base N qual scope f cd A outer s H E).env:=by rfl)(fE:e_ x:=by decide):XS (gE (aZ P w) P w K mg base N qual scope f cd A outer s H E) E (.Raise (aA<|.Call (.Name x np) [a] [] eB) aB pos) (u7 x g):=by
 intro pZ s1 σ H1 D I h;obtain⟨O0,r,n,hR,e,q⟩:=h;obtain⟨d,e1,e2⟩:=a8 e;cases e2;obtain⟨tl,N',nm,q',bs,hdct,sn,sub,ab,col,dd,k0,k1,k2,k3,k5,mN,hC,hN,Yx,T⟩:=O.obj;refine wpAny_Raise_call_subT (C:=C) (nm:=nm) (q:=q') (N:=N') (bs:=bs) (bm:=tl) (hdct:=hdct) (sn:=sn) (sub:=sub) (ab:=ab) (col:=col) (dd:=dd) (k0:=k0) (k1:=k1) (k2:=k2) (k3:=k3) (k5:=k5)
  FB (mN:=mN) (T.hasType FB.hasBase) (I.ok.hd rfl) (by rw[hs];rfl) Yx (pQ I hg O.bound ⟨rfl,?_⟩ fE)
 have hA:=(wV ha kT hs) eB pZ s1 σ H1 (λvs H2=>vs.length=1/\E (.ref C) aB H2) I ⟨O0,r,d,hR,e1,λv H2 s2 i2=>⟨rfl,q C H2 r σ O.bound (hR.same s2)<|Kp.of_same r σ s2⟩⟩;rw[hs] at hA ⊢;refine uw<|fu hA (λvs s2 h2=>?_) λ_ _ y=>y;obtain⟨Ğ,H2,I2,rv,hl,hE⟩:=h2;exact⟨rfl,by rw[<-rv.length,hl];decide,I2.bk _ _ hC,hN.keeps I2.bk,T.keeps I2.bk,λh' e' hm=>T1 I2 hm hE⟩
end
def EG(K:Fg)(mg:Str->Option Value)(n:Nat)(m:List D->Option Str):Sp:=λvs H _ E=>∃O ds nm,ds.length=n/\Z2 O H/\IsL K O H ds vs/\m ds=aA nm/\∀C H',mg nm=aA (.ref C)->aH H H'->E (.ref C) aB H'
abbrev MR:=En->Option D
def lR(K:Fg)(ρ:MR):TS:=λDn σ H=>∃O0 r d,R K O0 H r σ/\ρ r=aA d/\∀v σ' H' r',R K O0 H' r' σ'->Kp H r σ H' r' σ'->Is K O0 H' d v->Dn.rt v H'
def xf(X:Cx)(st:List Stmt)(ρ:MR):Prop:=eS X st<|lR X.K ρ
section
variable{st:Stmt}{rest:List Stmt}
def F6(g:MS)(ρ:MR):MR:=λr=>(g r).bind λfl=>match fl with
 |.nx r1=>ρ r1
 |.rt d _=>aA d
 |_=>aB
def Ss(h:DS X st g)(h2:xf X rest ρ):xf X (st::rest) (F6 g ρ):=by
 refine eS.aK (rJ h h2) λDn σ H hq=>?_
 obtain⟨O0,r,d,hR,e,q⟩:=hq;obtain⟨fl,e1,e2⟩:=aI e;cases fl<;>first|(cases e2;done)|skip
 .rename_i r1;exact⟨O0,r,.nx r1,hR,e1,λσ1 H1 R1 k1=>⟨O0,r1,d,R1,e2,λv σ2 H2 r2 R2 k2 i2=>q v σ2 H2 r2 R2 (k1.trans k2) i2⟩⟩
 .rename_i d' r1;cases e2;exact⟨O0,r,.rt d r1,hR,e1,λv σ1 H1 R1 k1 i1=>q v σ1 H1 r1 R1 k1 i1⟩
def rD(g:MS):MR:=λr=>(g r).bind λfl=>match fl with
 |.rt d _=>aA d
 |_=>aB
def Dx(h:lQ X rest g):xf X rest (rD g):=by
 refine eS.aK h λDn σ H hq=>?_
 obtain⟨O0,r,d,hR,e,q⟩:=hq;obtain⟨fl,e1,e2⟩:=aI e;cases fl<;>first|(cases e2;done)|skip
 rename_i d' r1;cases e2;exact⟨O0,r,.rt d r1,hR,e1,λv σ1 H1 R1 k1 i1=>q v σ1 H1 r1 R1 k1 i1⟩
end
noncomputable def N7:Sl->Bool
 |.v _=>true
 |_=>false
def HK(n N:Nat)(ρ:MR):MF:=λas=>if as.all N7=true then (ρ<|as++bq (N-n) .un).map λd=>(.v d,as) else aB
section
variable{K:Fg}
def O8{st:Stmt}(F:xb K x qual st f fd)(S:b_ N ps (zZ st))(n:Nat)(nN:Nat)(hn:ps.length=n:=by rfl)(hN:N.length=nN:=by rfl)(hb:∀(aN:Value) (A:Around) (outer:List Env) (s:Shared) (H:Hp) (E:XK),eR k (A.deeper<|envOfC qual (zZ st) s.heap.objs.size f aN) ->
   xf (gE iW P w K mg base N qual (zZ st) f aN A outer s H E).Ak (cF st) ρ):eG P w K mg base iW (k+1) f fd ps (l5 K n<|HK n nN ρ):=by
 subst hn hN;refine F.ok S (λvs H Q E h=>?_) λaN A outer s H vs Q E hr h=>?_
 .obtain⟨O0,as,rs,fT,hl,hR,_⟩:=h
  have:=hR.len
  simp at this;omega
 .obtain⟨O0,as,rs,fT,hl,hR,no,e,q⟩:=h;have Ax:as.length=vs.length:=by simpa using hR.len
  refine⟨_,hb aN A outer s H E hr,?_⟩;unfold HK at e;split at e
  .rename_i hv;obtain⟨d,e1,e2⟩:=a8 e;cases e2;have iN:L2.start N vs=vs.map aA++bq (N.length-ps.length) aB:=by unfold L2.start;rw[<-Ax,hl]
   rw[iN];have R0:=R.start (k:=N.length-ps.length) hR;refine⟨O0,_,d,R0,e1,λv σ' H' r' R' k' i'=>q v H' ⟨λb o eb nb=>k'.keep b o eb λz=>nb<|(nF rfl Ax).mp z,k'.live,k'.lst,λi l ei=>?_,λi ks l ei=>?_⟩ i'⟩
   .have:=eg.mp hv _<|kl ei
    cases this
   .have:=eg.mp hv _<|kl ei
    cases this
  .cases e
end
def QM(F:eG X.prog X.w X.K X.mg X.base (aZ X.prog X.w) k fa fd ps (EG X.K X.mg n m))(hr:eR k X.A)(hg:Gl X x)(hm:X.mg x=aA (.ref fa))(hk:dj X.K (.ref fa)=true)(hb:Binds X.K fd ps [])(ha:DA X (a::es) fs)(I:Inv X pZ σ H s)(hR:R X.K O0 H r σ)(e1:fs r=aA ds)(hl:ds.length=n)(e2:m ds=aA nm)(hc:∀s1 H1 s' e C B a0 H',Inv X pZ σ H1 s1->aH H H'->s'.os=s1.os->AllBare s'.gens->X.mg nm=aA (.ref C)->tv B X.stack e (.ref C) a0 s'.heap->H' e=aB->FI X.prog X.w (fR X.stack) H1 H' s1.heap B s'.heap->X.xe (.ref e) s')(hC:∃C,X.mg nm=aA (.ref C))(fE:e_ x:=by decide)(he:sL X a es:=by rfl)(hpl:xi X es pos:=by rfl):wpAny (model X.prog X.w) X.A (eval (.Call (.Name x p) (a::es) [] pos) X.env) Q X.xe s:=by
 obtain⟨C,hC⟩:=hC;refine ju<|pQ I hg hm ?_ fE;refine PySem.W.callWith_K (h₀:=X.base) I.ok.mod.BX hk (aS (ha pos pZ s σ H (λvs H1=>aH H H1/\IsL X.K (Ow O0 r σ) H1 ds vs) I ⟨O0,r,ds,hR,e1,λvs H1 s1 il=>⟨s1,il⟩⟩) λus s1 ⟨vs,H1,I1,rv,sm,il⟩=>⟨I1.fO,?_⟩) he hpl;have l_:EG X.K X.mg n m vs H1 (λ_ _=>False) (λc _ H'=>c=.ref C/\aH H1 H'):=⟨Ow O0 r σ,ds,nm,hl,(hR.same sm).ol,il,e2,λC' H' E7 s'=>by rw[hC] at E7;cases E7;exact⟨rfl,s'⟩⟩;have hlen:us.length=ps.length:=by rw[<-rv.length];exact F.len _ _ _ _ l_
 refine wpAny_call<|oq (F.run X.A X.stack s1 H1 ⟨us,[]⟩ us vs _ _ hr I1.OG (by have:=hb s1 us I1.fO (by rw[dk];exact hlen);rw[dk] at this;exact this) rv l_) λres s' hq=>?_;cases res with
 |error e=>
  obtain⟨ea,C',B,a0,H',rfl,ho,Iy,vk,hn,⟨Bj,VW⟩,Di⟩:=hq;cases Bj;exact hc s1 H1 s' ea C B a0 H' I1 (sm.trans VW) ho Iy hC vk hn Di
 |ok fl=>
  cases fl with
  |ret u=>obtain⟨v,H',_,_,_,_,_,q⟩:=hq;exact q.elim
  |next=>exact fj hq
  |brk=>exact fj hq
  |cont=>exact fj hq
noncomputable abbrev Cx.held(X:Cx)(e:Addr)(E:Value->Shared->Prop):Cx:={ X with A:=X.A.mark<|some<|.ref e,calm:=false,xe:=E }
def Inv.held(I:Inv X pZ σ H s)(e:Addr)(E:Value->Shared->Prop):Inv (Cx.held X e E) pZ σ H s:=
 ⟨⟨I.ok.mod,I.ok.kind,I.ok.glob,I.ok.blt,I.ok.above,I.ok.inj,I.ok.has,I.ok.AB,(λz=>by cases z),I.ok.frames,I.ok.A2,I.ok.B5,I.ok.bs,I.ok.ww,I.ok.Am,I.ok.AA,I.ok.m_,I.ok.zo⟩,I.os,I.bare,I.base,I.loc,I.cell,I.free,I.n_,I.pin,I.aP,I.len⟩
def Inv.VJ(ok:X.Ok)(I:Inv (Cx.held X e E) pZ σ H s):Inv X pZ σ H s:=⟨ok,I.os,I.bare,I.base,I.loc,I.cell,I.free,I.n_,I.pin,I.aP,I.len⟩
noncomputable abbrev Cx.pinned(X:Cx)(p:Addr×Obj):Cx:={ X with pn:=p::X.pn }
def Inv.pinned(I:Inv X (p::pZ) σ H s):Inv (Cx.pinned X p) pZ σ H s:=
 ⟨⟨I.ok.mod,I.ok.kind,I.ok.glob,I.ok.blt,I.ok.above,I.ok.inj,I.ok.has,I.ok.AB,I.ok.hd,I.ok.frames,I.ok.A2,I.ok.B5,I.ok.bs,I.ok.ww,I.ok.Am,I.ok.AA,I.ok.m_,I.ok.zo⟩,I.os,I.bare,I.base,I.loc,I.cell,I.free,I.n_,(λq hq=>I.pin q (by
  have C_:q∈p::X.pn++pZ:=hq;simp only[kj,av,bi] at C_ ⊢;rcases C_ with h|h|h
  .exact .inr (.inl h)
  .exact .inl h
  .exact .inr<|.inr h)),I.aP,I.len⟩
def Inv.vz(I:Inv (Cx.pinned X p) pZ σ H s):Inv X pZ σ H s:=
 ⟨⟨I.ok.mod,I.ok.kind,I.ok.glob,I.ok.blt,I.ok.above,I.ok.inj,I.ok.has,I.ok.AB,I.ok.hd,I.ok.frames,I.ok.A2,I.ok.B5,I.ok.bs,I.ok.ww,I.ok.Am,I.ok.AA,I.ok.m_,I.ok.zo⟩,I.os,I.bare,I.base,I.loc,I.cell,I.free,I.n_,(λq hq=>I.pin q<|cj _ hq),I.aP,I.len⟩
def SP.vz{D:Ends}(h:SP (Cx.pinned X p) pZ D f s'):SP X pZ D f s':=by
 cases f with
 |next=>obtain⟨σ',H',I',q⟩:=h;exact⟨σ',H',Inv.vz I',q⟩
 |brk=>obtain⟨σ',H',I',q⟩:=h;exact⟨σ',H',Inv.vz I',q⟩
 |cont=>obtain⟨σ',H',I',q⟩:=h;exact⟨σ',H',Inv.vz I',q⟩
 |ret u=>obtain⟨v,σ',H',I',r,q⟩:=h;exact⟨v,σ',H',Inv.vz I',r,q⟩
def SW(I:Inv X pZ σ H s)(hN:X.N.Nodup)(hi:X.N[i]?=aA x)(hx:X.env.scope.names.lookup x=aA .local)(hk:X.env.kindOf x=aA .local)(h:∀s',Inv X pZ (σ.set i aB) H s'->Q () s'):wpAny M A (do bindName X.env x .none;unbindBehindTheSuite X.env x pos) Q E s:=by
 obtain⟨m,hn,hl⟩:=id I.loc;have g_:(X.env.scope.kind == .class || (X.env.scope.kind == .module && X.env.locals != X.env.globals))=false:=by rw[I.ok.kind];rfl
 have E8:i<σ.length:=by rw[I.len];exact(ar.mp hi).1
 have wv:=I.wv;refine wpAny_nameGoes_keeps hk hn g_ λh' v E6 hs=>h _ ?_
 obtain⟨oL,_,_,Dd,_⟩:=id hn;refine⟨I.ok,I.os,I.bare,⟨λb o e n hb hx=>?_,λb o e n hb hx=>?_,I.base.free,λb o e hx=>?_,I.base.v_,I.base.vm,I.base.wa⟩,⟨_,E6,λj y v' e1 e2 e3=>?_⟩,λy c e=>?_,I.free,I.n_,λp hp=>?_,λb ob e=>?_,by simpa using I.len⟩
 .exact(hs.2 b<|bv<|ba (ax e) I.ok.above).trans (I.base.keep b o e n hb hx)
 .obtain⟨sl,e1⟩:=I.base.slot b o e n hb hx;exact⟨sl,(hs.2 b<|bv<|ba (ax e) I.ok.above).trans e1⟩
 .obtain⟨o',e1⟩:=I.base.there b o e hx;exact⟨o',(hs.2 b<|bv<|ba (ax e) I.ok.above).trans e1⟩
 .by_cases hj:j=i
  .subst hj;rw[kd E8] at e2;cases e2
  .rw[nj<|gc hj] at e2;obtain⟨u',r',q⟩:=hl j y v' e1 e2 e3;refine⟨u',r',?_⟩;rcases q with⟨k,e⟩|⟨k,c,e,z⟩
   .refine .inl ⟨k,?_⟩
    have:y≠x:=λe=>hj<|Y8 hN e1<|e ▸ hi
    simp[this,e]
   .exact .inr ⟨k,c,e,z.sameBut hs<|wv y c e⟩
 .obtain⟨w',z⟩:=I.cell y c e;exact⟨w',z.sameBut hs<|wv y c e⟩
 .obtain⟨e,n,ne,nf,d⟩:=I.pin p hp;exact⟨(hs.2 p.1 ne).trans e,n,ne,nf,d⟩
 .refine(I.aP b ob e).xt (λc w' hc q=>(hs.2 c ?_).trans q) (λ_ q=>q) (λ_ _ q=>q) λ_ _ _ q=>q
  rintro rfl;rcases hc with rfl|hc
  .rw[I.free] at e;cases e
  .rw[I.free] at hc;cases hc
def R.unset{K:Fg}(h:R K O0 H r σ)(e:r[j]?=aA y)(hy:aL y):R K O0 H (r.set j .un) (σ.set j aB)/\Kp H r σ H (r.set j .un) (σ.set j aB):=by
 have hj:j<r.length:=(ar.mp e).1;have ĵ:j<σ.length:=by rw[<-h.len];exact hj
 have ne:∀(q:Sl->Option (List D)),q .un=aB->∀(i:Nat) (l:List D),((r.set j .un)[i]?).bind q=aA l->i≠j/\(r[i]?).bind q=aA l:=λq hq i l ei=>by
  by_cases hi:i=j
  .subst hi;rw[yD hj] at ei;rw[aa,hq] at ei;cases ei
  .rw[zK<|gc hi] at ei;exact⟨hi,ei⟩
 have at':∀(q:Sl->Option (List D)),q .un=aB->∀b,q_ q (r.set j .un) (σ.set j aB) b->q_ q r σ b:=λq hq b ⟨i,l,ei,qi⟩=>by
  obtain⟨hi,e'⟩:=ne q hq i l ei;rw[zK<|gc hi] at qi;exact⟨i,l,e',qi⟩
 have ow:∀b,Ow O0 (r.set j .un) (σ.set j aB) b->H b≠aB->Ow O0 r σ b:=λb z _=>z.imp id<|at' _ rfl b
 have BU:∀(i:Nat) (x:Sl),(r.set j .un)[i]?=aA x->x≠.un->i≠j/\r[i]?=aA x:=λi x ei nx=>by
  by_cases hi:i=j
  .subst hi;rw[yD hj] at ei;cases ei;exact absurd rfl nx
  .rw[zK<|gc hi] at ei;exact⟨hi,ei⟩
 refine⟨⟨by simpa using h.len,λi d ei=>?_,λi l ei=>?_,λi i' b l l' e1 e2 q1 q2=>?_,h.o0,λi l b ei qi=>?_,λi l b ei qi=>?_,λi f ks l ei=>?_⟩,⟨λb o eb _=>eb,λb eb=>eb,λb o eb mb=>⟨o,eb,mb⟩,λb z=>.inl<|at' _ rfl b z,λb z=>.inl<|at' _ rfl b z,λi l ei=>?_,λi l ei=>?_⟩⟩
 .obtain⟨hi,e'⟩:=BU i _ ei (by intro z;cases z);obtain⟨v,q1,q2⟩:=h.val i d e';exact⟨v,by rw[zK<|gc hi];exact q1,Is.mono (aH.kp (aH.refl H) _) h.ol ow _ _ q2⟩
 .obtain⟨hi,e'⟩:=ne _ rfl i l ei;obtain⟨b,xs,q1,q2,q3⟩:=h.own i l e';exact⟨b,xs,by rw[zK<|gc hi];exact q1,q2,IsL.mono (aH.kp (aH.refl H) _) h.ol ow _ _ q3⟩
 .obtain⟨h1,Þ⟩:=ne _ rfl i l e1;obtain⟨h2,Û⟩:=ne _ rfl i' l' e2;rw[zK<|gc h1] at q1;rw[zK<|gc h2] at q2;exact h.apart i i' b l l' Þ Û q1 q2
 .rcases ei with ei|ei|⟨ks,ei⟩
  .obtain⟨hi,e'⟩:=BU i _ ei (by intro z;cases z);rw[zK<|gc hi] at qi;exact h.loc i l b (.inl e') qi
  .obtain⟨hi,e'⟩:=BU i _ ei (by intro z;cases z);rw[zK<|gc hi] at qi;exact h.loc i l b (.inr<|.inl e') qi
  .obtain⟨hi,e'⟩:=BU i _ ei (by intro z;cases z);rw[zK<|gc hi] at qi;exact h.loc i l b (.inr<|.inr ⟨ks,e'⟩) qi
 .obtain⟨x,e0,OK⟩:=lu.mp ei;obtain⟨hi,e'⟩:=BU i _ e0 (by rintro rfl;cases OK);rw[zK<|gc hi] at qi;exact h.par i l b (by rw[e'];exact OK) qi
 .obtain⟨hi,e'⟩:=BU i _ ei (by intro z;cases z);obtain⟨b,aM,q1,q2,q4,q3⟩:=h.fL i f ks l e';exact⟨b,aM,by rw[zK<|gc hi];exact q1,q2,q4,IsL.mono (aH.kp (aH.refl H) _) h.ol ow _ _ q3⟩
 .have hi:i≠j:=λz=>by subst z;obtain⟨l2,e2⟩:=rL ei;rw[e] at e2;cases y<;>first|exact hy|cases e2
  exact⟨by rw[zK<|gc hi];exact ei,zK<|gc hi⟩
 .have hi:i≠j:=λz=>by subst z;rw[e] at ei;cases ei;cases hy
  exact⟨by rw[zK<|gc hi];exact ei,zK<|gc hi⟩
def zu(fs:ML)(n:Nat)(m:List D->Option Str)(nm:Str)(ρ:MR):MR:=λr=>(fs r).bind λds=>if ds.length=n/\m ds=aA nm then ρ r else aB
section
variable{X:Cx}{k n:Nat}{fa:Addr}{fd:FuncData}{ps:List Str}{m:List D->Option Str}{x:Str}{a:Expr}{es:List Expr}{fs:ML}{p eB Fh pos yp cp ep ap Oe:Pos}{y en c nm:Str}{CB C:Addr}{i j:Nat}{ρ0:MR}{ρ:Addr->MR}{rest:List Stmt}
def Gy(hN:X.N.Nodup)(Ob:X.stack=X.env::X.outer)(Iz:X.env.frame=aA X.env.locals)(F:eG X.prog X.w X.K X.mg X.base (aZ X.prog X.w) k fa fd ps (EG X.K X.mg n m))(hr:eR k X.A)(hg:Gl X x)(hm:X.mg x=aA (.ref fa))(hk:dj X.K (.ref fa)=true)(hb:Binds X.K fd ps [])(ha:∀E,DA (X.l4 E) (a::es) fs)(Zl:Gl X y)(Yz:X.mg y=aA (.ref CB))(Aw:X.mg nm=aA (.ref C))(hx:exmOne X.K (.ref C) (.ref CB)=aA true)(hi:X.N[i]?=aA c)(hj:X.N[j]?=aA en)(Å:Loc X.env.scope c)(Æ:sM X c)(E_:X.env.scope.names.lookup en=aA .local)(Zx:X.env.kindOf en=aA .local)(Ix:i≠j)(Zr:∀r d,ρ0 r=aA d->(∃z,r[i]?=aA z/\aL z)/\∃z,r[j]?=aA z/\aL z)(hρ:∀e r d,ρ0 r=aA d->ρ e ((r.set i<|.v<|.ref e).set j .un)=aA d)(Yl:∀e oe,oe.cls=.ref C->xf (Cx.pinned X (e,oe)) rest (ρ e))(fE:e_ x:=by decide)(Zz:e_ y:=by decide)(he:sL X a es:=by rfl)(hpl:xi X es eB:=by rfl)(wp:gi (.Call (.Name x p) (a::es) [] eB) aB Fh.line X.env=pure false:=by rfl)(Yi:gi (.Name en ep) (aA<|.Name c cp) ap.line X.env=pure false:=by rfl)(À:e_ en:=by decide)(fJ:(en == ("__classdict__" : Str))=false:=by decide):xf X (.Try [.Expr (.Call (.Name x p) (a::es) [] eB) Fh] [.ExceptHandler (aA<|.Name y yp) (aA en) [.Assign [.Name c cp] (.Name en ep) ap] Oe] [] [] pos::rest) (zu fs n m nm ρ0):=by
 intro pZ s σ H D I hq;obtain⟨O0,r,d,hR,e0,q⟩:=hq;obtain⟨ds,e1,e2⟩:=aI e0;split at e2
 .rename_i Og;obtain⟨⟨z1,N8,OA⟩,⟨z2,B0,Oz⟩⟩:=Zr r d e2;refine ji<|wpAny_Try_except ?_;refine ji ?_
  let Ex:Value->Shared->Prop:=λe s₁=>wpAny (model X.prog X.w) X.A (noteFrame e X.env) (λ_ s₂=>wpAny (model X.prog X.w) X.A (setFlight e aB) (λ_ s₃=>wpAny (model X.prog X.w) X.A (handleBy e X.env [.ExceptHandler (aA<|.Name y yp) (aA en) [.Assign [.Name c cp] (.Name en ep) ap] Oe])
   (λf s₁=>match f with | .next=>wpAny (model X.prog X.w) X.A (execs rest X.env) (SP X pZ D) X.xe s₁|f=>SP X pZ D f s₁) X.xe s₃) X.xe s₂) X.xe s₁
  refine qe (QM (X:=X.l4 Ex) F hr hg hm hk hb (ha Ex) (I.l4 Ex) hR e1 Og.1 Og.2 ?_ ⟨C,Aw⟩ fE he hpl) I.quiet wp;intro s1 H1 s' e C' B a0 H' I1 sm ho Iy Ox vk hn Di;have ö:=I1.xr;rw[Aw] at Ox;cases Ox;have inv:∀(h:Heap) (t:Nat) ,B.StaysIn h->s'.heap.UpToSlots h->Inv X pZ σ H' { s' with heap:=h,toks:=t }:=λh t b1 b2=>by
   obtain⟨u,ok⟩:=Di h b1 b2;exact ö.IX (s':={ s' with heap:=h,toks:=t }) (ch:=[]) ho u ok Iy λb z=>absurd z (by simp)
  have Zq:X.A.frames=aA (X.env::X.outer):=by rw[<-Ob];exact I.ok.frames
  have Zt:tv B (X.env::X.outer) e (.ref C) a0 s'.heap:=by rw[<-Ob];exact vk
  show wpAny (model X.prog X.w) X.A (noteFrame (.ref e) X.env) _ X.xe s';refine wpAny_looks_onW Zq Iz Zt λh4 Zw u4=>?_
  refine wpAny_landsW Zw λh5 IS u5=>?_
  have I5:=inv h5 s'.toks IS.1<|u4.trans u5
  let Ey:=notedBy (model X.prog X.w) (X.A.mark<|some<|.ref e) X.env<|cameBackBy (model X.prog X.w) X.A X.env X.xe
  refine wpAny_handleBy_cons (codeAny_handlers_test<|pQ (X:=Cx.held X e Ey) (Inv.held I5 e Ey) Zl Yz ?_ Zz) (by intro z;cases z);have lt:Looks (model X.prog X.w) h5 (typeOf<|.ref e) (.ref C):=by
   obtain⟨ob,Yt,hc⟩:=IS.there;rw[<-hc];exact Looks.andThen (Looks.ld Yt) .now
  refine(exm_one I5.fO lt hx).here ?_;rw[if_pos rfl];refine codeAny_handlers_suite_as<|lands_againW IS λh6 OD u6=>?_;have I6:=inv h6 s'.toks OD.1<|(u4.trans u5).trans u6;obtain⟨oe,vs,IC,g_,ID,_⟩:=OD.first
  have vj:e≠X.env.locals:=λz=>by
   obtain⟨m',⟨oL,_,_,Dd,Oo,_⟩,_⟩:=I6.loc;rw[<-z,IC] at Dd;cases Dd;rw[ID] at Oo;cases Oo
  have Yy:e∉X.fs:=λz=>by
   obtain⟨_,o,iG,zm⟩:=I6.m_.mem z;rw[IC] at iG;cases iG;exact zm vs ID
  have I7:Inv X ((e,oe)::pZ) σ H' _:=I6.HF λp hp=>by
   rcases av.mp hp with rfl|hp
   .exact⟨IC,hn,vj,Yy,λv z=>by rw[ID] at z;cases z⟩
   .exact I6.pin p<|cr _ hp
  refine YZ (X:=Cx.held X e λ_ _=>False) (v:=.ref e) (Inv.held I7 e _) hN hj (.inl E_) (show L2.RelV (V.ref e) (Value.ref e) from rfl) (λs8 I8=>?_)<|.inr E_;obtain⟨Iw,Ķ⟩:=ar.mp B0;obtain⟨Zk,Zj⟩:=ar.mp N8;refine fu (MP (JN (X:=Cx.held X e _) hN hi Å (Ll hj (.inl E_) À fJ) Yi Æ) ((e,oe)::pZ) s8 (σ.set j<|some<|.ref e) H' ⟨λσ' H2=>σ'=(σ.set j<|some<|.ref e).set i (aA<|.ref e)/\H2=H',λ_ _=>False,λ_ _=>False,λ_ _=>False⟩ I8 ⟨.ref e,by rw[kd (by rw[<-hR.len];exact Iw)],rfl,rfl⟩) (λf s9 h9=>?_) λ_ _ z=>fj z
  cases f with
  |brk=>obtain⟨_,_,_,z⟩:=h9;exact z.elim
  |cont=>obtain⟨_,_,_,z⟩:=h9;exact z.elim
  |ret u=>obtain⟨_,_,_,_,_,z⟩:=h9;exact z.elim
  |next=>
   obtain⟨σ9,H9,I9,rfl,rfl⟩:=h9;have ó:=Inv.VJ I.ok I9;refine SW ó hN hj E_ Zx λHx Dt=>?_
   have R1:=((hR.same sm).BP Iw (λl=>⟨by rw[B0];exact K' Oz,λz=>by rw[B0] at z;cases z;exact Oz⟩) (d:=.ref e) (v:=.ref e)<|by rw[uX]);have NU:(r.set j<|.v<|.ref e)[i]?=aA z1:=by rw[zK<|gc Ix];exact N8
   have R2:=R1.1.BP (i:=i) (by simpa using Zk) (λl=>⟨by rw[NU];exact K' OA,λz=>by rw[NU] at z;cases z;exact OA⟩) (d:=.ref e) (v:=.ref e) (by rw[uX]);have R3:=R2.1.unset (j:=j) (y:=.v<|.ref e) (by rw[zK Ix,yD Iw]) trivial;have er:((r.set j<|.v<|.ref e).set i<|.v<|.ref e).set j .un=(r.set i<|.v<|.ref e).set j .un:=by
    rw[List.set_comm _ _<|gc Ix,List.set_set]
   rw[er] at R3;have kk:=(((Kp.of_same r σ sm).trans R1.2).trans R2.2).trans R3.2;exact fu (Yl e oe g_ pZ Hx _ H9 D (Inv.pinned Dt) ⟨O0,_,d,R3.1,hρ e r d e2,λv σ' H2 r' R' k' i'=>q v σ' H2 r' R' (kk.trans k') i'⟩) (λf s' z=>SP.vz z) λ_ _ z=>z
 .cases e2
end
section
open PySem.W PySem.Calls Builtin Builtin.ObjectAttr Builtin.Getset_descriptor
structure vt(K:Fg)(C:Addr):Prop where
 cls:(clsIn K C).isSome=true
 ga:findIn K (.ref C) "__getattribute__" = aA (aA<|.builtin "BaseException.__getattribute__")
 gt:findIn K (.ref C) "__getattr__" = aA aB
 ca:findIn K (.ref C) "__class__" = aA (aA<|.builtin "object.__class__")
 sub:subIn K (.ref C) (.type "BaseException")=aA true
 V3:mroIn K C (.type "object")=aA true
section
variable{os:OsState}{K:Fg}
def Gf(hx:h.get? a=aA o)(hc:o.cls=.ref C):Looks M h (typeOf<|.ref a) (.ref C):=hc ▸ (Looks.ld hx).andThen .now
def RT{R:Result->Shared->Prop}(X:K.In h)(Z:vt K C)(hx:h.get? a=aA o)(hc:o.cls=.ref C)(hq:R (.ok<|.ret<|.ref C) ⟨h,g,d,t,os⟩):codeAny (model prog w) A (.call (.builtin "getset_descriptor.__get__") ⟨[.builtin "object.__class__",.ref a,tp],[]⟩) R ⟨h,g,d,t,os⟩:=by
 have LT:=Gf (M:=model prog w) hx hc;have LM:=looks_mroIn (M:=model prog w) X Z.V3;have tc:(⟨h,g,d,t,os⟩:Shared).TypeIs (.builtin "object.__class__") "getset_descriptor" := KF.type_class;refine uo KF.slot_gs.plain KF.entry_gs ?_;refine KF.slot_gs.check _ _ _ _ _ _ _ _ tc (KF.args_gs _ _ _) ?_;unfold Builtin.«getset_descriptor.__get__»;unfold descrGet;rw[dga_obj];refine aj ?_;refine bb ?_;unfold descrGetter descrCheckInstance;unfold descrNameAndClass isInstance;simp only[KF.owner_class]
 repeat lk
 refine And.intro (Code.quiet_builtin _<|by decide +kernel) ?_;refine codeAny_builtin KF.entry_class ?_;unfold Builtin.«object.__class__»;unfold shownTypeOf
 repeat lk
 exact hq
def UH(X:K.In h)(Z:vt K C)(hx:h.get? a=aA o)(hc:o.cls=.ref C)(hq:Q (.done<|.ret<|.ref C) ⟨h,g,d,t,os⟩):wpAny (model prog w) A (Builtin.«object.__getattribute__» ⟨[.ref a,.str "__class__" tk],[]⟩) Q E ⟨h,g,d,t,os⟩:=by
 have y0:(⟨h,g,d,t,os⟩:Shared).TypeIs (.builtin "object.__class__") "getset_descriptor" := ul;have LT:=Gf (M:=model prog w) hx hc;have LC:=rq (M:=model prog w) X Z.ca;have y1:=ul;have y2:=F.slot_gs_get.lookup;have y3:=F.slot_gs_set.lookup
 repeat (any_goals (first|assumption|(with_reducible refine om hx ?_;rw[hc])|(with_reducible refine LC.at ?_)|wp_step))
 refine RT X Z hx hc ?_;repeat (any_goals (first|assumption|wp_step))
def UG(X:K.In h)(Z:vt K C)(hx:h.get? a=aA o)(hc:o.cls=.ref C)(hq:Q () ⟨h,g,d,t,os⟩):wpAny M A (checkBuiltinCall "BaseException.__getattribute__" ⟨[.ref a,Wx],[]⟩) Q E ⟨h,g,d,t,os⟩:=by
 have Zh:builtinKind "BaseException.__getattribute__" = aA .slot:=by decide +kernel
 have l_:splitId "BaseException.__getattribute__" = aA ("BaseException", "__getattribute__"):=by decide +kernel
 have LS:=looks_subIn (M:=M) X Z.sub;have ķ:=F.args_bexc_ga (.ref a) Wx;simp only[checkBuiltinCall,Zh,l_];refine aj ?_
 .unfold isInstance
  repeat (first|(with_reducible refine om hx ?_;rw[hc])|(with_reducible refine LS.at ?_)|wp_step)
  exact hq
def T0{R:Result->Shared->Prop}(X:K.In h)(Z:vt K C)(hx:h.get? a=aA o)(hc:o.cls=.ref C)(hq:R (.ok<|.ret<|.ref C) ⟨h,g,d,t,os⟩):codeAny (model prog w) A (.call (.builtin "BaseException.__getattribute__") ⟨[.ref a,.str "__class__" tk],[]⟩) R ⟨h,g,d,t,os⟩:=
 uo F.attr_ValueError.ga.plain F.entry_bexc_ga (UG X Z hx hc<|UH X Z hx hc hq)
def P'{fill:Bool}(X:K.In h)(Z:vt K C)(hx:h.get? a=aA o)(hc:o.cls=.ref C)(hq:Q (.ref C) ⟨h,g,d,t,os⟩):wpAny (model prog w) A (getAttrBy (.ref a) (.str "__class__" tk) fill expr) Q E ⟨h,g,d,t,os⟩:=by
 have bd:=F.attr_ValueError.ga.bind<|.ref a;have y0:(expr && onTheHeap (Value.builtin "BaseException.__getattribute__"))=false:=by cases expr<;>rfl
 have y2:(Value.builtin "BaseException.__getattribute__" == Value.builtin "object.__getattribute__")=false:=by decide +kernel
 have y1:(onTheHeap (Value.ref C) && Value.builtin "BaseException.__getattribute__" == Value.builtin "object.__getattribute__")=false:=by rw[y2];rfl
 have LA:=rq (M:=model prog w) X Z.ga;have LB:=rq (M:=model prog w) X Z.gt
 repeat (any_goals (first|assumption|(with_reducible refine om hx ?_;rw[hc])|with_reducible refine LA.at ?_|with_reducible refine LB.at ?_|wp_step))
 refine T0 X Z hx hc ?_;repeat (any_goals (first|assumption|wp_step))
def TZ(X:K.In h)(Z:vt K C)(hx:h.get? a=aA o)(hc:o.cls=.ref C)(hq:Q (aA<|.ref C) ⟨h,g,d,t+1,os⟩):wpAny (model prog w) A (getAttr? (.ref a) "__class__") Q E ⟨h,g,d,t,os⟩:=by
 unfold getAttr? getAttrBy?
 repeat (any_goals (first|assumption|with_reducible apply P' X Z hx hc|wp_step))
def T'(Z:vt K C):KitX K (.ref a) (.ref C) (λh=>∃o,h.get? a=aA o/\o.cls=.ref C) where
 ty:=λ_ _ _ ⟨_,hx,hc⟩=>Gf hx hc
 it:=λ_ _ X _=>by
  obtain⟨cd,fJ⟩:=js.mp Z.cls;unfold clsIn at fJ;split at fJ
  .rename_i lk;intro A1 Q1 E1 s1 k q;unfold isType loadHead;exact aj<|wpAny_loadPart (k _ _<|X _ _ lk)<|bb q
  .cases fJ
 ne:=λ_ _ _ _ _ _ X Yg=>by
  obtain⟨cd,fJ⟩:=js.mp Z.cls;rw[jf];intro q;cases Value.ref.inj (beq_iff_eq.mp q);unfold clsIn at fJ;split at fJ
  .rename_i lk;cases (X _ _ lk).symm.trans Yg
  .cases fJ
 ca:=λ{_ _ _ _ _ s} X ⟨_,hx,hc⟩ k=>by obtain⟨h,g,d,t,os⟩:=s;exact TZ X Z hx hc k
end
end
def FN(K:Fg)(C:Addr):Bool:=(clsIn K C).isSome && (findIn K (.ref C) "__getattribute__" == aA (aA<|.builtin "BaseException.__getattribute__")) && (findIn K (.ref C) "__getattr__" == aA aB)
 && (findIn K (.ref C) "__class__" == aA (aA<|.builtin "object.__class__")) && (subIn K (.ref C) (.type "BaseException") == aA true) && (mroIn K C (.type "object") == aA true)
def SU{K:Fg}(e:FN K C=true):vt K C:=by
 unfold FN at e;simp only[bo,beq_iff_eq] at e;obtain⟨⟨⟨⟨⟨a,b⟩,c⟩,d⟩,f⟩,g⟩:=e;exact⟨a,b,c,d,f,g⟩
noncomputable def Fv:List Value:=[.type "ValueError",.type "Exception",.type "BaseException",.type "object"]
def Ca(K:Fg)(fe C:Addr)(yes no:List Value):Bool:=excIn K C Fv "ValueError.__new__" && FN K C && (exmOne K (.ref C) (.ref fe) == aA true) && yes.all (λv=>kitOne K (.ref C) v == aA true) && no.all (λv=>kitOne K (.ref C) v == aA false)
structure FC(K:Fg)(fe C:Addr)(yes no:List Value):Prop where
 exc:excIn K C Fv "ValueError.__new__" = true
 k:vt K C
 mt:exmOne K (.ref C) (.ref fe)=aA true
 ys:∀v∈yes,kitOne K (.ref C) v=aA true
 ns:∀v∈no,kitOne K (.ref C) v=aA false
def GR{K:Fg}(e:Ca K fe C yes no=true):FC K fe C yes no:=by
 unfold Ca at e;simp only[bo,beq_iff_eq,eg] at e;obtain⟨⟨⟨⟨a,b⟩,c⟩,d⟩,f⟩:=e;exact⟨a,SU b,c,d,f⟩
def S4{K:Fg}{id:String}(X:K.In base)(hm:mg x=aA (.ref C))(q:excIn K C l id=true):OwnCls x C l id mg base:=by
 constructor
 .exact hm
 .unfold excIn at q;split at q
  next dd cd sl lk=>
   split at q
   next C1 bm k0 k1 k2 k3 n k5 em es=>
    simp only[pe,beq_iff_eq,bo] at q;obtain⟨⟨⟨⟨⟨rfl,rfl⟩,q1⟩,q2⟩,q3⟩,q4⟩:=q;obtain⟨c1,c2,c3,c4,c5,c6,c7,c8,c9,cA,cB⟩:=cd;dsimp only at em q1 q3 q4;subst em q1;obtain⟨Ģ⟩:=sl;simp only at es;subst es;exact⟨bm,c4,c1,c5,c2,c6,c7,c8,c9,cA,dd,k0,k1,k2,k3,k5,_,X _ _ lk,.of_isNs<|isNs_of_in X q3,nsMap_none_of_in X q3 q4,tail_of_in X q2⟩
   next=>cases q
  next=>cases q
noncomputable def fP(e:Addr)(b:Bool)(d:D):Option D:=match d with
 |.ref a=>if a=e then aA (.bl b) else aB
 |_=>aB
def TX(hp:(e,oe)∈X.pn)(hc:oe.cls=.ref C)(Z:vt X.K C)(hv:∀u',RelV v u'->u'=u)(hk:kitOne X.K (.ref C) u=aA b):iJ X (.builtin "isinstance") (λxs H Q=>xs=[.ref e,v]/\Q (.bl b) H):=by
 intro pZ s σ H xs us Q I r h;obtain⟨rfl,q⟩:=h;obtain⟨x,y,rfl,r1,r2⟩:=XO r;cases (show x=Value.ref e from r1);cases hv y r2;exact kia_one (T' (a:=e) Z) I.fO ⟨oe,(I.pin _<|ni _ hp).1,hc⟩ hk (λz=>nomatch z) λtk=>⟨.bl b,H,I.tok tk,rfl,q⟩
def Ei(hp:(e,oe)∈X.pn)(hc:oe.cls=.ref C)(Z:vt X.K C)(hv:∀u',RelV v u'->u'=u)(hk:kitOne X.K (.ref C) u=aA b)(hg:Gl X "isinstance")(hm:X.mg "isinstance" = aB)(ha:DE X a f)(hT:PE X (.Name x pt) (tC v))(hs:aq [a,.Name x pt] X.env=(false,eval a X.env)::aq [.Name x pt] X.env:=by rfl)(sI:aq [.Name x pt] X.env=(false,eval (.Name x pt) X.env)::aq [] X.env:=by rfl):DE X (.Call (.Name "isinstance" p') [a,.Name x pt] [] pos) (aF (fP e b) f):=by
 refine PE.aK (dY (TX hp hc Z hv hk) hg hm pz (wV ha (wV hT kT sI) hs) (he:=hs)) λσ H Q h=>?_
 obtain⟨O0,r,d,hR,e0,q⟩:=h;obtain⟨y,e1,e2⟩:=aI e0;cases y<;>first|(cases e2;done)|skip
 rename_i c;simp only[fP] at e2;split at e2
 .rename_i IE;subst IE;cases e2;exact⟨O0,r,_,hR,e1,λv' H1 s1 i1=>⟨by rw[uX] at i1;rw[i1],q _ H1 s1<|by rw[yY]⟩⟩
 .cases e2
def bM{D:Addr}(hp:(e,oe)∈X.pn)(hc:oe.cls=.ref C)(Z:vt X.K C)(hk:kitOne X.K (.ref C) (.ref D)=aA b)(Zm:Gl X x)(Dg:X.mg x=aA (.ref D))(hg:Gl X "isinstance")(hm:X.mg "isinstance" = aB)(ha:DE X a f)(hd:e_ x:=by decide)(hs:aq [a,.Name x pt] X.env=(false,eval a X.env)::aq [.Name x pt] X.env:=by rfl)(sI:aq [.Name x pt] X.env=(false,eval (.Name x pt) X.env)::aq [] X.env:=by rfl):DE X (.Call (.Name "isinstance" p') [a,.Name x pt] [] pos) (aF (fP e b) f):=
 Ei hp hc Z (v:=.ref D) (u:=.ref D) (λ_ z=>z) hk hg hm ha (WD Zm Dg rfl hd) hs sI
def GZ:bootBuiltins "ValueError" = aA (.type "ValueError"):=by decide +kernel
section
variable{st:List Stmt}
def fU(x y:MX):MX:=λr=>match x r with
 |some n=>aA n
 |none=>y r
def zg(p q:MR):MR:=λr=>match p r with
 |some d=>aA d
 |none=>q r
def Gj(h1:xf X st p)(h2:xf X st q):xf X st (zg p q):=λpZ s σ H D I ⟨O0,r,n,hR,e,z⟩=>by
 unfold zg at e;split at e
 .rename_i m hx;cases e;exact h1 pZ s σ H D I ⟨O0,r,n,hR,hx,z⟩
 .exact h2 pZ s σ H D I ⟨O0,r,n,hR,e,z⟩
end
section
variable{K:Fg}
def kS(Dg:mg x=aA (.ref C))(hex:excIn K C Fv "ValueError.__new__" = true)(hg:Gl (gE (aZ P w) P w K mg base N qual scope f cd A outer s H E) x)(ha:DE (gE (aZ P w) P w K mg base N qual scope f cd A outer s H E) a g)(hs:aq [a] (gE (aZ P w) P w K mg base N qual scope f cd A outer s H E).env=(false,eval a (gE (aZ P w) P w K mg base N qual scope f cd A outer s H E).env)::aq [] (gE (aZ P w) P w K mg base N qual scope f cd A outer s H E).env:=by rfl)(fE:e_ x:=by decide):XS (gE (aZ P w) P w K mg base N qual scope f cd A outer s H E) E (.Raise (aA<|.Call (.Name x np) [a] [] eB) aB pos) (u7 x g):=λpZ s1 σ H1 D I h=>
 UM (S4 (K:=K) (l:=Fv) (id:="ValueError.__new__") I.ok.mod.BX Dg hex) PySem.F.excBase_ValueError hg ha hs fE pZ s1 σ H1 D I h
end
noncomputable def xl:Sl->Bool
 |.un=>true
 |.v _=>true
 |_=>false
def Ce(n i j:Nat)(d:D):MR:=λr=>if r.length=n/\(r[i]?).any xl=true/\(r[j]?).any xl=true then aA d else aB
def nC(h:Ce n i j d r=aA d'):r.length=n/\(r[i]?).any xl=true/\(r[j]?).any xl=true/\d=d':=by
 unfold Ce at h;split at h
 .rename_i hh;cases h;exact⟨hh.1,hh.2.1,hh.2.2,rfl⟩
 .cases h
def US(n i j:Nat)(d:D):∀r d',Ce n i j d r=aA d'->(∃z,r[i]?=aA z/\aL z)/\∃z,r[j]?=aA z/\aL z:=by
 intro r d' h;obtain⟨_,h1,h2,_⟩:=nC h;have go:∀(o:Option Sl),o.any xl=true->∃z,o=aA z/\aL z:=λo ho=>by
  cases o with
  |none=>cases ho
  |some z=>cases z<;>first|exact⟨_,rfl,trivial⟩|cases ho
 exact⟨go _ h1,go _ h2⟩
noncomputable def C8(neg:Bool)(x y:D):Option D:=match x,y with
 |.str [c],.str s=>aA<|.bl (if neg then !decide (c∈s) else decide (c∈s))
 |_,_=>aB
noncomputable def Jn(neg:Bool):R2:=λx y H Q=>∃(c:Nat) (s:List Nat),x=.str ⟨#[c]⟩/\y=.str ⟨s.toArray⟩/\Q (.bl (if neg then !decide (c∈s) else decide (c∈s))) H
def VB:c_ X (bz .NotIn) (Jn true):=by
 intro pZ s σ H x y v u Q I rx ry hq;obtain⟨c,t,rfl,rfl,q⟩:=hq;obtain⟨k,rfl⟩:=rx;obtain⟨k',rfl⟩:=ry;refine PySem.P.notIn_str ?_;rw[PySem.StrLaws.found_one];exact⟨.bl _,H,I,rfl,q⟩
def Rl{K:Fg}(neg:Bool):eT K (Jn neg) (C8 neg):=by
 intro O H dx dy d vx vy Q ol ix iy e q;unfold C8 at e;split at e
 .rename_i c s;cases e;rw[yE] at ix iy;exact⟨c,s,ix,iy,q _ H (aH.refl H)<|by rw[yY]⟩
 .cases e
structure yr(H:Hp)(r:En)(σ:St)(H':Hp):Prop where
 keep:Q9 (iV r σ) H H'
 live:∀b,H' b=aB->H b=aB
 lst:∀b o,H b=aA o->Mb o->∃o',H' b=aA o'/\Mb o'
def Kp.left(k:Kp H r σ H' r' σ'):yr H r σ H':=⟨k.keep,k.live,k.lst⟩
def yr.behind(k:Kp H r σ H1 r1 σ1)(l:yr H1 r1 σ1 H2):yr H r σ H2:=
 ⟨λc o e n=>l.keep c o (k.keep c o e n) λz=>(k.BV c z).elim n λq=>(by rw[e] at q;cases q),λb e=>k.live b<|l.live b e,λb o e mb=>(by obtain⟨o1,q,m1⟩:=k.lst b o e mb;exact l.lst b o1 q m1)⟩
def yr.after(s:aH H H1)(l:yr H1 r σ H2):yr H r σ H2:=l.behind<|Kp.of_same r σ s
def lY(K:Fg)(mg:Str->Option Value)(E:XK)(x:MX)(σ:St)(H:Hp):Prop:=∃O0 r n,R K O0 H r σ/\x r=aA n/\∀C H',mg n=aA (.ref C)->yr H r σ H'->E (.ref C) aB H'
def YE(X:Cx)(E:XK)(e:Expr)(x:MX):Prop:=PE X e λσ H _=>lY X.K X.mg E x σ H
def YA(X:Cx)(E:XK)(es:List Expr)(x:MX):Prop:=PA X es λσ H _=>lY X.K X.mg E x σ H
def YS(X:Cx)(E:XK)(st:Stmt)(x:MX):Prop:=PS X st λ_ σ H=>lY X.K X.mg E x σ H
def vo(X:Cx)(E:XK)(st:List Stmt)(x:MX):Prop:=eS X st λ_ σ H=>lY X.K X.mg E x σ H
def lY.pre{K:Fg}(hR:R K O0 H r σ)(s:aH H H1)(e:x r=aA n)(q:∀C H',mg n=aA (.ref C)->yr H r σ H'->E (.ref C) aB H'):lY K mg E x σ H1:=
 ⟨O0,r,n,hR.same s,e,λC H' hm l=>q C H' hm<|l.after s⟩
section
variable{st:Stmt}{rest:List Stmt}
def YS.of(h:XS X E st x):YS X E st x:=PS.aK h λD σ H ⟨O0,r,n,hR,e,q⟩=>⟨O0,r,n,hR,e,λC H' r' σ' hm R' k'=>q C H' hm k'.left⟩
def gN:vo X E rest mR:=λpZ s σ H D I ⟨O0,r,n,hR,e,_⟩=>by cases e
def o8(h1:vo X E rest x)(h2:vo X E rest y):vo X E rest (fU x y):=λpZ s σ H D I ⟨O0,r,n,hR,e,q⟩=>by
 unfold fU at e;split at e
 .rename_i m hx;cases e;exact h1 pZ s σ H D I ⟨O0,r,n,hR,hx,q⟩
 .exact h2 pZ s σ H D I ⟨O0,r,n,hR,e,q⟩
def yU(h:YS X E st x):vo X E (st::rest) x:=eS.aK (rJ h<|Up (rest:=rest)) λD σ H q=>q
def yX(h:DS X st g)(h2:vo X E rest x):vo X E (st::rest) (qF g x):=by
 refine eS.aK (rJ h h2) λDn σ H hq=>?_
 obtain⟨O0,r,n,hR,e,q⟩:=hq;obtain⟨fl,e1,e2⟩:=aI e;cases fl<;>first|(cases e2;done)|skip
 rename_i r1;exact⟨O0,r,.nx r1,hR,e1,λσ1 H1 R1 k1=>⟨O0,r1,n,R1,e2,λC H2 hm l2=>q C H2 hm<|l2.behind k1⟩⟩
def p6(hc:DT X c tc)(ha:vo X E sa x)(hb:vo X E sb y):YS X E (.If c sa sb pos) (fA tc x y):=by
 refine PS.aK (Kk hc ha hb) λDn σ H hq=>?_
 obtain⟨O0,r,n,hR,e,q⟩:=hq;obtain⟨b,e1,e2⟩:=aI e;refine⟨O0,r,b,hR,e1,λH1 s1=>?_⟩;cases b with
 |true=>rw[if_pos rfl] at e2;exact BC<|lY.pre hR s1 e2 q
 |false=>rw[if_neg ah] at e2;exact Cb<|lY.pre hR s1 e2 q
def mU(he:YE X E a x)(hs:gi a aB pos.line X.env=pure false:=by rfl):YS X E (.Expr a pos) x:=PS.aK (G1 he hs) λ_ _ _ h=>h
def LH(he:YE X E a x):YS X E (.Return (aA a) pos) x:=PS.aK (Ep he) λ_ _ _ h=>h
def Ew(i:Nat)(he:YE X E a x)(hN:X.N.Nodup)(hi:X.N[i]?=aA v:=by rfl)(hx:Loc X.env.scope v:=by first|exact Or.inl rfl|exact Or.inr rfl)(hs:gi a (aA<|.Name v pos') pos.line X.env=pure false:=by rfl)(hf:sM X v:=by first|exact .inl rfl|exact .inr rfl):YS X E (.Assign [.Name v pos'] a pos) x:=PS.aK (JN hN hi hx he hs hf) λ_ _ _ h=>h
def S6:PA X es (λ_ _ _=>False):=λ_ _ _ _ _ _ _ h=>h.elim
def Hd(he:YE X E a x)(hs:sL X a es:=by rfl):YA X E (a::es) x:=PA.aK (wV he (S6 (es:=es)) hs) λ_ _ _ h=>h
def F1(f:ME)(x:MX):MX:=λr=>(f r).bind λ_=>x r
def UN(ha:DE X a f)(hr:YA X E es x)(hs:sL X a es:=by rfl):YA X E (a::es) (F1 f x):=by
 refine PA.aK (wV ha hr hs) λσ H Q hq=>?_
 obtain⟨O0,r,n,hR,e,q⟩:=hq;obtain⟨d,e1,e2⟩:=aI e;exact⟨O0,r,d,hR,e1,λv H1 s1 i1=>lY.pre hR s1 e2 q⟩
def R7(h:YA X E es x):YE X E (.Tuple es k pos) x:=PE.aK (Lk h) λ_ _ _ h=>h
def zw(i:Nat)(x:MX):MX:=λr=>(ZF r i).bind λ_=>x r
def XQ(i:Nat)(h:PE X (.Name v pn) (sA i))(he:YE X E a x)(fI:sW apos eB:=by rfl)(fK:fq (.Name v pn) "append" X.env (eval (.Name v pn) X.env)=eval (.Name v pn) X.env:=by rfl)(iE:xc X [a] eB:=by rfl)(hs:aq [a] X.env=(false,eval a X.env)::aq [] X.env:=by rfl):YE X E (.Call (.Attribute (.Name v pn) "append" apos) [a] [] eB) (zw i x):=by
 refine PE.aK (WE dv ic ib dJ h (Hd he hs) fK iE fI hs) λσ H Q hq=>?_
 obtain⟨O0,r,n,hR,e,q⟩:=hq;obtain⟨l,e1,e2⟩:=aI e;obtain⟨b,xs,q1,q2,q3⟩:=YQ hR e1;exact⟨.ref b,q1,.inl ⟨rfl,xs,aV.of q2⟩,O0,r,n,hR,e2,q⟩
end
def iC(K:Fg)(mg:Str->Option Value)(n:Nat)(m:List Sl->Option Str):Sp:=λvs H _ E=>∃O0 as nm,as.length=n/\R K O0 H as (vs.map aA)/\m as=aA nm/\∀C H',mg nm=aA (.ref C)->yr H as (vs.map aA) H'->E (.ref C) aB H'
def iD(n N:Nat)(x:MX):List Sl->Option Str:=λas=>x<|as++bq (N-n) .un
section
variable{K:Fg}
def r_{st:Stmt}(F:xb K x qual st f fd)(S:b_ N ps (zZ st))(n:Nat)(nN:Nat)(hn:ps.length=n:=by rfl)(hN:N.length=nN:=by rfl)(hb:∀(aN:Value) (A:Around) (outer:List Env) (s:Shared) (H:Hp) (E:XK),eR k (A.deeper<|envOfC qual (zZ st) s.heap.objs.size f aN) ->
   vo (gE (aZ P w) P w K mg base N qual (zZ st) f aN A outer s H E) E (cF st) m):eG P w K mg base (aZ P w) (k+1) f fd ps (iC K mg n<|iD n nN m):=by
 subst hn hN;obtain⟨oc,od,kV,doc,pm,an,aN,ct,xx,rfl,lk,fJ⟩:=F.ex;refine Gk lk fJ S (λvs H Q E h=>?_) λA outer s H vs Q E hr h=>?_
 .obtain⟨O,as,nm,hl,hR,_⟩:=h
  have:=hR.len
  simp at this;omega
 .obtain⟨O,as,nm,hl,hR,e,q⟩:=h;have Ax:as.length=vs.length:=by simpa using hR.len
  refine⟨_,hb aN A outer s H E hr,?_⟩;have iN:L2.start N vs=vs.map aA++bq (N.length-ps.length) aB:=by unfold L2.start;rw[<-Ax,hl]
  rw[iN];refine⟨O,_,nm,R.start (k:=N.length-ps.length) hR,e,λC H' hm l=>q C H' hm ⟨λb o eb nb=>l.keep b o eb λz=>nb<|(nF rfl Ax).mp z,l.live,l.lst⟩⟩
def PK(n:Nat):eG P w K mg base (aZ P w) k f fd ps (iC K mg n λ_=>aB):=
 ⟨(λvs H Q E h=>by obtain⟨_,_,_,_,_,e,_⟩:=h;cases e),(λA outer s H args us vs Q E _ _ _ _ h=>by obtain⟨_,_,_,_,_,e,_⟩:=h;cases e)⟩
def F'(F:eG P w K mg base (aZ P w) k f fd ps (iC K mg n m)):eG P w K mg base (aZ P w) k f fd ps (EG K mg n λds=>m<|ds.map .v):=
 F.imp λvs H Q E ⟨O,ds,nm,hl,ol,il,e,q⟩=>⟨O,ds.map .v,nm,by simpa using hl,Ec ol il,e,λC H' hm l=>q C H' hm λb o eb=>l.keep b o eb Y7⟩
end
section
variable{K:Fg}
def Kh:J8 (aZ P w) (gE (aZ P w) P w K mg base N qual scope f cd A outer s H E) E:=by
 intro pZ σ H1 s1 e s' I ⟨ea,C,B,a0,H2,he,ho,hg,vk,hn,hE,Di⟩;subst he
 let X:=gE (aZ P w) P w K mg base N qual scope f cd A outer s H E
 show wpAny _ _ (leaving X.env<|.ref ea) _ _ s';refine wpAny_leaves_onW (env:=X.env) (outer:=outer) I.ok.frames rfl vk λh' yj u'=>?_
 refine⟨ea,C,B,a0,H2,rfl,?_,hg,yj,hn,hE,λh hB hu=>?_⟩
 .exact ho.trans I.os
 .obtain⟨u,ok⟩:=Di h hB<|u'.trans hu;have I':=I.IX (s':={ s' with heap:=h }) (ch:=[]) ho u ok hg λb z=>absurd z (by simp)
  exact⟨I'.base,I'.aP⟩
end
def vZ(n:Nat)(m:List Sl->Option Str)(fs:ML):MX:=λr=>(fs r).bind λds=>if ds.length=n then m (ds.map .v) else aB
def cG(n:Nat)(m:List Sl->Option Str)(i:Nat)(z:MZ):MX:=λr=>(ZF r i).bind λl=>(z r).bind λq=>if q.1.length+1+q.2.length=n then m (o3 q.1 l q.2) else aB
section
variable{K:Fg}
def hJ(F:eG P w K mg base (aZ P w) k fa fd ps (iC K mg n m))(hr:eR k (gE (aZ P w) P w K mg base N qual scope f0 cd A outer s H E).A)(hg:Gl (gE (aZ P w) P w K mg base N qual scope f0 cd A outer s H E) x)(hm:mg x=aA (.ref fa))(hk:dj K (.ref fa)=true)(hb:Binds K fd ps [])(ha:DA (gE (aZ P w) P w K mg base N qual scope f0 cd A outer s H E) (a::es) fs)(fE:e_ x:=by decide)(he:aq (a::es) (gE (aZ P w) P w K mg base N qual scope f0 cd A outer s H E).env=(false,eval a (gE (aZ P w) P w K mg base N qual scope f0 cd A outer s H E).env)::aq es (gE (aZ P w) P w K mg base N qual scope f0 cd A outer s H E).env:=by rfl)(hpl:(ph pos<|aq es (gE (aZ P w) P w K mg base N qual scope f0 cd A outer s H E).env).any (·.1)=false:=by rfl):YE (gE (aZ P w) P w K mg base N qual scope f0 cd A outer s H E) E (.Call (.Name x p) (a::es) [] pos) (vZ n m fs):=by
 refine PE.aK (ZD (E:=E) (dvs:=[]) F hr hg hm hk hb .nil Kh ha fE he hpl) λσ H Q h=>?_
 obtain⟨O0,r,nm,hR,e,q⟩:=h;obtain⟨ds,e1,e2⟩:=aI e;split at e2
 .rename_i hl;refine⟨O0,r,ds,hR,e1,λvs H1 s1 il=>?_⟩;show iC K mg n m (vs++[]) H1 Q E;rw[dk];exact⟨Ow O0 r σ,ds.map .v,nm,by simpa using hl,Ec (hR.same s1).ol il,e2,λC H' hm l=>q C H' hm ⟨λb o eb _=>l.keep b o (s1 b o eb) Y7,λb eb=>s1.free<|l.live b eb,λb o eb mb=>l.lst b o (s1 b _ eb) mb⟩⟩
 .cases e2
def oG(F:eG P w K mg base (aZ P w) k fa fd ps (iC K mg n m))(hr:eR k (gE (aZ P w) P w K mg base N qual scope f0 cd A outer s H E).A)(hg:Gl (gE (aZ P w) P w K mg base N qual scope f0 cd A outer s H E) x)(hm:mg x=aA (.ref fa))(hk:dj K (.ref fa)=true)(hb:Binds K fd ps [])(ha:DZ (gE (aZ P w) P w K mg base N qual scope f0 cd A outer s H E) i (a::es) z)(fE:e_ x:=by decide)(he:aq (a::es) (gE (aZ P w) P w K mg base N qual scope f0 cd A outer s H E).env=(false,eval a (gE (aZ P w) P w K mg base N qual scope f0 cd A outer s H E).env)::aq es (gE (aZ P w) P w K mg base N qual scope f0 cd A outer s H E).env:=by rfl)(hpl:(ph pos<|aq es (gE (aZ P w) P w K mg base N qual scope f0 cd A outer s H E).env).any (·.1)=false:=by rfl):YE (gE (aZ P w) P w K mg base N qual scope f0 cd A outer s H E) E (.Call (.Name x p) (a::es) [] pos) (cG n m i z):=by
 refine PE.aK (ZD (E:=E) (dvs:=[]) F hr hg hm hk hb .nil Kh ha fE he hpl) λσ H Q h=>?_
 obtain⟨O0,r,nm,hR,e,q⟩:=h;obtain⟨l,e1,e⟩:=aI e;obtain⟨⟨ds,us⟩,e2,e⟩:=aI e;split at e
 .rename_i hn;refine⟨O0,r,l,ds,us,hR,e1,e2,λvs c ws H1 s1 hc i1 i2=>?_⟩;show iC K mg n m ((vs++.ref c::ws)++[]) H1 Q E;rw[dk];have R1:=hR.same s1;obtain⟨c',xs,p1,p2,p3⟩:=YQ R1 e1;rw[hc] at p1;cases p1;obtain⟨y,z1,z2⟩:=aI e1;have B1:Ow O0 r σ c:=.inr ⟨i,l,by rw[z1];exact rS (Cp z2).1,hc⟩;have Y':iV r σ c:=⟨i,l,by rw[z1];exact(Cp z2).1,hc⟩;refine⟨Ow O0 r σ,o3 ds l us,nm,by simp[o3];simp only at hn;omega,LN R1.ol B1 p2 p3 i1 i2,e,λC H' hm lx=>q C H' hm ⟨λb o eb nb=>lx.keep b o (s1 b o eb) λzb=>?_,λb eb=>s1.free<|lx.live b eb,λb o eb mb=>lx.lst b o (s1 b _ eb) mb⟩⟩;obtain⟨j,m',ej,qj⟩:=zb;obtain⟨rfl,_⟩:=bQ (λ_=>rfl) ej;rw[az,i1.length,pK] at qj;cases qj;exact nb Y'
 .cases e
end
def Nk{st:List Stmt}(h1:eS X st t)(h2:eS X st u):eS X st (λD σ H=>t D σ H\/u D σ H):=λpZ s σ H D I h=>h.elim (h1 pZ s σ H D I)<|h2 pZ s σ H D I
def uZ(bd:D->En->Option En)(g:MS)(x:MX):List D->MX
 |[],_=>aB
 |d::l,r=>(bd d r).bind λr1=>match x r1 with
  |some n=>aA n
  |none=>(g r1).bind λfl=>match fl with
   |.nx r'=>uZ bd g x l r'
   |.ct r'=>uZ bd g x l r'
   |_=>aB
def sB(bd:D->En->Option En)(it:ML)(g:MS)(x:MX):MX:=λr=>(it r).bind λl=>uZ bd g x l r
def o9:Nat->MB->MS->MX->MX
 |0,_,_,_=>λ_=>aB
 |n+1,c,g,x=>λr=>(c r).bind λb=>if b=true then match x r with
  |some nm=>aA nm
  |none=>(g r).bind λfl=>match fl with
   |.nx r'=>o9 n c g x r'
   |.ct r'=>o9 n c g x r'
   |_=>aB
  else aB
def Ev(hp:PassesOwn (model X.prog X.w) X.A X.env X.xe)(hc:X.calm=true)(hi:DI X tg iter it)(hg:DG X tg bd)(hb:lQ X body g)(hx:vo X E body x)(hs:∀x,fk iter X.env x=pure x:=by intro _;rfl):YS X E (.For tg iter body [] pos) (sB bd it g x):=by
 refine PS.aK (LG hp hc hi hg (Nk hb hx) hs) λDn σ H hq=>?_
 obtain⟨O0,r,nm,hR,e,q⟩:=hq;obtain⟨l,e1,e2⟩:=aI e;refine⟨O0,r,l,hR,e1,λJ H0 s0 yl=>?_⟩;have R0:=hR.same s0;refine⟨λi m σ1 H1=>m=l.length-i/\i<=l.length/\∃r1,R X.K O0 H1 r1 σ1/\Kp H0 r σ H1 r1 σ1/\uZ bd g x (l.drop i) r1=aA nm,⟨l.length,by simp,cz _,r,R0,Kp.refl H0 r σ,by simpa using e2⟩,?_⟩;rintro i m σ1 H1 ⟨rfl,Oi,r1,R1,k1,e3⟩;have k0:=(Kp.of_same r σ s0).trans k1;obtain⟨y1,y2⟩:=yl i H1 (Ow O0 r1 σ1) k1.keep λa z n=>z.elim .inl λz=>(k1.new a z).elim .inr λz=>absurd z n
 by_cases iH:i<l.length
 .obtain⟨go,yd⟩:=y1 iH;have hd:l[i]?=aA l[i]:=by simp[iH]
  rw[tK hd] at e3;obtain⟨r2,e4,e5⟩:=aI e3;refine .inr ⟨go,λσ3 H3=>∃r3,R X.K O0 H3 r3 σ3/\Kp H0 r σ H3 r3 σ3/\uZ bd g x (l.drop<|i+1) r3=aA nm,λσ3 H3 z=>⟨l.length-(i+1),by omega,rfl,iH,z⟩,λv H2 yx=>?_⟩;obtain⟨s2,ix⟩:=yd v H2 yx;have R2:=R1.same s2;refine⟨O0,r1,l[i],r2,R2,ix _ hd,e4,λσ2 Br k2=>?_⟩;have k3:=(k1.trans<|Kp.of_same r1 σ1 s2).trans k2;have k4:=(k0.trans<|Kp.of_same r1 σ1 s2).trans k2;cases Be:x r2 with
  |some n'=>
   rw[Be] at e5;cases e5;exact .inr ⟨O0,r2,nm,Br,Be,λC H' hm lx=>q C H' hm<|lx.behind k4⟩
  |none=>
   rw[Be] at e5;obtain⟨f1,e6,e7⟩:=aI e5;refine .inl ⟨O0,r2,f1,Br,e6,?_⟩;cases f1 with
   |nx r3=>exact λσ3 H3 R3 kk=>⟨r3,R3,k3.trans kk,e7⟩
   |ct r3=>exact λσ3 H3 R3 kk=>⟨r3,R3,k3.trans kk,e7⟩
   |bk r3=>cases e7
   |rt d r3=>cases e7
   |rf l' r3=>cases e7
   |rg ks l' r3=>cases e7
 .have hl:l.drop i=[]:=mj (by omega);rw[hl] at e3;cases e3
def UO(n:Nat)(hp:PassesOwn (model X.prog X.w) X.A X.env X.xe)(hc:DT X c tc)(hb:lQ X body g)(hx:vo X E body x):YS X E (.While c body [] pos) (o9 n tc g x):=by
 refine PS.aK (Nj hp hc<|Nk hb hx) λDn σ H hq=>?_
 obtain⟨O0,r,nm,hR,e,q⟩:=hq;refine⟨λm σ1 H1=>∃r1,R X.K O0 H1 r1 σ1/\Kp H r σ H1 r1 σ1/\o9 m tc g x r1=aA nm,⟨n,r,hR,Kp.refl H r σ,e⟩,?_⟩;rintro m σ1 H1 ⟨r1,R1,k1,e1⟩;cases m with
 |zero=>cases e1
 |succ m=>
  obtain⟨b,e2,e3⟩:=aI e1;refine⟨O0,r1,b,R1,e2,λH2 s2=>?_⟩;have R2:=R1.same s2;have k2:=k1.trans<|Kp.of_same r1 σ1 s2;cases b with
  |false=>
   rw[if_neg ah] at e3;cases e3
  |true=>
   rw[if_pos rfl] at e3;refine BC ⟨λσ3 H3=>∃r3,R X.K O0 H3 r3 σ3/\Kp H r σ H3 r3 σ3/\o9 m tc g x r3=aA nm,λσ3 H3 z=>⟨m,Nat.lt_succ_self m,z⟩,?_⟩;cases Be:x r1 with
   |some n'=>
    rw[Be] at e3;cases e3;exact .inr ⟨O0,r1,nm,R2,Be,λC H' hm lx=>q C H' hm<|lx.behind k2⟩
   |none=>
    rw[Be] at e3;obtain⟨f1,e4,e5⟩:=aI e3;refine .inl ⟨O0,r1,f1,R2,e4,?_⟩;cases f1 with
    |nx r3=>exact λσ3 H3 R3 k3=>⟨r3,R3,k2.trans k3,e5⟩
    |ct r3=>exact λσ3 H3 R3 k3=>⟨r3,R3,k2.trans k3,e5⟩
    |bk r3=>cases e5
    |rt d r3=>cases e5
    |rf l r3=>cases e5
    |rg ks l r3=>cases e5
section
variable{rest:List Stmt}
def Gu(fe:ME)(ρ:MR):MR:=λr=>(fe r).bind λ_=>ρ r
def Ut(he:∀E,DE (X.l4 E) a fs)(hr:xf X rest ρ)(wp:gi a aB Fh.line X.env=pure false:=by rfl):xf X (.Try [.Expr a Fh] (h0::hs) [] [] pos::rest) (Gu fs ρ):=by
 intro pZ s σ H D I hq;obtain⟨O0,r,d,hR,e0,q⟩:=hq;obtain⟨v,e1,e2⟩:=aI e0;refine ji<|wpAny_Try_except ?_;refine ji ?_;refine qe (fu (he (λ_ _=>False) pZ s σ H (λv H1=>aH H H1) (I.l4 _) ⟨O0,r,v,hR,e1,λv H1 s1 _=>s1⟩) (λu s1 ⟨y,H1,I1,r1,sm⟩=>?_) λ_ _ z=>fj z) I.quiet wp;refine jt<|jt ?_;exact hr pZ s1 σ H1 D I1.xr ⟨O0,r,d,hR.same sm,e2,λv σ' H' r' R' k' i'=>q v σ' H' r' R' ((Kp.of_same r σ sm).trans k') i'⟩
end
def U6:typeLookup (.type "list_reverseiterator") "__len__" = pure aB:=by rw[typeLookup_type,ud];kernel_rfl
def Ub:typeLookup (.type "list_reverseiterator") "__length_hint__" = pure (aA<|.builtin "list_reverseiterator.__length_hint__"):=by rw[typeLookup_type,ud];kernel_rfl
section
variable{St:Nat->Shared->Prop}
def SQ(W:WalksS prog w A.in1 I fp wr G n P St)(hT:∀i s,St i s->s.TypeIs (.ref I) "list_reverseiterator")(S:Addr)(res:Value)(c0:Nat)(sC:St 0 s)(nS:S∉fp)(iI:I∈fp)(oS:s.heap.get? S=aA { cls:=.type "list",data:=.seq #[] c0 })(hn:n<=ag)(fin:∀s' w_ c',Moved (S::wr) G s s'->s'.heap.get? S=aA { cls:=.type "list",dict:=aB,data:=.seq w_ c',slots:=#[] }->ItemsOf P w_ n->Rr (.ok<|.ret res) s'):wpAny (model prog w) A.in1 (ku (.ref S) (.ref I) res) (λfin s'=>match fin with | .done f=>Rr (.ok f) s' | .again c'=>c'.quiet=true/\codeAny (model prog w) A c' Rr s') (λe s'=>Rr (.error e) s') s:=by
 have nI:S≠I:=λe=>nS<|e ▸ iI
 have k1:ra (.ref S) (.ref I)=false:=by simp[ra,nI]
 rw[ku];refine aj<|ro (hT 0 _ sC) ?_;rw[if_neg (by rw[k1];decide)];refine aj<|W.self 0 _ _ _ sC ?_;refine aj<|ja ?_;rw[Builtin.List.listLengthHint];refine aj<|pw (hT 0 _ sC) U6 ?_;show wpAny _ A.in1 ((specialOf (.ref I)<|ot "__length_hint__") >>= _) _ _ _;refine aj<|pw (hT 0 _ sC) Ub ?_;generalize Oj:("list_reverseiterator.__length_hint__" : String)=X_
 wp_delta
 rw[show splitId X_=aA ("list_reverseiterator", "__length_hint__") from by subst Oj;decide +kernel];subst Oj;refine aj<|wpAny_isInstance (b:=true) (hT 0 _ sC) (by rw[isSubtype_type];kernel_rfl) ?_;refine bb ?_;rw[if_neg<|by decide];exact bb ⟨plainId_quiet F.plain_extend_loop _,codeAny_extend_loopS W hn S nS res n 0 _ _ _ rfl (cz _) sC oS (ItemsOf.nil P) fin⟩
def Uc(W:WalksS prog w A.in1 I fp wr G n P St)(hT:∀i s,St i s->s.TypeIs (.ref I) "list_reverseiterator")(S:Addr)(sC:St 0 s)(nS:S∉fp)(iI:I∈fp)(oS:s.heap.get? S=aA { cls:=.type "list",data:=.seq #[] })(hn:n<=ag)(fin:∀s' w_ c',Moved (S::wr) G s s'->s'.heap.get? S=aA { cls:=.type "list",dict:=aB,data:=.seq w_ c',slots:=#[] }->ItemsOf P w_ n->Rr (.ok<|.ret .none) s'):wpAny (model prog w) A.in1 (Builtin.«list.__init__» ⟨[.ref S,.ref I],[]⟩) (λfin s'=>match fin with | .done f=>Rr (.ok f) s' | .again c'=>c'.quiet=true/\codeAny (model prog w) A c' Rr s') (λe s'=>Rr (.error e) s') s:=by
 show wpAny _ A.in1 (ua (.ref S) >>= λold=>Builtin.List.listUpdate (.ref S) (λ_=>#[]) >>= λ_=>letGo old.toList.reverse >>= λ_=>ku (.ref S) (.ref I) .none) _ _ s;refine aj ?_;unfold ua;refine aj<|wpAny_seqItems oS rfl<|bb ?_;refine aj (m:=updateSeq S λ_=>#[])<|pr oS rfl ?_;have Wj:=Heap.get?_update_self (kx λ_=>(#[]:Array Value)) oS rfl;have OH:∀b o,b≠S->s.heap.get? b=aA o->(s.heap.update S<|kx λ_=>(#[]:Array Value)).get? b=aA o:=λb o hb e=>(tu _ _<|gc hb).trans e
 refine aj<|wpAny_letGo ?_;refine SQ W hT S .none _ (W.frame 0 s _ s.toks sC (ao _) λb hb o e=>OH b o (λh=>nS<|h ▸ hb) e) nS iI Wj hn λs' w_ c' hm IK Dj=>?_
 exact fin s' w_ c' (Moved.trans W.gtrans ((Moved.refl W.grefl).then_heap (ao _) λb o hb e=>OH b o (λh=>hb<|h ▸ be) e) hm) IK Dj
end
def pJ(hh:A.handled=aB)(hit:s.heap.IsRevIter it l ((items.size:Int)-1))(hl:s.heap.IsList l items)(vj:l≠it)(hz:items.size<=ag)(fin:∀s' c',(∀b o,b≠it->s.heap.get? b=aA o->s'.heap.get? b=aA o)->s'.gens=s.gens->s'.os=s.os->s'.drawn=s.drawn->s'.heap.get? s.heap.objs.size=aA { cls:=.type "list",dict:=aB,data:=.seq items.reverse c',slots:=#[] }->Q (.ref s.heap.objs.size) s'):wpAny (model prog w) A (call (.type "list") [Value.ref it]) Q E s:=by
 have EN:it<s.heap.objs.size:=by obtain⟨o,ho,_⟩:=hit;exact ax ho
 have Xa:l<s.heap.objs.size:=by obtain⟨o,ho,_⟩:=hl;exact ax ho
 have W:=(Walks.listRev (prog:=prog) (w:=w) (A:=A.in1.in1) hh it l vj items).toS;have nS:s.heap.objs.size∉[it,l]:=λz=>by
  simp only[av,ki,or_false] at z;rcases z with z|z
  .exact absurd EN (by rw[<-z];exact gw _)
  .exact absurd Xa (by rw[<-z];exact gw _)
 have sC:(λ(i:Nat) (s:Shared)=>i<=items.size/\s.heap.IsRevIter it l ((items.size:Int)-1-(i:Int))/\s.heap.IsList l items) 0 s:=⟨cz _,by rw[show((items.size:Int)-1-((0:Nat):Int))=(items.size:Int)-1 from Int.sub_zero _];exact hit,hl⟩;refine callType_codes (Q₁:=λobj s1=>obj=.ref s.heap.objs.size/\s1={ s with heap:=s.heap.push { cls:=.type "list",data:=.seq #[] } }) F.called_list (F.typeCall_list_1 _) F.entry_list_init (code_list_new _ ⟨rfl,rfl⟩) λobj s1 h1=>?_
 obtain⟨rfl,rfl⟩:=h1;have oS:(s.heap.push { cls:=.type "list",data:=.seq #[] }).get? s.heap.objs.size=aA { cls:=.type "list",data:=.seq #[] }:=cn _ rfl;refine⟨⟨_,oS,rfl⟩,F.args_list_init_2 _ _,Uc W (λi s st=>st.2.1.typeIs) _ (W.frame 0 s _ s.toks sC (ao _) λb _ o e=>ay _ e) nS (by simp) oS hz λs' w_ c' hm IK Dj=>⟨rfl,?_⟩⟩;have ea:w_=items.reverse:=by
  apply Array.ext
  .rw[Dj.1,Array.size_reverse]
  .intro j h1 h2;have q:items[items.size-1-j]?=aA w_[j]:=Dj.2 j w_[j]<|la h1;rw[Array.getElem_reverse];rw[la (by rw[Dj.1] at h1;omega)] at q;exact(bp q).symm
 subst ea;refine fin s' c' (λb o hb e=>hm.heap b o (λz=>?_)<|ay _ e) hm.gens hm.os hm.drawn IK;rcases av.mp z with z|z
 .exact absurd (ax e) (by rw[z];exact gw _)
 .exact hb<|cb.mp z
def F4(fl:ML):ML:=λr=>(fl r).map List.reverse
def J3(hc:X.calm=true)(Zo:Gl X "list")(Za:X.mg "list" = aB)(Zn:Gl X "reversed")(Dh:X.mg "reversed" = aB)(ha:DB X a fl)(hs:aq [a] X.env=[(false,eval a X.env)]:=by rfl)(sI:aq [.Call (.Name "reversed" p2) [a] [] Cz] X.env=[(false,eval (.Call (.Name "reversed" p2) [a] [] Cz) X.env)]:=by rfl):DF X (.Call (.Name "list" p1) [.Call (.Name "reversed" p2) [a] [] Cz] [] pos) (F4 fl):=by
 intro pZ s σ H Q I hq;obtain⟨O0,r,l',hR,e,q⟩:=hq;obtain⟨l,e1,rfl⟩:=a8 e;have hA:PA X [a] (Ea (lB X.K fl) Cg):=wV ha kT hs;have inner:wpAny (model X.prog X.w) X.A (eval (.Call (.Name "reversed" p2) [a] [] Cz) X.env) (λv s1=>wpAny (model X.prog X.w) X.A (call (.type "list") [v]) (EP X pZ σ Q) X.xe s1) X.xe s:=by
  refine Call_<|rX I Zn Dh qk<|gb (aS (hA Cz pZ s σ H (z1 λx H1=>∃u xs,x=.ref u/\aH H H1/\aV X.K H1 u xs/\IsL X.K (Ow O0 r σ) H1 l xs) I ⟨O0,r,l,hR,e1,λu xs H1 s1 sq il=>⟨u,xs,rfl,s1,sq,il⟩⟩) λus s1 ⟨vs,H1,I1,r1,q1⟩=>?_) hs rfl;obtain⟨_,rfl,u,xs,rfl,Cw,hx,il⟩:=GG q1;obtain⟨uu,rfl,ru⟩:=Vals.one r1;cases ru;obtain⟨its,rv,pl,hz⟩:=I1.list hx;have hl:its.toArray.size=xs.length:=by rw[ai];exact rv.length.symm
  have Xw:(s1.heap.push<|revObj u<|(its.toArray.size:Int)-1).IsRevIter s1.heap.objs.size u ((its.toArray.size:Int)-1):=⟨_,cn _ rfl,rfl,rfl⟩;have W_:u<s1.heap.objs.size:=by obtain⟨o,ho,_⟩:=pl.isList;exact ax ho
  refine call_reversed_list pl.isList ?_;have vf:(s1.heap.push<|revObj u<|(its.toArray.size:Int)-1).IsList u its.toArray:=pl.isList.at λo e=>ay _ e
  refine pJ (s:={ s1 with heap:=s1.heap.push (revObj u<|(its.toArray.size:Int)-1) }) (I.ok.hd hc) Xw vf (bv W_) (by rw[hl];exact hz) λs' c' kp hg ho hd hS=>?_
  obtain⟨h',g',d',t',NK⟩:=s';dsimp only at kp hg ho hd hS;subst hg ho hd;have sz:(s1.heap.push<|revObj u<|(its.toArray.size:Int)-1).objs.size=s1.heap.objs.size+1:=by simp[Heap.push]
  have ht:H1 (s1.heap.push<|revObj u<|(its.toArray.size:Int)-1).objs.size=aB:=I1.aP.fresh (by rw[sz];exact uq _);refine⟨.ref (s1.heap.push<|revObj u<|(its.toArray.size:Int)-1).objs.size,upd H1 (s1.heap.push<|revObj u<|(its.toArray.size:Int)-1).objs.size<|.lst xs.reverse,I1.laid (t':=t') (λb o e=>kp b o (bv<|ax e)<|ay _ e) (by rw[sz];exact uq _) ⟨by rw[du];exact hz,its.reverse,c',rv.reverse,by rw[hS,List.reverse_toArray]⟩,rfl,?_⟩;refine q _ _ _ (Cw.trans<|xU ht) (Cw.free ht) wL ?_;refine IsL.mono (aH.kp (xU ht) _) (hR.same Cw).ol (λb z n=>?_) _ _ il.reverse;rcases z with z|z
  .exact z
  .subst z;exact absurd ht n
 refine Call_<|rX I Zo Za PyProof.Rows.boot_list<|gb ?_ sI rfl;rw[sI];show wpAny _ _ (spliced ((false,eval (.Call (.Name "reversed" p2) [a] [] Cz) X.env)::ph pos [])) _ _ s;exact Calls.spliced_cons<|aS inner λv s1 h1=>Calls.spliced_nil h1
def Eo(f g:ML):MB:=λr=>(f r).bind λl=>(g r).bind λm=>if m.isEmpty then aA l.isEmpty else aB
def RH(K:Fg):R2:=λx y H Q=>∃p q xs,x=.ref p/\y=.ref q/\aV K H p xs/\aV K H q []/\Q (.bl xs.isEmpty) H
def Ui(hu:X.A.units<cLine):c_ X (bz .Eq) (RH X.K):=by
 intro pZ s σ H x y v u Q I rx ry h;obtain⟨p,q',xs,hx,hy,h1,h2,q⟩:=h;cases xs with
 |nil=>exact Le hu pZ s σ H x y v u Q I rx ry ⟨p,q',[],[],hx,hy,h1,h2,rfl,rfl,q⟩
 |cons z zs=>
  subst hx hy;cases rx;cases ry;obtain⟨its,r,pl,_⟩:=I.list h1;obtain⟨fF,r2,vf,_⟩:=I.list h2;have n1:=r.length;have n2:=r2.length;simp only[ac,am] at n1 n2;exact rj pl.isList vf.isList (by simp only[ai,bne_iff_ne];omega) hu<|qC I q rfl
def Uw(hu:X.A.units<cLine)(ha:DB X a fl)(hb:DB X b gl)(hm:gu .Eq b=false:=by rfl):DT X (.Compare a [.Eq] [b] pos) (Eo fl gl):=by
 refine PT.aK (X8 (Ui hu) ha hb hm) λσ H Q h=>?_
 obtain⟨O0,r,d,hR,e,q⟩:=h;obtain⟨l,e1,e⟩:=aI e;obtain⟨m,e2,e⟩:=aI e;split at e
 .rename_i hz;cases e;refine⟨O0,r,l,hR,e1,λp xs H1 s1 sq il=>⟨O0,r,m,hR.same s1,e2,λp' ys H2 s2 Cu vh=>?_⟩⟩;have hm:m=[]:=by simpa using hz
  subst hm;unfold IsL at vh;subst vh;have hb:l.isEmpty=xs.isEmpty:=by
   have:=il.length
   cases l<;>cases xs<;>simp_all
  exact⟨p,p',xs,rfl,rfl,s2.seq sq,Cu,_,rfl,by rw[<-hb];exact q H2<|s1.trans s2⟩
 .cases e
def FP(f g:ME):ME:=λr=>(f r).bind λd=>match d with
 |.lst l=>(g r).bind λe=>match e with
  |.str t=>(X2 l).bind λss=>if t∈ss/\ss.length<=1000 then aA (.int (ss.idxOf t:Nat)) else aB
  |_=>aB
 |_=>aB
def Pg(K:Fg):V->List V->Hp->VK->Prop:=λx vs H Q=>∃(p:Addr) (ss:List (List Nat)) (t:List Nat),x=.ref p/\vs=[.str ⟨t.toArray⟩]/\aV K H p (ss.map λs=>V.str ⟨s.toArray⟩)/\t∈ss/\ss.length<=1000/\Q (.int (ss.idxOf t:Nat)) H
theorem t7:∀{ss:List (List Nat)} {us:List Value},Vals (ss.map λs=>V.str ⟨s.toArray⟩) us->us.length=ss.length/\∀(j:Nat) (s:List Nat),ss[j]?=aA s->∃k,us[j]?=aA (.str ⟨s.toArray⟩ k)
 |[],_,.nil=>⟨rfl,λj s e=>by simp at e⟩
 |s::ss,_,.cons r t=>by
  obtain⟨h1,h2⟩:=t7 t;refine⟨by simp[h1],λj s' e=>?_⟩;cases j with
  |zero=>simp at e;subst e;obtain⟨k,rfl⟩:=r;exact⟨k,rfl⟩
  |succ j=>exact h2 j s' (by simpa using e)
noncomputable def FM(t:Str):Value->Bool
 |.str x _=>x == t
 |_=>false
theorem K4:∀(l:List (List Nat)) (t:List Nat) (m:Nat),m<l.idxOf t->l[m]?≠aA t
 |[],t,m,h=>by simp
 |x::l,t,m,h=>by
  rw[List.idxOf_cons] at h;by_cases hx:x=t
  .subst hx;simp at h
  .have:(x == t)=false:=by simpa using hx
   rw[this] at h;cases m with
   |zero=>simpa using hx
   |succ m=>
    rw[ik];exact K4 l t m (by simpa using h)
def Ud:Bs X "list.index" (Pg X.K):=by
 intro pZ s σ H x vs v us Q I rx rv h;obtain⟨p,ss,t,rfl,rfl,hp,ht,hz,q⟩:=h;cases rx;obtain⟨u,rfl,k,rfl⟩:=Vals.one rv;obtain⟨its,r,pl,_⟩:=I.list hp;obtain⟨l1,l2⟩:=t7 r;obtain⟨⟨oc,od,ĥ,xx⟩,n,e,c1,c2,c3⟩:=id pl;dsimp only at c1 c2 c3;subst c1 c2 c3;have hj:ss.idxOf t<ss.length:=List.idxOf_lt_length_of_mem ht;have get:∀(m:Nat) (hm:m<its.toArray.size),∃s' k',ss[m]?=aA s'/\its.toArray[m]=.str ⟨s'.toArray⟩ k':=λm hm=>by
  have E7:m<its.length:=by simpa using hm
  have e1:ss[m]?=aA ss[m]:=ft (by omega);obtain⟨k',q'⟩:=l2 m _ e1;rw[ft E7] at q';exact⟨_,k',e1,by simpa using q'⟩
 refine io F.slot_list_index ⟨_,e,rfl⟩ F.entry_list_index (F.args_list_index_2 _ _) (SeqAt.list_indexAt p its.toArray n aB xx (.str ⟨t.toArray⟩ k) (FM ⟨t.toArray⟩) (ss.idxOf t) (by rw[ai];omega) (by omega) ?_ ?_) ⟨e,λy hy=>?_,⟨.int (ss.idxOf t:Nat),H,I.tok _,⟨_,rfl⟩,q⟩⟩
 .obtain⟨s',k',e1,e2⟩:=get (ss.idxOf t) (by rw[ai];omega);rw[e2];rw[ft hj,List.getElem_idxOf hj] at e1;cases e1;simp[FM]
 .intro m hm Y_;obtain⟨s',k',e1,e2⟩:=get m hm;rw[e2];have ne:s'≠t:=λz=>by
   subst z;exact K4 ss s' m Y_ e1
  simp only[FM,beq_eq_false_iff_ne];intro z;have z':s'.toArray=t.toArray:=by injection z
  exact ne (by simpa using z')
 .obtain⟨m,hm,rfl⟩:=Array.mem_iff_getElem.mp hy;obtain⟨s',k',e1,e2⟩:=get m hm;rw[e2];exact da.str_str _ _ _ _
def Us(ho:DE X a f)(hb:DE X b g)(fK:fq a "index" X.env (eval a X.env)=eval a X.env:=by rfl)(fI:sW apos eB:=by rfl)(iE:xc X [b] eB:=by rfl)(hs:aq [b] X.env=(false,eval b X.env)::aq [] X.env:=by rfl):DE X (.Call (.Attribute a "index" apos) [b] [] eB) (FP f g):=by
 refine PE.aK (WE dv PySem.F.slot_list_index PySem.F.type_list_index Ud ho (wV hb kT hs) fK iE fI hs) λσ H Q hq=>?_
 obtain⟨O0,r,d,hR,e,q⟩:=hq;obtain⟨x,e1,e⟩:=aI e;cases x<;>first|(cases e;done)|skip
 rename_i l;simp only at e;obtain⟨y,e2,e⟩:=aI e;cases y<;>first|(cases e;done)|skip
 rename_i t;simp only at e;obtain⟨ss,e3,e⟩:=aI e;split at e
 .rename_i hz;cases e;refine⟨O0,r,.lst l,hR,e1,λv H1 s1 i1=>?_⟩;rw[yV] at i1;obtain⟨p,xs,rfl,hp,il⟩:=i1;refine⟨.inl ⟨rfl,xs,hp.sq⟩,O0,r,.str t,hR.same s1,e2,λu H2 s2 i2=>?_⟩;rw[yE] at i2;subst i2;have Ô:=YY e3 il;subst Ô;exact⟨p,ss,t,rfl,rfl,s2.seq hp.sq,hz.1,hz.2,q _ H2 (s1.trans s2)<|by rw[zY]⟩
 .cases e
def Kq:MS:=λ_=>aB
def Uu{st:List Stmt}:lQ X st Kq:=λpZ s σ H D I ⟨O0,r,fl,hR,e,_⟩=>by cases e
def mV(i:Nat)(x:MX):MX:=λr=>(Bm i r).bind λr1=>(ZF r i).bind λ_=>x r1
def Tf(e:Bm i r=aA r1)(h:iV r1 σ b):iV r σ b:=by
 obtain⟨l,el,rfl⟩:=oT e;obtain⟨j,m,ej,qj⟩:=h;have hj:i≠j:=λz=>by subst z;rw[yD (ar.mp el).1] at ej;cases ej
 rw[zK hj] at ej;exact⟨j,m,ej,qj⟩
def oH(i:Nat)(h:PE X (.Name v pn) (sA i))(he:YE X E a x)(fI:sW apos eB:=by rfl)(fK:fq (.Name v pn) "append" X.env (eval (.Name v pn) X.env)=eval (.Name v pn) X.env:=by rfl)(iE:xc X [a] eB:=by rfl)(hs:aq [a] X.env=(false,eval a X.env)::aq [] X.env:=by rfl):YE X E (.Call (.Attribute (.Name v pn) "append" apos) [a] [] eB) (mV i x):=by
 refine PE.aK (WE dv ic ib dJ h (Hd he hs) fK iE fI hs) λσ H Q hq=>?_
 obtain⟨O0,r,n,hR,e,q⟩:=hq;obtain⟨r1,ez,e⟩:=aI e;obtain⟨l,e1,e2⟩:=aI e;obtain⟨b,xs,q1,q2,q3⟩:=YQ hR e1;have R1:R X.K O0 H r1 σ:=by
  obtain⟨l,el,rfl⟩:=oT ez;exact(hR.swap (y:=.z l)<|.inl ⟨el,rfl⟩).1
 exact⟨.ref b,q1,.inl ⟨rfl,xs,aV.of q2⟩,O0,r1,n,R1,e2,λC H' hm l2=>q C H' hm ⟨λc o e' n'=>l2.keep c o e' λz=>n'<|Tf ez z,l2.live,l2.lst⟩⟩
end DD
namespace L2
open PySem PySem.Spec PyProof.Rows
end L2
namespace DD
open PySem PySem.Spec PyProof.Rows L2
open PySem PySem.Spec PyProof.Rows L2 PySem.W
open PySem PySem.Spec PyProof.Rows L2 PySem.W TS
section
variable{X:Cx}{C:Addr}{z:Nat}{e:Expr}{es:List Expr}{m:Ŀ}{ms:ŀ}{x:Str}{pos apos Ħ p:Pos}
variable{k n:Nat}{f:Addr}{fd:FuncData}{ps:List Str}{mm:ò->List D->Option (D×ò)}{mn:Str}
end
namespace RV
end RV
namespace DU
end DU
namespace RP
end RP
end DD
namespace ZZ
open PySem
end ZZ
namespace DD
open PySem PySem.Spec PyProof.Rows L2 PySem.W
namespace MX
end MX
def R.VO{K:Fg}(h:R K O0 H r σ)(er:r[i]?=aA (.o l)):∃a xs,σ[i]?=aA (aA<|.ref a)/\H a=aA (.lst xs)/\R K O0 H (r.set i<|.v<|.lst l) σ/\IsL K (Ow O0 (r.set i<|.v<|.lst l) σ) H l xs/\∀b,Ow O0 r σ b->Ow O0 (r.set i<|.v<|.lst l) σ b\/b=a:=by
 have hi:i<r.length:=(ar.mp er).1;obtain⟨a,xs,c1,c2,c4⟩:=h.own i l (by rw[er];rfl);have own:∀j m,((r.set i<|.v<|.lst l)[j]?).bind Sl.own=aA m->i≠j/\(r[j]?).bind Sl.own=aA m:=λj m e=>by
  by_cases hj:i=j
  .subst hj;rw[yD hi] at e;cases e
  .rw[zK hj] at e;exact⟨hj,e⟩
 have at_:∀b,o7 (r.set i<|.v<|.lst l) σ b->o7 r σ b:=λb ⟨j,m,e,q⟩=>⟨j,m,(own j m e).2,q⟩
 have nc:¬Ow O0 (r.set i<|.v<|.lst l) σ a:=λz=>z.elim (λz=>h.loc i l a (.inl er) c1 z) λ⟨j,m,e,q⟩=>by
  obtain⟨hj,e'⟩:=own j m e;exact hj<|h.apart i j a l m (by rw[er];rfl) e' c1 q
 have ow:∀b,Ow O0 (r.set i<|.v<|.lst l) σ b->H b≠aB->Ow O0 r σ b:=λb z _=>z.imp id<|at_ b
 have dn:∀{d v},Is K (Ow O0 r σ) H d v->Is K (Ow O0 (r.set i<|.v<|.lst l) σ) H d v:=λq=>Is.mono (aH.kp (aH.refl H) _) h.ol ow _ _ q
 have Fj:∀{d v},IsL K (Ow O0 r σ) H d v->IsL K (Ow O0 (r.set i<|.v<|.lst l) σ) H d v:=λq=>IsL.mono (aH.kp (aH.refl H) _) h.ol ow _ _ q
 refine⟨a,xs,c1,c2,⟨by simp[h.len],λj d ej=>?_,λj m ej=>?_,λj k b m n e4 e5=>h.apart j k b m n (own j m e4).2 (own k n e5).2,h.o0,λj m b ej q=>?_,λj m b ej q=>?_,λj f ya m ej=>?_⟩,Fj c4,λb z=>?_⟩
 .by_cases hj:i=j
  .subst hj;rw[yD hi] at ej;cases ej;refine⟨.ref a,c1,?_⟩;rw[yV];exact⟨a,xs,rfl,.inl ⟨nc,.inl c2⟩,Fj c4⟩
  .rw[zK hj] at ej;obtain⟨v,q1,q2⟩:=h.val j d ej;exact⟨v,q1,dn q2⟩
 .have hj:=(own j m<|nY ej).1;rw[zK hj] at ej;obtain⟨b,ys,q1,q2,q3⟩:=h.own j m ej;exact⟨b,ys,q1,q2,Fj q3⟩
 .have hj:i≠j:=λz=>by subst z;rw[yD hi] at ej;rcases ej with ej|ej|⟨_,ej⟩<;>cases ej
  rw[zK hj] at ej;exact h.loc j m b ej q
 .have hj:i≠j:=λz=>by subst z;rw[yD hi] at ej;cases ej
  rw[zK hj] at ej;exact h.par j m b ej q
 .have hj:i≠j:=λz=>by subst z;rw[yD hi] at ej;cases ej
  rw[zK hj] at ej;obtain⟨b,Xh,q1,q2,q4,q3⟩:=h.fL j f ya m ej;exact⟨b,Xh,q1,q2,q4,Fj q3⟩
 .rcases z with z|⟨j,m,e,q⟩
  .exact .inl<|.inl z
  .by_cases hj:i=j
   .subst hj;rw[c1] at q;cases q;exact .inr rfl
   .exact .inl<|.inr ⟨j,m,by rw[zK hj];exact e,q⟩
def A'(i:Nat)(f:ML):ML:=λr=>match r[i]? with
 |some (.o l)=>(f<|r.set i<|.v<|.lst l).bind λout=>if zq l out=true then aA out else aB
 |_=>aB
def Qe{K:Fg}{i:Nat}{f:ML}(hq:lF K (A' i f) σ H Q):lF K f σ H Q:=by
 obtain⟨O0,r,out,hR,e,q⟩:=hq;unfold A' at e;split at e
 .rename_i l er;obtain⟨Ĥ,e1,e2⟩:=aI e;split at e2
  .rename_i Ë;cases e2;obtain⟨c,xs,c1,c2,R1,il,hO⟩:=hR.VO er;refine⟨O0,_,out,R1,e1,λp ys H1 s1 n1 ep i1=>q p ys H1 s1 n1 ep ?_⟩;have hc:=s1 _ _ c2;exact Ee (O':=λb=>Ow O0 (r.set i<|.v<|.lst l) σ b\/b=p) (λb z=>z.elim (λz=>(hO b z).imp .inl id) λz=>.inl<|.inr z) hc (IsL.mono (aH.kp s1 _) R1.ol (λb z nn=>z.elim id λz=>by subst z;exact absurd n1 nn) _ _ il) _ _ Ë i1
  .cases e2
 .cases e
def JZ(k i:Nat)(hc:X.calm=true)(o:sN X N' cap scope)(hi:DI X tg iter it)(hg:∀C fp s H,DG (eO X N' scope C fp s H) tg bd)(ht:∀C fp s H,DT (eO X N' scope C fp s H) ce c)(he:∀C fp s H,DE (eO X N' scope C fp s H) elt x)(n:Nat)(hN:X.N.Nodup)(hn:N'.length=n:=by rfl)(hy:X.N[i]?=aA y:=by rfl)(hx:Loc X.env.scope y:=by first|exact Or.inl rfl|exact Or.inr rfl)(hf:sM X y:=by first|exact .inl rfl|exact .inr rfl)(wp:gi (.ListComp elt [⟨tg,iter,[ce],0⟩] scope pos) (aA<|.Name y py) A3.line X.env=pure true:=by rfl)(hs:∀x,fk iter X.env x=pure x:=by intro _;rfl):DS X (.Assign [.Name y py] (.ListComp elt [⟨tg,iter,[ce],0⟩] scope pos) A3) (xF i<|xI<|A' k<|qG cap n it bd c x):=by
 subst hn;exact PS.aK (Y3 (i:=i) (g:=lG X.K bd) (te:=lE X.K x) (tc:=aA<|lT X.K c) hc o hi hg ⟨ce,rfl,ht⟩ he hN hy hx hf wp hs) λDn σ H h=>g8 (tc:=aA<|lT X.K c) (λz=>z) N'.length<|Qe<|Hh h
def xp(n i j k:Nat)(d:D):MR:=λr=>if (r[k]?).any xl=true then Ce n i j d r else aB
def nB(h:xp n i j k d r=aA d'):(r[k]?).any xl=true/\Ce n i j d r=aA d':=by
 unfold xp at h;split at h
 .rename_i hh;exact⟨hh,h⟩
 .cases h
def Y1(n i j k:Nat)(d:D):∀r d',xp n i j k d r=aA d'->(∃z,r[i]?=aA z/\aL z)/\∃z,r[j]?=aA z/\aL z:=λr d' h=>US n i j d r d' (nB h).2
end DD
namespace K06
open PySem PySem.Spec PyProof.Rows L2 DD
noncomputable def top(i:Nat):Stmt:=PySem.Challenge.pw_fieldrows_k06_refused_in_order.main.body.getD i<|.Pass ⟨0,0,0,0⟩
noncomputable def RF:Nat:=40
noncomputable def WF:Nat:=100000
noncomputable def cX:Nat:=150
noncomputable def B_:List (List Nat):=[[100,101,102],[102,110],[100,111],[101,109,112,116,121],[103,101,116],[119,105,116,104],[112,117,116],[108,101,115,115],[116,97,103],[119,105,100,101],[99,97,115,101],[110,101,118,101,114],[105,102]]
noncomputable def yN:List (List Nat×List Nat):=[([102,110],[110,69]),([100,111],[69,69]),([101,109,112,116,121],[]),([103,101,116],[110,69]),([119,105,116,104],[110,69,69]),([112,117,116],[110,69,69]),([108,101,115,115],[110,69]),([116,97,103],[110,69]),([119,105,100,101],[110,69]),([99,97,115,101],[69,110,110,69,110,69]),([110,101,118,101,114],[69]),([105,102],[69,69,69]),([43],[69,69]),([45],[69,69]),([42],[69,69]),([60],[69,69])]
def WZ:MS:=(qE<|xI<|qG [] 1 (eA<|zD 0) (y9 0) (uG<|aF (pT "tuple")<|zD 0)<|zD 0)
def bO:MF:=aY 1 1 WZ
def tD:MS:=(yC (dD 1<|yB zN)
 (yC (dD 2<|yB<|zC (zD 0) zN)
 (yC (j7 WF (vL<|jP 2)
 (yC (vE 3<|iS 2)
 (yC (sX<|oM 1<|zD 3)
 (sX<|zt 2<|aF AN<|zW 1 bO<|zC (zD 3) zN))))
 (ZB 1))))
def uB:MF:=aY 1 4 tD
def cQ:MS:=(qE<|FO<|vY [1,2] 3 (iX<|zD 0) (y9 2)<|bY fC fC (zD 0) (zD 2)<|zD 1)
def jX:MF:=aY 3 3 cQ
def tE:MS:=(qE<|Bw (bY fC fC (mC<|.int 1) (aF kA<|zD 0)<|mC<|.int 8)<|Bw (zW 3 jX<|zC (zD 0)<|zC (mC<|.str [97])<|zC (mC<|.str [122]) zN)<|zG (inD true) (zD 0)<|mC<|.tup<|B_.map D.str)
def qA:MF:=aY 1 1 tE
def bK:MS:=(yC (aJ (cU (jW<|aD<|bY fC fC (mC<|.int 1) (aF kA<|zD 0)<|mC<|.int 6)<|jW<|uG<|zW 3 jX<|zC (zD 0)<|zC (mC<|.str [48])<|zC (mC<|.str [57]) zN)
 (qE<|mC<|.bl false)
 yP)
 (qE<|BW (zG aQ (zD 0)<|mC<|.str [48])<|zG d_ (zG aC (zD 0)<|mC<|.int 0)<|mC<|.str [48]))
def bN:MF:=aY 1 1 bK
def vM:MS:=(yC (aJ (jW<|uG<|zW 1 bN<|zC (zD 0) zN)
 jU
 yP)
 (qE<|aF rZ<|zD 0))
def vR:MF:=aY 1 1 vM
def xM:MX:=(fA (jW<|uG<|zW 1 bN<|zC (zD 0) zN)
 (u7 "NoLine"<|YR<|jE (AW<|zD 0)<|jE (mC<|.str [32,105,115,32,110,111,32,110,117,109,98,101,114]) vv)
 mR)
def xY:List Sl->Option Str:=iD 1 1 xM
def uH:MS:=(yC (aJ (jW<|vL<|jP 0)
 jU
 yP)
 (F_<|iS 0))
def wW:MF:=aY 1 1 uH
def x0:MX:=(fA (jW<|vL<|jP 0)
 (u7 "NoLine"<|mC<|.str [97,32,119,111,114,100,32,105,115,32,119,97,110,116,105,110,103])
 mR)
def xQ:List Sl->Option Str:=iD 1 1 x0
def uI:MS:=(yC (vE 1<|qS 1 wW 0<|zP zN)
 (yC (aJ (jW<|uG<|zW 1 qA<|zC (zD 1) zN)
 jU
 yP)
 (qE<|zD 1)))
def kQ:MF:=aY 1 2 uI
def xH:MX:=(fU (cG 1 xQ 0<|zP zN)
 (qF (vE 1<|qS 1 wW 0<|zP zN)
 (fA (jW<|uG<|zW 1 qA<|zC (zD 1) zN)
 (u7 "NoLine"<|YR<|jE (AW<|zD 1)<|jE (mC<|.str [32,105,115,32,110,111,32,110,97,109,101]) vv)
 mR)))
def wM:List Sl->Option Str:=iD 1 2 xH
def dM:MS:=(yC (aJ (uG<|zW 1 qA<|zC (zD 0) zN)
 (qE<|vD<|zC (mC<|.str [110,97,109,101])<|zC (zD 0) zN)
 yP)
 (qE<|vD<|zC (mC<|.str [110,117,109])<|zC (zW 1 vR<|zC (zD 0) zN) zN))
def jK:MF:=aY 1 1 dM
def xO:MX:=(qF (aJ (uG<|zW 1 qA<|zC (zD 0) zN)
 (qE<|vD<|zC (mC<|.str [110,97,109,101])<|zC (zD 0) zN)
 yP)
 (F1 (mC<|.str [110,117,109])<|vZ 1 xY<|zC (zD 0) zN))
def xS:List Sl->Option Str:=iD 1 1 xO
def wX(m:MF):MS:=(yC (aJ (aD<|zG a_ (zD 1)<|mC<|.int 30)
 jU
 yP)
 (yC (vE 2<|qS 1 wW 0<|zP zN)
 (yC (aJ (aD<|aF (j' yN true)<|zD 2)
 (qE<|zW 1 jK<|zC (zD 2) zN)
 yP)
 (yC (dD 3<|yB<|zC (zD 2) zN)
 (yC (dQ (y9 4) (iX<|aF (atT yN)<|zD 2)
 (aJ (aD<|zG aQ (zD 4)<|mC<|.str [110])
 (sX<|YT 3<|qS 1 kQ 0<|zP zN)
 (sX<|YT 3<|qS 2 m 0<|zP<|zC (zG xC (zD 1)<|mC<|.int 1) zN)))
 (qE<|Gv<|jP 3))))))
def yI:Nat->MF
 |0=>λ_=>aB
 |k+1=>aY 2 5<|wX<|yI k
def yZ(m:MF)(mx:List Sl->Option Str):MX:=(fU (fA (aD<|zG a_ (zD 1)<|mC<|.int 30)
 (u7 "NoLine"<|mC<|.str [116,104,101,32,101,120,112,114,101,115,115,105,111,110,32,105,115,32,116,111,111,32,100,101,101,112])
 mR)
 (qF (aJ (aD<|zG a_ (zD 1)<|mC<|.int 30)
 jU
 yP)
 (fU (cG 1 xQ 0<|zP zN)
 (qF (vE 2<|qS 1 wW 0<|zP zN)
 (fU (fA (aD<|aF (j' yN true)<|zD 2)
 (vZ 1 xS<|zC (zD 2) zN)
 mR)
 (qF (aJ (aD<|aF (j' yN true)<|zD 2)
 (qE<|zW 1 jK<|zC (zD 2) zN)
 yP)
 (qF (dD 3<|yB<|zC (zD 2) zN)
 (sB (y9 4) (iX<|aF (atT yN)<|zD 2)
 (aJ (aD<|zG aQ (zD 4)<|mC<|.str [110])
 (sX<|YT 3<|qS 1 kQ 0<|zP zN)
 (sX<|YT 3<|qS 2 m 0<|zP<|zC (zG xC (zD 1)<|mC<|.int 1) zN))
 (fA (aD<|zG aQ (zD 4)<|mC<|.str [110])
 (zw 3<|cG 1 wM 0<|zP zN)
 (zw 3<|cG 2 mx 0<|zP<|zC (zG xC (zD 1)<|mC<|.int 1) zN))))))))))
def zV:Nat->List Sl->Option Str
 |0=>λ_=>aB
 |k+1=>iD 2 5<|yZ (yI k)<|zV k
def qK:MS:=(yC (dD 1<|BG<|v5 (zD 0)<|mC<|.str [32])
 (yC (vE 2<|qS 2 (yI RF) 1<|zP<|zC (mC<|.int 0) zN)
 (yC (aJ (vL<|jP 1)
 jU
 yP)
 (qE<|zD 2))))
def w6:MF:=aY 1 3 qK
def y6:MX:=(qF (dD 1<|BG<|v5 (zD 0)<|mC<|.str [32])
 (fU (cG 2 (zV RF) 1<|zP<|zC (mC<|.int 0) zN)
 (qF (vE 2<|qS 2 (yI RF) 1<|zP<|zC (mC<|.int 0) zN)
 (fA (vL<|jP 1)
 (u7 "NoLine"<|mC<|.str [119,111,114,100,115,32,115,116,97,110,100,32,98,101,104,105,110,100,32,116,104,101,32,101,120,112,114,101,115,115,105,111,110])
 mR))))
def wD:List Sl->Option Str:=iD 1 3 y6
def qT:MS:=(aJ (bF (aD<|zG aQ (zG aC (zD 0)<|mC<|.int 0)<|mC<|.str [110,97,109,101])<|aD<|zG (inD true) (zG aC (zD 0)<|mC<|.int 1)<|zD 1)
 (yC (xF 2<|zG aC (zD 0)<|mC<|.int 1)
 jU)
 yP)
def wC:MF:=aY 2 3 qT
def xJ:MX:=(fA (bF (aD<|zG aQ (zG aC (zD 0)<|mC<|.int 0)<|mC<|.str [110,97,109,101])<|aD<|zG (inD true) (zG aC (zD 0)<|mC<|.int 1)<|zD 1)
 (qF (xF 2<|zG aC (zD 0)<|mC<|.int 1)
 (u7 "NoName"<|YR<|jE (mC<|.str [116,104,101,32,110,97,109,101,32])<|jE (zD 2)<|jE (mC<|.str [32,105,115,32,111,112,101,110]) vv))
 mR)
def yQ:List Sl->Option Str:=iD 2 3 xJ
def j3:MS:=(yC (aJ (aD<|zG aQ (zG aC (zD 0)<|mC<|.int 0)<|mC<|.str [102,110])
 (qE<|xI<|yB<|zC (vD<|zC (zG aC (zD 0)<|mC<|.int 2)<|zC (zG xC (zD 1)<|xI<|yB<|zC (zG aC (zD 0)<|mC<|.int 1) zN) zN) zN)
 yP)
 (yC (aJ (aD<|zG aQ (zG aC (zD 0)<|mC<|.int 0)<|mC<|.str [99,97,115,101])
 (yC (xF 2<|vD<|zC (zG aC (zD 0)<|mC<|.int 4)<|zC (zG xC (zD 1)<|xI<|yB<|zC (zG aC (zD 0)<|mC<|.int 3) zN) zN)
 (yC (xF 3<|vD<|zC (zG aC (zD 0)<|mC<|.int 6)<|zC (zG xC (zD 1)<|xI<|yB<|zC (zG aC (zD 0)<|mC<|.int 5) zN) zN)
 (qE<|xI<|yB<|zC (vD<|zC (zG aC (zD 0)<|mC<|.int 1)<|zC (zD 1) zN)<|zC (zD 2)<|zC (zD 3) zN)))
 yP)
 (qE<|xI<|vY [1] 2 (eA<|zW 1 bO<|zC (zD 0) zN) (y9 1)<|vD<|zC (zD 1)<|zC (zD 0) zN)))
def vJ:MF:=aY 2 4 j3
def qJ:MS:=(yC (dD 2<|yB<|zC (vD<|zC (zD 0)<|zC (zD 1) zN) zN)
 (j7 WF (vL<|jP 2)
 (yC (vE 3<|iS 2)
 (yC (QZ<|zW 2 wC<|zC (zG aC (zD 3)<|mC<|.int 0)<|zC (zG aC (zD 3)<|mC<|.int 1) zN)
 (sX<|zt 2<|zW 2 vJ<|zC (zG aC (zD 3)<|mC<|.int 0)<|zC (zG aC (zD 3)<|mC<|.int 1) zN)))))
def qL:MF:=aY 2 4 qJ
def xT:MX:=(qF (dD 2<|yB<|zC (vD<|zC (zD 0)<|zC (zD 1) zN) zN)
 (o9 WF (vL<|jP 2)
 (yC (vE 3<|iS 2)
 (yC (QZ<|zW 2 wC<|zC (zG aC (zD 3)<|mC<|.int 0)<|zC (zG aC (zD 3)<|mC<|.int 1) zN)
 (sX<|zt 2<|zW 2 vJ<|zC (zG aC (zD 3)<|mC<|.int 0)<|zC (zG aC (zD 3)<|mC<|.int 1) zN)))
 (qF (vE 3<|iS 2)
 (vZ 2 yQ<|zC (zG aC (zD 3)<|mC<|.int 0)<|zC (zG aC (zD 3)<|mC<|.int 1) zN))))
def xG:List Sl->Option Str:=iD 2 4 xT
def vN:MS:=(yC (xF 2<|xI<|mD (zD 0) (mC<|.str [32]) 2)
 (yC (aJ (cU (aD<|zG d_ (aF kA<|zD 2)<|mC<|.int 3)<|cU (aD<|zG d_ (zG aC (zD 2)<|mC<|.int 0)<|mC<|.str [100,101,102])<|jW<|uG<|zW 1 qA<|zC (zG aC (zD 2)<|mC<|.int 1) zN)
 jU
 yP)
 (yC (xF 3<|zG aC (zD 2)<|mC<|.int 1)
 (yC (xF 4<|zW 1 w6<|zC (zG aC (zD 2)<|mC<|.int 2) zN)
 (yC (aJ (aD<|zG a_ (aF kA<|xI<|dL 1 uB<|zC (zD 4) zN)<|mC<|.int 80)
 jU
 yP)
 (yC (aJ (aD<|zG (inD false) (zD 3)<|zD 1)
 jU
 yP)
 (yC (QZ<|zW 2 qL<|zC (zD 4)<|zC (zG xC (zD 1)<|xI<|yB<|zC (zD 3) zN) zN)
 (qE<|vD<|zC (zD 3)<|zC (zD 4) zN))))))))
def w8:MF:=aY 2 5 vN
def wA:MX:=(qF (xF 2<|xI<|mD (zD 0) (mC<|.str [32]) 2)
 (qF (aJ (cU (aD<|zG d_ (aF kA<|zD 2)<|mC<|.int 3)<|cU (aD<|zG d_ (zG aC (zD 2)<|mC<|.int 0)<|mC<|.str [100,101,102])<|jW<|uG<|zW 1 qA<|zC (zG aC (zD 2)<|mC<|.int 1) zN)
 jU
 yP)
 (qF (xF 3<|zG aC (zD 2)<|mC<|.int 1)
 (qF (xF 4<|zW 1 w6<|zC (zG aC (zD 2)<|mC<|.int 2) zN)
 (fA (aD<|zG a_ (aF kA<|xI<|dL 1 uB<|zC (zD 4) zN)<|mC<|.int 80)
 (u7 "TooMuch"<|mC<|.str [116,104,101,32,101,120,112,114,101,115,115,105,111,110,32,104,97,115,32,116,111,111,32,109,97,110,121,32,112,108,97,99,101,115])
 mR)))))
def wN:List Sl->Option Str:=iD 2 5 wA
def xB:MX:=(qF (xF 2<|xI<|mD (zD 0) (mC<|.str [32]) 2)
 (fU (fA (cU (aD<|zG d_ (aF kA<|zD 2)<|mC<|.int 3)<|cU (aD<|zG d_ (zG aC (zD 2)<|mC<|.int 0)<|mC<|.str [100,101,102])<|jW<|uG<|zW 1 qA<|zC (zG aC (zD 2)<|mC<|.int 1) zN)
 (u7 "NoLine"<|mC<|.str [116,104,101,32,108,105,110,101,32,105,115,32,110,111,116,32,116,104,101,32,119,111,114,100,32,100,101,102,44,32,97,32,110,97,109,101,32,97,110,100,32,97,110,32,101,120,112,114,101,115,115,105,111,110])
 mR)
 (qF (aJ (cU (aD<|zG d_ (aF kA<|zD 2)<|mC<|.int 3)<|cU (aD<|zG d_ (zG aC (zD 2)<|mC<|.int 0)<|mC<|.str [100,101,102])<|jW<|uG<|zW 1 qA<|zC (zG aC (zD 2)<|mC<|.int 1) zN)
 jU
 yP)
 (qF (xF 3<|zG aC (zD 2)<|mC<|.int 1)
 (vZ 1 wD<|zC (zG aC (zD 2)<|mC<|.int 2) zN)))))
def wZ:List Sl->Option Str:=iD 2 5 xB
def wK:MX:=(qF (xF 2<|xI<|mD (zD 0) (mC<|.str [32]) 2)
 (qF (aJ (cU (aD<|zG d_ (aF kA<|zD 2)<|mC<|.int 3)<|cU (aD<|zG d_ (zG aC (zD 2)<|mC<|.int 0)<|mC<|.str [100,101,102])<|jW<|uG<|zW 1 qA<|zC (zG aC (zD 2)<|mC<|.int 1) zN)
 jU
 yP)
 (qF (xF 3<|zG aC (zD 2)<|mC<|.int 1)
 (qF (xF 4<|zW 1 w6<|zC (zG aC (zD 2)<|mC<|.int 2) zN)
 (qF (aJ (aD<|zG a_ (aF kA<|xI<|dL 1 uB<|zC (zD 4) zN)<|mC<|.int 80)
 jU
 yP)
 (fU (fA (aD<|zG (inD false) (zD 3)<|zD 1)
 (u7 "NoName"<|YR<|jE (mC<|.str [97,32,100,101,102,32,97,98,111,118,101,32,105,115,32,99,97,108,108,101,100,32])<|jE (zD 3)<|jE (mC<|.str [44,32,116,111,111]) vv)
 mR)
 (qF (aJ (aD<|zG (inD false) (zD 3)<|zD 1)
 jU
 yP)
 (vZ 2 xG<|zC (zD 4)<|zC (zG xC (zD 1)<|xI<|yB<|zC (zD 3) zN) zN))))))))
def xW:List Sl->Option Str:=iD 2 5 wK
def pH:MS:=(yC (xF 1<|xI<|v5 (zD 0)<|mC<|.str [10])
 (yC (aJ (aD<|zG a_ (aF kA<|zD 1)<|mC<|.int 12)
 jU
 yP)
 (yC (dD 2<|yB zN)
 (yC (dQ (y9 3) (eA<|zD 1)
 (sX<|Q3 2<|zW 2 w8<|zC (zD 3)<|zC (xI<|vY [] 1 (l7 2) (y9 0)<|zG aC (zD 0)<|mC<|.int 0) zN))
 (yC (aJ (aD<|zG d_ (zG aC (mM (jP 2)<|aF nX<|mC<|.int 1)<|mC<|.int 0)<|mC<|.str [109,97,105,110])
 jU
 yP)
 (ZB 2))))))
def tS:MF:=aY 1 4 pH
def wO:MX:=(qF (xF 1<|xI<|v5 (zD 0)<|mC<|.str [10])
 (fU (fA (aD<|zG a_ (aF kA<|zD 1)<|mC<|.int 12)
 (u7 "TooMuch"<|mC<|.str [116,104,101,32,116,101,120,116,32,104,97,115,32,116,111,111,32,109,97,110,121,32,108,105,110,101,115])
 mR)
 (qF (aJ (aD<|zG a_ (aF kA<|zD 1)<|mC<|.int 12)
 jU
 yP)
 (qF (dD 2<|yB zN)
 (sB (y9 3) (eA<|zD 1)
 (sX<|Q3 2<|zW 2 w8<|zC (zD 3)<|zC (xI<|vY [] 1 (l7 2) (y9 0)<|zG aC (zD 0)<|mC<|.int 0) zN)
 (mV 2<|vZ 2 wN<|zC (zD 3)<|zC (xI<|vY [] 1 (l7 2) (y9 0)<|zG aC (zD 0)<|mC<|.int 0) zN))))))
def j6:List Sl->Option Str:=iD 1 4 wO
def jC:MX:=(qF (xF 1<|xI<|v5 (zD 0)<|mC<|.str [10])
 (qF (aJ (aD<|zG a_ (aF kA<|zD 1)<|mC<|.int 12)
 jU
 yP)
 (qF (dD 2<|yB zN)
 (sB (y9 3) (eA<|zD 1)
 (sX<|Q3 2<|zW 2 w8<|zC (zD 3)<|zC (xI<|vY [] 1 (l7 2) (y9 0)<|zG aC (zD 0)<|mC<|.int 0) zN)
 (mV 2<|vZ 2 wZ<|zC (zD 3)<|zC (xI<|vY [] 1 (l7 2) (y9 0)<|zG aC (zD 0)<|mC<|.int 0) zN)))))
def kP:List Sl->Option Str:=iD 1 4 jC
def jB:MX:=(qF (xF 1<|xI<|v5 (zD 0)<|mC<|.str [10])
 (qF (aJ (aD<|zG a_ (aF kA<|zD 1)<|mC<|.int 12)
 jU
 yP)
 (qF (dD 2<|yB zN)
 (fU (sB (y9 3) (eA<|zD 1)
 (sX<|Q3 2<|zW 2 w8<|zC (zD 3)<|zC (xI<|vY [] 1 (l7 2) (y9 0)<|zG aC (zD 0)<|mC<|.int 0) zN)
 (mV 2<|vZ 2 xW<|zC (zD 3)<|zC (xI<|vY [] 1 (l7 2) (y9 0)<|zG aC (zD 0)<|mC<|.int 0) zN))
 (qF (dQ (y9 3) (eA<|zD 1)
 (sX<|Q3 2<|zW 2 w8<|zC (zD 3)<|zC (xI<|vY [] 1 (l7 2) (y9 0)<|zG aC (zD 0)<|mC<|.int 0) zN))
 (fA (aD<|zG d_ (zG aC (mM (jP 2)<|aF nX<|mC<|.int 1)<|mC<|.int 0)<|mC<|.str [109,97,105,110])
 (u7 "NoName"<|mC<|.str [116,104,101,32,108,97,115,116,32,100,101,102,32,105,115,32,110,111,116,32,99,97,108,108,101,100,32,109,97,105,110])
 mR))))))
def kO:List Sl->Option Str:=iD 1 4 jB
def vH:MS:=(yC (aJ (aD<|zG f_ (zD 1)<|aF kA<|zD 0)
 (qE<|zG aC (zD 0)<|zD 1)
 yP)
 (qE<|mC<|.int 0))
def uO:MF:=aY 2 2 vH
def uT:MS:=(yC (xF 2<|zG jM (zG xC (zG xC (zG jM (zD 0)<|mC<|.int 2147483647)<|zG AJ (mC<|.int 16807)<|zD 1)<|mC<|.int 7)<|mC<|.int 2147483629)
 (yC (xF 2<|zG jM (zG AJ (zD 2)<|zD 2)<|mC<|.int 2147483587)
 (qE<|zG qX (zG jM (zG AJ (zD 2)<|zG xC (zD 2)<|mC<|.int 48271)<|mC<|.int 2147483579)<|mC<|.int 5)))
def yK:MF:=aY 2 3 uT
def mH:MS:=(qE<|xI<|yB<|lV [[100,101,102],[102,110],[100,111],[101,109,112,116,121],[103,101,116],[119,105,116,104],[112,117,116],[108,101,115,115],[116,97,103],[119,105,100,101],[99,97,115,101],[110,101,118,101,114],[105,102]])
def dO:MF:=aY 0 0 mH
def mG:MS:=(yC (xF 1<|mC<|.str [])
 (yC (dQ (y9 2) (mT<|zG xC (mC<|.int 1)<|zG jM (zD 0)<|mC<|.int 8)
 (xF 1<|zG xC (zD 1)<|zG aC (mC<|.str [97,98,99,100,101,102,103,104,105,106,107,108,109,110,111,112,113,114,115,116,117,118,119,120,121,122])<|zG jM (zW 2 yK<|zC (zD 0)<|zC (zG xC (mC<|.int 30)<|zD 2) zN)<|mC<|.int 26))
 (yC (aJ (aD<|zG (inD false) (zD 1)<|zW 0 dO zN)
 (qE<|zG xC (mC<|.str [113])<|aT (zD 1) (xL<|mC<|.int 1) wG)
 yP)
 (qE<|zD 1))))
def uM:MF:=aY 1 3 mG
def uS:MS:=(yC (xF 1<|aT (zW 1 uM<|zC (zW 2 yK<|zC (zD 0)<|zC (mC<|.int 3) zN) zN) wG<|xL<|mC<|.int 7)
 (yC (xF 2<|xI<|yB<|zC (zD 1)<|zC (zG xC (zD 1)<|mC<|.str [113])<|zC (zG xC (aT (zD 1) wG<|xL<|aF nX<|mC<|.int 1)<|mC<|.str [122])<|zC (zG xC (mC<|.str [122])<|aT (zD 1) (xL<|mC<|.int 1) wG) zN)
 (qE<|zG xC (zD 2)<|xI<|yB<|zC (zW 1 uM<|zC (zW 2 yK<|zC (zD 0)<|zC (mC<|.int 4) zN) zN)<|zC (zW 1 uM<|zC (zW 2 yK<|zC (zD 0)<|zC (mC<|.int 5) zN) zN) zN)))
def jZ:MF:=aY 1 3 uS
def j4:MS:=(yC (aJ (aD<|zG aQ (zG jM (zD 1)<|mC<|.int 5)<|mC<|.int 0)
 (qE<|vD<|zC (vD<|zC (mC<|.str [101,109,112,116,121]) zN)<|zC (xI<|yB<|zC (mC<|.str [101,109,112,116,121]) zN)<|zC (mC<|.int 0) zN)
 yP)
 (yC (aJ (aD<|zG f_ (zG jM (zD 1)<|mC<|.int 5)<|mC<|.int 3)
 (yC (xF 3<|zG aC (zD 2)<|zG jM (zG qX (zD 1)<|mC<|.int 5)<|mC<|.int 6)
 (qE<|vD<|zC (vD<|zC (mC<|.str [110,97,109,101])<|zC (zD 3) zN)<|zC (xI<|yB<|zC (zD 3) zN)<|zC (mC<|.int 0) zN))
 yP)
 (yC (xF 4<|zG jM (zG xC (zD 0)<|zD 1)<|zG AM (mC<|.int 10)<|mC<|.int 6)
 (yC (aJ (aD<|zG aQ (zG jM (zG qX (zD 1)<|mC<|.int 5)<|mC<|.int 2)<|mC<|.int 0)
 (xF 4<|zG jM (zG qX (zD 1)<|mC<|.int 10)<|mC<|.int 12)
 yP)
 (qE<|vD<|zC (vD<|zC (mC<|.str [110,117,109])<|zC (zD 4) zN)<|zC (xI<|yB<|zC (aF zc<|zD 4) zN)<|zC (mC<|.int 0) zN)))))
def vK:MF:=aY 3 5 j4
def uR:MS:=(yC (xF 3<|zG aC (xI<|yB<|lV [[102,110],[103,101,116],[108,101,115,115],[116,97,103],[119,105,100,101],[110,101,118,101,114]])<|zG jM (zD 0)<|mC<|.int 6)
 (yC (xF 4<|zG aC (zD 1)<|zG jM (zG qX (zD 0)<|mC<|.int 6)<|mC<|.int 6)
 (yC (aJ (aD<|zG aQ (zD 3)<|mC<|.str [110,101,118,101,114])
 (qE<|vD<|zC (vD<|zC (mC<|.str [110,101,118,101,114])<|zC (zG aC (zD 2)<|mC<|.int 0) zN)<|zC (zG xC (xI<|yB<|zC (mC<|.str [110,101,118,101,114]) zN)<|zG aC (zD 2)<|mC<|.int 1)<|zC (zG xC (zG aC (zD 2)<|mC<|.int 2)<|mC<|.int 1) zN)
 yP)
 (qE<|vD<|zC (vD<|zC (zD 3)<|zC (zD 4)<|zC (zG aC (zD 2)<|mC<|.int 0) zN)<|zC (zG xC (xI<|yB<|zC (zD 3)<|zC (zD 4) zN)<|zG aC (zD 2)<|mC<|.int 1)<|zC (zG xC (zG aC (zD 2)<|mC<|.int 2)<|mC<|.int 1) zN))))
def o2:MF:=aY 3 5 uR
def uQ:MS:=(yC (xF 4<|zG aC (xI<|yB<|lV [[100,111],[43],[45],[42],[60],[119,105,116,104],[112,117,116]])<|zG jM (zD 0)<|mC<|.int 7)
 (yC (xF 5<|zG aC (zD 1)<|zG jM (zG qX (zD 0)<|mC<|.int 7)<|mC<|.int 6)
 (yC (xF 6<|zG xC (mC<|.int 1)<|Q2<|zC (zG aC (zD 2)<|mC<|.int 2)<|zC (zG aC (zD 3)<|mC<|.int 2) zN)
 (yC (aJ (aD<|zG f_ (zG jM (zD 0)<|mC<|.int 7)<|mC<|.int 5)
 (qE<|vD<|zC (vD<|zC (zD 4)<|zC (zG aC (zD 2)<|mC<|.int 0)<|zC (zG aC (zD 3)<|mC<|.int 0) zN)<|zC (zG xC (zG xC (xI<|yB<|zC (zD 4) zN)<|zG aC (zD 2)<|mC<|.int 1)<|zG aC (zD 3)<|mC<|.int 1)<|zC (zD 6) zN)
 yP)
 (qE<|vD<|zC (vD<|zC (zD 4)<|zC (zD 5)<|zC (zG aC (zD 2)<|mC<|.int 0)<|zC (zG aC (zD 3)<|mC<|.int 0) zN)<|zC (zG xC (zG xC (xI<|yB<|zC (zD 4)<|zC (zD 5) zN)<|zG aC (zD 2)<|mC<|.int 1)<|zG aC (zD 3)<|mC<|.int 1)<|zC (zD 6) zN)))))
def cY:MF:=aY 4 7 uQ
def kH:MS:=(yC (FV (zD 2)<|cT 3<|wU (y9 3)<|wU (y9 4)<|wU (y9 5) dU)
 (yC (xF 6<|zG xC (mC<|.int 1)<|Q2<|zC (zG aC (zD 3)<|mC<|.int 2)<|zC (zG aC (zD 4)<|mC<|.int 2)<|zC (zG aC (zD 5)<|mC<|.int 2) zN)
 (yC (xF 7<|zG aC (zD 1)<|zG jM (zG qX (zD 0)<|mC<|.int 2)<|mC<|.int 6)
 (yC (xF 8<|zG aC (zD 1)<|zG jM (zG qX (zD 0)<|mC<|.int 12)<|mC<|.int 6)
 (yC (xF 9<|zG aC (zD 1)<|zG jM (zG qX (zD 0)<|mC<|.int 72)<|mC<|.int 6)
 (yC (aJ (aD<|zG aQ (zG jM (zD 0)<|mC<|.int 2)<|mC<|.int 0)
 (qE<|vD<|zC (vD<|zC (mC<|.str [105,102])<|zC (zG aC (zD 3)<|mC<|.int 0)<|zC (zG aC (zD 4)<|mC<|.int 0)<|zC (zG aC (zD 5)<|mC<|.int 0) zN)<|zC (zG xC (zG xC (zG xC (xI<|yB<|zC (mC<|.str [105,102]) zN)<|zG aC (zD 3)<|mC<|.int 1)<|zG aC (zD 4)<|mC<|.int 1)<|zG aC (zD 5)<|mC<|.int 1)<|zC (zD 6) zN)
 yP)
 (yC (xF 10<|vD<|zC (mC<|.str [99,97,115,101])<|zC (zG aC (zD 3)<|mC<|.int 0)<|zC (zD 7)<|zC (zD 8)<|zC (zG aC (zD 4)<|mC<|.int 0)<|zC (zD 9)<|zC (zG aC (zD 5)<|mC<|.int 0) zN)
 (qE<|vD<|zC (zD 10)<|zC (zG xC (zG xC (zG xC (zG xC (zG xC (xI<|yB<|zC (mC<|.str [99,97,115,101]) zN)<|zG aC (zD 3)<|mC<|.int 1)<|xI<|yB<|zC (zD 7)<|zC (zD 8) zN)<|zG aC (zD 4)<|mC<|.int 1)<|xI<|yB<|zC (zD 9) zN)<|zG aC (zD 5)<|mC<|.int 1)<|zC (zD 6) zN))))))))
def gF:MF:=aY 3 11 kH
def gA:MS:=(yC (xF 4<|zW 2 yK<|zC (zD 1)<|zC (zG xC (mC<|.int 50)<|zD 2) zN)
 (yC (xF 5<|zG jM (zW 2 yK<|zC (zD 1)<|zC (zG xC (mC<|.int 250)<|zD 2) zN)<|mC<|.int 9)
 (yC (aJ (bF (aD<|zG a_ (zD 5)<|mC<|.int 6)<|bF (aD<|zG a_ (aF kA<|zD 0)<|mC<|.int 2)<|aD<|zG f_ (BF<|vY [] 1 (eA<|aT (zD 0) (xL<|aF nX<|mC<|.int 3) wG) (y9 0)<|zG aC (zD 0)<|mC<|.int 2)<|mC<|.int 10)
 (qE<|zG xC (aT (zD 0) wG<|xL<|aF nX<|mC<|.int 3)<|xI<|yB<|zC (zW 3 gF<|zC (zD 4)<|zC (zD 3)<|zC (aT (zD 0) (xL<|aF nX<|mC<|.int 3) wG) zN) zN)
 yP)
 (yC (aJ (bF (aD<|zG a_ (zD 5)<|mC<|.int 4)<|bF (aD<|zG a_ (aF kA<|zD 0)<|mC<|.int 1)<|aD<|zG f_ (BF<|vY [] 1 (eA<|aT (zD 0) (xL<|aF nX<|mC<|.int 2) wG) (y9 0)<|zG aC (zD 0)<|mC<|.int 2)<|mC<|.int 10)
 (qE<|zG xC (aT (zD 0) wG<|xL<|aF nX<|mC<|.int 2)<|xI<|yB<|zC (zW 4 cY<|zC (zD 4)<|zC (zD 3)<|zC (zG aC (zD 0)<|aF nX<|mC<|.int 2)<|zC (zG aC (zD 0)<|aF nX<|mC<|.int 1) zN) zN)
 yP)
 (yC (aJ (bF (aD<|zG a_ (zD 5)<|mC<|.int 2)<|bF (aD<|zG a_ (aF kA<|zD 0)<|mC<|.int 0)<|aD<|zG f_ (zG aC (zG aC (zD 0)<|aF nX<|mC<|.int 1)<|mC<|.int 2)<|mC<|.int 10)
 (qE<|zG xC (aT (zD 0) wG<|xL<|aF nX<|mC<|.int 1)<|xI<|yB<|zC (zW 3 o2<|zC (zD 4)<|zC (zD 3)<|zC (zG aC (zD 0)<|aF nX<|mC<|.int 1) zN) zN)
 yP)
 (qE<|zG xC (zD 0)<|xI<|yB<|zC (zW 3 vK<|zC (zD 1)<|zC (zD 4)<|zC (zD 3) zN) zN))))))
def uY:MF:=aY 4 6 gA
def vO:MS:=(yC (xF 3<|mC<|.int 0)
 (yC (j7 WF (aD<|zG a_ (aF kA<|zD 0)<|mC<|.int 1)
 (yC (xF 0<|zG xC (aT (zD 0) (xL<|mC<|.int 2) wG)<|xI<|yB<|zC (zW 4 cY<|zC (zW 2 yK<|zC (zD 1)<|zC (zG xC (mC<|.int 500)<|zD 3) zN)<|zC (zD 2)<|zC (zG aC (zD 0)<|mC<|.int 0)<|zC (zG aC (zD 0)<|mC<|.int 1) zN) zN)
 (xF 3<|zG xC (zD 3)<|mC<|.int 1)))
 (qE<|zG aC (zD 0)<|mC<|.int 0)))
def vS:MF:=aY 3 4 vO
def kM(m:MF):MS:=(yC (aJ (aD<|zG aQ (zG aC (zD 0)<|mC<|.int 0)<|mC<|.str [110,97,109,101])
 (qE<|aT (xI<|yB<|zC (zG aC (zD 0)<|mC<|.int 1) zN) wG<|xL<|aF Q5<|zG (inD true) (zG aC (zD 0)<|mC<|.int 1)<|zD 1)
 yP)
 (yC (aJ (aD<|zG aQ (zG aC (zD 0)<|mC<|.int 0)<|mC<|.str [102,110])
 (qE<|zW 2 m<|zC (zG aC (zD 0)<|mC<|.int 2)<|zC (zG xC (zD 1)<|xI<|yB<|zC (zG aC (zD 0)<|mC<|.int 1) zN) zN)
 yP)
 (yC (aJ (aD<|zG aQ (zG aC (zD 0)<|mC<|.int 0)<|mC<|.str [99,97,115,101])
 (yC (xF 2<|zG xC (zW 2 m<|zC (zG aC (zD 0)<|mC<|.int 1)<|zC (zD 1) zN)<|zW 2 m<|zC (zG aC (zD 0)<|mC<|.int 4)<|zC (zG xC (zD 1)<|xI<|yB<|zC (zG aC (zD 0)<|mC<|.int 3) zN) zN)
 (qE<|zG xC (zD 2)<|zW 2 m<|zC (zG aC (zD 0)<|mC<|.int 6)<|zC (zG xC (zD 1)<|xI<|yB<|zC (zG aC (zD 0)<|mC<|.int 5) zN) zN))
 yP)
 (yC (xF 2<|xI<|yB zN)
 (yC (dQ (y9 3) (eA<|aT (zD 0) (xL<|mC<|.int 1) wG)
 (aJ (uG<|aF (pT "tuple")<|zD 3)
 (xF 2<|zG xC (zD 2)<|zW 2 m<|zC (zD 3)<|zC (zD 1) zN)
 yP))
 (qE<|zD 2))))))
def qY:Nat->MF
 |0=>λ_=>aB
 |k+1=>aY 2 4<|kM<|qY k
def vP:MS:=(yC (xF 3<|zW 2 (qY cX)<|zC (zG aC (zD 0)<|mC<|.int 0)<|zC (zD 2) zN)
 (yC (j7 WF (aD<|zG d_ (zD 3)<|xI<|yB zN)
 (yC (xF 4<|zW 2 yK<|zC (zD 1)<|zC (zG xC (mC<|.int 600)<|zG aC (zD 0)<|mC<|.int 2) zN)
 (yC (xF 5<|zG aC (zD 3)<|zG jM (zD 4)<|aF kA<|zD 3)
 (yC (xF 0<|vD<|zC (vD<|zC (mC<|.str [102,110])<|zC (zD 5)<|zC (zG aC (zD 0)<|mC<|.int 0) zN)<|zC (zG xC (xI<|yB<|zC (mC<|.str [102,110])<|zC (zD 5) zN)<|zG aC (zD 0)<|mC<|.int 1)<|zC (zG xC (zG aC (zD 0)<|mC<|.int 2)<|mC<|.int 1) zN)
 (yC (aJ (aD<|zG a_ (zG jM (zG qX (zD 4)<|mC<|.int 7)<|mC<|.int 3)<|mC<|.int 0)
 (yC (xF 6<|aF zc<|zG jM (zG qX (zD 4)<|mC<|.int 21)<|zG AM (mC<|.int 10)<|mC<|.int 6)
 (xF 0<|vD<|zC (vD<|zC (mC<|.str [100,111])<|zC (zG aC (zD 0)<|mC<|.int 0)<|zC (vD<|zC (mC<|.str [110,117,109])<|zC (aF rZ<|zD 6) zN) zN)<|zC (zG xC (zG xC (xI<|yB<|zC (mC<|.str [100,111]) zN)<|zG aC (zD 0)<|mC<|.int 1)<|xI<|yB<|zC (zD 6) zN)<|zC (zG xC (zG aC (zD 0)<|mC<|.int 2)<|mC<|.int 1) zN))
 yP)
 (xF 3<|xI<|qG [5] 2 (eA<|zD 3) (y9 1) (aD<|zG d_ (zD 1)<|zD 0)<|zD 1))))))
 (qE<|zD 0)))
def vT:MF:=aY 3 7 vP
def jQ:MS:=(yC (xF 2<|zG xC (mC<|.str [113])<|aT (zW 1 uM<|zC (zD 0) zN) wG<|xL<|mC<|.int 6)
 (yC (xF 3<|zG jM (zG qX (zD 0)<|mC<|.int 3)<|aF kA<|zD 2)
 (yC (dD 4<|yB zN)
 (yC (dQ (y9 5) (mT<|zG Z3 (zD 1)<|mC<|.int 1)
 (sX<|oM 4<|zG xC (zG xC (aT (zD 2) wG<|xL<|zD 3)<|zG aC (mC<|.str [97,98,99,100,101,102,103,104,105,106,107,108,109])<|zD 5)<|aT (zD 2) (xL<|zD 3) wG))
 (FW 4<|qE<|zG xC (zD 4)<|xI<|yB<|zC (mC<|.str [109,97,105,110]) zN)))))
def kU:MF:=aY 2 6 jQ
def bL:MS:=(yC (xF 3<|zG xC (zG xC (mC<|.int 1)<|zG qX (Q2<|zC (zG Z3 (aF kA<|zD 0)<|mC<|.int 1)<|zC (zG jM (zD 1)<|mC<|.int 5) zN)<|mC<|.int 26)<|zG jM (zG qX (zD 1)<|mC<|.int 5)<|mC<|.int 4)
 (yC (xF 4<|zW 2 kU<|zC (zD 2)<|zC (zD 3) zN)
 (yC (dD 5<|yB zN)
 (yC (dQ (y9 6) (mT<|zD 3)
 (yC (xF 7<|aT (zD 4) (xL<|Q2<|zC (mC<|.int 0)<|zC (zG Z3 (zD 6)<|mC<|.int 2) zN)<|xL<|zG xC (zD 6)<|mC<|.int 1)
 (yC (xF 8<|zG xC (aT (zW 1 jZ<|zC (zW 2 yK<|zC (zD 2)<|zC (zD 6) zN) zN) wG<|xL<|zG Z3 (mC<|.int 6)<|aF kA<|zD 7)<|zD 7)
 (yC (xF 9<|xI<|qG [3,6] 4 (D_<|zD 0) (cT 2<|wU (y9 2)<|wU (y9 3) dU) (aD<|zG aQ (zG jM (zD 2)<|zD 0)<|zD 1)<|vD<|zC (zD 2)<|zC (zD 3) zN)
 (yC (xF 10<|xI<|yB<|zC (zW 3 vK<|zC (zD 2)<|zC (zW 2 yK<|zC (zD 2)<|zC (zG xC (mC<|.int 20)<|zD 6) zN)<|zC (zD 8) zN) zN)
 (yC (dQ (cT 2<|wU (y9 11)<|wU (y9 12) dU) (eA<|zD 9)
 (xF 10<|zW 4 uY<|zC (zD 10)<|zC (zD 12)<|zC (zD 11)<|zC (zD 8) zN))
 (yC (xF 13<|zW 3 vT<|zC (zW 3 vS<|zC (zD 10)<|zC (zD 2)<|zC (zD 8) zN)<|zC (zD 2)<|zC (aT (zD 4) wG<|xL<|zG xC (zD 6)<|mC<|.int 1) zN)
 (sX<|oM 5<|vD<|zC (zG aC (zD 4)<|zD 6)<|zC (zD 13) zN))))))))
 (ZB 5)))))
def uN:MF:=aY 3 14 bL
def d0:MS:=(yC (xF 1<|xI<|yB<|lV [[101,109,112,116,121],[102,110],[100,111],[103,101,116],[119,105,116,104],[112,117,116],[108,101,115,115],[116,97,103],[119,105,100,101],[99,97,115,101],[110,101,118,101,114],[105,102],[43],[45],[42]])
 (yC (xF 2<|xI<|yB<|lV [[],[110,101],[101,101],[110,101],[110,101,101],[110,101,101],[110,101],[110,101],[110,101],[101,110,110,101,110,101],[101],[101,101,101],[101,101],[101,101],[101,101]])
 (yC (aJ (aD<|zG aQ (zD 0)<|mC<|.str [60])
 (qE<|mC<|.str [101,101])
 yP)
 (yC (aJ (aD<|zG (inD false) (zD 0)<|zD 1)
 (qE<|zG aC (zD 2)<|FP (zD 1)<|zD 0)
 yP)
 (qE<|mC .aG)))))
def jG:MF:=aY 1 3 d0
def bC:MS:=(yC (dQ (y9 2) (iX<|zD 0)
 (aJ (aD<|zG (C8 true) (zD 2)<|zD 1)
 (qE<|mC<|.bl false)
 yP))
 (qE<|zG d_ (zD 0)<|mC<|.str []))
def kR:MF:=aY 2 3 bC
def k6:MS:=(yC (aJ (cU (aD<|zG a_ (aF kA<|zD 0)<|mC<|.int 8)<|cU (aD<|zG aQ (zD 0)<|mC<|.str [100,101,102])<|aD<|zG WP (zW 1 jG<|zC (zD 0) zN)<|mC .aG)
 (qE<|mC<|.bl false)
 yP)
 (qE<|zW 2 kR<|zC (zD 0)<|zC (mC<|.str [97,98,99,100,101,102,103,104,105,106,107,108,109,110,111,112,113,114,115,116,117,118,119,120,121,122]) zN))
def wJ:MF:=aY 1 1 k6
def v9:MS:=(yC (aJ (cU (aD<|zG a_ (aF kA<|zD 0)<|mC<|.int 6)<|jW<|uG<|zW 2 kR<|zC (zD 0)<|zC (mC<|.str [48,49,50,51,52,53,54,55,56,57]) zN)
 (qE<|mC<|.bl false)
 yP)
 (qE<|BW (zG aQ (zD 0)<|mC<|.str [48])<|zG d_ (zG aC (zD 0)<|mC<|.int 0)<|mC<|.str [48]))
def jS:MF:=aY 1 1 v9
def kZ:MS:=(qE<|xI<|qG [1] 2 (eA<|zD 0) (y9 1) (aD<|zG d_ (zD 1)<|zD 0)<|zD 1)
def xX:MF:=aY 2 2 kZ
def vG:MS:=(yC (xF 3<|mC<|.int 0)
 (yC (xF 4<|mC<|.int 1)
 (yC (dD 5<|yB zN)
 (yC (dD 6<|yB zN)
 (yC (dQ (y9 7) (iX<|zD 2)
 (yC (aJ (Eo (jP 0)<|yB zN)
 (qE<|mC .aG)
 yP)
 (yC (vE 8<|iS 0)
 (yC (aJ (bF (aD<|zG aQ (zD 7)<|mC<|.str [110])<|jW<|uG<|zG aC (zD 8)<|mC<|.int 0)
 (qE<|mC .aG)
 yP)
 (aJ (aD<|zG aQ (zD 7)<|mC<|.str [110])
 (sX<|oM 5<|zG aC (zG aC (zD 8)<|mC<|.int 3)<|mC<|.int 0)
 (yC (xF 3<|Q2<|zC (zD 3)<|zC (zG xC (zG aC (zD 8)<|mC<|.int 1)<|mC<|.int 1) zN)
 (yC (xF 4<|zG xC (zD 4)<|zG aC (zD 8)<|mC<|.int 2)
 (sX<|oM 6<|zG aC (zD 8)<|mC<|.int 3))))))))
 (yC (aJ (aD<|zG a_ (zD 3)<|mC<|.int 30)
 (qE<|mC .aG)
 yP)
 (yC (aJ (aD<|zG aQ (zD 1)<|mC<|.str [102,110])
 (dD 6<|yB<|zC (zW 2 xX<|zC (mM (jP 6)<|mC<|.int 0)<|zC (mM (jP 5)<|mC<|.int 0) zN) zN)
 yP)
 (yC (aJ (aD<|zG aQ (zD 1)<|mC<|.str [99,97,115,101])
 (dD 6<|yB<|zC (mM (jP 6)<|mC<|.int 0)<|zC (zW 2 xX<|zC (mM (jP 6)<|mC<|.int 1)<|zC (mM (jP 5)<|mC<|.int 1) zN)<|zC (zW 2 xX<|zC (mM (jP 6)<|mC<|.int 2)<|zC (mM (jP 5)<|mC<|.int 2) zN) zN)
 yP)
 (yC (xF 9<|xI<|yB zN)
 (yC (sZ 6 (dQ (y9 10) (l7 6)
 (xF 9<|zG xC (zD 9)<|zD 10)))
 (qE<|vD<|zC (mC<|.bl false)<|zC (zD 3)<|zC (zD 4)<|zC (zD 9) zN)))))))))))
def jY:MF:=aY 3 11 vG
def kL:MS:=(yC (dD 1<|yB zN)
 (yC (dQ (y9 2) (Co<|zD 0)
 (yC (xF 3<|zW 1 jG<|zC (zD 2) zN)
 (yC (xF 4<|mC .aG)
 (yC (aJ (aD<|zG WP (zD 3)<|mC .aG)
 (vE 4<|qS 3 jY 1<|zP<|zC (zD 2)<|zC (zD 3) zN)
 (aJ (uG<|zW 1 wJ<|zC (zD 2) zN)
 (xF 4<|vD<|zC (mC<|.bl true)<|zC (mC<|.int 0)<|zC (mC<|.int 1)<|zC (xI<|yB<|zC (zD 2) zN) zN)
 (aJ (uG<|zW 1 jS<|zC (zD 2) zN)
 (xF 4<|vD<|zC (mC<|.bl false)<|zC (mC<|.int 0)<|zC (mC<|.int 1)<|zC (xI<|yB zN) zN)
 yP)))
 (yC (aJ (aD<|zG iQ (zD 4)<|mC .aG)
 (qE<|mC .aG)
 yP)
 (sX<|oM 1<|zD 4))))))
 (qE<|zG aC (xI<|yB<|zC (mC .aG)<|zC (xI<|Dz (jP 1) (xL<|aF nX<|mC<|.int 1) wG) zN)<|aF Q5<|zG aQ (WR<|jP 1)<|mC<|.int 1)))
def jD:MF:=aY 1 5 kL
def uU:MS:=(yC (aJ (aD<|zG a_ (aF kA<|zD 0)<|mC<|.int 12)
 (qE<|mC<|.str [84,111,111,77,117,99,104])
 yP)
 (yC (dD 1<|yB zN)
 (yC (dQ (y9 2) (eA<|zD 0)
 (yC (xF 3<|xI<|v5 (zD 2)<|mC<|.str [32])
 (yC (aJ (cU (aD<|zG f_ (aF kA<|zD 3)<|mC<|.int 3)<|cU (aD<|zG d_ (zG aC (zD 3)<|mC<|.int 0)<|mC<|.str [100,101,102])<|jW<|uG<|zW 1 wJ<|zC (zG aC (zD 3)<|mC<|.int 1) zN)
 (qE<|mC<|.str [78,111,76,105,110,101])
 yP)
 (yC (xF 4<|zW 1 jD<|zC (aT (zD 3) (xL<|mC<|.int 2) wG) zN)
 (yC (aJ (aD<|zG iQ (zD 4)<|mC .aG)
 (qE<|mC<|.str [78,111,76,105,110,101])
 yP)
 (yC (aJ (aD<|zG a_ (zG aC (zG aC (zD 4)<|mC<|.int 0)<|mC<|.int 2)<|mC<|.int 80)
 (qE<|mC<|.str [84,111,111,77,117,99,104])
 yP)
 (yC (xF 5<|xI<|A' 1<|qG [1,3] 3 (eA<|zG aC (zG aC (zD 4)<|mC<|.int 0)<|mC<|.int 3) (y9 2) (aD<|zG (inD true) (zD 2)<|zG xC (zD 0)<|xI<|yB<|zC (zG aC (zD 1)<|mC<|.int 1) zN)<|zD 2)
 (yC (aJ (cU (Bx false (zG aC (zD 3)<|mC<|.int 1)<|jP 1)<|aD<|zG d_ (zD 5)<|xI<|yB zN)
 (qE<|mC<|.str [78,111,78,97,109,101])
 yP)
 (sX<|oM 1<|zG aC (zD 3)<|mC<|.int 1)))))))))
 (qE<|zG aC (xI<|yB<|zC (mC<|.str [78,111,78,97,109,101])<|zC (mC<|.str [114,101,97,100]) zN)<|aF Q5<|zG aQ (mM (jP 1)<|aF nX<|mC<|.int 1)<|mC<|.str [109,97,105,110]))))
def hI:MF:=aY 1 6 uU
def v8:MS:=(yC (dD 2<|yB zN)
 (yC (dD 3<|yB<|zC (zD 1) zN)
 (yC (j7 WF (K8 (jP 3)<|yB zN)
 (yC (vE 4<|iS 3)
 (aJ (aD<|zG aQ (zD 4)<|mC<|.int 1)
 (sX<|oM 2<|mC<|.str [55])
 (aJ (aD<|zG aQ (zD 4)<|mC<|.int 2)
 (yC (dD 2<|xk (jP 2)<|yB<|zC (mC<|.str [110,101,118,101,114]) zN)
 (sX<|oM 3<|mC<|.int 1))
 (yC (sX<|oM 2<|mC<|.str [43])
 (dD 3<|xk (jP 3)<|yB<|zC (zG Z3 (zG Z3 (zD 4)<|mC<|.int 1)<|zG qX (zG Z3 (zD 4)<|mC<|.int 1)<|mC<|.int 2)<|zC (zG qX (zG Z3 (zD 4)<|mC<|.int 1)<|mC<|.int 2) zN))))))
 (qE<|WS (mC<|.str [32])<|xk (yB<|zC (mC<|.str [100,101,102])<|zC (zD 0) zN)<|jP 2))))
def jR:MF:=aY 2 5 v8
def cV:MS:=(yC (xF 2<|xI<|yB<|lV [[100,101,102],[102,110],[100,111],[101,109,112,116,121],[103,101,116],[119,105,116,104],[112,117,116],[108,101,115,115],[116,97,103],[119,105,100,101],[99,97,115,101],[110,101,118,101,114],[105,102],[43],[42]])
 (yC (xF 2<|zG xC (zD 2)<|xI<|yB<|lV [[60],[],[48],[48,55],[45,49],[57,57,57,57,57,57],[49,48,48,48,48,48,48],[97],[97,98,99,100,101,102,103,104,105],[65],[97,49],[109,97,105,110],[9],[61]])
 (qE<|zG aC (zG xC (zG xC (zD 2)<|zD 1)<|zD 1)<|zG jM (zD 0)<|zG xC (aF kA<|zD 2)<|zG AJ (mC<|.int 2)<|aF kA<|zD 1)))
def hG:MF:=aY 2 3 cV
def jF:MS:=(yC (xF 3<|xI<|v5 (zD 0)<|mC<|.str [32])
 (yC (xF 4<|zG jM (zG qX (zD 1)<|mC<|.int 3)<|zG xC (aF kA<|zD 3)<|mC<|.int 1)
 (yC (xF 5<|zW 2 hG<|zC (zG qX (zD 1)<|mC<|.int 300)<|zC (zD 2) zN)
 (yC (aJ (aD<|zG aQ (zG jM (zG qX (zD 1)<|mC<|.int 5000)<|mC<|.int 4)<|mC<|.int 0)
 (xF 4<|zG jM (zG qX (zD 1)<|mC<|.int 3)<|mC<|.int 3)
 yP)
 (yC (aJ (aD<|zG aQ (zG jM (zD 1)<|mC<|.int 3)<|mC<|.int 0)
 (qE<|WS (mC<|.str [32])<|xj<|zG xC (aT (zD 3) wG<|xL<|zD 4)<|aT (zD 3) (xL<|zG xC (zD 4)<|mC<|.int 1) wG)
 yP)
 (qE<|WS (mC<|.str [32])<|xk (xk (xj<|aT (zD 3) wG<|xL<|zD 4)<|yB<|zC (zD 5) zN)<|xj<|aT (zD 3) (xL<|zG Z3 (zG xC (zD 4)<|zG jM (zD 1)<|mC<|.int 3)<|mC<|.int 1) wG))))))
def bP:MF:=aY 3 6 jF
def wI:MS:=(yC (xF 3<|zG jM (zG qX (zD 1)<|mC<|.int 12)<|aF kA<|zD 0)
 (yC (xF 4<|zG jM (zD 1)<|mC<|.int 12)
 (yC (xF 5<|zG qX (zD 1)<|mC<|.int 100)
 (yC (aJ (aD<|zG f_ (zD 4)<|mC<|.int 6)
 (qE<|zG xC (zG xC (aT (zD 0) wG<|xL<|zD 3)<|xI<|yB<|zC (zW 3 bP<|zC (zG aC (zD 0)<|zD 3)<|zC (zD 5)<|zC (zD 2) zN) zN)<|aT (zD 0) (xL<|zG xC (zD 3)<|mC<|.int 1) wG)
 yP)
 (yC (aJ (bF (aD<|zG aQ (zD 4)<|mC<|.int 6)<|aD<|zG a_ (aF kA<|zD 0)<|mC<|.int 1)
 (qE<|zG xC (aT (zD 0) wG<|xL<|zD 3)<|aT (zD 0) (xL<|zG xC (zD 3)<|mC<|.int 1) wG)
 yP)
 (yC (aJ (aD<|zG aQ (zD 4)<|mC<|.int 7)
 (qE<|zG xC (zG xC (aT (zD 0) wG<|xL<|zD 3)<|xI<|yB<|zC (zG aC (zD 0)<|zD 3) zN)<|aT (zD 0) (xL<|zD 3) wG)
 yP)
 (yC (aJ (aD<|zG aQ (zD 4)<|mC<|.int 8)
 (qE<|zG xC (zG xC (aT (zD 0) wG<|xL<|zD 3)<|xI<|F4<|xj<|aT (zD 0) (xL<|zD 3)<|xL<|zG xC (zD 3)<|mC<|.int 2)<|aT (zD 0) (xL<|zG xC (zD 3)<|mC<|.int 2) wG)
 yP)
 (yC (aJ (aD<|zG aQ (zD 4)<|mC<|.int 9)
 (yC (xF 6<|zG aC (xI<|yB<|lV [[],[100,101,102],[100,101,102,32,109,97,105,110],[100,101,102,32,97,32,48,32]])<|zG jM (zD 5)<|mC<|.int 4)
 (qE<|zG xC (zG xC (aT (zD 0) wG<|xL<|zD 3)<|xI<|yB<|zC (zD 6) zN)<|aT (zD 0) (xL<|zD 3) wG))
 yP)
 (yC (aJ (aD<|zG aQ (zD 4)<|mC<|.int 10)
 (yC (xF 7<|zW 2 jR<|zC (zG aC (xI<|yB<|zC (mC<|.str [119,113])<|zC (mC<|.str [113,119]) zN)<|zG jM (zD 5)<|mC<|.int 2)<|zC (zG xC (mC<|.int 80)<|zG jM (zG qX (zD 5)<|mC<|.int 2)<|mC<|.int 2) zN)
 (qE<|zG xC (zG xC (aT (zD 0) wG<|xL<|zD 3)<|xI<|yB<|zC (zD 7) zN)<|aT (zD 0) (xL<|zD 3) wG))
 yP)
 (yC (xF 8<|Q2<|zC (mC<|.int 0)<|zC (zG Z3 (zG xC (mC<|.int 11)<|zG jM (zD 5)<|mC<|.int 3)<|aF kA<|zD 0) zN)
 (qE<|zG xC (xI<|vY [] 1 (mT<|zD 8) (y9 0)<|zG xC (zG xC (mC<|.str [100,101,102,32,120])<|zG aC (mC<|.str [97,98,99,100,101,102,103,104,105,106,107,108,109])<|zD 0)<|mC<|.str [113,113,32,48])<|zD 0)))))))))))
def k7:MF:=aY 3 9 wI
def kC(e:Addr):MS:=(yC (aJ (aD<|zG iQ (zD 1)<|mC .aG)
 (qE<|mC<|.str [114,101,97,100])
 yP)
 (yC (dD 3<|yB zN)
 (yC (aJ (uG<|aF (fP e true)<|zD 1)
 (sX<|oM 3<|mC<|.str [84,111,111,77,117,99,104])
 yP)
 (yC (aJ (uG<|aF (fP e false)<|zD 1)
 (sX<|oM 3<|mC<|.str [78,111,76,105,110,101])
 yP)
 (yC (aJ (uG<|aF (fP e false)<|zD 1)
 (sX<|oM 3<|mC<|.str [78,111,78,97,109,101])
 yP)
 (yC (aJ (cU (uG<|aF (fP e false)<|zD 1)<|cU (jW<|uG<|aF (fP e true)<|zD 1)<|aD<|zG d_ (WR<|jP 3)<|mC<|.int 1)
 (qE<|mC<|.str [111,116,104,101,114])
 yP)
 (qE<|mM (jP 3)<|mC<|.int 0)))))))
def bS:∀(e:Addr) (r:En) (d:D),xp 4 1 2 3 (.str [84,111,111,77,117,99,104]) r=aA d->rD (kC e) ((r.set 1<|.v<|.ref e).set 2 .un)=aA d:=by
 intro e r d h;obtain⟨hk,h⟩:=nB h;obtain⟨hl,_,_,rfl⟩:=nC h
 match r,hl with
 |[a0,a1,a2,a3],_=>
  show rD (kC e) [a0,.v<|.ref e,.un,a3]=_;have Bf:xl a3=true:=hk;have hz:(0:Nat)<ag:=by decide
  have ix:∀b,fP e b (.ref e)=aA (.bl b):=λb=>by simp[fP]
  have ne1:d_ (.int ((1:Nat):Int)) (.int 1)=aA (.bl false):=rfl;cases a3<;>first|(cases Bf;done)|simp[rD,kC,yC,aJ,qE,yP,dD,AO,yB,zN,sX,oM,ZF,X7,Sl.ml,Sl.ls,WR,jP,mM,DD.intD,cU,bF,jW,uG,aD,aF,zG,zD,mC,ix,iQ,AQ,AC,hz,ne1]<;>rfl
def kK(e:Addr):MS:=(yC (aJ (aD<|zG iQ (zD 1)<|mC .aG)
 (qE<|mC<|.str [114,101,97,100])
 yP)
 (yC (dD 3<|yB zN)
 (yC (aJ (uG<|aF (fP e false)<|zD 1)
 (sX<|oM 3<|mC<|.str [84,111,111,77,117,99,104])
 yP)
 (yC (aJ (uG<|aF (fP e true)<|zD 1)
 (sX<|oM 3<|mC<|.str [78,111,76,105,110,101])
 yP)
 (yC (aJ (uG<|aF (fP e false)<|zD 1)
 (sX<|oM 3<|mC<|.str [78,111,78,97,109,101])
 yP)
 (yC (aJ (cU (uG<|aF (fP e false)<|zD 1)<|cU (jW<|uG<|aF (fP e true)<|zD 1)<|aD<|zG d_ (WR<|jP 3)<|mC<|.int 1)
 (qE<|mC<|.str [111,116,104,101,114])
 yP)
 (qE<|mM (jP 3)<|mC<|.int 0)))))))
def cI:∀(e:Addr) (r:En) (d:D),xp 4 1 2 3 (.str [78,111,76,105,110,101]) r=aA d->rD (kK e) ((r.set 1<|.v<|.ref e).set 2 .un)=aA d:=by
 intro e r d h;obtain⟨hk,h⟩:=nB h;obtain⟨hl,_,_,rfl⟩:=nC h
 match r,hl with
 |[a0,a1,a2,a3],_=>
  show rD (kK e) [a0,.v<|.ref e,.un,a3]=_;have Bf:xl a3=true:=hk;have hz:(0:Nat)<ag:=by decide
  have ix:∀b,fP e b (.ref e)=aA (.bl b):=λb=>by simp[fP]
  have ne1:d_ (.int ((1:Nat):Int)) (.int 1)=aA (.bl false):=rfl;cases a3<;>first|(cases Bf;done)|simp[rD,kK,yC,aJ,qE,yP,dD,AO,yB,zN,sX,oM,ZF,X7,Sl.ml,Sl.ls,WR,jP,mM,DD.intD,cU,bF,jW,uG,aD,aF,zG,zD,mC,ix,iQ,AQ,AC,hz,ne1]<;>rfl
def kJ(e:Addr):MS:=(yC (aJ (aD<|zG iQ (zD 1)<|mC .aG)
 (qE<|mC<|.str [114,101,97,100])
 yP)
 (yC (dD 3<|yB zN)
 (yC (aJ (uG<|aF (fP e false)<|zD 1)
 (sX<|oM 3<|mC<|.str [84,111,111,77,117,99,104])
 yP)
 (yC (aJ (uG<|aF (fP e false)<|zD 1)
 (sX<|oM 3<|mC<|.str [78,111,76,105,110,101])
 yP)
 (yC (aJ (uG<|aF (fP e true)<|zD 1)
 (sX<|oM 3<|mC<|.str [78,111,78,97,109,101])
 yP)
 (yC (aJ (cU (uG<|aF (fP e false)<|zD 1)<|cU (jW<|uG<|aF (fP e true)<|zD 1)<|aD<|zG d_ (WR<|jP 3)<|mC<|.int 1)
 (qE<|mC<|.str [111,116,104,101,114])
 yP)
 (qE<|mM (jP 3)<|mC<|.int 0)))))))
def cH:∀(e:Addr) (r:En) (d:D),xp 4 1 2 3 (.str [78,111,78,97,109,101]) r=aA d->rD (kJ e) ((r.set 1<|.v<|.ref e).set 2 .un)=aA d:=by
 intro e r d h;obtain⟨hk,h⟩:=nB h;obtain⟨hl,_,_,rfl⟩:=nC h
 match r,hl with
 |[a0,a1,a2,a3],_=>
  show rD (kJ e) [a0,.v<|.ref e,.un,a3]=_;have Bf:xl a3=true:=hk;have hz:(0:Nat)<ag:=by decide
  have ix:∀b,fP e b (.ref e)=aA (.bl b):=λb=>by simp[fP]
  have ne1:d_ (.int ((1:Nat):Int)) (.int 1)=aA (.bl false):=rfl;cases a3<;>first|(cases Bf;done)|simp[rD,kJ,yC,aJ,qE,yP,dD,AO,yB,zN,sX,oM,ZF,X7,Sl.ml,Sl.ls,WR,jP,mM,DD.intD,cU,bF,jW,uG,aD,aF,zG,zD,mC,ix,iQ,AQ,AC,hz,ne1]<;>rfl
def uD:MR:=(F6 (xF 1<|mC .aG)
 (zg (zu (zC (zD 0) zN) 1 (λds=>j6<|ds.map .v) "TooMuch"<|xp 4 1 2 3<|.str [84,111,111,77,117,99,104])
 (zg (zu (zC (zD 0) zN) 1 (λds=>kP<|ds.map .v) "NoLine"<|xp 4 1 2 3<|.str [78,111,76,105,110,101])
 (zg (zu (zC (zD 0) zN) 1 (λds=>kO<|ds.map .v) "NoName"<|xp 4 1 2 3<|.str [78,111,78,97,109,101])
 (Gu (xI<|dL 1 tS<|zC (zD 0) zN) (rD (yC (aJ (aD<|zG iQ (zD 1)<|mC .aG)
 (qE<|mC<|.str [114,101,97,100])
 yP) Kq)))))))
def uL:MF:=HK 1 4 uD
def Ck:MS:=(yC (xF 1<|zW 2 yK<|zC (zW 2 uO<|zC (zD 0)<|zC (mC<|.int 0) zN)<|zC (mC<|.int 900) zN)
 (yC (xF 2<|zW 2 yK<|zC (zW 2 uO<|zC (zD 0)<|zC (mC<|.int 1) zN)<|zC (mC<|.int 901) zN)
 (yC (xF 3<|xI<|dL 3 uN<|zC (aT (zD 0) (xL<|mC<|.int 3)<|xL<|mC<|.int 103)<|zC (zD 1)<|zC (zD 2) zN)
 (yC (xF 4<|xI<|vY [] 2 (eA<|zD 3) (cT 2<|wU (y9 0)<|wU (y9 1) dU)<|WS (mC<|.str [32])<|xk (yB<|zC (mC<|.str [100,101,102])<|zC (zD 0) zN)<|xj<|zG aC (zD 1)<|mC<|.int 1)
 (yC (xF 5<|zG xC (xI<|vY [] 2 (eA<|zD 3) (cT 2<|wU (y9 0)<|wU (y9 1) dU)<|zD 0)<|zW 1 jZ<|zC (zD 2) zN)
 (yC (dQ (y9 6) (mT<|zG jM (zG qX (zD 1)<|mC<|.int 20)<|mC<|.int 4)
 (xF 4<|zW 3 k7<|zC (zD 4)<|zC (zW 2 yK<|zC (zW 2 uO<|zC (zD 0)<|zC (mC<|.int 2) zN)<|zC (zG xC (mC<|.int 910)<|zD 6) zN)<|zC (zD 5) zN))
 (yC (xF 7<|zW 1 hI<|zC (zD 4) zN)
 (yC (xF 8<|WS (mC<|.str [10])<|xj<|zD 4)
 (qE<|Bw (zG aQ (zW 1 uL<|zC (zD 8) zN)<|zD 7)<|zG aQ (zW 1 uL<|zC (zD 8) zN)<|zD 7)))))))))
def zz:MF:=aY 1 9 Ck
structure De(K:Fg)(mg:Str->Option Value)(n:Str)(i:Nat)(ps:List Str) where
 a:Addr
 d:FuncData
 F:xb K n n (top i) a d
 m:mg n=aA (.ref a)
 b:Binds K d ps []
abbrev Ok(P:Program)(w:World){K:Fg}{mg:Str->Option Value}(base:Heap){n:Str}{i:Nat}{ps:List Str}(D:De K mg n i ps)(k m:Nat)(F:MF):Prop:=eG P w K mg base iW k D.a D.d ps<|l5 K m F
set_option genInjectivity false in
set_option genSizeOf false in
structure Txt(K:Fg)(mg:Str->Option Value)(Ps:Params) where
 Ao:De K mg "inner" 8 ["expression"]
 wn:De K mg "places" 7 ["E"]
 Ag:De K mg "all_between" 15 ["text", "least", "greatest"]
 eX:De K mg "is_name" 16 ["text"]
 Ab:De K mg "is_number" 17 ["text"]
 wc:De K mg "read_number" 18 ["text"]
 fY:De K mg "take_word" 20 ["waiting"]
 sF:De K mg "take_name" 21 ["waiting"]
 sE:De K mg "read_leaf" 23 ["word"]
 fZ:De K mg "take_expression" 22 ["waiting", "around"]
 i7:De K mg "read_expression" 19 ["text"]
 sH:De K mg "refuse_open_name" 30 ["expression", "known"]
 Au:De K mg "scopes_in" 31 ["expression", "known"]
 wg:De K mg "refuse_open_names" 29 ["expression", "known"]
 eN:De K mg "read_def" 28 ["line", "above"]
 fX:De K mg "read" 27 ["text"]
 wb:De K mg "_law_cell" 33 ["_law_script", "_law_k"]
 eJ:De K mg "_law_mixed" 34 ["_law_cell_here", "_law_k"]
 CN:De K mg "_law_kept" 35 []
 sD:De K mg "_law_name" 36 ["_law_number"]
 Ae:De K mg "_law_names" 37 ["_law_cell_here"]
 As:De K mg "_law_leaf" 38 ["_law_cell_here", "_law_number", "_law_names_here"]
 CL:De K mg "_law_one" 39 ["_law_number", "_law_names_here", "_law_one_here"]
 Aq:De K mg "_law_two" 40 ["_law_number", "_law_names_here", "_law_one_here", "_law_other"]
 CV:De K mg "_law_three" 41 ["_law_number", "_law_names_here", "_law_parts_here"]
 CU:De K mg "_law_grown" 42 ["_law_pile", "_law_cell_here", "_law_k", "_law_names_here"]
 C0:De K mg "_law_folded" 43 ["_law_pile", "_law_cell_here", "_law_names_here"]
 iF:De K mg "_law_free" 44 ["_law_told_here", "_law_known"]
 CZ:De K mg "_law_closed" 45 ["_law_item", "_law_cell_here", "_law_known"]
 C7:De K mg "_law_def_names" 46 ["_law_cell_here", "_law_many"]
 CM:De K mg "_law_defs" 47 ["_law_cells", "_law_first", "_law_second"]
 Ad:De K mg "_law_shape" 48 ["_law_word"]
 Af:De K mg "_law_all_in" 49 ["_law_word", "_law_signs"]
 Aj:De K mg "_law_is_name" 50 ["_law_word"]
 C6:De K mg "_law_is_number" 51 ["_law_word"]
 we:De K mg "_law_without" 52 ["_law_free_here", "_law_name_here"]
 CT:De K mg "_law_taken" 53 ["_law_pile", "_law_word", "_law_shape_here"]
 CY:De K mg "_law_judged" 54 ["_law_words"]
 CK:De K mg "_law_due" 55 ["_law_lines"]
 C5:De K mg "_law_wide_line" 56 ["_law_name_here", "_law_size"]
 CJ:De K mg "_law_odd" 57 ["_law_number", "_law_names_here"]
 C3:De K mg "_law_in_line" 58 ["_law_line", "_law_number", "_law_names_here"]
 C2:De K mg "_law_changed" 59 ["_law_lines", "_law_number", "_law_names_here"]
 Ar:De K mg "_law_told" 60 ["_law_text"]
 N1:De K mg "law" 61 ["_law_script"]
 CS:mg "ValueError" = aB
 HR:mg "all" = aB
 HY:mg "enumerate" = aB
 Ba:mg "int" = aB
 iL:mg "isinstance" = aB
 eK:mg "len" = aB
 HS:mg "list" = aB
 yb:mg "max" = aB
 Bc:mg "range" = aB
 ER:mg "reversed" = aB
 EO:mg "str" = aB
 CG:mg "tuple" = aB
 xw:Addr
 CQ:mg "FieldError" = aA (.ref xw)
 ve:Addr
 Ap:mg "TooMuch" = aA (.ref ve)
 vd:Addr
 u_:mg "NoLine" = aA (.ref vd)
 t_:Addr
 zk:mg "NoName" = aA (.ref t_)
 yg:Addr
 CH:mg "NoKind" = aA (.ref yg)
 l6:FC K xw ve [.ref ve,.type "ValueError"] [.ref vd,.ref t_,.ref yg]
 iK:FC K xw vd [.ref vd,.type "ValueError"] [.ref ve,.ref t_,.ref yg]
 lC:FC K xw t_ [.ref t_,.type "ValueError"] [.ref ve,.ref vd,.ref yg]
 Ih:∃t,mg "LONGEST_NAME" = aA (.int 8 t)
 Ig:∃t,mg "MOST_FIGURES" = aA (.int 6 t)
 CI:∃t,mg "DEEPEST" = aA (.int 30 t)
 H_:Jy mg K "KEPT_WORDS" B_
 Bb:Gg mg K Ps "FORMS" yN
 Bd:∃t,mg "MOST_LINES" = aA (.int 12 t)
 CW:∃t,mg "MOST_PLACES" = aA (.int 80 t)
section
variable{P:Program}{w:World}{K:Fg}{mg:Str->Option Value}{base:Heap}
def eC{N P:List Str}{sc:Scope}(a:sc.kind=.function:=by rfl)(b:sc.isCoroutine=false:=by rfl)(c:sc.isGenerator=false:=by rfl)(d:N.Nodup:=by decide +kernel)(e:N.take P.length=P:=by rfl)(f:∀x∈P,sc.names.lookup x=aA .local\/sc.names.lookup x=aA .cell:=by decide +kernel)(g:∀y∈sc.names,y.2≠.free:=by decide +kernel):b_ N P sc:=⟨a,b,c,d,e,f,g⟩
def UT:b_ ["expression"] ["expression"] (zZ<|top 8):=eC
def Nv(T:Txt K mg w.params):Ok P w base T.Ao 1 1 bO:=by
 refine dR T.Ao.F UT 1 1 rfl rfl (g:=WZ) λaN A outer s H E hr=>?_;unfold WZ;exact(by refine zM ?_;exact(by refine yH ?_;exact(by refine j5 ?_;exact(QA (N':=["part"]) (cap:=[]) rfl v6 (bH<|zA 0<|pv 0) (λ_ _ _ _=>(xD 0 (show(["part"]:List Str).Nodup by decide +kernel))) (λ_ _ _ _=>by exact(qP<|QF (by rfl) (by exact T.iL) (zA 0<|pv 0)<|ZE (by rfl) (by exact T.CG) boot_tuple rfl)) (λ_ _ _ _=>by exact(zA 0<|pv 0)) 1))))
def EQ:b_ ["E", "found", "waiting", "place"] ["E"] (zZ<|top 7):=eC
def rN(T:Txt K mg w.params):Ok P w base T.wn 2 1 uB:=by
 refine dR T.wn.F EQ 1 4 rfl rfl (g:=tD) λaN A outer s H E hr=>?_;unfold tD;exact(by refine zI ?_ ?_;exact(j8 1 (by refine yJ ?_;exact zJ) EQ.nd);exact(by refine zI ?_ ?_;exact(j8 2 (by refine yJ ?_;exact(zB (zA 0<|pv 0) zJ (hs:=zQ))) EQ.nd);exact(by refine zI ?_ ?_;exact(oV WF ci (oE<|jA 2<|pv 2) (by refine zI ?_ ?_;exact(bD 3 (YI 2<|pv 2) EQ.nd);exact(by refine zI ?_ ?_;exact(pI<|wY 1 (pv 1)<|zA 3<|pv 3);exact(by refine zM ?_;exact(pI<|tH 2 (pv 2)<|Rv<|zX (Nv T) (hr.mono<|by decide) (by rfl) T.Ao.m T.Ao.F.kp T.Ao.b<|zB (zA 3<|pv 3) zJ (hs:=zQ))))));exact(by refine zM ?_;exact(tJ 1<|pv 1)))))
def pC:b_ ["text", "least", "greatest"] ["text", "least", "greatest"] (zZ<|top 15):=eC
def gJ(T:Txt K mg w.params):Ok P w base T.Ag 1 3 jX:=by
 refine dR T.Ag.F pC 3 3 rfl rfl (g:=cQ) λaN A outer s H E hr=>?_;unfold cQ;exact(by refine zM ?_;exact(by refine yH ?_;exact(Ru (by rfl) T.HR (by refine i_ ?_;exact(uK (N':=["least", "greatest", "sign"]) (cap:=[1,2]) rfl v6 (J1<|zA 0<|pv 0) (λ_ _ _ _=>(xD 2 (show(["least", "greatest", "sign"]:List Str).Nodup by decide +kernel))) (λ_ _ _ _=>by exact(M3 WG WL WG WL (zA 0<|pv 0) (zA 2<|pv 2)<|zA 1<|pv 1)) 3)))))
def JM:b_ ["text"] ["text"] (zZ<|top 16):=eC
def kX(T:Txt K mg w.params):Ok P w base T.eX 2 1 qA:=by
 refine dR T.eX.F JM 1 1 rfl rfl (g:=tE) λaN A outer s H E hr=>?_;unfold tE;exact(by refine zM ?_;exact(by refine yH ?_;exact(Gr (M3 WG WL WG WL zF (qQ (by rfl) T.eK<|zA 0<|pv 0)<|bE T.Ih<|by rfl)<|Gr (zX (gJ T) (hr.mono<|by decide) (by rfl) T.Ag.m T.Ag.F.kp T.Ag.b (by refine zB (zA 0<|pv 0) ?_ (hs:=zQ);refine zB (zU (s:=[97])<|by rfl) ?_ (hs:=yR);refine zB (zU (s:=[122])<|by rfl) ?_ (hs:=yR);exact zJ))<|Ej<|mP uP (WN true) (zA 0<|pv 0) (So T.H_<|by rfl) rfl)))
def Z7:b_ ["text"] ["text"] (zZ<|top 17):=eC
def nO(T:Txt K mg w.params):Ok P w base T.Ab 2 1 bN:=by
 refine dR T.Ab.F Z7 1 1 rfl rfl (g:=bK) λaN A outer s H E hr=>?_;unfold bK;exact(by refine zI ?_ ?_;exact(xE (Q6<|cR (uV<|Uv WG WL WG WL zF (qQ (by rfl) T.eK<|zA 0<|pv 0)<|bE T.Ig<|by rfl)<|gC<|uV<|qP<|zX (gJ T) (hr.mono<|by decide) (by rfl) T.Ag.m T.Ag.F.kp T.Ag.b (by refine zB (zA 0<|pv 0) ?_ (hs:=zQ);refine zB (zU (s:=[48])<|by rfl) ?_ (hs:=yR);refine zB (zU (s:=[57])<|by rfl) ?_ (hs:=yR);exact zJ)) (by refine zM ?_;exact(by refine yH ?_;exact AT)) yM);exact(by refine zM ?_;exact(by refine yH ?_;exact(KC (mP (qH hr.aX) qI (zA 0<|pv 0) (zU (s:=[48])<|by rfl)<|yA _)<|Ej<|mP (k8 hr.aX) vB (z0 (zA 0<|pv 0) zF) (zU (s:=[48])<|by rfl)<|yA _))))
def gI:b_ ["text"] ["text"] (zZ<|top 18):=eC
def pD(T:Txt K mg w.params):Ok P w base T.wc 3 1 vR:=by
 refine dR T.wc.F gI 1 1 rfl rfl (g:=vM) λaN A outer s H E hr=>?_;unfold vM;exact(by refine zI ?_ ?_;exact(xE (uV<|qP<|zX (nO T) (hr.mono<|by decide) (by rfl) T.Ab.m T.Ab.F.kp T.Ab.b<|zB (zA 0<|pv 0) zJ (hs:=zQ)) (by refine zM ?_;exact qO) yM);exact(by refine zM ?_;exact(by refine yH ?_;exact(M4 (by rfl) T.Ba<|zA 0<|pv 0))))
def bG(T:Txt K mg w.params):eG P w K mg base (aZ P w) 3 T.wc.a T.wc.d ["text"] (iC K mg 1 xY):=by
 refine r_ T.wc.F gI 1 1 rfl rfl (m:=xM) λaN A outer s H E hr=>?_;unfold xM;exact(by refine yU ?_;exact(p6 (uV<|qP<|zX (nO T) (hr.mono<|by decide) (by rfl) T.Ab.m T.Ab.F.kp T.Ab.b<|zB (zA 0<|pv 0) zJ (hs:=zQ)) (by refine yU ?_;exact(YS.of<|kS T.u_ T.iK.exc (by rfl)<|QG<|J' (zA 0<|pv 0)<|BB (zU (s:=[32,105,115,32,110,111,32,110,117,109,98,101,114])<|by rfl) Ek)) gN))
def m6:b_ ["waiting"] ["waiting"] (zZ<|top 20):=eC
def bV(T:Txt K mg w.params):Ok P w base T.fY 1 1 wW:=by
 refine dR T.fY.F m6 1 1 rfl rfl (g:=uH) λaN A outer s H E hr=>?_;unfold uH;exact(by refine zI ?_ ?_;exact(xE (uV<|oE<|jA 0<|pv 0) (by refine zM ?_;exact qO) yM);exact(by refine zM ?_;exact(Sv<|YI 0<|pv 0)))
def vX(T:Txt K mg w.params):eG P w K mg base (aZ P w) 1 T.fY.a T.fY.d ["waiting"] (iC K mg 1 xQ):=by
 refine r_ T.fY.F m6 1 1 rfl rfl (m:=x0) λaN A outer s H E hr=>?_;unfold x0;exact(by refine yU ?_;exact(p6 (uV<|oE<|jA 0<|pv 0) (by refine yU ?_;exact(YS.of<|kS T.u_ T.iK.exc (by rfl)<|zU (s:=[97,32,119,111,114,100,32,105,115,32,119,97,110,116,105,110,103])<|by rfl)) gN))
def CP:b_ ["waiting", "word"] ["waiting"] (zZ<|top 21):=eC
def nK(T:Txt K mg w.params):Ok P w base T.sF 3 1 kQ:=by
 refine dR T.sF.F CP 1 2 rfl rfl (g:=uI) λaN A outer s H E hr=>?_;unfold uI;exact(by refine zI ?_ ?_;exact(bD 1 (cE (bV T) (hr.mono<|by decide) (by rfl) T.fY.m T.fY.F.kp T.fY.b<|j_ (pv 0) zJ) CP.nd);exact(by refine zI ?_ ?_;exact(xE (uV<|qP<|zX (kX T) (hr.mono<|by decide) (by rfl) T.eX.m T.eX.F.kp T.eX.b<|zB (zA 1<|pv 1) zJ (hs:=zQ)) (by refine zM ?_;exact qO) yM);exact(by refine zM ?_;exact(by refine yH ?_;exact(zA 1<|pv 1)))))
def cJ(T:Txt K mg w.params):eG P w K mg base (aZ P w) 3 T.sF.a T.sF.d ["waiting"] (iC K mg 1 wM):=by
 refine r_ T.sF.F CP 1 2 rfl rfl (m:=xH) λaN A outer s H E hr=>?_;unfold xH;exact(by refine o8 ?_ ?_;exact(by refine yU ?_;exact(Ew 1 (oG (vX T) (hr.mono<|by decide) (by rfl) T.fY.m T.fY.F.kp T.fY.b<|j_ (pv 0) zJ) CP.nd));exact(by refine yX ?_ ?_;exact(bD 1 (cE (bV T) (hr.mono<|by decide) (by rfl) T.fY.m T.fY.F.kp T.fY.b<|j_ (pv 0) zJ) CP.nd);exact(by refine yU ?_;exact(p6 (uV<|qP<|zX (kX T) (hr.mono<|by decide) (by rfl) T.eX.m T.eX.F.kp T.eX.b<|zB (zA 1<|pv 1) zJ (hs:=zQ)) (by refine yU ?_;exact(YS.of<|kS T.u_ T.iK.exc (by rfl)<|QG<|J' (zA 1<|pv 1)<|BB (zU (s:=[32,105,115,32,110,111,32,110,97,109,101])<|by rfl) Ek)) gN))))
def m7:b_ ["word"] ["word"] (zZ<|top 23):=eC
def nM(T:Txt K mg w.params):Ok P w base T.sE 4 1 jK:=by
 refine dR T.sE.F m7 1 1 rfl rfl (g:=dM) λaN A outer s H E hr=>?_;unfold dM;exact(by refine zI ?_ ?_;exact(xE (qP<|zX (kX T) (hr.mono<|by decide) (by rfl) T.eX.m T.eX.F.kp T.eX.b<|zB (zA 0<|pv 0) zJ (hs:=zQ)) (by refine zM ?_;exact(by refine yH ?_;exact(by refine qB ?_;exact(by refine zB (zU (s:=[110,97,109,101])<|by rfl) ?_ (hs:=yR);refine zB (zA 0<|pv 0) ?_ (hs:=zQ);exact zJ)))) yM);exact(by refine zM ?_;exact(by refine yH ?_;exact(by refine qB ?_;exact(by refine zB (zU (s:=[110,117,109])<|by rfl) ?_ (hs:=yR);refine zB (zX (pD T) (hr.mono<|by decide) (by rfl) T.wc.m T.wc.F.kp T.wc.b<|zB (zA 0<|pv 0) zJ (hs:=zQ)) ?_ (hs:=kE);exact zJ)))))
def cK(T:Txt K mg w.params):eG P w K mg base (aZ P w) 4 T.sE.a T.sE.d ["word"] (iC K mg 1 xS):=by
 refine r_ T.sE.F m7 1 1 rfl rfl (m:=xO) λaN A outer s H E hr=>?_;unfold xO;exact(by refine yX ?_ ?_;exact(xE (qP<|zX (kX T) (hr.mono<|by decide) (by rfl) T.eX.m T.eX.F.kp T.eX.b<|zB (zA 0<|pv 0) zJ (hs:=zQ)) (by refine zM ?_;exact(by refine yH ?_;exact(by refine qB ?_;exact(by refine zB (zU (s:=[110,97,109,101])<|by rfl) ?_ (hs:=yR);refine zB (zA 0<|pv 0) ?_ (hs:=zQ);exact zJ)))) yM);exact(by refine yU ?_;exact(LH<|R7<|UN (zU (s:=[110,117,109])<|by rfl)<|Hd<|hJ (bG T) (hr.mono<|by decide) (by rfl) T.wc.m T.wc.F.kp T.wc.b<|zB (zA 0<|pv 0) zJ (hs:=zQ))))
def zi:b_ ["waiting", "around", "word", "taken", "part"] ["waiting", "around"] (zZ<|top 22):=eC
theorem jV:∀(k:Nat) (T:Txt K mg w.params),Ok P w base T.fZ (k+4) 2 (yI k)
 |0,T=>Jg 2
 |k+1,T=>by
  have G:=jV k T;rw[show k+1+4=(k+4)+1 by omega];refine dR T.fZ.F zi 2 5 rfl rfl (g:=wX<|yI k) λaN A outer s H E hr=>?_;unfold wX;exact(by refine zI ?_ ?_;exact(xE (z6 bT bX (zA 1<|pv 1) (bE T.CI<|by rfl)<|yA _) (by refine zM ?_;exact qO) yM);exact(by refine zI ?_ ?_;exact(bD 2 (cE (bV T) (hr.mono<|by omega) (by rfl) T.fY.m T.fY.F.kp T.fY.b<|j_ (pv 0) zJ) zi.nd);exact(by refine zI ?_ ?_;exact(xE (tI T.Bb (by rfl)<|zA 2<|pv 2) (by refine zM ?_;exact(by refine yH ?_;exact(zX (nM T) (hr.mono<|by omega) (by rfl) T.sE.m T.sE.F.kp T.sE.b<|zB (zA 2<|pv 2) zJ (hs:=zQ)))) yM);exact(by refine zI ?_ ?_;exact(j8 3 (by refine yJ ?_;exact(zB (zA 2<|pv 2) zJ (hs:=zQ))) zi.nd);exact(by refine zI ?_ ?_;exact(dN ci rfl (J1<|KL T.Bb (by rfl)<|zA 2<|pv 2) (xD 4 zi.nd) (by refine zM ?_;exact(xE (z6 (qH hr.aX) qI (zA 4<|pv 4) (zU (s:=[110])<|by rfl)<|yA _) (by refine zM ?_;exact(pI<|g0 3 (pv 3)<|cE (nK T) (hr.mono<|by omega) (by rfl) T.sF.m T.sF.F.kp T.sF.b<|j_ (pv 0) zJ)) (by refine zM ?_;exact(pI<|g0 3 (pv 3)<|cE G (hr.mono<|by omega) (by rfl) T.fZ.m T.fZ.F.kp T.fZ.b<|j_ (pv 0)<|zB (zL zR zS (zA 1<|pv 1) zF) zJ (hs:=j9))))));exact(by refine zM ?_;exact(by refine yH ?_;exact(J6 (by rfl) T.CG<|jA 3<|pv 3))))))))
theorem jO:∀(k:Nat) (T:Txt K mg w.params),eG P w K mg base (aZ P w) (k+4) T.fZ.a T.fZ.d ["waiting", "around"] (iC K mg 2<|zV k)
 |0,T=>PK 2
 |k+1,T=>by
  have G:=jV (P:=P) (w:=w) (base:=base) k T;have GX:=jO k T;rw[show k+1+4=(k+4)+1 by omega];refine r_ T.fZ.F zi 2 5 rfl rfl (m:=yZ (yI k)<|zV k) λaN A outer s H E hr=>?_;unfold yZ;exact(by refine o8 ?_ ?_;exact(by refine yU ?_;exact(p6 (z6 bT bX (zA 1<|pv 1) (bE T.CI<|by rfl)<|yA _) (by refine yU ?_;exact(YS.of<|kS T.u_ T.iK.exc (by rfl)<|zU (s:=[116,104,101,32,101,120,112,114,101,115,115,105,111,110,32,105,115,32,116,111,111,32,100,101,101,112])<|by rfl)) gN));exact(by refine yX ?_ ?_;exact(xE (z6 bT bX (zA 1<|pv 1) (bE T.CI<|by rfl)<|yA _) (by refine zM ?_;exact qO) yM);exact(by refine o8 ?_ ?_;exact(by refine yU ?_;exact(Ew 2 (oG (vX T) (hr.mono<|by omega) (by rfl) T.fY.m T.fY.F.kp T.fY.b<|j_ (pv 0) zJ) zi.nd));exact(by refine yX ?_ ?_;exact(bD 2 (cE (bV T) (hr.mono<|by omega) (by rfl) T.fY.m T.fY.F.kp T.fY.b<|j_ (pv 0) zJ) zi.nd);exact(by refine o8 ?_ ?_;exact(by refine yU ?_;exact(p6 (tI T.Bb (by rfl)<|zA 2<|pv 2) (by refine yU ?_;exact(LH<|hJ (cK T) (hr.mono<|by omega) (by rfl) T.sE.m T.sE.F.kp T.sE.b<|zB (zA 2<|pv 2) zJ (hs:=zQ))) gN));exact(by refine yX ?_ ?_;exact(xE (tI T.Bb (by rfl)<|zA 2<|pv 2) (by refine zM ?_;exact(by refine yH ?_;exact(zX (nM T) (hr.mono<|by omega) (by rfl) T.sE.m T.sE.F.kp T.sE.b<|zB (zA 2<|pv 2) zJ (hs:=zQ)))) yM);exact(by refine yX ?_ ?_;exact(j8 3 (by refine yJ ?_;exact(zB (zA 2<|pv 2) zJ (hs:=zQ))) zi.nd);exact(by refine yU ?_;exact(Ev jd rfl (J1<|KL T.Bb (by rfl)<|zA 2<|pv 2) (xD 4 zi.nd) (by refine zM ?_;exact(xE (z6 (qH hr.aX) qI (zA 4<|pv 4) (zU (s:=[110])<|by rfl)<|yA _) (by refine zM ?_;exact(pI<|g0 3 (pv 3)<|cE (nK T) (hr.mono<|by omega) (by rfl) T.sF.m T.sF.F.kp T.sF.b<|j_ (pv 0) zJ)) (by refine zM ?_;exact(pI<|g0 3 (pv 3)<|cE G (hr.mono<|by omega) (by rfl) T.fZ.m T.fZ.F.kp T.fZ.b<|j_ (pv 0)<|zB (zL zR zS (zA 1<|pv 1) zF) zJ (hs:=j9))))) (by refine yU ?_;exact(p6 (z6 (qH hr.aX) qI (zA 4<|pv 4) (zU (s:=[110])<|by rfl)<|yA _) (by refine yU ?_;exact(mU<|XQ 3 (pv 3)<|oG (cJ T) (hr.mono<|by omega) (by rfl) T.sF.m T.sF.F.kp T.sF.b<|j_ (pv 0) zJ)) (by refine yU ?_;exact(mU<|XQ 3 (pv 3)<|oG GX (hr.mono<|by omega) (by rfl) T.fZ.m T.fZ.F.kp T.fZ.b<|j_ (pv 0)<|zB (zL zR zS (zA 1<|pv 1) zF) zJ (hs:=j9))))))))))))))
def A5:b_ ["text", "waiting", "expression"] ["text"] (zZ<|top 19):=eC
def vA(T:Txt K mg w.params):Ok P w base T.i7 45 1 w6:=by
 refine dR T.i7.F A5 1 3 rfl rfl (g:=qK) λaN A outer s H E hr=>?_;unfold qK;exact(by refine zI ?_ ?_;exact(j8 1 (KO<|i_<|cS (zA 0<|pv 0)<|zU (s:=[32])<|by rfl) A5.nd);exact(by refine zI ?_ ?_;exact(bD 2 (cE (jV RF T) (hr.mono<|by decide) (by rfl) T.fZ.m T.fZ.F.kp T.fZ.b<|j_ (pv 1)<|zB zF zJ (hs:=yR)) A5.nd);exact(by refine zI ?_ ?_;exact(xE (oE<|jA 1<|pv 1) (by refine zM ?_;exact qO) yM);exact(by refine zM ?_;exact(by refine yH ?_;exact(zA 2<|pv 2))))))
def vV(T:Txt K mg w.params):eG P w K mg base (aZ P w) 45 T.i7.a T.i7.d ["text"] (iC K mg 1 wD):=by
 refine r_ T.i7.F A5 1 3 rfl rfl (m:=y6) λaN A outer s H E hr=>?_;unfold y6;exact(by refine yX ?_ ?_;exact(j8 1 (KO<|i_<|cS (zA 0<|pv 0)<|zU (s:=[32])<|by rfl) A5.nd);exact(by refine o8 ?_ ?_;exact(by refine yU ?_;exact(Ew 2 (oG (jO RF T) (hr.mono<|by decide) (by rfl) T.fZ.m T.fZ.F.kp T.fZ.b<|j_ (pv 1)<|zB zF zJ (hs:=yR)) A5.nd));exact(by refine yX ?_ ?_;exact(bD 2 (cE (jV RF T) (hr.mono<|by decide) (by rfl) T.fZ.m T.fZ.F.kp T.fZ.b<|j_ (pv 1)<|zB zF zJ (hs:=yR)) A5.nd);exact(by refine yU ?_;exact(p6 (oE<|jA 1<|pv 1) (by refine yU ?_;exact(YS.of<|kS T.u_ T.iK.exc (by rfl)<|zU (s:=[119,111,114,100,115,32,115,116,97,110,100,32,98,101,104,105,110,100,32,116,104,101,32,101,120,112,114,101,115,115,105,111,110])<|by rfl)) gN)))))
def EW:b_ ["expression", "known", "name"] ["expression", "known"] (zZ<|top 30):=eC
def uE(T:Txt K mg w.params):Ok P w base T.sH 1 2 wC:=by
 refine dR T.sH.F EW 2 3 rfl rfl (g:=qT) λaN A outer s H E hr=>?_;unfold qT;exact(by refine zM ?_;exact(xE (Q6<|oD (z6 (qH hr.aX) qI (z0 (zA 0<|pv 0) zF) (zU (s:=[110,97,109,101])<|by rfl)<|yA _)<|oC<|z6 uP (WN true) (z0 (zA 0<|pv 0) zF) (zA 1<|pv 1) rfl) (by refine zI ?_ ?_;exact(yF 2 (z0 (zA 0<|pv 0) zF) EW.nd);exact(by refine zM ?_;exact qO)) yM))
def vF(T:Txt K mg w.params):eG P w K mg base (aZ P w) 1 T.sH.a T.sH.d ["expression", "known"] (iC K mg 2 yQ):=by
 refine r_ T.sH.F EW 2 3 rfl rfl (m:=xJ) λaN A outer s H E hr=>?_;unfold xJ;exact(by refine yU ?_;exact(p6 (Q6<|oD (z6 (qH hr.aX) qI (z0 (zA 0<|pv 0) zF) (zU (s:=[110,97,109,101])<|by rfl)<|yA _)<|oC<|z6 uP (WN true) (z0 (zA 0<|pv 0) zF) (zA 1<|pv 1) rfl) (by refine yX ?_ ?_;exact(yF 2 (z0 (zA 0<|pv 0) zF) EW.nd);exact(by refine yU ?_;exact(YS.of<|kS T.zk T.lC.exc (by rfl)<|QG<|BB (zU (s:=[116,104,101,32,110,97,109,101,32])<|by rfl)<|Jf (zA 2<|pv 2)<|BB (zU (s:=[32,105,115,32,111,112,101,110])<|by rfl) Ek))) gN))
def HZ:b_ ["expression", "known", "first", "second"] ["expression", "known"] (zZ<|top 31):=eC
def nL(T:Txt K mg w.params):Ok P w base T.Au 2 2 vJ:=by
 refine dR T.Au.F HZ 2 4 rfl rfl (g:=j3) λaN A outer s H E hr=>?_;unfold j3;exact(by refine zI ?_ ?_;exact(xE (z6 (qH hr.aX) qI (z0 (zA 0<|pv 0) zF) (zU (s:=[102,110])<|by rfl)<|yA _) (by refine zM ?_;exact(by refine yH ?_;exact(by refine j5 ?_;exact(by refine yJ ?_;exact(zB (by refine qB ?_;exact(by refine zB (z0 (zA 0<|pv 0) zF) ?_ (hs:=xV);refine zB (zL zR zS (zA 1<|pv 1) (by refine j5 ?_;exact(by refine yJ ?_;exact(zB (z0 (zA 0<|pv 0) zF) zJ (hs:=xV))))) ?_ (hs:=j9);exact zJ)) zJ (hs:=vW)))))) yM);exact(by refine zI ?_ ?_;exact(xE (z6 (qH hr.aX) qI (z0 (zA 0<|pv 0) zF) (zU (s:=[99,97,115,101])<|by rfl)<|yA _) (by refine zI ?_ ?_;exact(yF 2 (by refine qB ?_;exact(by refine zB (z0 (zA 0<|pv 0) zF) ?_ (hs:=xV);refine zB (zL zR zS (zA 1<|pv 1) (by refine j5 ?_;exact(by refine yJ ?_;exact(zB (z0 (zA 0<|pv 0) zF) zJ (hs:=xV))))) ?_ (hs:=j9);exact zJ)) HZ.nd);exact(by refine zI ?_ ?_;exact(yF 3 (by refine qB ?_;exact(by refine zB (z0 (zA 0<|pv 0) zF) ?_ (hs:=xV);refine zB (zL zR zS (zA 1<|pv 1) (by refine j5 ?_;exact(by refine yJ ?_;exact(zB (z0 (zA 0<|pv 0) zF) zJ (hs:=xV))))) ?_ (hs:=j9);exact zJ)) HZ.nd);exact(by refine zM ?_;exact(by refine yH ?_;exact(by refine j5 ?_;exact(by refine yJ ?_;exact(by refine zB (by refine qB ?_;exact(by refine zB (z0 (zA 0<|pv 0) zF) ?_ (hs:=xV);refine zB (zA 1<|pv 1) ?_ (hs:=zQ);exact zJ)) ?_ (hs:=vW);refine zB (zA 2<|pv 2) ?_ (hs:=zQ);refine zB (zA 3<|pv 3) ?_ (hs:=zQ);exact zJ))))))) yM);exact(by refine zM ?_;exact(by refine yH ?_;exact(by refine j5 ?_;exact(uK (N':=["known", "part"]) (cap:=[1]) rfl v6 (bH<|zX (Nv T) (hr.mono<|by decide) (by rfl) T.Ao.m T.Ao.F.kp T.Ao.b<|zB (zA 0<|pv 0) zJ (hs:=zQ)) (λ_ _ _ _=>(xD 1 (show(["known", "part"]:List Str).Nodup by decide +kernel))) (λ_ _ _ _=>by exact(by refine qB ?_;exact(by refine zB ?_ ?_;exact(zA 1<|pv 1);refine zB ?_ ?_;exact(zA 0<|pv 0);exact zJ))) 2))))))
def A6:b_ ["expression", "known", "waiting", "scope"] ["expression", "known"] (zZ<|top 29):=eC
def cM(T:Txt K mg w.params):Ok P w base T.wg 3 2 qL:=by
 refine dR T.wg.F A6 2 4 rfl rfl (g:=qJ) λaN A outer s H E hr=>?_;unfold qJ;exact(by refine zI ?_ ?_;exact(j8 2 (by refine yJ ?_;exact(zB (by refine qB ?_;exact(by refine zB (zA 0<|pv 0) ?_ (hs:=zQ);refine zB (zA 1<|pv 1) ?_ (hs:=zQ);exact zJ)) zJ (hs:=vW))) A6.nd);exact(by refine zM ?_;exact(oV WF ci (oE<|jA 2<|pv 2) (by refine zI ?_ ?_;exact(bD 3 (YI 2<|pv 2) A6.nd);exact(by refine zI ?_ ?_;exact(GQ<|zX (uE T) (hr.mono<|by decide) (by rfl) T.sH.m T.sH.F.kp T.sH.b (by refine zB (z0 (zA 3<|pv 3) zF) ?_ (hs:=xV);refine zB (z0 (zA 3<|pv 3) zF) ?_ (hs:=xV);exact zJ));exact(by refine zM ?_;exact(pI<|tH 2 (pv 2)<|zX (nL T) (hr.mono<|by decide) (by rfl) T.Au.m T.Au.F.kp T.Au.b (by refine zB (z0 (zA 3<|pv 3) zF) ?_ (hs:=xV);refine zB (z0 (zA 3<|pv 3) zF) ?_ (hs:=xV);exact zJ))))))))
def k9(T:Txt K mg w.params):eG P w K mg base (aZ P w) 3 T.wg.a T.wg.d ["expression", "known"] (iC K mg 2 xG):=by
 refine r_ T.wg.F A6 2 4 rfl rfl (m:=xT) λaN A outer s H E hr=>?_;unfold xT;exact(by refine yX ?_ ?_;exact(j8 2 (by refine yJ ?_;exact(zB (by refine qB ?_;exact(by refine zB (zA 0<|pv 0) ?_ (hs:=zQ);refine zB (zA 1<|pv 1) ?_ (hs:=zQ);exact zJ)) zJ (hs:=vW))) A6.nd);exact(by refine yU ?_;exact(UO WF jd (oE<|jA 2<|pv 2) (by refine zI ?_ ?_;exact(bD 3 (YI 2<|pv 2) A6.nd);exact(by refine zI ?_ ?_;exact(GQ<|zX (uE T) (hr.mono<|by decide) (by rfl) T.sH.m T.sH.F.kp T.sH.b (by refine zB (z0 (zA 3<|pv 3) zF) ?_ (hs:=xV);refine zB (z0 (zA 3<|pv 3) zF) ?_ (hs:=xV);exact zJ));exact(by refine zM ?_;exact(pI<|tH 2 (pv 2)<|zX (nL T) (hr.mono<|by decide) (by rfl) T.Au.m T.Au.F.kp T.Au.b (by refine zB (z0 (zA 3<|pv 3) zF) ?_ (hs:=xV);refine zB (z0 (zA 3<|pv 3) zF) ?_ (hs:=xV);exact zJ))))) (by refine yX ?_ ?_;exact(bD 3 (YI 2<|pv 2) A6.nd);exact(by refine yU ?_;exact(mU<|hJ (vF T) (hr.mono<|by decide) (by rfl) T.sH.m T.sH.F.kp T.sH.b (by refine zB (z0 (zA 3<|pv 3) zF) ?_ (hs:=xV);refine zB (z0 (zA 3<|pv 3) zF) ?_ (hs:=xV);exact zJ)))))))
def lD:b_ ["line", "above", "words", "name", "expression"] ["line", "above"] (zZ<|top 28):=eC
def bI(T:Txt K mg w.params):Ok P w base T.eN 46 2 w8:=by
 refine dR T.eN.F lD 2 5 rfl rfl (g:=vN) λaN A outer s H E hr=>?_;unfold vN;exact(by refine zI ?_ ?_;exact(yF 2 (by refine j5 ?_;exact(oF (zA 0<|pv 0)<|zU (s:=[32])<|by rfl)) lD.nd);exact(by refine zI ?_ ?_;exact(xE (Q6<|cR (z6 (k8 hr.aX) vB (qQ (by rfl) T.eK<|zA 2<|pv 2) zF<|yA _)<|cR (z6 (k8 hr.aX) vB (z0 (zA 2<|pv 2) zF) (zU (s:=[100,101,102])<|by rfl)<|yA _)<|gC<|uV<|qP<|zX (kX T) (hr.mono<|by decide) (by rfl) T.eX.m T.eX.F.kp T.eX.b<|zB (z0 (zA 2<|pv 2) zF) zJ (hs:=xV)) (by refine zM ?_;exact qO) yM);exact(by refine zI ?_ ?_;exact(yF 3 (z0 (zA 2<|pv 2) zF) lD.nd);exact(by refine zI ?_ ?_;exact(yF 4 (zX (vA T) (hr.mono<|by decide) (by rfl) T.i7.m T.i7.F.kp T.i7.b<|zB (z0 (zA 2<|pv 2) zF) zJ (hs:=xV)) lD.nd);exact(by refine zI ?_ ?_;exact(xE (z6 bT bX (qQ (by rfl) T.eK (by refine j5 ?_;exact(ZS (rN T) (hr.mono<|by decide) (by rfl) T.wn.m T.wn.F.kp T.wn.b<|zB (zA 4<|pv 4) zJ (hs:=zQ)))) (bE T.CW<|by rfl)<|yA _) (by refine zM ?_;exact qO) yM);exact(by refine zI ?_ ?_;exact(xE (z6 dF (WN false) (zA 3<|pv 3) (zA 1<|pv 1) rfl) (by refine zM ?_;exact qO) yM);exact(by refine zI ?_ ?_;exact(GQ<|zX (cM T) (hr.mono<|by decide) (by rfl) T.wg.m T.wg.F.kp T.wg.b (by refine zB (zA 4<|pv 4) ?_ (hs:=zQ);refine zB (zL zR zS (zA 1<|pv 1) (by refine j5 ?_;exact(by refine yJ ?_;exact(zB (zA 3<|pv 3) zJ (hs:=zQ))))) ?_ (hs:=j9);exact zJ));exact(by refine zM ?_;exact(by refine yH ?_;exact(by refine qB ?_;exact(by refine zB (zA 3<|pv 3) ?_ (hs:=zQ);refine zB (zA 4<|pv 4) ?_ (hs:=zQ);exact zJ)))))))))))
def cL(T:Txt K mg w.params):eG P w K mg base (aZ P w) 46 T.eN.a T.eN.d ["line", "above"] (iC K mg 2 wN):=by
 refine r_ T.eN.F lD 2 5 rfl rfl (m:=wA) λaN A outer s H E hr=>?_;unfold wA;exact(by refine yX ?_ ?_;exact(yF 2 (by refine j5 ?_;exact(oF (zA 0<|pv 0)<|zU (s:=[32])<|by rfl)) lD.nd);exact(by refine yX ?_ ?_;exact(xE (Q6<|cR (z6 (k8 hr.aX) vB (qQ (by rfl) T.eK<|zA 2<|pv 2) zF<|yA _)<|cR (z6 (k8 hr.aX) vB (z0 (zA 2<|pv 2) zF) (zU (s:=[100,101,102])<|by rfl)<|yA _)<|gC<|uV<|qP<|zX (kX T) (hr.mono<|by decide) (by rfl) T.eX.m T.eX.F.kp T.eX.b<|zB (z0 (zA 2<|pv 2) zF) zJ (hs:=xV)) (by refine zM ?_;exact qO) yM);exact(by refine yX ?_ ?_;exact(yF 3 (z0 (zA 2<|pv 2) zF) lD.nd);exact(by refine yX ?_ ?_;exact(yF 4 (zX (vA T) (hr.mono<|by decide) (by rfl) T.i7.m T.i7.F.kp T.i7.b<|zB (z0 (zA 2<|pv 2) zF) zJ (hs:=xV)) lD.nd);exact(by refine yU ?_;exact(p6 (z6 bT bX (qQ (by rfl) T.eK (by refine j5 ?_;exact(ZS (rN T) (hr.mono<|by decide) (by rfl) T.wn.m T.wn.F.kp T.wn.b<|zB (zA 4<|pv 4) zJ (hs:=zQ)))) (bE T.CW<|by rfl)<|yA _) (by refine yU ?_;exact(YS.of<|kS T.Ap T.l6.exc (by rfl)<|zU (s:=[116,104,101,32,101,120,112,114,101,115,115,105,111,110,32,104,97,115,32,116,111,111,32,109,97,110,121,32,112,108,97,99,101,115])<|by rfl)) gN))))))
def dH(T:Txt K mg w.params):eG P w K mg base (aZ P w) 46 T.eN.a T.eN.d ["line", "above"] (iC K mg 2 wZ):=by
 refine r_ T.eN.F lD 2 5 rfl rfl (m:=xB) λaN A outer s H E hr=>?_;unfold xB;exact(by refine yX ?_ ?_;exact(yF 2 (by refine j5 ?_;exact(oF (zA 0<|pv 0)<|zU (s:=[32])<|by rfl)) lD.nd);exact(by refine o8 ?_ ?_;exact(by refine yU ?_;exact(p6 (Q6<|cR (z6 (k8 hr.aX) vB (qQ (by rfl) T.eK<|zA 2<|pv 2) zF<|yA _)<|cR (z6 (k8 hr.aX) vB (z0 (zA 2<|pv 2) zF) (zU (s:=[100,101,102])<|by rfl)<|yA _)<|gC<|uV<|qP<|zX (kX T) (hr.mono<|by decide) (by rfl) T.eX.m T.eX.F.kp T.eX.b<|zB (z0 (zA 2<|pv 2) zF) zJ (hs:=xV)) (by refine yU ?_;exact(YS.of<|kS T.u_ T.iK.exc (by rfl)<|zU (s:=[116,104,101,32,108,105,110,101,32,105,115,32,110,111,116,32,116,104,101,32,119,111,114,100,32,100,101,102,44,32,97,32,110,97,109,101,32,97,110,100,32,97,110,32,101,120,112,114,101,115,115,105,111,110])<|by rfl)) gN));exact(by refine yX ?_ ?_;exact(xE (Q6<|cR (z6 (k8 hr.aX) vB (qQ (by rfl) T.eK<|zA 2<|pv 2) zF<|yA _)<|cR (z6 (k8 hr.aX) vB (z0 (zA 2<|pv 2) zF) (zU (s:=[100,101,102])<|by rfl)<|yA _)<|gC<|uV<|qP<|zX (kX T) (hr.mono<|by decide) (by rfl) T.eX.m T.eX.F.kp T.eX.b<|zB (z0 (zA 2<|pv 2) zF) zJ (hs:=xV)) (by refine zM ?_;exact qO) yM);exact(by refine yX ?_ ?_;exact(yF 3 (z0 (zA 2<|pv 2) zF) lD.nd);exact(by refine yU ?_;exact(Ew 4 (hJ (vV T) (hr.mono<|by decide) (by rfl) T.i7.m T.i7.F.kp T.i7.b<|zB (z0 (zA 2<|pv 2) zF) zJ (hs:=xV)) lD.nd))))))
def dG(T:Txt K mg w.params):eG P w K mg base (aZ P w) 46 T.eN.a T.eN.d ["line", "above"] (iC K mg 2 xW):=by
 refine r_ T.eN.F lD 2 5 rfl rfl (m:=wK) λaN A outer s H E hr=>?_;unfold wK;exact(by refine yX ?_ ?_;exact(yF 2 (by refine j5 ?_;exact(oF (zA 0<|pv 0)<|zU (s:=[32])<|by rfl)) lD.nd);exact(by refine yX ?_ ?_;exact(xE (Q6<|cR (z6 (k8 hr.aX) vB (qQ (by rfl) T.eK<|zA 2<|pv 2) zF<|yA _)<|cR (z6 (k8 hr.aX) vB (z0 (zA 2<|pv 2) zF) (zU (s:=[100,101,102])<|by rfl)<|yA _)<|gC<|uV<|qP<|zX (kX T) (hr.mono<|by decide) (by rfl) T.eX.m T.eX.F.kp T.eX.b<|zB (z0 (zA 2<|pv 2) zF) zJ (hs:=xV)) (by refine zM ?_;exact qO) yM);exact(by refine yX ?_ ?_;exact(yF 3 (z0 (zA 2<|pv 2) zF) lD.nd);exact(by refine yX ?_ ?_;exact(yF 4 (zX (vA T) (hr.mono<|by decide) (by rfl) T.i7.m T.i7.F.kp T.i7.b<|zB (z0 (zA 2<|pv 2) zF) zJ (hs:=xV)) lD.nd);exact(by refine yX ?_ ?_;exact(xE (z6 bT bX (qQ (by rfl) T.eK (by refine j5 ?_;exact(ZS (rN T) (hr.mono<|by decide) (by rfl) T.wn.m T.wn.F.kp T.wn.b<|zB (zA 4<|pv 4) zJ (hs:=zQ)))) (bE T.CW<|by rfl)<|yA _) (by refine zM ?_;exact qO) yM);exact(by refine o8 ?_ ?_;exact(by refine yU ?_;exact(p6 (z6 dF (WN false) (zA 3<|pv 3) (zA 1<|pv 1) rfl) (by refine yU ?_;exact(YS.of<|kS T.zk T.lC.exc (by rfl)<|QG<|BB (zU (s:=[97,32,100,101,102,32,97,98,111,118,101,32,105,115,32,99,97,108,108,101,100,32])<|by rfl)<|Jf (zA 3<|pv 3)<|BB (zU (s:=[44,32,116,111,111])<|by rfl) Ek)) gN));exact(by refine yX ?_ ?_;exact(xE (z6 dF (WN false) (zA 3<|pv 3) (zA 1<|pv 1) rfl) (by refine zM ?_;exact qO) yM);exact(by refine yU ?_;exact(mU<|hJ (k9 T) (hr.mono<|by decide) (by rfl) T.wg.m T.wg.F.kp T.wg.b (by refine zB (zA 4<|pv 4) ?_ (hs:=zQ);refine zB (zL zR zS (zA 1<|pv 1) (by refine j5 ?_;exact(by refine yJ ?_;exact(zB (zA 3<|pv 3) zJ (hs:=zQ))))) ?_ (hs:=j9);exact zJ))))))))))
def i6:b_ ["text", "lines", "program", "line"] ["text"] (zZ<|top 27):=eC
def SX(T:Txt K mg w.params):Ok P w base T.fX 47 1 tS:=by
 refine dR T.fX.F i6 1 4 rfl rfl (g:=pH) λaN A outer s H E hr=>?_;unfold pH;exact(by refine zI ?_ ?_;exact(yF 1 (by refine j5 ?_;exact(cS (zA 0<|pv 0)<|zU (s:=[10])<|by rfl)) i6.nd);exact(by refine zI ?_ ?_;exact(xE (z6 bT bX (qQ (by rfl) T.eK<|zA 1<|pv 1) (bE T.Bd<|by rfl)<|yA _) (by refine zM ?_;exact qO) yM);exact(by refine zI ?_ ?_;exact(j8 2 (by refine yJ ?_;exact zJ) i6.nd);exact(by refine zI ?_ ?_;exact(dN ci rfl (bH<|zA 1<|pv 1) (xD 3 i6.nd) (by refine zM ?_;exact(pI<|cW 2 (pv 2)<|zX (bI T) (hr.mono<|by decide) (by rfl) T.eN.m T.eN.F.kp T.eN.b (by refine zB (zA 3<|pv 3) ?_ (hs:=zQ);refine zB (by refine j5 ?_;exact(uK (N':=["above"]) (cap:=[]) rfl v6 (yw<|yz 2<|pv 2) (λ_ _ _ _=>(xD 0 (show(["above"]:List Str).Nodup by decide +kernel))) (λ_ _ _ _=>by exact(by refine z0 ?_ ?_;exact(zA 0<|pv 0);exact zF)) 1)) ?_;exact zJ))));exact(by refine zI ?_ ?_;exact(xE (z6 (k8 hr.aX) vB (z0 (gD (jA 2<|pv 2)<|cO zF) zF) (zU (s:=[109,97,105,110])<|by rfl)<|yA _) (by refine zM ?_;exact qO) yM);exact(by refine zM ?_;exact(tJ 2<|pv 2)))))))
def mL(T:Txt K mg w.params):eG P w K mg base (aZ P w) 47 T.fX.a T.fX.d ["text"] (iC K mg 1 j6):=by
 refine r_ T.fX.F i6 1 4 rfl rfl (m:=wO) λaN A outer s H E hr=>?_;unfold wO;exact(by refine yX ?_ ?_;exact(yF 1 (by refine j5 ?_;exact(cS (zA 0<|pv 0)<|zU (s:=[10])<|by rfl)) i6.nd);exact(by refine o8 ?_ ?_;exact(by refine yU ?_;exact(p6 (z6 bT bX (qQ (by rfl) T.eK<|zA 1<|pv 1) (bE T.Bd<|by rfl)<|yA _) (by refine yU ?_;exact(YS.of<|kS T.Ap T.l6.exc (by rfl)<|zU (s:=[116,104,101,32,116,101,120,116,32,104,97,115,32,116,111,111,32,109,97,110,121,32,108,105,110,101,115])<|by rfl)) gN));exact(by refine yX ?_ ?_;exact(xE (z6 bT bX (qQ (by rfl) T.eK<|zA 1<|pv 1) (bE T.Bd<|by rfl)<|yA _) (by refine zM ?_;exact qO) yM);exact(by refine yX ?_ ?_;exact(j8 2 (by refine yJ ?_;exact zJ) i6.nd);exact(by refine yU ?_;exact(Ev jd rfl (bH<|zA 1<|pv 1) (xD 3 i6.nd) (by refine zM ?_;exact(pI<|cW 2 (pv 2)<|zX (bI T) (hr.mono<|by decide) (by rfl) T.eN.m T.eN.F.kp T.eN.b (by refine zB (zA 3<|pv 3) ?_ (hs:=zQ);refine zB (by refine j5 ?_;exact(uK (N':=["above"]) (cap:=[]) rfl v6 (yw<|yz 2<|pv 2) (λ_ _ _ _=>(xD 0 (show(["above"]:List Str).Nodup by decide +kernel))) (λ_ _ _ _=>by exact(by refine z0 ?_ ?_;exact(zA 0<|pv 0);exact zF)) 1)) ?_;exact zJ))) (by refine yU ?_;exact(mU<|oH 2 (pv 2)<|hJ (cL T) (hr.mono<|by decide) (by rfl) T.eN.m T.eN.F.kp T.eN.b (by refine zB (zA 3<|pv 3) ?_ (hs:=zQ);refine zB (by refine j5 ?_;exact(uK (N':=["above"]) (cap:=[]) rfl v6 (yw<|yz 2<|pv 2) (λ_ _ _ _=>(xD 0 (show(["above"]:List Str).Nodup by decide +kernel))) (λ_ _ _ _=>by exact(by refine z0 ?_ ?_;exact(zA 0<|pv 0);exact zF)) 1)) ?_;exact zJ)))))))))
def nJ(T:Txt K mg w.params):eG P w K mg base (aZ P w) 47 T.fX.a T.fX.d ["text"] (iC K mg 1 kP):=by
 refine r_ T.fX.F i6 1 4 rfl rfl (m:=jC) λaN A outer s H E hr=>?_;unfold jC;exact(by refine yX ?_ ?_;exact(yF 1 (by refine j5 ?_;exact(cS (zA 0<|pv 0)<|zU (s:=[10])<|by rfl)) i6.nd);exact(by refine yX ?_ ?_;exact(xE (z6 bT bX (qQ (by rfl) T.eK<|zA 1<|pv 1) (bE T.Bd<|by rfl)<|yA _) (by refine zM ?_;exact qO) yM);exact(by refine yX ?_ ?_;exact(j8 2 (by refine yJ ?_;exact zJ) i6.nd);exact(by refine yU ?_;exact(Ev jd rfl (bH<|zA 1<|pv 1) (xD 3 i6.nd) (by refine zM ?_;exact(pI<|cW 2 (pv 2)<|zX (bI T) (hr.mono<|by decide) (by rfl) T.eN.m T.eN.F.kp T.eN.b (by refine zB (zA 3<|pv 3) ?_ (hs:=zQ);refine zB (by refine j5 ?_;exact(uK (N':=["above"]) (cap:=[]) rfl v6 (yw<|yz 2<|pv 2) (λ_ _ _ _=>(xD 0 (show(["above"]:List Str).Nodup by decide +kernel))) (λ_ _ _ _=>by exact(by refine z0 ?_ ?_;exact(zA 0<|pv 0);exact zF)) 1)) ?_;exact zJ))) (by refine yU ?_;exact(mU<|oH 2 (pv 2)<|hJ (dH T) (hr.mono<|by decide) (by rfl) T.eN.m T.eN.F.kp T.eN.b (by refine zB (zA 3<|pv 3) ?_ (hs:=zQ);refine zB (by refine j5 ?_;exact(uK (N':=["above"]) (cap:=[]) rfl v6 (yw<|yz 2<|pv 2) (λ_ _ _ _=>(xD 0 (show(["above"]:List Str).Nodup by decide +kernel))) (λ_ _ _ _=>by exact(by refine z0 ?_ ?_;exact(zA 0<|pv 0);exact zF)) 1)) ?_;exact zJ))))))))
def nH(T:Txt K mg w.params):eG P w K mg base (aZ P w) 47 T.fX.a T.fX.d ["text"] (iC K mg 1 kO):=by
 refine r_ T.fX.F i6 1 4 rfl rfl (m:=jB) λaN A outer s H E hr=>?_;unfold jB;exact(by refine yX ?_ ?_;exact(yF 1 (by refine j5 ?_;exact(cS (zA 0<|pv 0)<|zU (s:=[10])<|by rfl)) i6.nd);exact(by refine yX ?_ ?_;exact(xE (z6 bT bX (qQ (by rfl) T.eK<|zA 1<|pv 1) (bE T.Bd<|by rfl)<|yA _) (by refine zM ?_;exact qO) yM);exact(by refine yX ?_ ?_;exact(j8 2 (by refine yJ ?_;exact zJ) i6.nd);exact(by refine o8 ?_ ?_;exact(by refine yU ?_;exact(Ev jd rfl (bH<|zA 1<|pv 1) (xD 3 i6.nd) (by refine zM ?_;exact(pI<|cW 2 (pv 2)<|zX (bI T) (hr.mono<|by decide) (by rfl) T.eN.m T.eN.F.kp T.eN.b (by refine zB (zA 3<|pv 3) ?_ (hs:=zQ);refine zB (by refine j5 ?_;exact(uK (N':=["above"]) (cap:=[]) rfl v6 (yw<|yz 2<|pv 2) (λ_ _ _ _=>(xD 0 (show(["above"]:List Str).Nodup by decide +kernel))) (λ_ _ _ _=>by exact(by refine z0 ?_ ?_;exact(zA 0<|pv 0);exact zF)) 1)) ?_;exact zJ))) (by refine yU ?_;exact(mU<|oH 2 (pv 2)<|hJ (dG T) (hr.mono<|by decide) (by rfl) T.eN.m T.eN.F.kp T.eN.b (by refine zB (zA 3<|pv 3) ?_ (hs:=zQ);refine zB (by refine j5 ?_;exact(uK (N':=["above"]) (cap:=[]) rfl v6 (yw<|yz 2<|pv 2) (λ_ _ _ _=>(xD 0 (show(["above"]:List Str).Nodup by decide +kernel))) (λ_ _ _ _=>by exact(by refine z0 ?_ ?_;exact(zA 0<|pv 0);exact zF)) 1)) ?_;exact zJ)))));exact(by refine yX ?_ ?_;exact(dN jd rfl (bH<|zA 1<|pv 1) (xD 3 i6.nd) (by refine zM ?_;exact(pI<|cW 2 (pv 2)<|zX (bI T) (hr.mono<|by decide) (by rfl) T.eN.m T.eN.F.kp T.eN.b (by refine zB (zA 3<|pv 3) ?_ (hs:=zQ);refine zB (by refine j5 ?_;exact(uK (N':=["above"]) (cap:=[]) rfl v6 (yw<|yz 2<|pv 2) (λ_ _ _ _=>(xD 0 (show(["above"]:List Str).Nodup by decide +kernel))) (λ_ _ _ _=>by exact(by refine z0 ?_ ?_;exact(zA 0<|pv 0);exact zF)) 1)) ?_;exact zJ))));exact(by refine yU ?_;exact(p6 (z6 (k8 hr.aX) vB (z0 (gD (jA 2<|pv 2)<|cO zF) zF) (zU (s:=[109,97,105,110])<|by rfl)<|yA _) (by refine yU ?_;exact(YS.of<|kS T.zk T.lC.exc (by rfl)<|zU (s:=[116,104,101,32,108,97,115,116,32,100,101,102,32,105,115,32,110,111,116,32,99,97,108,108,101,100,32,109,97,105,110])<|by rfl)) gN)))))))
def Z9:b_ ["_law_script", "_law_k"] ["_law_script", "_law_k"] (zZ<|top 33):=eC
def dZ(T:Txt K mg w.params):Ok P w base T.wb 1 2 uO:=by
 refine dR T.wb.F Z9 2 2 rfl rfl (g:=vH) λaN A outer s H E hr=>?_;unfold vH;exact(by refine zI ?_ ?_;exact(xE (z6 rM rR (zA 1<|pv 1) (qQ (by rfl) T.eK<|zA 0<|pv 0)<|yA _) (by refine zM ?_;exact(by refine yH ?_;exact(z0 (zA 0<|pv 0)<|zA 1<|pv 1))) yM);exact(by refine zM ?_;exact(by refine yH ?_;exact zF)))
def Ie:b_ ["_law_cell_here", "_law_k", "_law_number"] ["_law_cell_here", "_law_k"] (zZ<|top 34):=eC
def wB(T:Txt K mg w.params):Ok P w base T.eJ 1 2 yK:=by
 refine dR T.eJ.F Ie 2 3 rfl rfl (g:=uT) λaN A outer s H E hr=>?_;unfold uT;exact(by refine zI ?_ ?_;exact(yF 2 (zL wP wQ (zL zR zS (zL zR zS (zL wP wQ (zA 0<|pv 0) zF)<|zL EB EA zF<|zA 1<|pv 1) zF) zF) Ie.nd);exact(by refine zI ?_ ?_;exact(yF 2 (zL wP wQ (zL EB EA (zA 2<|pv 2)<|zA 2<|pv 2) zF) Ie.nd);exact(by refine zM ?_;exact(by refine yH ?_;exact(zL qV qW (zL wP wQ (zL EB EA (zA 2<|pv 2)<|zL zR zS (zA 2<|pv 2) zF) zF) zF)))))
def Z8:b_ [] [] (zZ<|top 35):=eC
def YB(T:Txt K mg w.params):Ok P w base T.CN 1 0 dO:=by
 refine dR T.CN.F Z8 0 0 rfl rfl (g:=mH) λaN A outer s H E hr=>?_;unfold mH;exact(by refine zM ?_;exact(by refine yH ?_;exact(by refine j5 ?_;exact(by refine yJ ?_;exact(by refine gL (ss:=[[100,101,102],[102,110],[100,111],[101,109,112,116,121],[103,101,116],[119,105,116,104],[112,117,116],[108,101,115,115],[116,97,103],[119,105,100,101],[99,97,115,101],[110,101,118,101,114],[105,102]]) ?_;rfl)))))
def EU:b_ ["_law_number", "_law_word", "_law_k"] ["_law_number"] (zZ<|top 36):=eC
def bW(T:Txt K mg w.params):Ok P w base T.sD 2 1 uM:=by
 refine dR T.sD.F EU 1 3 rfl rfl (g:=mG) λaN A outer s H E hr=>?_;unfold mG;exact(by refine zI ?_ ?_;exact(yF 1 (zU (s:=[])<|by rfl) EU.nd);exact(by refine zI ?_ ?_;exact(dN ci rfl (ZQ (by rfl) T.Bc<|zL zR zS zF<|zL wP wQ (zA 0<|pv 0) zF) (xD 2 EU.nd) (by refine zM ?_;exact(yF 1 (zL zR zS (zA 1<|pv 1)<|z0 (zU (s:=[97,98,99,100,101,102,103,104,105,106,107,108,109,110,111,112,113,114,115,116,117,118,119,120,121,122])<|by rfl)<|zL wP wQ (zX (wB T) (hr.mono<|by decide) (by rfl) T.eJ.m T.eJ.F.kp T.eJ.b (by refine zB (zA 0<|pv 0) ?_ (hs:=zQ);refine zB (zL zR zS zF<|zA 2<|pv 2) ?_ (hs:=j9);exact zJ)) zF) EU.nd)));exact(by refine zI ?_ ?_;exact(xE (z6 dF (WN false) (zA 1<|pv 1) (Ur (YB T) (hr.mono<|by decide) (by rfl) T.CN.m T.CN.F.kp T.CN.b) rfl) (by refine zM ?_;exact(by refine yH ?_;exact(zL zR zS (zU (s:=[113])<|by rfl)<|kN (zA 1<|pv 1) (xK zF) xZ))) yM);exact(by refine zM ?_;exact(by refine yH ?_;exact(zA 1<|pv 1))))))
def Ic:b_ ["_law_cell_here", "_law_near", "_law_words"] ["_law_cell_here"] (zZ<|top 37):=eC
def mB(T:Txt K mg w.params):Ok P w base T.Ae 3 1 jZ:=by
 refine dR T.Ae.F Ic 1 3 rfl rfl (g:=uS) λaN A outer s H E hr=>?_;unfold uS;exact(by refine zI ?_ ?_;exact(yF 1 (kN (zX (bW T) (hr.mono<|by decide) (by rfl) T.sD.m T.sD.F.kp T.sD.b<|zB (zX (wB T) (hr.mono<|by decide) (by rfl) T.eJ.m T.eJ.F.kp T.eJ.b (by refine zB (zA 0<|pv 0) ?_ (hs:=zQ);refine zB zF ?_ (hs:=yR);exact zJ)) zJ (hs:=kE)) xZ<|xK zF) Ic.nd);exact(by refine zI ?_ ?_;exact(yF 2 (by refine j5 ?_;exact(by refine yJ ?_;exact(by refine zB (zA 1<|pv 1) ?_ (hs:=zQ);refine zB (zL zR zS (zA 1<|pv 1)<|zU (s:=[113])<|by rfl) ?_ (hs:=j9);refine zB (zL zR zS (kN (zA 1<|pv 1) xZ<|xK<|cO zF)<|zU (s:=[122])<|by rfl) ?_ (hs:=j9);refine zB (zL zR zS (zU (s:=[122])<|by rfl)<|kN (zA 1<|pv 1) (xK zF) xZ) ?_ (hs:=j9);exact zJ))) Ic.nd);exact(by refine zM ?_;exact(by refine yH ?_;exact(zL zR zS (zA 2<|pv 2) (by refine j5 ?_;exact(by refine yJ ?_;exact(by refine zB (zX (bW T) (hr.mono<|by decide) (by rfl) T.sD.m T.sD.F.kp T.sD.b<|zB (zX (wB T) (hr.mono<|by decide) (by rfl) T.eJ.m T.eJ.F.kp T.eJ.b (by refine zB (zA 0<|pv 0) ?_ (hs:=zQ);refine zB zF ?_ (hs:=yR);exact zJ)) zJ (hs:=kE)) ?_ (hs:=kE);refine zB (zX (bW T) (hr.mono<|by decide) (by rfl) T.sD.m T.sD.F.kp T.sD.b<|zB (zX (wB T) (hr.mono<|by decide) (by rfl) T.eJ.m T.eJ.F.kp T.eJ.b (by refine zB (zA 0<|pv 0) ?_ (hs:=zQ);refine zB zF ?_ (hs:=yR);exact zJ)) zJ (hs:=kE)) ?_ (hs:=kE);exact zJ))))))))
def ET:b_ ["_law_cell_here", "_law_number", "_law_names_here", "_law_name_here", "_law_found"] ["_law_cell_here", "_law_number", "_law_names_here"] (zZ<|top 38):=eC
def nQ(T:Txt K mg w.params):Ok P w base T.As 1 3 vK:=by
 refine dR T.As.F ET 3 5 rfl rfl (g:=j4) λaN A outer s H E hr=>?_;unfold j4;exact(by refine zI ?_ ?_;exact(xE (z6 (qH hr.aX) qI (zL wP wQ (zA 1<|pv 1) zF) zF<|yA _) (by refine zM ?_;exact(by refine yH ?_;exact(by refine qB ?_;exact(by refine zB (by refine qB ?_;exact(zB (zU (s:=[101,109,112,116,121])<|by rfl) zJ (hs:=yR))) ?_ (hs:=vW);refine zB (by refine j5 ?_;exact(by refine yJ ?_;exact(zB (zU (s:=[101,109,112,116,121])<|by rfl) zJ (hs:=yR)))) ?_ (hs:=JI);refine zB zF ?_ (hs:=yR);exact zJ)))) yM);exact(by refine zI ?_ ?_;exact(xE (z6 rM rR (zL wP wQ (zA 1<|pv 1) zF) zF<|yA _) (by refine zI ?_ ?_;exact(yF 3 (z0 (zA 2<|pv 2)<|zL wP wQ (zL qV qW (zA 1<|pv 1) zF) zF) ET.nd);exact(by refine zM ?_;exact(by refine yH ?_;exact(by refine qB ?_;exact(by refine zB (by refine qB ?_;exact(by refine zB (zU (s:=[110,97,109,101])<|by rfl) ?_ (hs:=yR);refine zB (zA 3<|pv 3) ?_ (hs:=zQ);exact zJ)) ?_ (hs:=vW);refine zB (by refine j5 ?_;exact(by refine yJ ?_;exact(zB (zA 3<|pv 3) zJ (hs:=zQ)))) ?_ (hs:=JI);refine zB zF ?_ (hs:=yR);exact zJ))))) yM);exact(by refine zI ?_ ?_;exact(yF 4 (zL wP wQ (zL zR zS (zA 0<|pv 0)<|zA 1<|pv 1)<|zL Lg Lq zF zF) ET.nd);exact(by refine zI ?_ ?_;exact(xE (z6 (qH hr.aX) qI (zL wP wQ (zL qV qW (zA 1<|pv 1) zF) zF) zF<|yA _) (by refine zM ?_;exact(yF 4 (zL wP wQ (zL qV qW (zA 1<|pv 1) zF) zF) ET.nd)) yM);exact(by refine zM ?_;exact(by refine yH ?_;exact(by refine qB ?_;exact(by refine zB (by refine qB ?_;exact(by refine zB (zU (s:=[110,117,109])<|by rfl) ?_ (hs:=yR);refine zB (zA 4<|pv 4) ?_ (hs:=zQ);exact zJ)) ?_ (hs:=vW);refine zB (by refine j5 ?_;exact(by refine yJ ?_;exact(zB (M5 (by rfl) T.EO<|zA 4<|pv 4) zJ (hs:=kE)))) ?_ (hs:=JI);refine zB zF ?_ (hs:=yR);exact zJ))))))))
def HX:b_ ["_law_number", "_law_names_here", "_law_one_here", "_law_word", "_law_name_here"] ["_law_number", "_law_names_here", "_law_one_here"] (zZ<|top 39):=eC
def WI(T:Txt K mg w.params):Ok P w base T.CL 1 3 o2:=by
 refine dR T.CL.F HX 3 5 rfl rfl (g:=uR) λaN A outer s H E hr=>?_;unfold uR;exact(by refine zI ?_ ?_;exact(by refine yF 3 ?_ ?_ ?_ ?_ ?_ ?_;exact(by refine z0 ?_ ?_;exact(by refine j5 ?_;exact(by refine yJ ?_;exact(by refine gL (ss:=[[102,110],[103,101,116],[108,101,115,115],[116,97,103],[119,105,100,101],[110,101,118,101,114]]) ?_;rfl)));exact(zL wP wQ (zA 0<|pv 0) zF));exact(id HX.nd);rfl;(first|exact Or.inl rfl|exact Or.inr rfl);rfl;(first|exact Or.inl rfl|exact Or.inr rfl));exact(by refine zI ?_ ?_;exact(yF 4 (z0 (zA 1<|pv 1)<|zL wP wQ (zL qV qW (zA 0<|pv 0) zF) zF) HX.nd);exact(by refine zI ?_ ?_;exact(xE (z6 (qH hr.aX) qI (zA 3<|pv 3) (zU (s:=[110,101,118,101,114])<|by rfl)<|yA _) (by refine zM ?_;exact(by refine yH ?_;exact(by refine qB ?_;exact(by refine zB (by refine qB ?_;exact(by refine zB (zU (s:=[110,101,118,101,114])<|by rfl) ?_ (hs:=yR);refine zB (z0 (zA 2<|pv 2) zF) ?_ (hs:=xV);exact zJ)) ?_ (hs:=vW);refine zB (zL zR zS (by refine j5 ?_;exact(by refine yJ ?_;exact(zB (zU (s:=[110,101,118,101,114])<|by rfl) zJ (hs:=yR))))<|z0 (zA 2<|pv 2) zF) ?_ (hs:=j9);refine zB (zL zR zS (z0 (zA 2<|pv 2) zF) zF) ?_ (hs:=j9);exact zJ)))) yM);exact(by refine zM ?_;exact(by refine yH ?_;exact(by refine qB ?_;exact(by refine zB (by refine qB ?_;exact(by refine zB (zA 3<|pv 3) ?_ (hs:=zQ);refine zB (zA 4<|pv 4) ?_ (hs:=zQ);refine zB (z0 (zA 2<|pv 2) zF) ?_ (hs:=xV);exact zJ)) ?_ (hs:=vW);refine zB (zL zR zS (by refine j5 ?_;exact(by refine yJ ?_;exact(by refine zB (zA 3<|pv 3) ?_ (hs:=zQ);refine zB (zA 4<|pv 4) ?_ (hs:=zQ);exact zJ)))<|z0 (zA 2<|pv 2) zF) ?_ (hs:=j9);refine zB (zL zR zS (z0 (zA 2<|pv 2) zF) zF) ?_ (hs:=j9);exact zJ)))))))
def ES:b_ ["_law_number", "_law_names_here", "_law_one_here", "_law_other", "_law_word", "_law_name_here", "_law_deep"] ["_law_number", "_law_names_here", "_law_one_here", "_law_other"] (zZ<|top 40):=eC
def pO(T:Txt K mg w.params):Ok P w base T.Aq 1 4 cY:=by
 refine dR T.Aq.F ES 4 7 rfl rfl (g:=uQ) λaN A outer s H E hr=>?_;unfold uQ;exact(by refine zI ?_ ?_;exact(by refine yF 4 ?_ ?_ ?_ ?_ ?_ ?_;exact(by refine z0 ?_ ?_;exact(by refine j5 ?_;exact(by refine yJ ?_;exact(by refine gL (ss:=[[100,111],[43],[45],[42],[60],[119,105,116,104],[112,117,116]]) ?_;rfl)));exact(zL wP wQ (zA 0<|pv 0) zF));exact(id ES.nd);rfl;(first|exact Or.inl rfl|exact Or.inr rfl);rfl;(first|exact Or.inl rfl|exact Or.inr rfl));exact(by refine zI ?_ ?_;exact(yF 5 (z0 (zA 1<|pv 1)<|zL wP wQ (zL qV qW (zA 0<|pv 0) zF) zF) ES.nd);exact(by refine zI ?_ ?_;exact(yF 6 (zL zR zS zF<|QD (by rfl) (by rfl) T.yb (by refine zB (z0 (zA 2<|pv 2) zF) ?_ (hs:=xV);refine zB (z0 (zA 3<|pv 3) zF) ?_ (hs:=xV);exact zJ)) ES.nd);exact(by refine zI ?_ ?_;exact(xE (z6 rM rR (zL wP wQ (zA 0<|pv 0) zF) zF<|yA _) (by refine zM ?_;exact(by refine yH ?_;exact(by refine qB ?_;exact(by refine zB (by refine qB ?_;exact(by refine zB (zA 4<|pv 4) ?_ (hs:=zQ);refine zB (z0 (zA 2<|pv 2) zF) ?_ (hs:=xV);refine zB (z0 (zA 3<|pv 3) zF) ?_ (hs:=xV);exact zJ)) ?_ (hs:=vW);refine zB (zL zR zS (zL zR zS (by refine j5 ?_;exact(by refine yJ ?_;exact(zB (zA 4<|pv 4) zJ (hs:=zQ))))<|z0 (zA 2<|pv 2) zF)<|z0 (zA 3<|pv 3) zF) ?_ (hs:=j9);refine zB (zA 6<|pv 6) ?_ (hs:=zQ);exact zJ)))) yM);exact(by refine zM ?_;exact(by refine yH ?_;exact(by refine qB ?_;exact(by refine zB (by refine qB ?_;exact(by refine zB (zA 4<|pv 4) ?_ (hs:=zQ);refine zB (zA 5<|pv 5) ?_ (hs:=zQ);refine zB (z0 (zA 2<|pv 2) zF) ?_ (hs:=xV);refine zB (z0 (zA 3<|pv 3) zF) ?_ (hs:=xV);exact zJ)) ?_ (hs:=vW);refine zB (zL zR zS (zL zR zS (by refine j5 ?_;exact(by refine yJ ?_;exact(by refine zB (zA 4<|pv 4) ?_ (hs:=zQ);refine zB (zA 5<|pv 5) ?_ (hs:=zQ);exact zJ)))<|z0 (zA 2<|pv 2) zF)<|z0 (zA 3<|pv 3) zF) ?_ (hs:=j9);refine zB (zA 6<|pv 6) ?_ (hs:=zQ);exact zJ))))))))
def zh:b_ ["_law_number", "_law_names_here", "_law_parts_here", "_law_one_here", "_law_other", "_law_third", "_law_deep", "_law_label", "_law_x", "_law_y", "_law_told_here"] ["_law_number", "_law_names_here", "_law_parts_here"] (zZ<|top 41):=eC
def rO(T:Txt K mg w.params):Ok P w base T.CV 1 3 gF:=by
 refine dR T.CV.F zh 3 11 rfl rfl (g:=kH) λaN A outer s H E hr=>?_;unfold kH;exact(by refine zI ?_ ?_;exact(Rx (zA 2<|pv 2)<|J2 rfl<|uA (xD 3 zh.nd)<|uA (xD 4 zh.nd)<|uA (xD 5 zh.nd) ZR);exact(by refine zI ?_ ?_;exact(yF 6 (zL zR zS zF<|QD (by rfl) (by rfl) T.yb (by refine zB (z0 (zA 3<|pv 3) zF) ?_ (hs:=xV);refine zB (z0 (zA 4<|pv 4) zF) ?_ (hs:=xV);refine zB (z0 (zA 5<|pv 5) zF) ?_ (hs:=xV);exact zJ)) zh.nd);exact(by refine zI ?_ ?_;exact(yF 7 (z0 (zA 1<|pv 1)<|zL wP wQ (zL qV qW (zA 0<|pv 0) zF) zF) zh.nd);exact(by refine zI ?_ ?_;exact(yF 8 (z0 (zA 1<|pv 1)<|zL wP wQ (zL qV qW (zA 0<|pv 0) zF) zF) zh.nd);exact(by refine zI ?_ ?_;exact(yF 9 (z0 (zA 1<|pv 1)<|zL wP wQ (zL qV qW (zA 0<|pv 0) zF) zF) zh.nd);exact(by refine zI ?_ ?_;exact(xE (z6 (qH hr.aX) qI (zL wP wQ (zA 0<|pv 0) zF) zF<|yA _) (by refine zM ?_;exact(by refine yH ?_;exact(by refine qB ?_;exact(by refine zB (by refine qB ?_;exact(by refine zB (zU (s:=[105,102])<|by rfl) ?_ (hs:=yR);refine zB (z0 (zA 3<|pv 3) zF) ?_ (hs:=xV);refine zB (z0 (zA 4<|pv 4) zF) ?_ (hs:=xV);refine zB (z0 (zA 5<|pv 5) zF) ?_ (hs:=xV);exact zJ)) ?_ (hs:=vW);refine zB (zL zR zS (zL zR zS (zL zR zS (by refine j5 ?_;exact(by refine yJ ?_;exact(zB (zU (s:=[105,102])<|by rfl) zJ (hs:=yR))))<|z0 (zA 3<|pv 3) zF)<|z0 (zA 4<|pv 4) zF)<|z0 (zA 5<|pv 5) zF) ?_ (hs:=j9);refine zB (zA 6<|pv 6) ?_ (hs:=zQ);exact zJ)))) yM);exact(by refine zI ?_ ?_;exact(yF 10 (by refine qB ?_;exact(by refine zB (zU (s:=[99,97,115,101])<|by rfl) ?_ (hs:=yR);refine zB (z0 (zA 3<|pv 3) zF) ?_ (hs:=xV);refine zB (zA 7<|pv 7) ?_ (hs:=zQ);refine zB (zA 8<|pv 8) ?_ (hs:=zQ);refine zB (z0 (zA 4<|pv 4) zF) ?_ (hs:=xV);refine zB (zA 9<|pv 9) ?_ (hs:=zQ);refine zB (z0 (zA 5<|pv 5) zF) ?_ (hs:=xV);exact zJ)) zh.nd);exact(by refine zM ?_;exact(by refine yH ?_;exact(by refine qB ?_;exact(by refine zB (zA 10<|pv 10) ?_ (hs:=zQ);refine zB (zL zR zS (zL zR zS (zL zR zS (zL zR zS (zL zR zS (by refine j5 ?_;exact(by refine yJ ?_;exact(zB (zU (s:=[99,97,115,101])<|by rfl) zJ (hs:=yR))))<|z0 (zA 3<|pv 3) zF) (by refine j5 ?_;exact(by refine yJ ?_;exact(by refine zB (zA 7<|pv 7) ?_ (hs:=zQ);refine zB (zA 8<|pv 8) ?_ (hs:=zQ);exact zJ))))<|z0 (zA 4<|pv 4) zF) (by refine j5 ?_;exact(by refine yJ ?_;exact(zB (zA 9<|pv 9) zJ (hs:=zQ)))))<|z0 (zA 5<|pv 5) zF) ?_ (hs:=j9);refine zB (zA 6<|pv 6) ?_ (hs:=zQ);exact zJ)))))))))))
def Ib:b_ ["_law_pile", "_law_cell_here", "_law_k", "_law_names_here", "_law_number", "_law_kind"] ["_law_pile", "_law_cell_here", "_law_k", "_law_names_here"] (zZ<|top 42):=eC
def rQ(T:Txt K mg w.params):Ok P w base T.CU 2 4 uY:=by
 refine dR T.CU.F Ib 4 6 rfl rfl (g:=gA) λaN A outer s H E hr=>?_;unfold gA;exact(by refine zI ?_ ?_;exact(yF 4 (zX (wB T) (hr.mono<|by decide) (by rfl) T.eJ.m T.eJ.F.kp T.eJ.b (by refine zB (zA 1<|pv 1) ?_ (hs:=zQ);refine zB (zL zR zS zF<|zA 2<|pv 2) ?_ (hs:=j9);exact zJ)) Ib.nd);exact(by refine zI ?_ ?_;exact(yF 5 (zL wP wQ (zX (wB T) (hr.mono<|by decide) (by rfl) T.eJ.m T.eJ.F.kp T.eJ.b (by refine zB (zA 1<|pv 1) ?_ (hs:=zQ);refine zB (zL zR zS zF<|zA 2<|pv 2) ?_ (hs:=j9);exact zJ)) zF) Ib.nd);exact(by refine zI ?_ ?_;exact(xE (Q6<|oD (z6 bT bX (zA 5<|pv 5) zF<|yA _)<|oD (z6 bT bX (qQ (by rfl) T.eK<|zA 0<|pv 0) zF<|yA _)<|oC<|z6 rM rR (LX (by rfl) (by rfl) T.yb (by refine i_ ?_;exact(uK (N':=["_law_item"]) (cap:=[]) rfl v6 (bH<|kN (zA 0<|pv 0) (xK<|cO zF) xZ) (λ_ _ _ _=>(xD 0 (show(["_law_item"]:List Str).Nodup by decide +kernel))) (λ_ _ _ _=>by exact(by refine z0 ?_ ?_;exact(zA 0<|pv 0);exact zF)) 1))) zF<|yA _) (by refine zM ?_;exact(by refine yH ?_;exact(zL zR zS (kN (zA 0<|pv 0) xZ<|xK<|cO zF) (by refine j5 ?_;exact(by refine yJ ?_;exact(zB (zX (rO T) (hr.mono<|by decide) (by rfl) T.CV.m T.CV.F.kp T.CV.b (by refine zB (zA 4<|pv 4) ?_ (hs:=zQ);refine zB (zA 3<|pv 3) ?_ (hs:=zQ);refine zB (kN (zA 0<|pv 0) (xK<|cO zF) xZ) ?_ (hs:=xV);exact zJ)) zJ (hs:=kE))))))) yM);exact(by refine zI ?_ ?_;exact(xE (Q6<|oD (z6 bT bX (zA 5<|pv 5) zF<|yA _)<|oD (z6 bT bX (qQ (by rfl) T.eK<|zA 0<|pv 0) zF<|yA _)<|oC<|z6 rM rR (LX (by rfl) (by rfl) T.yb (by refine i_ ?_;exact(uK (N':=["_law_item"]) (cap:=[]) rfl v6 (bH<|kN (zA 0<|pv 0) (xK<|cO zF) xZ) (λ_ _ _ _=>(xD 0 (show(["_law_item"]:List Str).Nodup by decide +kernel))) (λ_ _ _ _=>by exact(by refine z0 ?_ ?_;exact(zA 0<|pv 0);exact zF)) 1))) zF<|yA _) (by refine zM ?_;exact(by refine yH ?_;exact(zL zR zS (kN (zA 0<|pv 0) xZ<|xK<|cO zF) (by refine j5 ?_;exact(by refine yJ ?_;exact(zB (zX (pO T) (hr.mono<|by decide) (by rfl) T.Aq.m T.Aq.F.kp T.Aq.b (by refine zB (zA 4<|pv 4) ?_ (hs:=zQ);refine zB (zA 3<|pv 3) ?_ (hs:=zQ);refine zB (z0 (zA 0<|pv 0)<|cO zF) ?_ (hs:=xV);refine zB (z0 (zA 0<|pv 0)<|cO zF) ?_ (hs:=xV);exact zJ)) zJ (hs:=kE))))))) yM);exact(by refine zI ?_ ?_;exact(xE (Q6<|oD (z6 bT bX (zA 5<|pv 5) zF<|yA _)<|oD (z6 bT bX (qQ (by rfl) T.eK<|zA 0<|pv 0) zF<|yA _)<|oC<|z6 rM rR (z0 (z0 (zA 0<|pv 0)<|cO zF) zF) zF<|yA _) (by refine zM ?_;exact(by refine yH ?_;exact(zL zR zS (kN (zA 0<|pv 0) xZ<|xK<|cO zF) (by refine j5 ?_;exact(by refine yJ ?_;exact(zB (zX (WI T) (hr.mono<|by decide) (by rfl) T.CL.m T.CL.F.kp T.CL.b (by refine zB (zA 4<|pv 4) ?_ (hs:=zQ);refine zB (zA 3<|pv 3) ?_ (hs:=zQ);refine zB (z0 (zA 0<|pv 0)<|cO zF) ?_ (hs:=xV);exact zJ)) zJ (hs:=kE))))))) yM);exact(by refine zM ?_;exact(by refine yH ?_;exact(zL zR zS (zA 0<|pv 0) (by refine j5 ?_;exact(by refine yJ ?_;exact(zB (zX (nQ T) (hr.mono<|by decide) (by rfl) T.As.m T.As.F.kp T.As.b (by refine zB (zA 1<|pv 1) ?_ (hs:=zQ);refine zB (zA 4<|pv 4) ?_ (hs:=zQ);refine zB (zA 3<|pv 3) ?_ (hs:=zQ);exact zJ)) zJ (hs:=kE))))))))))))
def EV:b_ ["_law_pile", "_law_cell_here", "_law_names_here", "_law_k"] ["_law_pile", "_law_cell_here", "_law_names_here"] (zZ<|top 43):=eC
def pF(T:Txt K mg w.params):Ok P w base T.C0 2 3 vS:=by
 refine dR T.C0.F EV 3 4 rfl rfl (g:=vO) λaN A outer s H E hr=>?_;unfold vO;exact(by refine zI ?_ ?_;exact(yF 3 zF EV.nd);exact(by refine zI ?_ ?_;exact(oV WF ci (z6 bT bX (qQ (by rfl) T.eK<|zA 0<|pv 0) zF<|yA _) (by refine zI ?_ ?_;exact(yF 0 (zL zR zS (kN (zA 0<|pv 0) (xK zF) xZ) (by refine j5 ?_;exact(by refine yJ ?_;exact(zB (zX (pO T) (hr.mono<|by decide) (by rfl) T.Aq.m T.Aq.F.kp T.Aq.b (by refine zB (zX (wB T) (hr.mono<|by decide) (by rfl) T.eJ.m T.eJ.F.kp T.eJ.b (by refine zB (zA 1<|pv 1) ?_ (hs:=zQ);refine zB (zL zR zS zF<|zA 3<|pv 3) ?_ (hs:=j9);exact zJ)) ?_ (hs:=kE);refine zB (zA 2<|pv 2) ?_ (hs:=zQ);refine zB (z0 (zA 0<|pv 0) zF) ?_ (hs:=xV);refine zB (z0 (zA 0<|pv 0) zF) ?_ (hs:=xV);exact zJ)) zJ (hs:=kE))))) EV.nd);exact(by refine zM ?_;exact(yF 3 (zL zR zS (zA 3<|pv 3) zF) EV.nd))));exact(by refine zM ?_;exact(by refine yH ?_;exact(z0 (zA 0<|pv 0) zF)))))
def CO:b_ ["_law_told_here", "_law_known", "_law_free_here", "_law_inner"] ["_law_told_here", "_law_known"] (zZ<|top 44):=eC
theorem nU:∀(k:Nat) (T:Txt K mg w.params),Ok P w base T.iF (k+0) 2 (qY k)
 |0,T=>Jg 2
 |k+1,T=>by
  have G:=nU k T;rw[show k+1+0=(k+0)+1 by omega];refine dR T.iF.F CO 2 4 rfl rfl (g:=kM<|qY k) λaN A outer s H E hr=>?_;unfold kM;exact(by refine zI ?_ ?_;exact(xE (z6 (qH hr.aX) qI (z0 (zA 0<|pv 0) zF) (zU (s:=[110,97,109,101])<|by rfl)<|yA _) (by refine zM ?_;exact(by refine yH ?_;exact(kN (by refine j5 ?_;exact(by refine yJ ?_;exact(zB (z0 (zA 0<|pv 0) zF) zJ (hs:=xV)))) xZ<|xK<|GP (by rfl) T.Ba<|mP uP (WN true) (z0 (zA 0<|pv 0) zF) (zA 1<|pv 1) rfl))) yM);exact(by refine zI ?_ ?_;exact(xE (z6 (qH hr.aX) qI (z0 (zA 0<|pv 0) zF) (zU (s:=[102,110])<|by rfl)<|yA _) (by refine zM ?_;exact(by refine yH ?_;exact(zX G (hr.mono<|by omega) (by rfl) T.iF.m T.iF.F.kp T.iF.b (by refine zB (z0 (zA 0<|pv 0) zF) ?_ (hs:=xV);refine zB (zL zR zS (zA 1<|pv 1) (by refine j5 ?_;exact(by refine yJ ?_;exact(zB (z0 (zA 0<|pv 0) zF) zJ (hs:=xV))))) ?_ (hs:=j9);exact zJ)))) yM);exact(by refine zI ?_ ?_;exact(xE (z6 (qH hr.aX) qI (z0 (zA 0<|pv 0) zF) (zU (s:=[99,97,115,101])<|by rfl)<|yA _) (by refine zI ?_ ?_;exact(yF 2 (zL zR zS (zX G (hr.mono<|by omega) (by rfl) T.iF.m T.iF.F.kp T.iF.b (by refine zB (z0 (zA 0<|pv 0) zF) ?_ (hs:=xV);refine zB (zA 1<|pv 1) ?_ (hs:=zQ);exact zJ))<|zX G (hr.mono<|by omega) (by rfl) T.iF.m T.iF.F.kp T.iF.b (by refine zB (z0 (zA 0<|pv 0) zF) ?_ (hs:=xV);refine zB (zL zR zS (zA 1<|pv 1) (by refine j5 ?_;exact(by refine yJ ?_;exact(zB (z0 (zA 0<|pv 0) zF) zJ (hs:=xV))))) ?_ (hs:=j9);exact zJ)) CO.nd);exact(by refine zM ?_;exact(by refine yH ?_;exact(zL zR zS (zA 2<|pv 2)<|zX G (hr.mono<|by omega) (by rfl) T.iF.m T.iF.F.kp T.iF.b (by refine zB (z0 (zA 0<|pv 0) zF) ?_ (hs:=xV);refine zB (zL zR zS (zA 1<|pv 1) (by refine j5 ?_;exact(by refine yJ ?_;exact(zB (z0 (zA 0<|pv 0) zF) zJ (hs:=xV))))) ?_ (hs:=j9);exact zJ))))) yM);exact(by refine zI ?_ ?_;exact(yF 2 (by refine j5 ?_;exact(by refine yJ ?_;exact zJ)) CO.nd);exact(by refine zI ?_ ?_;exact(dN ci rfl (bH<|kN (zA 0<|pv 0) (xK zF) xZ) (xD 3 CO.nd) (by refine zM ?_;exact(xE (qP<|QF (by rfl) T.iL (zA 3<|pv 3)<|ZE (by rfl) T.CG boot_tuple rfl) (by refine zM ?_;exact(yF 2 (zL zR zS (zA 2<|pv 2)<|zX G (hr.mono<|by omega) (by rfl) T.iF.m T.iF.F.kp T.iF.b (by refine zB (zA 3<|pv 3) ?_ (hs:=zQ);refine zB (zA 1<|pv 1) ?_ (hs:=zQ);exact zJ)) CO.nd)) yM)));exact(by refine zM ?_;exact(by refine yH ?_;exact(zA 2<|pv 2))))))))
def Ai:b_ ["_law_item", "_law_cell_here", "_law_known", "_law_free_here", "_law_number", "_law_name_here", "_law_word"] ["_law_item", "_law_cell_here", "_law_known"] (zZ<|top 45):=eC
def pG(T:Txt K mg w.params):Ok P w base T.CZ 151 3 vT:=by
 refine dR T.CZ.F Ai 3 7 rfl rfl (g:=vP) λaN A outer s H E hr=>?_;unfold vP;exact(by refine zI ?_ ?_;exact(yF 3 (zX (nU cX T) (hr.mono<|by decide) (by rfl) T.iF.m T.iF.F.kp T.iF.b (by refine zB (z0 (zA 0<|pv 0) zF) ?_ (hs:=xV);refine zB (zA 2<|pv 2) ?_ (hs:=zQ);exact zJ)) Ai.nd);exact(by refine zI ?_ ?_;exact(oV WF ci (z6 (k8 hr.aX) vB (zA 3<|pv 3) (by refine j5 ?_;exact(by refine yJ ?_;exact zJ))<|yA _) (by refine zI ?_ ?_;exact(yF 4 (zX (wB T) (hr.mono<|by decide) (by rfl) T.eJ.m T.eJ.F.kp T.eJ.b (by refine zB (zA 1<|pv 1) ?_ (hs:=zQ);refine zB (zL zR zS zF<|z0 (zA 0<|pv 0) zF) ?_ (hs:=j9);exact zJ)) Ai.nd);exact(by refine zI ?_ ?_;exact(yF 5 (z0 (zA 3<|pv 3)<|zL wP wQ (zA 4<|pv 4)<|qQ (by rfl) T.eK<|zA 3<|pv 3) Ai.nd);exact(by refine zI ?_ ?_;exact(yF 0 (by refine qB ?_;exact(by refine zB (by refine qB ?_;exact(by refine zB (zU (s:=[102,110])<|by rfl) ?_ (hs:=yR);refine zB (zA 5<|pv 5) ?_ (hs:=zQ);refine zB (z0 (zA 0<|pv 0) zF) ?_ (hs:=xV);exact zJ)) ?_ (hs:=vW);refine zB (zL zR zS (by refine j5 ?_;exact(by refine yJ ?_;exact(by refine zB (zU (s:=[102,110])<|by rfl) ?_ (hs:=yR);refine zB (zA 5<|pv 5) ?_ (hs:=zQ);exact zJ)))<|z0 (zA 0<|pv 0) zF) ?_ (hs:=j9);refine zB (zL zR zS (z0 (zA 0<|pv 0) zF) zF) ?_ (hs:=j9);exact zJ)) Ai.nd);exact(by refine zI ?_ ?_;exact(xE (z6 bT bX (zL wP wQ (zL qV qW (zA 4<|pv 4) zF) zF) zF<|yA _) (by refine zI ?_ ?_;exact(yF 6 (M5 (by rfl) T.EO<|zL wP wQ (zL qV qW (zA 4<|pv 4) zF)<|zL Lg Lq zF zF) Ai.nd);exact(by refine zM ?_;exact(yF 0 (by refine qB ?_;exact(by refine zB (by refine qB ?_;exact(by refine zB (zU (s:=[100,111])<|by rfl) ?_ (hs:=yR);refine zB (z0 (zA 0<|pv 0) zF) ?_ (hs:=xV);refine zB (by refine qB ?_;exact(by refine zB (zU (s:=[110,117,109])<|by rfl) ?_ (hs:=yR);refine zB (M4 (by rfl) T.Ba<|zA 6<|pv 6) ?_ (hs:=kE);exact zJ)) ?_ (hs:=vW);exact zJ)) ?_ (hs:=vW);refine zB (zL zR zS (zL zR zS (by refine j5 ?_;exact(by refine yJ ?_;exact(zB (zU (s:=[100,111])<|by rfl) zJ (hs:=yR))))<|z0 (zA 0<|pv 0) zF) (by refine j5 ?_;exact(by refine yJ ?_;exact(zB (zA 6<|pv 6) zJ (hs:=zQ))))) ?_ (hs:=j9);refine zB (zL zR zS (z0 (zA 0<|pv 0) zF) zF) ?_ (hs:=j9);exact zJ)) Ai.nd))) yM);exact(by refine zM ?_;exact(W9 3 (N':=["_law_name_here", "_law_other"]) (cap:=[5]) rfl v6 (bH<|zA 3<|pv 3) (λ_ _ _ _=>(xD 1 (show(["_law_name_here", "_law_other"]:List Str).Nodup by decide +kernel))) (λ_ _ _ _=>by exact(z6 (k8<|by exact hr.aX) vB (zA 1<|pv 1) (zA 0<|pv 0)<|yA _)) (λ_ _ _ _=>by exact(zA 1<|pv 1)) 2 Ai.nd)))))));exact(by refine zM ?_;exact(by refine yH ?_;exact(zA 0<|pv 0)))))
def Cy:b_ ["_law_cell_here", "_law_many", "_law_base", "_law_at", "_law_named_here", "_law_k"] ["_law_cell_here", "_law_many"] (zZ<|top 46):=eC
def gU(T:Txt K mg w.params):Ok P w base T.C7 3 2 kU:=by
 refine dR T.C7.F Cy 2 6 rfl rfl (g:=jQ) λaN A outer s H E hr=>?_;unfold jQ;exact(by refine zI ?_ ?_;exact(yF 2 (zL zR zS (zU (s:=[113])<|by rfl)<|kN (zX (bW T) (hr.mono<|by decide) (by rfl) T.sD.m T.sD.F.kp T.sD.b<|zB (zA 0<|pv 0) zJ (hs:=zQ)) xZ<|xK zF) Cy.nd);exact(by refine zI ?_ ?_;exact(yF 3 (zL wP wQ (zL qV qW (zA 0<|pv 0) zF)<|qQ (by rfl) T.eK<|zA 2<|pv 2) Cy.nd);exact(by refine zI ?_ ?_;exact(j8 4 (by refine yJ ?_;exact zJ) Cy.nd);exact(by refine zI ?_ ?_;exact(dN ci rfl (ZQ (by rfl) T.Bc<|zL nG nW (zA 1<|pv 1) zF) (xD 5 Cy.nd) (by refine zM ?_;exact(pI<|wY 4 (pv 4)<|zL zR zS (zL zR zS (kN (zA 2<|pv 2) xZ<|xK<|zA 3<|pv 3)<|z0 (zU (s:=[97,98,99,100,101,102,103,104,105,106,107,108,109])<|by rfl)<|zA 5<|pv 5)<|kN (zA 2<|pv 2) (xK<|zA 3<|pv 3) xZ)));exact(Ry 4 (by refine zM ?_;exact(by refine yH ?_;exact(zL zR zS (zA 4<|pv 4) (by refine j5 ?_;exact(by refine yJ ?_;exact(zB (zU (s:=[109,97,105,110])<|by rfl) zJ (hs:=yR))))))))))))
def sS:b_ ["_law_cells", "_law_first", "_law_second", "_law_many", "_law_callings", "_law_defs_here", "_law_k", "_law_above", "_law_names_here", "_law_mine", "_law_pile", "_law_j", "_law_cell_here", "_law_item"] ["_law_cells", "_law_first", "_law_second"] (zZ<|top 47):=eC
def YC(T:Txt K mg w.params):Ok P w base T.CM 152 3 uN:=by
 refine dR T.CM.F sS 3 14 rfl rfl (g:=bL) λaN A outer s H E hr=>?_;unfold bL;exact(by refine zI ?_ ?_;exact(yF 3 (zL zR zS (zL zR zS zF<|zL qV qW (QD (by rfl) (by rfl) T.yb (by refine zB (zL nG nW (qQ (by rfl) T.eK<|zA 0<|pv 0) zF) ?_ (hs:=j9);refine zB (zL wP wQ (zA 1<|pv 1) zF) ?_ (hs:=j9);exact zJ)) zF)<|zL wP wQ (zL qV qW (zA 1<|pv 1) zF) zF) sS.nd);exact(by refine zI ?_ ?_;exact(yF 4 (zX (gU T) (hr.mono<|by decide) (by rfl) T.C7.m T.C7.F.kp T.C7.b (by refine zB (zA 2<|pv 2) ?_ (hs:=zQ);refine zB (zA 3<|pv 3) ?_ (hs:=zQ);exact zJ)) sS.nd);exact(by refine zI ?_ ?_;exact(j8 5 (by refine yJ ?_;exact zJ) sS.nd);exact(by refine zI ?_ ?_;exact(dN ci rfl (ZQ (by rfl) T.Bc<|zA 3<|pv 3) (xD 6 sS.nd) (by refine zI ?_ ?_;exact(yF 7 (kN (zA 4<|pv 4) (xK<|QD (by rfl) (by rfl) T.yb (by refine zB zF ?_ (hs:=yR);refine zB (zL nG nW (zA 6<|pv 6) zF) ?_ (hs:=j9);exact zJ))<|xK<|zL zR zS (zA 6<|pv 6) zF) sS.nd);exact(by refine zI ?_ ?_;exact(yF 8 (zL zR zS (kN (zX (mB T) (hr.mono<|by decide) (by rfl) T.Ae.m T.Ae.F.kp T.Ae.b<|zB (zX (wB T) (hr.mono<|by decide) (by rfl) T.eJ.m T.eJ.F.kp T.eJ.b (by refine zB (zA 2<|pv 2) ?_ (hs:=zQ);refine zB (zA 6<|pv 6) ?_ (hs:=zQ);exact zJ)) zJ (hs:=kE)) xZ<|xK<|zL nG nW zF<|qQ (by rfl) T.eK<|zA 7<|pv 7)<|zA 7<|pv 7) sS.nd);exact(by refine zI ?_ ?_;exact(W9 9 (N':=["_law_many", "_law_k", "_law_j", "_law_cell_here"]) (cap:=[3,6]) rfl v6 (Sr (by rfl) T.HY<|zA 0<|pv 0) (λ_ _ _ _=>(J2 rfl<|uA (xD 2 (show(["_law_many", "_law_k", "_law_j", "_law_cell_here"]:List Str).Nodup by decide +kernel))<|uA (xD 3 (show(["_law_many", "_law_k", "_law_j", "_law_cell_here"]:List Str).Nodup by decide +kernel)) ZR)) (λ_ _ _ _=>by exact(z6 (qH<|by exact hr.aX) qI (zL wP wQ (zA 2<|pv 2)<|zA 0<|pv 0) (zA 1<|pv 1)<|yA _)) (λ_ _ _ _=>by exact(by refine qB ?_;exact(by refine zB ?_ ?_;exact(zA 2<|pv 2);refine zB ?_ ?_;exact(zA 3<|pv 3);exact zJ))) 4 sS.nd);exact(by refine zI ?_ ?_;exact(yF 10 (by refine j5 ?_;exact(by refine yJ ?_;exact(zB (zX (nQ T) (hr.mono<|by decide) (by rfl) T.As.m T.As.F.kp T.As.b (by refine zB (zA 2<|pv 2) ?_ (hs:=zQ);refine zB (zX (wB T) (hr.mono<|by decide) (by rfl) T.eJ.m T.eJ.F.kp T.eJ.b (by refine zB (zA 2<|pv 2) ?_ (hs:=zQ);refine zB (zL zR zS zF<|zA 6<|pv 6) ?_ (hs:=j9);exact zJ)) ?_ (hs:=kE);refine zB (zA 8<|pv 8) ?_ (hs:=zQ);exact zJ)) zJ (hs:=kE)))) sS.nd);exact(by refine zI ?_ ?_;exact(dN ci rfl (bH<|zA 9<|pv 9) (J2 rfl<|uA (xD 11 sS.nd)<|uA (xD 12 sS.nd) ZR) (by refine zM ?_;exact(yF 10 (zX (rQ T) (hr.mono<|by decide) (by rfl) T.CU.m T.CU.F.kp T.CU.b (by refine zB (zA 10<|pv 10) ?_ (hs:=zQ);refine zB (zA 12<|pv 12) ?_ (hs:=zQ);refine zB (zA 11<|pv 11) ?_ (hs:=zQ);refine zB (zA 8<|pv 8) ?_ (hs:=zQ);exact zJ)) sS.nd)));exact(by refine zI ?_ ?_;exact(yF 13 (zX (pG T) (hr.mono<|by decide) (by rfl) T.CZ.m T.CZ.F.kp T.CZ.b (by refine zB (zX (pF T) (hr.mono<|by decide) (by rfl) T.C0.m T.C0.F.kp T.C0.b (by refine zB (zA 10<|pv 10) ?_ (hs:=zQ);refine zB (zA 2<|pv 2) ?_ (hs:=zQ);refine zB (zA 8<|pv 8) ?_ (hs:=zQ);exact zJ)) ?_ (hs:=kE);refine zB (zA 2<|pv 2) ?_ (hs:=zQ);refine zB (kN (zA 4<|pv 4) xZ<|xK<|zL zR zS (zA 6<|pv 6) zF) ?_ (hs:=xV);exact zJ)) sS.nd);exact(by refine zM ?_;exact(pI<|wY 5 (pv 5) (by refine qB ?_;exact(by refine zB (z0 (zA 4<|pv 4)<|zA 6<|pv 6) ?_ (hs:=xV);refine zB (zA 13<|pv 13) ?_ (hs:=zQ);exact zJ)))))))))));exact(by refine zM ?_;exact(tJ 5<|pv 5))))))
def Ia:b_ ["_law_word", "_law_words", "_law_shapes"] ["_law_word"] (zZ<|top 48):=eC
def hZ(T:Txt K mg w.params):Ok P w base T.Ad 1 1 jG:=by
 refine dR T.Ad.F Ia 1 3 rfl rfl (g:=d0) λaN A outer s H E hr=>?_;unfold d0;exact(by refine zI ?_ ?_;exact(by refine yF 1 ?_ ?_ ?_ ?_ ?_ ?_;exact(by refine j5 ?_;exact(by refine yJ ?_;exact(by refine gL (ss:=[[101,109,112,116,121],[102,110],[100,111],[103,101,116],[119,105,116,104],[112,117,116],[108,101,115,115],[116,97,103],[119,105,100,101],[99,97,115,101],[110,101,118,101,114],[105,102],[43],[45],[42]]) ?_;rfl)));exact(id Ia.nd);rfl;(first|exact Or.inl rfl|exact Or.inr rfl);rfl;(first|exact Or.inl rfl|exact Or.inr rfl));exact(by refine zI ?_ ?_;exact(by refine yF 2 ?_ ?_ ?_ ?_ ?_ ?_;exact(by refine j5 ?_;exact(by refine yJ ?_;exact(by refine gL (ss:=[[],[110,101],[101,101],[110,101],[110,101,101],[110,101,101],[110,101],[110,101],[110,101],[101,110,110,101,110,101],[101],[101,101,101],[101,101],[101,101],[101,101]]) ?_;rfl)));exact(id Ia.nd);rfl;(first|exact Or.inl rfl|exact Or.inr rfl);rfl;(first|exact Or.inl rfl|exact Or.inr rfl));exact(by refine zI ?_ ?_;exact(xE (z6 (qH hr.aX) qI (zA 0<|pv 0) (zU (s:=[60])<|by rfl)<|yA _) (by refine zM ?_;exact(by refine yH ?_;exact(zU (s:=[101,101])<|by rfl))) yM);exact(by refine zI ?_ ?_;exact(xE (z6 dF (WN false) (zA 0<|pv 0) (zA 1<|pv 1) rfl) (by refine zM ?_;exact(by refine yH ?_;exact(z0 (zA 2<|pv 2)<|Us (zA 1<|pv 1)<|zA 0<|pv 0))) yM);exact(by refine zM ?_;exact(by refine yH ?_;exact bZ))))))
def N3:b_ ["_law_word", "_law_signs", "_law_sign"] ["_law_word", "_law_signs"] (zZ<|top 49):=eC
def gK(T:Txt K mg w.params):Ok P w base T.Af 1 2 kR:=by
 refine dR T.Af.F N3 2 3 rfl rfl (g:=bC) λaN A outer s H E hr=>?_;unfold bC;exact(by refine zI ?_ ?_;exact(dN ci rfl (J1<|zA 0<|pv 0) (xD 2 N3.nd) (by refine zM ?_;exact(xE (z6 VB (Rl true) (zA 2<|pv 2) (zA 1<|pv 1) rfl) (by refine zM ?_;exact(by refine yH ?_;exact AT)) yM)));exact(by refine zM ?_;exact(by refine yH ?_;exact(mP (k8 hr.aX) vB (zA 0<|pv 0) (zU (s:=[])<|by rfl)<|yA _))))
def nA:b_ ["_law_word"] ["_law_word"] (zZ<|top 50):=eC
def dI(T:Txt K mg w.params):Ok P w base T.Aj 2 1 wJ:=by
 refine dR T.Aj.F nA 1 1 rfl rfl (g:=k6) λaN A outer s H E hr=>?_;unfold k6;exact(by refine zI ?_ ?_;exact(xE (Q6<|cR (z6 bT bX (qQ (by rfl) T.eK<|zA 0<|pv 0) zF<|yA _)<|cR (z6 (qH hr.aX) qI (zA 0<|pv 0) (zU (s:=[100,101,102])<|by rfl)<|yA _)<|gC<|z6 MH MD (zX (hZ T) (hr.mono<|by decide) (by rfl) T.Ad.m T.Ad.F.kp T.Ad.b<|zB (zA 0<|pv 0) zJ (hs:=zQ)) bZ<|yA _) (by refine zM ?_;exact(by refine yH ?_;exact AT)) yM);exact(by refine zM ?_;exact(by refine yH ?_;exact(zX (gK T) (hr.mono<|by decide) (by rfl) T.Af.m T.Af.F.kp T.Af.b (by refine zB (zA 0<|pv 0) ?_ (hs:=zQ);refine zB (zU (s:=[97,98,99,100,101,102,103,104,105,106,107,108,109,110,111,112,113,114,115,116,117,118,119,120,121,122])<|by rfl) ?_ (hs:=yR);exact zJ)))))
def gQ:b_ ["_law_word"] ["_law_word"] (zZ<|top 51):=eC
def gT(T:Txt K mg w.params):Ok P w base T.C6 2 1 jS:=by
 refine dR T.C6.F gQ 1 1 rfl rfl (g:=v9) λaN A outer s H E hr=>?_;unfold v9;exact(by refine zI ?_ ?_;exact(xE (Q6<|cR (z6 bT bX (qQ (by rfl) T.eK<|zA 0<|pv 0) zF<|yA _)<|gC<|uV<|qP<|zX (gK T) (hr.mono<|by decide) (by rfl) T.Af.m T.Af.F.kp T.Af.b (by refine zB (zA 0<|pv 0) ?_ (hs:=zQ);refine zB (zU (s:=[48,49,50,51,52,53,54,55,56,57])<|by rfl) ?_ (hs:=yR);exact zJ)) (by refine zM ?_;exact(by refine yH ?_;exact AT)) yM);exact(by refine zM ?_;exact(by refine yH ?_;exact(KC (mP (qH hr.aX) qI (zA 0<|pv 0) (zU (s:=[48])<|by rfl)<|yA _)<|Ej<|mP (k8 hr.aX) vB (z0 (zA 0<|pv 0) zF) (zU (s:=[48])<|by rfl)<|yA _))))
def m9:b_ ["_law_free_here", "_law_name_here"] ["_law_free_here", "_law_name_here"] (zZ<|top 52):=eC
def bB(T:Txt K mg w.params):Ok P w base T.we 1 2 xX:=by
 refine dR T.we.F m9 2 2 rfl rfl (g:=kZ) λaN A outer s H E hr=>?_;unfold kZ;exact(by refine zM ?_;exact(by refine yH ?_;exact(by refine j5 ?_;exact(QA (N':=["_law_name_here", "_law_other"]) (cap:=[1]) rfl v6 (bH<|zA 0<|pv 0) (λ_ _ _ _=>(xD 1 (show(["_law_name_here", "_law_other"]:List Str).Nodup by decide +kernel))) (λ_ _ _ _=>by exact(z6 (k8<|by exact hr.aX) vB (zA 1<|pv 1) (zA 0<|pv 0)<|yA _)) (λ_ _ _ _=>by exact(zA 1<|pv 1)) 2))))
def sG:b_ ["_law_pile", "_law_word", "_law_shape_here", "_law_deep", "_law_size", "_law_labels", "_law_frees", "_law_sign", "_law_item", "_law_free_here", "_law_one_here"] ["_law_pile", "_law_word", "_law_shape_here"] (zZ<|top 53):=eC
def rP(T:Txt K mg w.params):Ok P w base T.CT 2 3 jY:=by
 refine dR T.CT.F sG 3 11 rfl rfl (g:=vG) λaN A outer s H E hr=>?_;unfold vG;exact(by refine zI ?_ ?_;exact(yF 3 zF sG.nd);exact(by refine zI ?_ ?_;exact(yF 4 zF sG.nd);exact(by refine zI ?_ ?_;exact(j8 5 (by refine yJ ?_;exact zJ) sG.nd);exact(by refine zI ?_ ?_;exact(j8 6 (by refine yJ ?_;exact zJ) sG.nd);exact(by refine zI ?_ ?_;exact(dN ci rfl (J1<|zA 2<|pv 2) (xD 7 sG.nd) (by refine zI ?_ ?_;exact(xE (Uw hr.aX (jA 0<|pv 0) (by refine i_ ?_;exact(by refine yJ ?_;exact zJ))) (by refine zM ?_;exact(by refine yH ?_;exact bZ)) yM);exact(by refine zI ?_ ?_;exact(bD 8 (YI 0<|pv 0) sG.nd);exact(by refine zI ?_ ?_;exact(xE (Q6<|oD (z6 (qH hr.aX) qI (zA 7<|pv 7) (zU (s:=[110])<|by rfl)<|yA _)<|oC<|uV<|qP<|z0 (zA 8<|pv 8) zF) (by refine zM ?_;exact(by refine yH ?_;exact bZ)) yM);exact(by refine zM ?_;exact(xE (z6 (qH hr.aX) qI (zA 7<|pv 7) (zU (s:=[110])<|by rfl)<|yA _) (by refine zM ?_;exact(pI<|wY 5 (pv 5)<|z0 (z0 (zA 8<|pv 8) zF) zF)) (by refine zI ?_ ?_;exact(yF 3 (QD (by rfl) (by rfl) T.yb (by refine zB (zA 3<|pv 3) ?_ (hs:=zQ);refine zB (zL zR zS (z0 (zA 8<|pv 8) zF) zF) ?_ (hs:=j9);exact zJ)) sG.nd);exact(by refine zI ?_ ?_;exact(yF 4 (zL zR zS (zA 4<|pv 4)<|z0 (zA 8<|pv 8) zF) sG.nd);exact(by refine zM ?_;exact(pI<|wY 6 (pv 6)<|z0 (zA 8<|pv 8) zF))))))))));exact(by refine zI ?_ ?_;exact(xE (z6 bT bX (zA 3<|pv 3) zF<|yA _) (by refine zM ?_;exact(by refine yH ?_;exact bZ)) yM);exact(by refine zI ?_ ?_;exact(xE (z6 (qH hr.aX) qI (zA 1<|pv 1) (zU (s:=[102,110])<|by rfl)<|yA _) (by refine zM ?_;exact(j8 6 (by refine yJ ?_;exact(zB (zX (bB T) (hr.mono<|by decide) (by rfl) T.we.m T.we.F.kp T.we.b (by refine zB (gD (jA 6<|pv 6) zF) ?_ (hs:=xV);refine zB (gD (jA 5<|pv 5) zF) ?_ (hs:=xV);exact zJ)) zJ (hs:=kE))) sG.nd)) yM);exact(by refine zI ?_ ?_;exact(xE (z6 (qH hr.aX) qI (zA 1<|pv 1) (zU (s:=[99,97,115,101])<|by rfl)<|yA _) (by refine zM ?_;exact(j8 6 (by refine yJ ?_;exact(by refine zB (gD (jA 6<|pv 6) zF) ?_ (hs:=xV);refine zB (zX (bB T) (hr.mono<|by decide) (by rfl) T.we.m T.we.F.kp T.we.b (by refine zB (gD (jA 6<|pv 6) zF) ?_ (hs:=xV);refine zB (gD (jA 5<|pv 5) zF) ?_ (hs:=xV);exact zJ)) ?_ (hs:=kE);refine zB (zX (bB T) (hr.mono<|by decide) (by rfl) T.we.m T.we.F.kp T.we.b (by refine zB (gD (jA 6<|pv 6) zF) ?_ (hs:=xV);refine zB (gD (jA 5<|pv 5) zF) ?_ (hs:=xV);exact zJ)) ?_ (hs:=kE);exact zJ)) sG.nd)) yM);exact(by refine zI ?_ ?_;exact(yF 9 (by refine j5 ?_;exact(by refine yJ ?_;exact zJ)) sG.nd);exact(by refine zI ?_ ?_;exact(O5 6<|dN ci rfl (yw<|yz 6<|pv 6) (xD 10 sG.nd) (by refine zM ?_;exact(yF 9 (zL zR zS (zA 9<|pv 9)<|zA 10<|pv 10) sG.nd)));exact(by refine zM ?_;exact(by refine yH ?_;exact(by refine qB ?_;exact(by refine zB AT ?_ (hs:=yR);refine zB (zA 3<|pv 3) ?_ (hs:=zQ);refine zB (zA 4<|pv 4) ?_ (hs:=zQ);refine zB (zA 9<|pv 9) ?_ (hs:=zQ);exact zJ))))))))))))))
def Ah:b_ ["_law_words", "_law_pile", "_law_word", "_law_shape_here", "_law_item"] ["_law_words"] (zZ<|top 54):=eC
def pE(T:Txt K mg w.params):Ok P w base T.CY 3 1 jD:=by
 refine dR T.CY.F Ah 1 5 rfl rfl (g:=kL) λaN A outer s H E hr=>?_;unfold kL;exact(by refine zI ?_ ?_;exact(j8 1 (by refine yJ ?_;exact zJ) Ah.nd);exact(by refine zI ?_ ?_;exact(dN ci rfl (Sq (by rfl) T.ER<|zA 0<|pv 0) (xD 2 Ah.nd) (by refine zI ?_ ?_;exact(yF 3 (zX (hZ T) (hr.mono<|by decide) (by rfl) T.Ad.m T.Ad.F.kp T.Ad.b<|zB (zA 2<|pv 2) zJ (hs:=zQ)) Ah.nd);exact(by refine zI ?_ ?_;exact(yF 4 bZ Ah.nd);exact(by refine zI ?_ ?_;exact(xE (z6 MH MD (zA 3<|pv 3) bZ<|yA _) (by refine zM ?_;exact(bD 4 (cE (rP T) (hr.mono<|by decide) (by rfl) T.CT.m T.CT.F.kp T.CT.b<|j_ (pv 1) (by refine zB (zA 2<|pv 2) ?_ (hs:=zQ);refine zB (zA 3<|pv 3) ?_ (hs:=zQ);exact zJ)) Ah.nd)) (by refine zM ?_;exact(xE (qP<|zX (dI T) (hr.mono<|by decide) (by rfl) T.Aj.m T.Aj.F.kp T.Aj.b<|zB (zA 2<|pv 2) zJ (hs:=zQ)) (by refine zM ?_;exact(yF 4 (by refine qB ?_;exact(by refine zB AT ?_ (hs:=yR);refine zB zF ?_ (hs:=yR);refine zB zF ?_ (hs:=yR);refine zB (by refine j5 ?_;exact(by refine yJ ?_;exact(zB (zA 2<|pv 2) zJ (hs:=zQ)))) ?_ (hs:=JI);exact zJ)) Ah.nd)) (by refine zM ?_;exact(xE (qP<|zX (gT T) (hr.mono<|by decide) (by rfl) T.C6.m T.C6.F.kp T.C6.b<|zB (zA 2<|pv 2) zJ (hs:=zQ)) (by refine zM ?_;exact(yF 4 (by refine qB ?_;exact(by refine zB AT ?_ (hs:=yR);refine zB zF ?_ (hs:=yR);refine zB zF ?_ (hs:=yR);refine zB (by refine j5 ?_;exact(by refine yJ ?_;exact zJ)) ?_ (hs:=JI);exact zJ)) Ah.nd)) yM)))));exact(by refine zI ?_ ?_;exact(xE (z6 WH WM (zA 4<|pv 4) bZ<|yA _) (by refine zM ?_;exact(by refine yH ?_;exact bZ)) yM);exact(by refine zM ?_;exact(pI<|wY 1 (pv 1)<|zA 4<|pv 4)))))));exact(by refine zM ?_;exact(by refine yH ?_;exact(by refine z0 ?_ ?_;exact(by refine j5 ?_;exact(by refine yJ ?_;exact(by refine zB bZ ?_ (hs:=yR);refine zB (by refine j5 ?_;exact(Rw (jA 1<|pv 1) (xK<|cO zF) xZ)) ?_ (hs:=xV);exact zJ)));exact(GP (by rfl) T.Ba<|mP (qH hr.aX) qI (QE (by rfl) T.eK<|jA 1<|pv 1) zF<|yA _))))))
def BY:b_ ["_law_lines", "_law_above", "_law_line", "_law_words", "_law_judged_here", "_law_open_here"] ["_law_lines"] (zZ<|top 55):=eC
def WK(T:Txt K mg w.params):Ok P w base T.CK 4 1 hI:=by
 refine dR T.CK.F BY 1 6 rfl rfl (g:=uU) λaN A outer s H E hr=>?_;unfold uU;exact(by refine zI ?_ ?_;exact(xE (z6 bT bX (qQ (by rfl) T.eK<|zA 0<|pv 0) zF<|yA _) (by refine zM ?_;exact(by refine yH ?_;exact(zU (s:=[84,111,111,77,117,99,104])<|by rfl))) yM);exact(by refine zI ?_ ?_;exact(j8 1 (by refine yJ ?_;exact zJ) BY.nd);exact(by refine zI ?_ ?_;exact(dN ci rfl (bH<|zA 0<|pv 0) (xD 2 BY.nd) (by refine zI ?_ ?_;exact(yF 3 (by refine j5 ?_;exact(cS (zA 2<|pv 2)<|zU (s:=[32])<|by rfl)) BY.nd);exact(by refine zI ?_ ?_;exact(xE (Q6<|cR (z6 rM rR (qQ (by rfl) T.eK<|zA 3<|pv 3) zF<|yA _)<|cR (z6 (k8 hr.aX) vB (z0 (zA 3<|pv 3) zF) (zU (s:=[100,101,102])<|by rfl)<|yA _)<|gC<|uV<|qP<|zX (dI T) (hr.mono<|by decide) (by rfl) T.Aj.m T.Aj.F.kp T.Aj.b<|zB (z0 (zA 3<|pv 3) zF) zJ (hs:=xV)) (by refine zM ?_;exact(by refine yH ?_;exact(zU (s:=[78,111,76,105,110,101])<|by rfl))) yM);exact(by refine zI ?_ ?_;exact(yF 4 (zX (pE T) (hr.mono<|by decide) (by rfl) T.CY.m T.CY.F.kp T.CY.b<|zB (kN (zA 3<|pv 3) (xK zF) xZ) zJ (hs:=xV)) BY.nd);exact(by refine zI ?_ ?_;exact(xE (z6 WH WM (zA 4<|pv 4) bZ<|yA _) (by refine zM ?_;exact(by refine yH ?_;exact(zU (s:=[78,111,76,105,110,101])<|by rfl))) yM);exact(by refine zI ?_ ?_;exact(xE (z6 bT bX (z0 (z0 (zA 4<|pv 4) zF) zF) zF<|yA _) (by refine zM ?_;exact(by refine yH ?_;exact(zU (s:=[84,111,111,77,117,99,104])<|by rfl))) yM);exact(by refine zI ?_ ?_;exact(JZ 1 5 (N':=["_law_above", "_law_words", "_law_name_here"]) (cap:=[1,3]) rfl v6 (bH<|z0 (z0 (zA 4<|pv 4) zF) zF) (λ_ _ _ _=>(xD 2 (show(["_law_above", "_law_words", "_law_name_here"]:List Str).Nodup by decide +kernel))) (λ_ _ _ _=>by exact(z6 uP (WN true) (zA 2<|pv 2) (zL zR zS (zA 0<|pv 0) (by refine j5 ?_;exact(by refine yJ ?_;exact(by refine zB ?_ ?_;exact(by refine z0 ?_ ?_;exact(zA 1<|pv 1);exact zF);exact zJ)))) rfl)) (λ_ _ _ _=>by exact(zA 2<|pv 2)) 3 BY.nd);exact(by refine zI ?_ ?_;exact(xE (Q6<|cR (RA (z0 (zA 3<|pv 3) zF)<|jA 1<|pv 1)<|gC<|z6 (k8 hr.aX) vB (zA 5<|pv 5) (by refine j5 ?_;exact(by refine yJ ?_;exact zJ))<|yA _) (by refine zM ?_;exact(by refine yH ?_;exact(zU (s:=[78,111,78,97,109,101])<|by rfl))) yM);exact(by refine zM ?_;exact(pI<|wY 1 (pv 1)<|z0 (zA 3<|pv 3) zF))))))))));exact(by refine zM ?_;exact(by refine yH ?_;exact(by refine z0 ?_ ?_;exact(by refine j5 ?_;exact(by refine yJ ?_;exact(by refine zB (zU (s:=[78,111,78,97,109,101])<|by rfl) ?_ (hs:=yR);refine zB (zU (s:=[114,101,97,100])<|by rfl) ?_ (hs:=yR);exact zJ)));exact(GP (by rfl) T.Ba<|mP (qH hr.aX) qI (gD (jA 1<|pv 1)<|cO zF) (zU (s:=[109,97,105,110])<|by rfl)<|yA _)))))))
def BQ:b_ ["_law_name_here", "_law_size", "_law_words", "_law_waiting", "_law_now"] ["_law_name_here", "_law_size"] (zZ<|top 56):=eC
def gS(T:Txt K mg w.params):Ok P w base T.C5 1 2 jR:=by
 refine dR T.C5.F BQ 2 5 rfl rfl (g:=v8) λaN A outer s H E hr=>?_;unfold v8;exact(by refine zI ?_ ?_;exact(j8 2 (by refine yJ ?_;exact zJ) BQ.nd);exact(by refine zI ?_ ?_;exact(j8 3 (by refine yJ ?_;exact(zB (zA 1<|pv 1) zJ (hs:=zQ))) BQ.nd);exact(by refine zI ?_ ?_;exact(oV WF ci (Ux hr.aX (jA 3<|pv 3) (by refine i_ ?_;exact(by refine yJ ?_;exact zJ))) (by refine zI ?_ ?_;exact(bD 4 (YI 3<|pv 3) BQ.nd);exact(by refine zM ?_;exact(xE (z6 (qH hr.aX) qI (zA 4<|pv 4) zF<|yA _) (by refine zM ?_;exact(pI<|wY 2 (pv 2)<|zU (s:=[55])<|by rfl)) (by refine zM ?_;exact(xE (z6 (qH hr.aX) qI (zA 4<|pv 4) zF<|yA _) (by refine zI ?_ ?_;exact(j8 2 (QB (jA 2<|pv 2) (by refine i_ ?_;exact(by refine yJ ?_;exact(zB (zU (s:=[110,101,118,101,114])<|by rfl) zJ (hs:=yR))))) BQ.nd);exact(by refine zM ?_;exact(pI<|wY 3 (pv 3) zF))) (by refine zI ?_ ?_;exact(pI<|wY 2 (pv 2)<|zU (s:=[43])<|by rfl);exact(by refine zM ?_;exact(j8 3 (QB (jA 3<|pv 3) (by refine i_ ?_;exact(by refine yJ ?_;exact(by refine zB (zL nG nW (zL nG nW (zA 4<|pv 4) zF)<|zL qV qW (zL nG nW (zA 4<|pv 4) zF) zF) ?_ (hs:=j9);refine zB (zL qV qW (zL nG nW (zA 4<|pv 4) zF) zF) ?_ (hs:=j9);exact zJ)))) BQ.nd)))))))));exact(by refine zM ?_;exact(by refine yH ?_;exact(ZT (zU (s:=[32])<|by rfl) (by refine i_ ?_;exact(QB (by refine i_ ?_;exact(by refine yJ ?_;exact(by refine zB (zU (s:=[100,101,102])<|by rfl) ?_ (hs:=yR);refine zB (zA 0<|pv 0) ?_ (hs:=zQ);exact zJ)))<|jA 2<|pv 2))))))))
def HW:b_ ["_law_number", "_law_names_here", "_law_words"] ["_law_number", "_law_names_here"] (zZ<|top 57):=eC
def WJ(T:Txt K mg w.params):Ok P w base T.CJ 1 2 hG:=by
 refine dR T.CJ.F HW 2 3 rfl rfl (g:=cV) λaN A outer s H E hr=>?_;unfold cV;exact(by refine zI ?_ ?_;exact(by refine yF 2 ?_ ?_ ?_ ?_ ?_ ?_;exact(by refine j5 ?_;exact(by refine yJ ?_;exact(by refine gL (ss:=[[100,101,102],[102,110],[100,111],[101,109,112,116,121],[103,101,116],[119,105,116,104],[112,117,116],[108,101,115,115],[116,97,103],[119,105,100,101],[99,97,115,101],[110,101,118,101,114],[105,102],[43],[42]]) ?_;rfl)));exact(id HW.nd);rfl;(first|exact Or.inl rfl|exact Or.inr rfl);rfl;(first|exact Or.inl rfl|exact Or.inr rfl));exact(by refine zI ?_ ?_;exact(by refine yF 2 ?_ ?_ ?_ ?_ ?_ ?_;exact(zL zR zS (zA 2<|pv 2) (by refine j5 ?_;exact(by refine yJ ?_;exact(by refine gL (ss:=[[60],[],[48],[48,55],[45,49],[57,57,57,57,57,57],[49,48,48,48,48,48,48],[97],[97,98,99,100,101,102,103,104,105],[65],[97,49],[109,97,105,110],[9],[61]]) ?_;rfl))));exact(id HW.nd);rfl;(first|exact Or.inl rfl|exact Or.inr rfl);rfl;(first|exact Or.inl rfl|exact Or.inr rfl));exact(by refine zM ?_;exact(by refine yH ?_;exact(z0 (zL zR zS (zL zR zS (zA 2<|pv 2)<|zA 1<|pv 1)<|zA 1<|pv 1)<|zL wP wQ (zA 0<|pv 0)<|zL zR zS (qQ (by rfl) T.eK<|zA 2<|pv 2)<|zL EB EA zF<|qQ (by rfl) T.eK<|zA 1<|pv 1)))))
def C4:b_ ["_law_line", "_law_number", "_law_names_here", "_law_words", "_law_at", "_law_odd_here"] ["_law_line", "_law_number", "_law_names_here"] (zZ<|top 58):=eC
def nR(T:Txt K mg w.params):Ok P w base T.C3 2 3 bP:=by
 refine dR T.C3.F C4 3 6 rfl rfl (g:=jF) λaN A outer s H E hr=>?_;unfold jF;exact(by refine zI ?_ ?_;exact(yF 3 (by refine j5 ?_;exact(cS (zA 0<|pv 0)<|zU (s:=[32])<|by rfl)) C4.nd);exact(by refine zI ?_ ?_;exact(yF 4 (zL wP wQ (zL qV qW (zA 1<|pv 1) zF)<|zL zR zS (qQ (by rfl) T.eK<|zA 3<|pv 3) zF) C4.nd);exact(by refine zI ?_ ?_;exact(yF 5 (zX (WJ T) (hr.mono<|by decide) (by rfl) T.CJ.m T.CJ.F.kp T.CJ.b (by refine zB (zL qV qW (zA 1<|pv 1) zF) ?_ (hs:=j9);refine zB (zA 2<|pv 2) ?_ (hs:=zQ);exact zJ)) C4.nd);exact(by refine zI ?_ ?_;exact(xE (z6 (qH hr.aX) qI (zL wP wQ (zL qV qW (zA 1<|pv 1) zF) zF) zF<|yA _) (by refine zM ?_;exact(yF 4 (zL wP wQ (zL qV qW (zA 1<|pv 1) zF) zF) C4.nd)) yM);exact(by refine zI ?_ ?_;exact(xE (z6 (qH hr.aX) qI (zL wP wQ (zA 1<|pv 1) zF) zF<|yA _) (by refine zM ?_;exact(by refine yH ?_;exact(ZT (zU (s:=[32])<|by rfl)<|BA<|zL zR zS (kN (zA 3<|pv 3) xZ<|xK<|zA 4<|pv 4)<|kN (zA 3<|pv 3) (xK<|zL zR zS (zA 4<|pv 4) zF) xZ))) yM);exact(by refine zM ?_;exact(by refine yH ?_;exact(ZT (zU (s:=[32])<|by rfl) (by refine i_ ?_;exact(QB (by refine i_ ?_;exact(QB (BA<|kN (zA 3<|pv 3) xZ<|xK<|zA 4<|pv 4) (by refine i_ ?_;exact(by refine yJ ?_;exact(zB (zA 5<|pv 5) zJ (hs:=zQ))))))<|BA<|kN (zA 3<|pv 3) (xK<|zL nG nW (zL zR zS (zA 4<|pv 4)<|zL wP wQ (zA 1<|pv 1) zF) zF) xZ))))))))))
def A4:b_ ["_law_lines", "_law_number", "_law_names_here", "_law_at", "_law_way", "_law_more", "_law_odd_here", "_law_wide", "_law_lacking"] ["_law_lines", "_law_number", "_law_names_here"] (zZ<|top 59):=eC
def nV(T:Txt K mg w.params):Ok P w base T.C2 3 3 k7:=by
 refine dR T.C2.F A4 3 9 rfl rfl (g:=wI) λaN A outer s H E hr=>?_;unfold wI;exact(by refine zI ?_ ?_;exact(yF 3 (zL wP wQ (zL qV qW (zA 1<|pv 1) zF)<|qQ (by rfl) T.eK<|zA 0<|pv 0) A4.nd);exact(by refine zI ?_ ?_;exact(yF 4 (zL wP wQ (zA 1<|pv 1) zF) A4.nd);exact(by refine zI ?_ ?_;exact(yF 5 (zL qV qW (zA 1<|pv 1) zF) A4.nd);exact(by refine zI ?_ ?_;exact(xE (z6 rM rR (zA 4<|pv 4) zF<|yA _) (by refine zM ?_;exact(by refine yH ?_;exact(zL zR zS (zL zR zS (kN (zA 0<|pv 0) xZ<|xK<|zA 3<|pv 3) (by refine j5 ?_;exact(by refine yJ ?_;exact(zB (zX (nR T) (hr.mono<|by decide) (by rfl) T.C3.m T.C3.F.kp T.C3.b (by refine zB (z0 (zA 0<|pv 0)<|zA 3<|pv 3) ?_ (hs:=xV);refine zB (zA 5<|pv 5) ?_ (hs:=zQ);refine zB (zA 2<|pv 2) ?_ (hs:=zQ);exact zJ)) zJ (hs:=kE)))))<|kN (zA 0<|pv 0) (xK<|zL zR zS (zA 3<|pv 3) zF) xZ))) yM);exact(by refine zI ?_ ?_;exact(xE (Q6<|oD (z6 (qH hr.aX) qI (zA 4<|pv 4) zF<|yA _)<|oC<|z6 bT bX (qQ (by rfl) T.eK<|zA 0<|pv 0) zF<|yA _) (by refine zM ?_;exact(by refine yH ?_;exact(zL zR zS (kN (zA 0<|pv 0) xZ<|xK<|zA 3<|pv 3)<|kN (zA 0<|pv 0) (xK<|zL zR zS (zA 3<|pv 3) zF) xZ))) yM);exact(by refine zI ?_ ?_;exact(xE (z6 (qH hr.aX) qI (zA 4<|pv 4) zF<|yA _) (by refine zM ?_;exact(by refine yH ?_;exact(zL zR zS (zL zR zS (kN (zA 0<|pv 0) xZ<|xK<|zA 3<|pv 3) (by refine j5 ?_;exact(by refine yJ ?_;exact(zB (z0 (zA 0<|pv 0)<|zA 3<|pv 3) zJ (hs:=xV)))))<|kN (zA 0<|pv 0) (xK<|zA 3<|pv 3) xZ))) yM);exact(by refine zI ?_ ?_;exact(xE (z6 (qH hr.aX) qI (zA 4<|pv 4) zF<|yA _) (by refine zM ?_;exact(by refine yH ?_;exact(zL zR zS (zL zR zS (kN (zA 0<|pv 0) xZ<|xK<|zA 3<|pv 3) (by refine j5 ?_;exact(J3 rfl (by rfl) T.HS (by rfl) T.ER<|BA<|kN (zA 0<|pv 0) (xK<|zA 3<|pv 3)<|xK<|zL zR zS (zA 3<|pv 3) zF)))<|kN (zA 0<|pv 0) (xK<|zL zR zS (zA 3<|pv 3) zF) xZ))) yM);exact(by refine zI ?_ ?_;exact(xE (z6 (qH hr.aX) qI (zA 4<|pv 4) zF<|yA _) (by refine zI ?_ ?_;exact(by refine yF 6 ?_ ?_ ?_ ?_ ?_ ?_;exact(by refine z0 ?_ ?_;exact(by refine j5 ?_;exact(by refine yJ ?_;exact(by refine gL (ss:=[[],[100,101,102],[100,101,102,32,109,97,105,110],[100,101,102,32,97,32,48,32]]) ?_;rfl)));exact(zL wP wQ (zA 5<|pv 5) zF));exact(id A4.nd);rfl;(first|exact Or.inl rfl|exact Or.inr rfl);rfl;(first|exact Or.inl rfl|exact Or.inr rfl));exact(by refine zM ?_;exact(by refine yH ?_;exact(zL zR zS (zL zR zS (kN (zA 0<|pv 0) xZ<|xK<|zA 3<|pv 3) (by refine j5 ?_;exact(by refine yJ ?_;exact(zB (zA 6<|pv 6) zJ (hs:=zQ)))))<|kN (zA 0<|pv 0) (xK<|zA 3<|pv 3) xZ)))) yM);exact(by refine zI ?_ ?_;exact(xE (z6 (qH hr.aX) qI (zA 4<|pv 4) zF<|yA _) (by refine zI ?_ ?_;exact(by refine yF 7 ?_ ?_ ?_ ?_ ?_ ?_;exact(zX (gS T) (hr.mono<|by decide) (by rfl) T.C5.m T.C5.F.kp T.C5.b (by refine zB ?_ ?_;exact(by refine z0 ?_ ?_;exact(by refine j5 ?_;exact(by refine yJ ?_;exact(by refine zB (zU (s:=[119,113])<|by rfl) ?_ (hs:=yR);refine zB (zU (s:=[113,119])<|by rfl) ?_ (hs:=yR);exact zJ)));exact(zL wP wQ (zA 5<|pv 5) zF));refine zB ?_ ?_;exact(zL zR zS zF<|zL wP wQ (zL qV qW (zA 5<|pv 5) zF) zF);exact zJ));exact(id A4.nd);rfl;(first|exact Or.inl rfl|exact Or.inr rfl);rfl;(first|exact Or.inl rfl|exact Or.inr rfl));exact(by refine zM ?_;exact(by refine yH ?_;exact(zL zR zS (zL zR zS (kN (zA 0<|pv 0) xZ<|xK<|zA 3<|pv 3) (by refine j5 ?_;exact(by refine yJ ?_;exact(zB (zA 7<|pv 7) zJ (hs:=zQ)))))<|kN (zA 0<|pv 0) (xK<|zA 3<|pv 3) xZ)))) yM);exact(by refine zI ?_ ?_;exact(yF 8 (QD (by rfl) (by rfl) T.yb (by refine zB zF ?_ (hs:=yR);refine zB (zL nG nW (zL zR zS zF<|zL wP wQ (zA 5<|pv 5) zF)<|qQ (by rfl) T.eK<|zA 0<|pv 0) ?_ (hs:=j9);exact zJ)) A4.nd);exact(by refine zM ?_;exact(by refine yH ?_;exact(zL zR zS (by refine j5 ?_;exact(uK (N':=["_law_k"]) (cap:=[]) rfl v6 (ZQ (by rfl) T.Bc<|zA 8<|pv 8) (λ_ _ _ _=>(xD 0 (show(["_law_k"]:List Str).Nodup by decide +kernel))) (λ_ _ _ _=>by exact(zL zR zS (zL zR zS (zU (s:=[100,101,102,32,120])<|by rfl) (by refine z0 ?_ ?_;exact(zU (s:=[97,98,99,100,101,102,103,104,105,106,107,108,109])<|by rfl);exact(zA 0<|pv 0)))<|zU (s:=[113,113,32,48])<|by rfl)) 1))<|zA 0<|pv 0)))))))))))))
def Ac:b_ ["_law_text", "_law_caught", "e", "_law_names_here"] ["_law_text"] (zZ<|top 60):=eC
def nP(T:Txt K mg w.params):Ok P w base T.Ar 48 1 uL:=by
 refine O8 T.Ar.F Ac 1 4 rfl rfl (ρ:=uD) λaN A outer s H E hr=>?_;unfold uD;exact(by refine Ss ?_ ?_;exact(yF 1 bZ Ac.nd);exact(Gj (Gy (i:=1) (j:=2) Ac.nd rfl rfl (F'<|mL T) (hr.mono<|by decide) (by rfl) T.fX.m T.fX.F.kp T.fX.b (λ_=>(zB (zA 0<|pv 0) zJ (hs:=zQ))) (by rfl) T.CQ T.Ap T.l6.mt rfl rfl (Or.inl rfl) (Or.inr rfl) rfl rfl (by decide) (Y1 4 1 2 3 _) bS (λe oe g_=>by refine Dx ?_;exact(by refine zI ?_ ?_;exact(xE (z6 WH WM (zA 1<|pv 1) bZ<|yA _) (by refine zM ?_;exact(by refine yH ?_;exact(zU (s:=[114,101,97,100])<|by rfl))) yM);exact(by refine zI ?_ ?_;exact(j8 3 (by refine yJ ?_;exact zJ) Ac.nd);exact(by refine zI ?_ ?_;exact(xE (qP<|bM be g_ T.l6.k (T.l6.ys _<|by simp) (by rfl) T.Ap (by rfl) T.iL<|zA 1<|pv 1) (by refine zM ?_;exact(pI<|wY 3 (pv 3)<|zU (s:=[84,111,111,77,117,99,104])<|by rfl)) yM);exact(by refine zI ?_ ?_;exact(xE (qP<|bM be g_ T.l6.k (T.l6.ns _<|by simp) (by rfl) T.u_ (by rfl) T.iL<|zA 1<|pv 1) (by refine zM ?_;exact(pI<|wY 3 (pv 3)<|zU (s:=[78,111,76,105,110,101])<|by rfl)) yM);exact(by refine zI ?_ ?_;exact(xE (qP<|bM be g_ T.l6.k (T.l6.ns _<|by simp) (by rfl) T.zk (by rfl) T.iL<|zA 1<|pv 1) (by refine zM ?_;exact(pI<|wY 3 (pv 3)<|zU (s:=[78,111,78,97,109,101])<|by rfl)) yM);exact(by refine zI ?_ ?_;exact(xE (Q6<|cR (qP<|bM be g_ T.l6.k (T.l6.ns _<|by simp) (by rfl) T.CH (by rfl) T.iL<|zA 1<|pv 1)<|cR (uV<|qP<|Ei be g_ T.l6.k (v:=.ty "ValueError") (u:=.type "ValueError") (λ_ z=>z) (T.l6.ys _<|by simp) (by rfl) T.iL (zA 1<|pv 1)<|ZE (by rfl) T.CS GZ rfl)<|gC<|z6 (k8 hr.aX) vB (QE (by rfl) T.eK<|jA 3<|pv 3) zF<|yA _) (by refine zM ?_;exact(by refine yH ?_;exact(zU (s:=[111,116,104,101,114])<|by rfl))) yM);exact(by refine zM ?_;exact(by refine yH ?_;exact(gD (jA 3<|pv 3) zF)))))))))))<|Gj (Gy (i:=1) (j:=2) Ac.nd rfl rfl (F'<|nJ T) (hr.mono<|by decide) (by rfl) T.fX.m T.fX.F.kp T.fX.b (λ_=>(zB (zA 0<|pv 0) zJ (hs:=zQ))) (by rfl) T.CQ T.u_ T.iK.mt rfl rfl (Or.inl rfl) (Or.inr rfl) rfl rfl (by decide) (Y1 4 1 2 3 _) cI (λe oe g_=>by refine Dx ?_;exact(by refine zI ?_ ?_;exact(xE (z6 WH WM (zA 1<|pv 1) bZ<|yA _) (by refine zM ?_;exact(by refine yH ?_;exact(zU (s:=[114,101,97,100])<|by rfl))) yM);exact(by refine zI ?_ ?_;exact(j8 3 (by refine yJ ?_;exact zJ) Ac.nd);exact(by refine zI ?_ ?_;exact(xE (qP<|bM be g_ T.iK.k (T.iK.ns _<|by simp) (by rfl) T.Ap (by rfl) T.iL<|zA 1<|pv 1) (by refine zM ?_;exact(pI<|wY 3 (pv 3)<|zU (s:=[84,111,111,77,117,99,104])<|by rfl)) yM);exact(by refine zI ?_ ?_;exact(xE (qP<|bM be g_ T.iK.k (T.iK.ys _<|by simp) (by rfl) T.u_ (by rfl) T.iL<|zA 1<|pv 1) (by refine zM ?_;exact(pI<|wY 3 (pv 3)<|zU (s:=[78,111,76,105,110,101])<|by rfl)) yM);exact(by refine zI ?_ ?_;exact(xE (qP<|bM be g_ T.iK.k (T.iK.ns _<|by simp) (by rfl) T.zk (by rfl) T.iL<|zA 1<|pv 1) (by refine zM ?_;exact(pI<|wY 3 (pv 3)<|zU (s:=[78,111,78,97,109,101])<|by rfl)) yM);exact(by refine zI ?_ ?_;exact(xE (Q6<|cR (qP<|bM be g_ T.iK.k (T.iK.ns _<|by simp) (by rfl) T.CH (by rfl) T.iL<|zA 1<|pv 1)<|cR (uV<|qP<|Ei be g_ T.iK.k (v:=.ty "ValueError") (u:=.type "ValueError") (λ_ z=>z) (T.iK.ys _<|by simp) (by rfl) T.iL (zA 1<|pv 1)<|ZE (by rfl) T.CS GZ rfl)<|gC<|z6 (k8 hr.aX) vB (QE (by rfl) T.eK<|jA 3<|pv 3) zF<|yA _) (by refine zM ?_;exact(by refine yH ?_;exact(zU (s:=[111,116,104,101,114])<|by rfl))) yM);exact(by refine zM ?_;exact(by refine yH ?_;exact(gD (jA 3<|pv 3) zF)))))))))))<|Gj (Gy (i:=1) (j:=2) Ac.nd rfl rfl (F'<|nH T) (hr.mono<|by decide) (by rfl) T.fX.m T.fX.F.kp T.fX.b (λ_=>(zB (zA 0<|pv 0) zJ (hs:=zQ))) (by rfl) T.CQ T.zk T.lC.mt rfl rfl (Or.inl rfl) (Or.inr rfl) rfl rfl (by decide) (Y1 4 1 2 3 _) cH (λe oe g_=>by refine Dx ?_;exact(by refine zI ?_ ?_;exact(xE (z6 WH WM (zA 1<|pv 1) bZ<|yA _) (by refine zM ?_;exact(by refine yH ?_;exact(zU (s:=[114,101,97,100])<|by rfl))) yM);exact(by refine zI ?_ ?_;exact(j8 3 (by refine yJ ?_;exact zJ) Ac.nd);exact(by refine zI ?_ ?_;exact(xE (qP<|bM be g_ T.lC.k (T.lC.ns _<|by simp) (by rfl) T.Ap (by rfl) T.iL<|zA 1<|pv 1) (by refine zM ?_;exact(pI<|wY 3 (pv 3)<|zU (s:=[84,111,111,77,117,99,104])<|by rfl)) yM);exact(by refine zI ?_ ?_;exact(xE (qP<|bM be g_ T.lC.k (T.lC.ns _<|by simp) (by rfl) T.u_ (by rfl) T.iL<|zA 1<|pv 1) (by refine zM ?_;exact(pI<|wY 3 (pv 3)<|zU (s:=[78,111,76,105,110,101])<|by rfl)) yM);exact(by refine zI ?_ ?_;exact(xE (qP<|bM be g_ T.lC.k (T.lC.ys _<|by simp) (by rfl) T.zk (by rfl) T.iL<|zA 1<|pv 1) (by refine zM ?_;exact(pI<|wY 3 (pv 3)<|zU (s:=[78,111,78,97,109,101])<|by rfl)) yM);exact(by refine zI ?_ ?_;exact(xE (Q6<|cR (qP<|bM be g_ T.lC.k (T.lC.ns _<|by simp) (by rfl) T.CH (by rfl) T.iL<|zA 1<|pv 1)<|cR (uV<|qP<|Ei be g_ T.lC.k (v:=.ty "ValueError") (u:=.type "ValueError") (λ_ z=>z) (T.lC.ys _<|by simp) (by rfl) T.iL (zA 1<|pv 1)<|ZE (by rfl) T.CS GZ rfl)<|gC<|z6 (k8 hr.aX) vB (QE (by rfl) T.eK<|jA 3<|pv 3) zF<|yA _) (by refine zM ?_;exact(by refine yH ?_;exact(zU (s:=[111,116,104,101,114])<|by rfl))) yM);exact(by refine zM ?_;exact(by refine yH ?_;exact(gD (jA 3<|pv 3) zF)))))))))))<|Ut (λ_=>(by refine j5 ?_;exact(ZS (SX T) (hr.mono<|by decide) (by rfl) T.fX.m T.fX.F.kp T.fX.b<|zB (zA 0<|pv 0) zJ (hs:=zQ)))) (by refine Dx ?_;refine zI ?_ Uu;exact(xE (z6 WH WM (zA 1<|pv 1) bZ<|yA _) (by refine zM ?_;exact(by refine yH ?_;exact(zU (s:=[114,101,97,100])<|by rfl))) yM))))
def ye:b_ ["_law_script", "_law_first", "_law_second", "_law_defs_here", "_law_lines", "_law_names_here", "_law_k", "_law_due_here", "_law_text"] ["_law_script"] (zZ<|top 61):=eC
def Rn(T:Txt K mg w.params):Ok P w base T.N1 153 1 zz:=by
 refine dR T.N1.F ye 1 9 rfl rfl (g:=Ck) λaN A outer s H E hr=>?_;unfold Ck;exact(by refine zI ?_ ?_;exact(yF 1 (zX (wB T) (hr.mono<|by decide) (by rfl) T.eJ.m T.eJ.F.kp T.eJ.b (by refine zB (zX (dZ T) (hr.mono<|by decide) (by rfl) T.wb.m T.wb.F.kp T.wb.b (by refine zB (zA 0<|pv 0) ?_ (hs:=zQ);refine zB zF ?_ (hs:=yR);exact zJ)) ?_ (hs:=kE);refine zB zF ?_ (hs:=yR);exact zJ)) ye.nd);exact(by refine zI ?_ ?_;exact(yF 2 (zX (wB T) (hr.mono<|by decide) (by rfl) T.eJ.m T.eJ.F.kp T.eJ.b (by refine zB (zX (dZ T) (hr.mono<|by decide) (by rfl) T.wb.m T.wb.F.kp T.wb.b (by refine zB (zA 0<|pv 0) ?_ (hs:=zQ);refine zB zF ?_ (hs:=yR);exact zJ)) ?_ (hs:=kE);refine zB zF ?_ (hs:=yR);exact zJ)) ye.nd);exact(by refine zI ?_ ?_;exact(yF 3 (by refine j5 ?_;exact(ZS (YC T) (hr.mono<|by decide) (by rfl) T.CM.m T.CM.F.kp T.CM.b (by refine zB (kN (zA 0<|pv 0) (xK zF)<|xK zF) ?_ (hs:=xV);refine zB (zA 1<|pv 1) ?_ (hs:=zQ);refine zB (zA 2<|pv 2) ?_ (hs:=zQ);exact zJ))) ye.nd);exact(by refine zI ?_ ?_;exact(Su 4 (N':=["_law_name_here", "_law_item"]) (cap:=[]) rfl v6 (bH<|zA 3<|pv 3) (λ_ _ _ _=>(J2 rfl<|uA (xD 0 (show(["_law_name_here", "_law_item"]:List Str).Nodup by decide +kernel))<|uA (xD 1 (show(["_law_name_here", "_law_item"]:List Str).Nodup by decide +kernel)) ZR)) (λ_ _ _ _=>by exact(ZT (zU (s:=[32])<|by rfl) (by refine i_ ?_;exact(QB (by refine i_ ?_;exact(by refine yJ ?_;exact(by refine zB ?_ ?_;exact(zU (s:=[100,101,102])<|by rfl);refine zB ?_ ?_;exact(zA 0<|pv 0);exact zJ)))<|BA (by refine z0 ?_ ?_;exact(zA 1<|pv 1);exact zF))))) 2 ye.nd);exact(by refine zI ?_ ?_;exact(yF 5 (zL zR zS (by refine j5 ?_;exact(uK (N':=["_law_name_here", "_law_item"]) (cap:=[]) rfl v6 (bH<|zA 3<|pv 3) (λ_ _ _ _=>(J2 rfl<|uA (xD 0 (show(["_law_name_here", "_law_item"]:List Str).Nodup by decide +kernel))<|uA (xD 1 (show(["_law_name_here", "_law_item"]:List Str).Nodup by decide +kernel)) ZR)) (λ_ _ _ _=>by exact(zA 0<|pv 0)) 2))<|zX (mB T) (hr.mono<|by decide) (by rfl) T.Ae.m T.Ae.F.kp T.Ae.b<|zB (zA 2<|pv 2) zJ (hs:=zQ)) ye.nd);exact(by refine zI ?_ ?_;exact(dN ci rfl (ZQ (by rfl) T.Bc<|zL wP wQ (zL qV qW (zA 1<|pv 1) zF) zF) (xD 6 ye.nd) (by refine zM ?_;exact(yF 4 (zX (nV T) (hr.mono<|by decide) (by rfl) T.C2.m T.C2.F.kp T.C2.b (by refine zB (zA 4<|pv 4) ?_ (hs:=zQ);refine zB (zX (wB T) (hr.mono<|by decide) (by rfl) T.eJ.m T.eJ.F.kp T.eJ.b (by refine zB (zX (dZ T) (hr.mono<|by decide) (by rfl) T.wb.m T.wb.F.kp T.wb.b (by refine zB (zA 0<|pv 0) ?_ (hs:=zQ);refine zB zF ?_ (hs:=yR);exact zJ)) ?_ (hs:=kE);refine zB (zL zR zS zF<|zA 6<|pv 6) ?_ (hs:=j9);exact zJ)) ?_ (hs:=kE);refine zB (zA 5<|pv 5) ?_ (hs:=zQ);exact zJ)) ye.nd)));exact(by refine zI ?_ ?_;exact(yF 7 (zX (WK T) (hr.mono<|by decide) (by rfl) T.CK.m T.CK.F.kp T.CK.b<|zB (zA 4<|pv 4) zJ (hs:=zQ)) ye.nd);exact(by refine zI ?_ ?_;exact(yF 8 (ZT (zU (s:=[10])<|by rfl)<|BA<|zA 4<|pv 4) ye.nd);exact(by refine zM ?_;exact(by refine yH ?_;exact(Gr (mP (qH hr.aX) qI (zX (nP T) (hr.mono<|by decide) (by rfl) T.Ar.m T.Ar.F.kp T.Ar.b<|zB (zA 8<|pv 8) zJ (hs:=zQ)) (zA 7<|pv 7)<|yA _)<|Ej<|mP (qH hr.aX) qI (zX (nP T) (hr.mono<|by decide) (by rfl) T.Ar.m T.Ar.F.kp T.Ar.b<|zB (zA 8<|pv 8) zJ (hs:=zQ)) (zA 7<|pv 7)<|yA _)))))))))))
end
def vC(c k:Int):∃n:Int,0<=n/\∃as,yK [.v<|.int c,.v<|.int k]=aA (.v<|.int n,as):=by
 let n1:Int:=(c % 2147483647+16807*k+7) % 2147483629
 let n2:Int:=n1*n1 % 2147483587
 have h1:0<=n1/\n1<2147483629:=⟨dm _<|by decide,dh _<|by decide⟩;have h2:0<=n2/\n2<2147483587:=⟨dm _<|by decide,dh _<|by decide⟩;refine⟨n2*(n2+48271) % 2147483579 / 5,?_,?_⟩
 .exact Int.ediv_nonneg (dm _<|by decide) (by decide)
 .refine qR (r':=[.v<|.int c,.v<|.int k,.v<|.int n2]) ?_;show uT [.v<|.int c,.v<|.int k,.un]=_;unfold uT;rw[xA<|jI (d:=.int n1) (r2:=[.v<|.int c,.v<|.int k,.v<|.int n1]) (wR (qU (qU (wR rfl zH<|by decide)<|Ez zH rfl<|by decide) zH) zH<|by decide)<|by rfl];rw[xA<|jI (d:=.int n2) (r2:=[.v<|.int c,.v<|.int k,.v<|.int n2]) (wR (Ez rfl rfl<|by omega) zH<|by decide)<|by rfl];exact yO (jJ (wR (Ez rfl (qU rfl zH)<|by omega) zH<|by decide) zH<|by decide)
structure Tx(n:Nat)(s:List Nat):Prop where
 len:s.length<=n
 sm:∀c∈s,c<128
def Tx.le{n m:Nat}{s:List Nat}(h:Tx n s)(hm:n<=m):Tx m s:=⟨bf h.len hm,h.sm⟩
def LV{α:Type}{l:List α}{lo hi:Option Int}{x:α}(h:x∈dS l lo hi):x∈l:=gz<|fv h
def Sn{α:Type}(s:List α)(lo hi:Option Int):(dS s lo hi).length<=s.length:=by
 unfold dS;rw[ck,cw];omega
def pB{s:List Nat}{lo hi:Option Int}(h:s.length<=100000):ze (.str s) lo hi=aA (.str<|dS s lo hi):=if_pos (bf h<|by decide)
def Em{f:ME}{r:En}{s:List Nat}(e:f r=aA (.str s))(h:s.length<=100000):aF kA f r=aA (.int s.length):=u8 e (if_pos<|bf h<|by decide)
def Qp{s:List Nat}{i:Int}(hs:s≠[])(hl:s.length<=100):∃c∈s,aC (.str s) (.int<|i % (s.length:Int))=aA (.str [c]):=by
 have pos:0<s.length:=gp.mpr hs;have h0:=dm i (b:=(s.length:Int)) (by omega);have h1:=dh i (b:=(s.length:Int)) (by omega);obtain⟨j,hj⟩:=im h0;have jl:j<s.length:=by omega
 refine⟨s[j],ij jl,?_⟩;rw[hj];show(if s.length<=ag then (eZ s (j:Int)).map λc=>D.str [c] else aB)=_;rw[if_pos<|bf hl<|by decide,qD<|ft jl];rfl
noncomputable def kept:List (List Nat):=[[100,101,102],[102,110],[100,111],[101,109,112,116,121],[103,101,116],[119,105,116,104],[112,117,116],[108,101,115,115],[116,97,103],[119,105,100,101],[99,97,115,101],[110,101,118,101,114],[105,102]]
def SG:∃as,dO []=aA (.v<|.lst<|kept.map D.str,as):=⟨_,rfl⟩
noncomputable def Bo:List Nat:=[97,98,99,100,101,102,103,104,105,106,107,108,109,110,111,112,113,114,115,116,117,118,119,120,121,122]
def EN(a b:Nat):([a]<[b])↔a<b:=by
 rw[List.cons_lt_cons_iff];constructor
 .rintro (h|⟨_,h⟩)
  .exact h
  .exact absurd h (by simp)
 .exact .inl
def gY:∀l:List (List Nat),(l.map D.str).all uJ=true
 |[]=>rfl
 |s::l=>by simp[uJ]
theorem Ed:∀(l:List (List Nat)) (s:List Nat),((l.map D.str).any λz=>sK z<|.str s)=decide (s∈l)
 |[],s=>by simp
 |t::l,s=>by
  have e:sK (.str t) (.str s)=decide (t=s):=rfl;rw[bg,lq,Ed l s,e];by_cases h:t=s
  .subst h;simp
  .rw[decide_eq_false h,rb,decide_eq_decide];simp[gc h]
def MT{m m':D->D->Option D}{f g h:ME}{r:En}{x y z:D}{k:Bool}(e1:f r=aA x)(e2:g r=aA y)(ek:m x y=aA (.bl k))(e3:h r=aA z):bY m m' f g h r=if k=true then m' y z else aA (.bl false):=by
 unfold bY;rw[e1,aa,e2,aa,ek,aa];cases k
 .rfl
 .simp only[e3,aa,if_true]
noncomputable def h_(lo hi c:Nat):Bool:=decide (lo<=c) && decide (c<=hi)
def Ve{lo hi c:Nat}:bY fC fC (zD 0) (zD 2) (zD 1) [.v<|.str [lo],.v<|.str [hi],.v<|.str [c]]=aA (.bl<|h_ lo hi c):=by
 have e1:fC (.str [lo]) (.str [c])=aA (.bl<|decide (lo<=c)):=by
  show aA (D.bl<|!decide ([c]<[lo]))=_
  congr 2
  rw[decide_eq_decide.mpr<|EN c lo];by_cases h:lo<=c
  .rw[decide_eq_true h,decide_eq_false<|by omega];rfl
  .rw[decide_eq_false h,decide_eq_true<|by omega];rfl
 have e2:fC (.str [c]) (.str [hi])=aA (.bl<|decide (c<=hi)):=by
  show aA (D.bl<|!decide ([hi]<[c]))=_
  congr 2
  rw[decide_eq_decide.mpr<|EN hi c];by_cases h:c<=hi
  .rw[decide_eq_true h,decide_eq_false<|by omega];rfl
  .rw[decide_eq_false h,decide_eq_true<|by omega];rfl
 rw[MT (x:=.str [lo]) (y:=.str [c]) (z:=.str [hi]) rfl rfl e1 rfl,e2];unfold h_;by_cases h:lo<=c
 .rw[decide_eq_true h,lr,if_pos rfl]
 .rw[decide_eq_false h,ky,if_neg<|by simp]
theorem MV(lo hi:Nat):∀(s:List Nat) (x:Sl),aL x->vQ (y9 2) mS (bY fC fC (zD 0) (zD 2)<|zD 1) (s.map λc=>.str [c]) [.v<|.str [lo],.v<|.str [hi],x]=aA ((s.map<|h_ lo hi).map D.bl)
 |[],x,_=>rfl
 |c::s,x,hx=>by
  have ih:=MV lo hi s (.v<|.str [c]) trivial;have e1:y9 2 (.str [c]) [.v<|.str [lo],.v<|.str [hi],x]=aA [.v<|.str [lo],.v<|.str [hi],.v<|.str [c]]:=yT (x:=x) rfl hx;have e3:mS [.v<|.str [lo],.v<|.str [hi],.v<|.str [c]]=aA true:=rfl;rw[bg,bg,bg];unfold vQ;rw[e1,aa,e3,aa,if_pos rfl,Ve,aa,ih];rfl
theorem K2:∀l:List Bool,AK (l.map D.bl)=aA l
 |[]=>rfl
 |i::l=>by simp[AK,K2 l]
def Z0(s:List Nat)(lo hi:Nat)(hl:s.length<1000000):∃as,jX [.v<|.str s,.v<|.str [lo],.v<|.str [hi]]=aA (.v<|.bl<|s.all<|h_ lo hi,as):=by
 refine qR (r':=[.v<|.str s,.v<|.str [lo],.v<|.str [hi]])<|yO ?_;have e:vY [1,2] 3 (iX<|zD 0) (y9 2) (bY fC fC (zD 0) (zD 2)<|zD 1) [.v<|.str s,.v<|.str [lo],.v<|.str [hi]]=aA ((s.map<|h_ lo hi).map D.bl):=by
  show(if (s.map λc=>D.str [c]).length<ag then vQ _ _ _ (s.map λc=>D.str [c]) [.v<|.str [lo],.v<|.str [hi],.un] else aB)=_;rw[if_pos (by rw[af];exact sx hl<|by decide),MV lo hi s .un trivial]
 unfold FO;show(vY [1,2] 3 (iX<|zD 0) (y9 2) (bY fC fC (zD 0) (zD 2)<|zD 1) [.v<|.str s,.v<|.str [lo],.v<|.str [hi]]).bind _=_;rw[e,aa,K2,iw,pc];rfl
def WV(s:List Nat)(n:Nat)(hl:s.length<=100000):bY fC fC (mC<|.int 1) (aF kA<|zD 0) (mC<|.int (n:Int)) [.v<|.str s]=aA (.bl<|decide (1<=s.length/\s.length<=n)):=by
 have e0:aF kA (zD 0) [.v<|.str s]=aA (.int s.length):=Em rfl hl;have e1:fC (.int 1) (.int s.length)=aA (.bl<|decide ((1:Int)<=s.length)):=rfl;rw[MT (x:=.int 1) (z:=.int (n:Int)) zH e0 e1 zH];by_cases h:1<=s.length
 .rw[if_pos<|decide_eq_true<|by omega];show aA (D.bl<|decide ((s.length:Int)<=(n:Int)))=_
  congr 2
  rw[decide_eq_decide];omega
 .rw[if_neg (by rw[decide_eq_false<|by omega];exact ah),decide_eq_false<|by omega]
def Gm{f g:ME}{r:En}{a b:Bool}(e1:f r=aA (.bl a))(e2:a=true->g r=aA (.bl b)):Bw f g r=aA (.bl<|a && b):=by
 unfold Bw;rw[e1];cases a
 .rfl
 .exact e2 rfl
def qN(s:List Nat):Bool:=decide (1<=s.length/\s.length<=8) && (s.all (h_ 97 122) && !decide (s∈kept))
def Me(s:List Nat)(hl:s.length<=100000):∃as,qA [.v<|.str s]=aA (.v<|.bl<|qN s,as):=by
 refine qR (r':=[.v<|.str s])<|yO<|Gm (WV s 8 hl) λ_=>Gm ?_ λ_=>?_
 .exact yG (p:=.v<|.bl _) (zE rfl<|zE zH<|zE zH zO) rfl (Z0 s 97 122<|by omega)
 .refine zT (x:=.str s) (y:=.tup<|B_.map D.str) rfl zH ?_;show(if uJ (.str s)=true/\(B_.map D.str).all uJ=true then aA (D.bl<|!((B_.map D.str).any λz=>sK z<|.str s)) else aB)=_;rw[if_pos ⟨rfl,gY _⟩,Ed];rfl
def WO(s:List Nat):Bool:=decide (1<=s.length/\s.length<=6) && (s.all (h_ 48 57) && (decide (s=[48]) || !decide (s.head?=aA 48)))
def Rj(s:List Nat)(hl:s.length<=100000):∃as,bN [.v<|.str s]=aA (.v<|.bl<|WO s,as):=by
 have q:=Z0 s 48 57 (by omega);have a0:zW 3 jX (zC (zD 0)<|zC (mC<|.str [48])<|zC (mC<|.str [57]) zN) [.v<|.str s]=aA (.bl<|s.all<|h_ 48 57):=yG (p:=.v<|.bl _) (zE rfl<|zE zH<|zE zH zO) rfl q;have c0:cU (jW<|aD<|bY fC fC (mC<|.int 1) (aF kA<|zD 0)<|mC<|.int 6) (jW<|uG<|zW 3 jX<|zC (zD 0)<|zC (mC<|.str [48])<|zC (mC<|.str [57]) zN) [.v<|.str s]=aA (!(decide (1<=s.length/\s.length<=6) && s.all (h_ 48 57))):=by
  have a1:jW (aD<|bY fC fC (mC<|.int 1) (aF kA<|zD 0)<|mC<|.int 6) [.v<|.str s]=aA (!decide (1<=s.length/\s.length<=6)):=by
   have z:aD (bY fC fC (mC<|.int 1) (aF kA<|zD 0)<|mC<|.int 6) [.v<|.str s]=_:=kB<|WV s 6 hl;unfold jW;rw[z];rfl
  have a2:jW (uG<|zW 3 jX<|zC (zD 0)<|zC (mC<|.str [48])<|zC (mC<|.str [57]) zN) [.v<|.str s]=aA (!s.all (h_ 48 57)):=by
   unfold jW uG;rw[a0];rfl
  unfold cU;rw[a1,aa,a2];cases decide (1<=s.length/\s.length<=6)<;>simp
 refine qR (r':=[.v<|.str s]) ?_;show bK [.v<|.str s]=_;unfold bK WO;cases hb:(decide (1<=s.length/\s.length<=6) && s.all (h_ 48 57)) with
 |false=>
  rw[hb] at c0;rw[<-kz,hb,ky];exact wT c0<|yO zH
 |true=>
  rw[hb] at c0;rw[<-kz,hb,lr];refine yS c0<|yO ?_;have c1:zG aQ (zD 0) (mC<|.str [48]) [.v<|.str s]=aA (.bl<|decide (s=[48])):=zT rfl zH rfl;unfold BW;rw[c1];by_cases hz:s=[48]
  .rw[decide_eq_true hz];rfl
  .rw[decide_eq_false hz,rb];show zG d_ (zG aC (zD 0)<|mC<|.int 0) (mC<|.str [48]) [.v<|.str s]=_;cases s with
   |nil=>simp at hb
   |cons c r=>
    refine zT (x:=.str [c]) (zT rfl zH ?_) zH ?_
    .show(if (c::r).length<=ag then (eZ (c::r) 0).map λc=>D.str [c] else aB)=_;rw[if_pos<|bf hl<|by decide,vI];rfl
    .show aA (D.bl<|!decide ([c]=[48]))=_
     congr 3
     rw[decide_eq_decide];simp
abbrev Wd(s:List Nat):Prop:=Tx 100000 s
noncomputable abbrev NL:Str:="NoLine"
def L7{i:Nat}{r:En}{s c:List Nat}(h:Wd s)(e:r[i]?=aA (.v<|.str s))(hc:c.length<=100):∃d,YR (jE (AW<|zD i)<|jE (mC<|.str c) vv) r=aA d:=by
 have l:(reprText ⟨s.toArray⟩).length<=1000002:=by
  have q:=PySem.StrLaws.reprText_len ⟨s.toArray⟩ (λc hc=>sx (h.sm c<|by simpa using hc)<|by decide);have l:(⟨s.toArray⟩:Str).length=s.length:=DD.str_len s
  have:=h.len
  omega
 have le:(reprText ⟨s.toArray⟩).length=(reprText ⟨s.toArray⟩).cps.toList.length:=by show(reprText ⟨s.toArray⟩).cps.size=_;simp
 have a1:AW (zD i) r=aA (.str (reprText ⟨s.toArray⟩).cps.toList):=by
  unfold AW;rw[mX e,aa];exact if_pos (bf l<|by decide)
 refine⟨.str ([(reprText ⟨s.toArray⟩).cps.toList,c]).flatten,?_⟩;unfold YR;have z:jE (AW<|zD i) (jE (mC<|.str c) vv) r=aA [(reprText ⟨s.toArray⟩).cps.toList,c]:=by unfold jE;rw[a1];rfl
 rw[z,aa,if_pos];simp only[ip,bg,mi,jc];rw[<-le];exact bf (Nat.add_le_add l<|Nat.add_le_add_right hc 0) (by decide)
def v7{n:Str}{g:ME}{r:En}(h:∃d,g r=aA d):u7 n g r=aA n:=by
 obtain⟨d,e⟩:=h;unfold u7;rw[e];rfl
def dW{n:Nat}{m:List Sl->Option Str}{fs:ML}{r:En}{l:List D}(e:fs r=aA l)(h:l.length=n):vZ n m fs r=m (l.map .v):=by
 unfold vZ;rw[e,aa,if_pos h]
def o4{c:MB}{x y:MX}{r:En}(e:c r=aA true):fA c x y r=x r:=by unfold fA;rw[e];rfl
def XT{c:MB}{x y:MX}{r:En}(e:c r=aA false):fA c x y r=y r:=by unfold fA;rw[e];rfl
def tW{x y:MX}{r:En}(e:x r=aB):fU x y r=y r:=by unfold fU;rw[e]
def XR{x y:MX}{r:En}{n:Str}(e:x r=aA n):fU x y r=aA n:=by unfold fU;rw[e]
def kF{g:MS}{x:MX}{r r':En}(e:g r=aA (.nx r')):qF g x r=x r':=by unfold qF;rw[e];rfl
def Nr{g:MS}{x:MX}{r r':En}{d:D}(e:g r=aA (.rt d r')):qF g x r=aB:=by unfold qF;rw[e];rfl
def xn{f:ME}{r:En}{b:Bool}(e:f r=aA (.bl b)):jW (uG f) r=aA (!b):=by unfold jW uG;rw[e];rfl
def oR{s:List Nat}(h:Wd s):zW 1 bN (zC (zD 0) zN) [.v<|.str s]=aA (.bl<|WO s):=yG (p:=.v<|.bl _) (zE rfl zO) rfl<|Rj s h.len
def bJ{i:Nat}{r:En}{s:List Nat}(h:Wd s)(e:r[i]?=aA (.v<|.str s)):zW 1 qA (zC (zD i) zN) r=aA (.bl<|qN s):=yG (p:=.v<|.bl _) (zE (mX e) zO) rfl<|Me s h.len
def Tk{s:List Nat}(h:Wd s)(hb:WO s=false):xY [.v<|.str s]=aA NL:=by
 have a0:=oR h;rw[hb] at a0;show xM [.v<|.str s]=_;unfold xM;rw[o4<|xn a0];exact v7 (L7 h rfl<|by decide)
def Vm{s:List Nat}(h:Wd s)(hb:WO s=true):xY [.v<|.str s]=aB:=by
 have a0:=oR h;rw[hb] at a0;show xM [.v<|.str s]=_;unfold xM;rw[XT<|xn a0];rfl
def Tj{s:List Nat}(h:Wd s)(hb:WO s=true):∃as,vR [.v<|.str s]=aA (.v<|.int (cu s:Nat),as):=by
 have a0:=oR h;rw[hb] at a0;unfold WO at hb;simp only[bo,decide_eq_true_eq] at hb;obtain⟨⟨h1,h6⟩,hd,_⟩:=hb;have i:rZ (.str s)=aA (.int (cu s:Nat)):=if_pos ⟨λz=>by rw[z] at h1;simp at h1,by omega,hd⟩;refine qR (r':=[.v<|.str s]) ?_;show vM [.v<|.str s]=_;exact yS (xn a0)<|yO<|u8 rfl i
noncomputable def iY:List Nat:=[110,97,109,101]
noncomputable def s_:List Nat:=[110,117,109]
def ZJ(s:List Nat):Option D:=if qN s=true then aA (.tup [.str iY,.str s]) else if WO s=true then aA (.tup [.str s_,.int (cu s:Nat)]) else aB
def pA{f:ME}{r:En}{b:Bool}(e:f r=aA (.bl b)):uG f r=aA b:=by unfold uG;rw[e];rfl
def SJ{s:List Nat}(h:Wd s){d:D}(e:ZJ s=aA d):(∃as,jK [.v<|.str s]=aA (.v d,as))/\xS [.v<|.str s]=aB:=by
 have n0:zW 1 qA (zC (zD 0) zN) [.v<|.str s]=aA (.bl<|qN s):=bJ h rfl;unfold ZJ at e;cases hn:qN s with
 |true=>
  rw[if_pos hn] at e;cases e;rw[hn] at n0;have t:vD (zC (mC<|.str [110,97,109,101])<|zC (zD 0) zN) [.v<|.str s]=aA (.tup [.str iY,.str s]):=qZ (zE zH<|zE rfl zO) (by simp);refine⟨qR (r':=[.v<|.str s])<|wT (pA n0)<|yO t,?_⟩;show xO [.v<|.str s]=_;exact Nr (r':=[.v<|.str s]) (d:=.tup [.str iY,.str s]) (by rw[o5<|pA n0];exact yO t)
 |false=>
  rw[if_neg (by rw[hn];exact ah)] at e;rw[hn] at n0;split at e
  .rename_i hm;cases e;have t:vD (zC (mC<|.str [110,117,109])<|zC (zW 1 vR<|zC (zD 0) zN) zN) [.v<|.str s]=aA (.tup [.str s_,.int (cu s:Nat)]):=
    qZ (zE zH<|zE (yG (p:=.v<|.int _) (zE rfl zO) rfl<|Tj h hm) zO) (by simp)
   refine⟨qR (r':=[.v<|.str s])<|yS (pA n0)<|yO t,?_⟩;show xO [.v<|.str s]=_;unfold xO;rw[kF (r':=[.v<|.str s]) (by rw[cC<|pA n0];rfl)];show(aA<|D.str [110,117,109]).bind (λ_=>vZ 1 xY (zC (zD 0) zN) [.v<|.str s])=aB;rw[aa];exact(dW (l:=[.str s]) (zE rfl zO) rfl).trans (Vm h hm)
  .cases e
def SM{s:List Nat}(h:Wd s)(e:ZJ s=aB):xS [.v<|.str s]=aA NL:=by
 have n0:zW 1 qA (zC (zD 0) zN) [.v<|.str s]=aA (.bl<|qN s):=bJ h rfl;unfold ZJ at e;split at e
 .cases e
 .rename_i hn;split at e
  .cases e
  .rename_i hm;rw[jf.mpr hn] at n0;show xO [.v<|.str s]=_;unfold xO;rw[kF (r':=[.v<|.str s]) (by rw[cC<|pA n0];rfl)];show(aA<|D.str [110,117,109]).bind (λ_=>vZ 1 xY (zC (zD 0) zN) [.v<|.str s])=_;rw[aa];exact(dW (l:=[.str s]) (zE rfl zO) rfl).trans (Tk h<|jf.mpr hm)
noncomputable def wt(W:List (List Nat)):List D:=(W.map D.str).reverse
def XV(w:List Nat)(W:List (List Nat)):wt (w::W)=wt W++[.str w]:=by simp[wt]
def MM{i:Nat}{r:En}{S:List D}{d:D}(e:r[i]?=aA (.p<|S++[d])):iS i r=aA (d,r.set i<|.p S):=by
 simp[iS,ZF,e,Sl.ml,X7]
def Tw(S:List D)(d:D):wW [.p<|S++[d]]=aA (.v d,[.p S]):=by
 have c:jW (vL<|jP 0) [.p<|S++[d]]=aA false:=by
  unfold jW;rw[show vL (jP 0) [.p<|S++[d]]=aA (!(S++[d]).isEmpty) from rfl];simp
 show aY 1 1 uH [.p<|S++[d]]=_;unfold aY;have e:uH [.p<|S++[d]]=aA (.rt d [.p S]):=by
  refine yS c ?_;unfold F_;rw[MM (S:=S) (d:=d) rfl];rfl
 rw[show([.p<|S++[d]]++bq (1-1) Sl.un)=[.p<|S++[d]] from rfl,e];rfl
def Vw(S:List D)(d:D):xQ [.p<|S++[d]]=aB:=by
 have c:jW (vL<|jP 0) [.p<|S++[d]]=aA false:=by
  unfold jW;rw[show vL (jP 0) [.p<|S++[d]]=aA (!(S++[d]).isEmpty) from rfl];simp
 show x0 [.p<|S++[d]]=_;unfold x0;rw[XT c];rfl
def Tz:xQ [.p []]=aA NL:=by
 show x0 [.p []]=_;unfold x0;rw[o4 rfl];exact v7 ⟨_,rfl⟩
def XL{n i:Nat}{m:MF}{z:MZ}{r:En}{L L' es:List D}{d:D}{as:List Sl}(hr:r[i]?=aA (.p L))(hz:z r=aA ([],es))(hn:1+es.length=n)(hm:m (.p L::es.map .v)=aA (.v d,as))(ha:as[0]?=aA (.p L')):qS n m i z r=aA (d,r.set i<|.p L'):=by
 unfold qS ZF;rw[hr];show(z r).bind _=_;rw[hz,aa];simp only[am];rw[if_pos<|by omega];show(m (.p L::es.map .v)).bind _=_;rw[hm,aa];simp only[ha,X7,hr];rfl
def Nd{n i:Nat}{m:MF}{z:MZ}{r:En}{L L' es:List D}{d:D}{as:List Sl}(hr:r[i]?=aA (.o L))(hz:z r=aA ([],es))(hn:1+es.length=n)(hm:m (.p L::es.map .v)=aA (.v d,as))(ha:as[0]?=aA (.p L')):qS n m i z r=aA (d,r.set i<|.o L'):=by
 unfold qS ZF;rw[hr];show(z r).bind _=_;rw[hz,aa];simp only[am];rw[if_pos<|by omega];show(m (.p L::es.map .v)).bind _=_;rw[hm,aa];simp only[ha,X7,hr];rfl
def dA{n i:Nat}{m:List Sl->Option Str}{z:MZ}{r:En}{L es:List D}(hr:ZF r i=aA L)(hz:z r=aA ([],es))(hn:1+es.length=n):cG n m i z r=m (.p L::es.map .v):=by
 unfold cG;rw[hr,aa,hz,aa,if_pos (by simp only[am];omega)];rfl
def J9(S:List D)(d:D)(r:En)(e:ZF r 0=aA (S++[d])):cG 1 xQ 0 (zP zN) r=aB:=(dA (es:=[]) e rfl rfl).trans<|Vw S d
def Kx(r:En)(e:ZF r 0=aA []):cG 1 xQ 0 (zP zN) r=aA NL:=(dA (es:=[]) e rfl rfl).trans Tz
def rF{j:Nat}{r r2:En}{S:List D}{d:D}(e:r[0]?=aA (.p<|S++[d]))(e2:y9 j d (r.set 0<|.p S)=aA r2):vE j (qS 1 wW 0<|zP zN) r=aA (.nx r2):=by
 have w0:qS 1 wW 0 (zP zN) r=aA (d,r.set 0<|.p S):=XL (es:=[]) (as:=[.p S]) e rfl rfl (Tw S d) rfl;unfold vE;rw[w0,aa];show(y9 j d<|r.set 0<|.p S).map Fl.nx=_;rw[e2];rfl
def Gw{n N:Nat}{s:MS}{as:List Sl}{d:D}{r':En}(e:s (as++bq (N-n) .un)=aA (.rt d r')):aY n N s as=aA (.v d,r'.take n):=by
 unfold aY;rw[e];rfl
def UB{x:List Nat}(h:Wd x)(hn:qN x=true)(S:List D):kQ [.p<|S++[.str x]]=aA (.v<|.str x,[.p S]):=by
 have s0:vE 1 (qS 1 wW 0<|zP zN) [.p<|S++[.str x],.un]=aA (.nx [.p S,.v<|.str x]):=rF (S:=S) (d:=.str x) rfl rfl;have n0:zW 1 qA (zC (zD 1) zN) [.p S,.v<|.str x]=aA (.bl true):=by rw[<-hn];exact bJ h rfl
 have e:uI [.p<|S++[.str x],.un]=aA (.rt (.str x) [.p S,.v<|.str x]):=by
  unfold uI;exact(xA s0).trans (yS (xn n0)<|yO rfl)
 exact Gw (n:=1) (N:=2) (as:=[.p<|S++[.str x]]) e
def JH{x:List Nat}(h:Wd x)(hn:qN x=true)(S:List D):wM [.p<|S++[.str x]]=aB:=by
 have s0:vE 1 (qS 1 wW 0<|zP zN) [.p<|S++[.str x],.un]=aA (.nx [.p S,.v<|.str x]):=rF (S:=S) (d:=.str x) rfl rfl;have n0:zW 1 qA (zC (zD 1) zN) [.p S,.v<|.str x]=aA (.bl true):=by rw[<-hn];exact bJ h rfl
 show xH [.p<|S++[.str x],.un]=_;unfold xH;exact(tW<|J9 S _ _ rfl).trans ((kF s0).trans<|(XT<|xn n0).trans rfl)
def UC{x:List Nat}(h:Wd x)(hn:qN x=false)(S:List D):wM [.p<|S++[.str x]]=aA NL:=by
 have s0:vE 1 (qS 1 wW 0<|zP zN) [.p<|S++[.str x],.un]=aA (.nx [.p S,.v<|.str x]):=rF (S:=S) (d:=.str x) rfl rfl;have n0:zW 1 qA (zC (zD 1) zN) [.p S,.v<|.str x]=aA (.bl false):=by rw[<-hn];exact bJ h rfl
 show xH [.p<|S++[.str x],.un]=_;unfold xH;exact(tW<|J9 S _ _ rfl).trans ((kF s0).trans<|(o4<|xn n0).trans<|v7<|L7 h rfl<|by decide)
def Vs:wM [.p []]=aA NL:=by
 show xH [.p [],.un]=_;unfold xH;exact XR<|Kx _ rfl
noncomputable abbrev Ws:=List<|List Nat
def fW(f:Ws->Option (D×Ws)):List Nat->Ws->Option (List D×Ws)
 |[],W=>aA ([],W)
 |c::sh,W=>if c=110 then (match W with
   |[]=>aB
   |x::W'=>if qN x=true then (fW f sh W').map λp=>(.str x::p.1,p.2) else aB)
  else (f W).bind λp=>(fW f sh p.2).map λq=>(p.1::q.1,q.2)
def tk:Nat->Ws->Option (D×Ws)
 |0,_=>aB
 |_+1,[]=>aB
 |k+1,w::W=>match look yN w with
  |none=>(ZJ w).map λd=>(d,W)
  |some sh=>(fW (tk k) sh W).map λp=>(.tup (.str w::p.1),p.2)
mutual
inductive Tr:Bool->Nat->Ws->Prop
 |aU {w:List Nat}:look yN w=aB->qN w=true->Tr true 0 [w]
 |num {w:List Nat}:look yN w=aB->qN w=false->WO w=true->Tr false 0 [w]
 |nd {w:List Nat} {sh:List Nat} {dp:Nat} {W:Ws}:look yN w=aA sh->yq sh dp W->dp<=30->Tr false dp (w::W)
inductive yq:List Nat->Nat->Ws->Prop
 |nil:yq [] 0 []
 |n {x:List Nat} {sh:List Nat} {dp:Nat} {W:Ws}:look yN x=aB->qN x=true->yq sh dp W->yq (110::sh) dp (x::W)
 |e {b:Bool} {d:Nat} {V:Ws} {sh:List Nat} {dp:Nat} {W:Ws}:Tr b d V->yq sh dp W->yq (69::sh) (max (d+1) dp) (V++W)
end
def Tr.le:∀{b:Bool} {d:Nat} {V:Ws},Tr b d V->d<=30
 |_,_,_,.aU _ _=>cz _
 |_,_,_,.num _ _ _=>cz _
 |_,_,_,.nd _ _ h=>h
def oO{tbl:List (List Nat×List Nat)}{w v:List Nat}(h:look tbl w=aA v):(w,v)∈tbl:=by
 unfold look at h;obtain⟨q,e,rfl⟩:=Option.map_eq_some_iff.mp h;have m:=qq e;have p:=List.find?_some e
 have:q.1=w:=by simpa using p
 rw[<-this];exact m
def WT{tbl:List (List Nat×List Nat)}{s:List Nat}(h:∀q∈tbl,q.1≠s):look tbl s=aB:=by
 unfold look;rw[List.find?_eq_none.mpr λq hq=>by simpa using h q hq];rfl
def ZM:∀q∈yN,(q.1∈kept\/∃c∈q.1,c<97)/\∀c∈q.2,c=110\/c=69:=by decide
def rW{x:List Nat}(h:qN x=true):look yN x=aB:=WT λq hq z=>by
 unfold qN at h;simp only[bo,eg,pe,decide_eq_false_iff_not] at h;rcases(ZM q hq).1 with k|⟨c,hc,lt⟩
 .exact h.2.2<|z ▸ k
 .have:=h.2.1 c<|z ▸ hc
  unfold h_ at this;simp only[bo,decide_eq_true_eq] at this;omega
def ZH{w sh:List Nat}(h:look yN w=aA sh):∀c∈sh,c=110\/c=69:=(ZM _<|oO h).2
def U3{w:List Nat}{d:D}(h:look yN w=aB)(e:ZJ w=aA d):∃b,Tr b 0 [w]:=by
 unfold ZJ at e;split at e
 .rename_i hn;exact⟨true,.aU h hn⟩
 .rename_i hn;split at e
  .rename_i hm;exact⟨false,.num h (jf.mpr hn) hm⟩
  .cases e
theorem rB{k:Nat}(ih:∀W d W',tk k W=aA (d,W')->∃b dp V,W=V++W'/\Tr b dp V/\dp<k):∀(sh:List Nat) (W:Ws) (l:List D) (W':Ws),(∀c∈sh,c=110\/c=69)->fW (tk k) sh W=aA (l,W')->∃dp V,W=V++W'/\yq sh dp V/\dp<=k
 |[],W,l,W',_,e=>by
  unfold fW at e;cases e;exact⟨0,[],rfl,.nil,cz _⟩
 |c::sh,W,l,W',hc,e=>by
  unfold fW at e;have i9:∀c∈sh,c=110\/c=69:=λq hq=>hc q (by simp[hq])
  split at e
  .rename_i IM;subst IM;cases W with
   |nil=>cases e
   |cons x W=>
    simp only at e;split at e
    .rename_i hn;obtain⟨⟨l2,W2⟩,e1,e2⟩:=a8 e;cases e2;obtain⟨dp,V,rfl,t,hd⟩:=rB ih sh W l2 W2 i9 e1;exact⟨dp,x::V,rfl,.n (rW hn) hn t,hd⟩
    .cases e
  .rename_i hn;have IY:c=69:=(hc c<|by simp).resolve_left hn;subst IY;obtain⟨⟨d,W1⟩,e1,e2⟩:=aI e;obtain⟨⟨l2,W2⟩,e3,e4⟩:=a8 e2;cases e4;obtain⟨b,d1,V,rfl,t,hd⟩:=ih _ _ _ e1;obtain⟨dp,V2,z,t2,hd2⟩:=rB ih sh W1 l2 W2 i9 e3;subst z;exact⟨max (d1+1) dp,V++V2,by simp,.e t t2,by omega⟩
theorem YW:∀(k:Nat),k<=31->∀W d W',tk k W=aA (d,W')->∃b dp V,W=V++W'/\Tr b dp V/\dp<k
 |0,_,W,d,W',e=>by cases e
 |k+1,hk,[],d,W',e=>by cases e
 |k+1,hk,w::W,d,W',e=>by
  unfold tk at e;split at e
  .rename_i hl;obtain⟨d',e1,e2⟩:=a8 e;cases e2;obtain⟨b,t⟩:=U3 hl e1;exact⟨b,0,[w],rfl,t,by omega⟩
  .rename_i sh hl;obtain⟨⟨l,W2⟩,e1,e2⟩:=a8 e;cases e2;obtain⟨dp,V,rfl,t,hd⟩:=rB (YW k<|by omega) sh W l W2 (ZH hl) e1;exact⟨false,dp,w::V,rfl,.nd hl t<|by omega,by omega⟩
mutual
theorem Ms:∀{b:Bool} {dp:Nat} {V:Ws},Tr b dp V->∀(k:Nat),dp<k->∀W',∃d,tk k (V++W')=aA (d,W')
 |_,_,_,.aU (w:=w) hl hn,k+1,_,W'=>by
  refine⟨.tup [.str iY,.str w],?_⟩;show tk (k+1) (w::W')=_;unfold tk;rw[hl];simp only[ZJ,hn,if_true,iw]
 |_,_,_,.num (w:=w) hl hn hm,k+1,_,W'=>by
  refine⟨.tup [.str s_,.int (cu w:Nat)],?_⟩;show tk (k+1) (w::W')=_;unfold tk;rw[hl];simp only[ZJ,hn,hm,if_true,iq,if_false,iw]
 |_,_,_,.nd (w:=w) (sh:=sh) (W:=W) hl t _,k+1,hk,W'=>by
  obtain⟨l,e⟩:=YV t k (by omega) W';refine⟨.tup (.str w::l),?_⟩;show tk (k+1) (w::(W++W'))=_;unfold tk;rw[hl];simp only[e,iw]
theorem YV:∀{sh:List Nat} {dp:Nat} {V:Ws},yq sh dp V->∀(k:Nat),dp<=k->∀W',∃l,fW (tk k) sh (V++W')=aA (l,W')
 |_,_,_,.nil,k,_,W'=>⟨[],rfl⟩
 |_,_,_,.n (x:=x) (sh:=sh) (W:=W) hl hn t,k,hk,W'=>by
  obtain⟨l,e⟩:=YV t k hk W';refine⟨.str x::l,?_⟩;show fW (tk k) (110::sh) (x::(W++W'))=_;unfold fW;simp only[if_true,hn,e,iw]
 |_,_,_,.e (V:=V) (sh:=sh) (W:=W) t t2,k,hk,W'=>by
  obtain⟨d,e1⟩:=Ms t k (by omega)<|W++W';obtain⟨l,e2⟩:=YV t2 k (by omega) W';refine⟨d::l,?_⟩;rw[gk];unfold fW;rw[if_neg<|by decide,e1,aa];simp only[e2,iw]
end
noncomputable abbrev It:=Bool×Nat
noncomputable def low(sh:List Nat):List Nat:=sh.map λc=>if c=69 then 101 else c
def lW:List Nat->List It->Nat->Option (Nat×List It)
 |[],st,dp=>aA (dp,st)
 |_::_,[],_=>aB
 |c::sh,(b,lo)::st,dp=>if c=110/\b=false then aB else lW sh st (if c=101 then max dp (lo+1) else dp)
def lN(w:List Nat)(st:List It):Option (List It):=match look yN w with
 |some sh=>(lW (low sh) st 0).bind λp=>if p.1 > 30 then aB else aA ((false,p.1)::p.2)
 |none=>if qN w=true then aA ((true,0)::st) else if WO w=true then aA ((false,0)::st) else aB
def bk:Ws->List It->Option (List It)
 |[],st=>aA st
 |w::ws,st=>(lN w st).bind<|bk ws
theorem Ef:∀(a b:Ws) (st:List It),bk (a++b) st=(bk a st).bind (bk b)
 |[],b,st=>rfl
 |w::a,b,st=>by
  show(lN w st).bind (bk<|a++b)=((lN w st).bind<|bk a).bind (bk b);cases lN w st with
  |none=>rfl
  |some s=>exact Ef a b s
mutual
theorem Ml:∀{b:Bool} {dp:Nat} {V:Ws},Tr b dp V->∀st,bk V.reverse st=aA ((b,dp)::st)
 |_,_,_,.aU (w:=w) hl hn,st=>by
  show(lN w st).bind (bk [])=_;unfold lN;rw[hl];simp only[hn,if_true,aa];rfl
 |_,_,_,.num (w:=w) hl hn hm,st=>by
  show(lN w st).bind (bk [])=_;unfold lN;rw[hl];simp only[hn,hm,if_true,iq,if_false,aa];rfl
 |_,_,_,.nd (w:=w) (sh:=sh) (dp:=dp) (W:=W) hl t Fd,st=>by
  obtain⟨its,h1,h2⟩:=XM t;rw[df,Ef,h1,aa];show(lN w<|its++st).bind (bk [])=_;unfold lN;rw[hl];simp only[h2,aa,su];rw[if_neg<|by omega];rfl
theorem XM:∀{sh:List Nat} {dp:Nat} {V:Ws},yq sh dp V->∃its:List It,(∀st,bk V.reverse st=aA (its++st))/\∀st acc,lW (low sh) (its++st) acc=aA (max acc dp,st)
 |_,_,_,.nil=>⟨[],λst=>rfl,λst acc=>by simp[low,lW]⟩
 |_,_,_,.n (x:=x) (sh:=sh) (dp:=dp) (W:=W) hl hn t=>by
  obtain⟨its,h1,h2⟩:=XM t;refine⟨(true,0)::its,λst=>?_,λst acc=>?_⟩
  .rw[df,Ef,h1,aa];show(lN x<|its++st).bind (bk [])=_;unfold lN;rw[hl];simp only[hn,if_true,aa];rfl
  .show lW (110::low sh) ((true,0)::(its++st)) acc=_;unfold lW;rw[if_neg<|by simp,if_neg<|by decide];exact h2 st acc
 |_,_,_,.e (b:=b) (d:=d) (V:=V) (sh:=sh) (dp:=dp) (W:=W) t t2=>by
  obtain⟨its,h1,h2⟩:=XM t2;refine⟨(b,d)::its,λst=>?_,λst acc=>?_⟩
  .rw[uz,Ef,h1,aa];exact Ml t _
  .show lW (101::low sh) ((b,d)::(its++st)) acc=_;unfold lW;rw[if_neg<|by simp,if_pos rfl,h2]
   congr 2
   first|exact gv .. | exact(gv ..).symm|omega
end
inductive Bq:List It->Ws->Prop
 |nil:Bq [] []
 |cons {b:Bool} {d:Nat} {V:Ws} {st:List It} {W:Ws}:Tr b d V->Bq st W->Bq ((b,d)::st) (V++W)
theorem rK:∀(sh:List Nat) (st:List It) (acc:Nat) (W:Ws) (p:Nat×List It),(∀c∈sh,c=110\/c=69)->Bq st W->lW (low sh) st acc=aA p->∃V W' dp,W=V++W'/\yq sh dp V/\p.1=max acc dp/\Bq p.2 W'
 |[],st,acc,W,p,_,hs,e=>by
  have e':aA (acc,st)=aA p:=e;cases e';exact⟨[],W,0,rfl,.nil,by simp,hs⟩
 |c::sh,[],acc,W,p,_,hs,e=>by cases e
 |c::sh,(b,lo)::st,acc,W,p,hc,hs,e=>by
  have i9:∀c∈sh,c=110\/c=69:=λq hq=>hc q (by simp[hq])
  cases hs with
  |cons t yh=>
   rename_i V W';rcases hc c (by simp) with rfl|rfl
   .have e2:lW (110::low sh) ((b,lo)::st) acc=aA p:=e;unfold lW at e2;split at e2
    .cases e2
    .rename_i hn;rw[if_neg<|by decide] at e2;have hb:b=true:=by
      cases b
      .exact absurd ⟨rfl,rfl⟩ hn
      .rfl
     subst hb;cases t with
     |aU hl Aw=>
      rename_i w;obtain⟨V2,W2,dp,rfl,t2,hd,h2⟩:=rK sh st acc W' p i9 yh e2;exact⟨w::V2,W2,dp,rfl,.n hl Aw t2,hd,h2⟩
   .have e2:lW (101::low sh) ((b,lo)::st) acc=aA p:=e;unfold lW at e2;rw[if_neg<|by simp,if_pos rfl] at e2;obtain⟨V2,W2,dp,rfl,t2,hd,h2⟩:=rK sh st _ W' p i9 yh e2;exact⟨V++V2,W2,max (lo+1) dp,by simp,.e t t2,by rw[hd];first|exact gv .. | exact(gv ..).symm|omega,h2⟩
theorem Nc:∀(ws:Ws) (st aW:List It) (W:Ws),Bq st W->bk ws st=aA aW->Bq aW (ws.reverse++W)
 |[],st,aW,W,hs,e=>by cases e;exact hs
 |w::ws,st,aW,W,hs,e=>by
  obtain⟨s1,e1,e2⟩:=aI e;rw[df,gk];refine Nc ws s1 aW (w::W) ?_ e2;unfold lN at e1;split at e1
  .rename_i sh hl;obtain⟨⟨dp,s2⟩,e3,e4⟩:=aI e1;simp only at e4;split at e4
   .cases e4
   .rename_i Fd;cases e4;obtain⟨V,W',d,rfl,t,hd,h2⟩:=rK sh st 0 W _ (ZH hl) hs e3;simp only[su] at hd;subst hd;exact .cons (V:=w::V) (.nd hl t<|by omega) h2
  .rename_i hl;split at e1
   .rename_i hn;cases e1;exact .cons (V:=[w]) (.aU hl hn) hs
   .rename_i hn;split at e1
    .rename_i hm;cases e1;exact .cons (V:=[w]) (.num hl (jf.mpr hn) hm) hs
    .cases e1
def same(W:Ws):(∃d,tk 31 W=aA (d,[]))↔∃x,bk W.reverse []=aA [x]:=by
 constructor
 .rintro ⟨d,e⟩;obtain⟨b,dp,V,rfl,t,_⟩:=YW 31 (ao _) W d [] e;rw[dk];exact⟨_,Ml t []⟩
 .rintro ⟨⟨b,d⟩,e⟩
  have:=Nc W.reverse [] _ [] .nil e
  rw[List.reverse_reverse,dk] at this;cases this with
  |cons t hs=>
   cases hs;obtain⟨d',e'⟩:=Ms t 31 (by have:=t.le;omega) [];exact⟨d',by simpa using e'⟩
def Mi{i:Nat}{f:En->Option (D×En)}{r r1:En}{S S0:List D}{d:D}(e0:r[i]?=aA (.o S0))(e:f r=aA (d,r1))(e1:r1[i]?=aA (.o S))(h:S.length<ag):YT i f r=aA (.aG,r1.set i<|.o<|S++[d]):=by
 simp[YT,ZF,e0,e,e1,Sl.ml,X7,h]
def p7{bd:D->En->Option En}{g:MS}{x:MX}{d:D}{l:List D}{r r1:En}{n:Str}(h:bd d r=aA r1)(e:x r1=aA n):uZ bd g x (d::l) r=aA n:=by
 unfold uZ;rw[h,aa,e]
def tT{bd:D->En->Option En}{g:MS}{x:MX}{d:D}{l:List D}{r r1 r':En}(h:bd d r=aA r1)(e:x r1=aB)(e2:g r1=aA (.nx r')):uZ bd g x (d::l) r=uZ bd g x l r':=by
 conv=>lhs;unfold uZ
 rw[h,aa,e];simp only[e2,aa]
def He{i:Nat}{x:MX}{r:En}{l:List D}(e:ZF r i=aA l):zw i x r=x r:=by unfold zw;rw[e];rfl
def o6(m:MF):MS:=(aJ (aD<|zG aQ (zD 4)<|mC<|.str [110])
 (sX<|YT 3<|qS 1 kQ 0<|zP zN)
 (sX<|YT 3<|qS 2 m 0<|zP<|zC (zG xC (zD 1)<|mC<|.int 1) zN))
def tP(mx:List Sl->Option Str):MX:=(fA (aD<|zG aQ (zD 4)<|mC<|.str [110])
 (zw 3<|cG 1 wM 0<|zP zN)
 (zw 3<|cG 2 mx 0<|zP<|zC (zG xC (zD 1)<|mC<|.int 1) zN))
structure AF(W:Ws):Prop where
 wd:∀w∈W,Wd w
 len:W.length<=100000
def XN{V W:Ws}(h:AF (V++W)):AF W:=⟨λw hw=>h.wd w<|by simp[hw],by have:=h.len;rw[ae] at this;omega⟩
def Jz(m:MF)(mx:List Sl->Option Str)(k:Nat):Prop:=∀(b:Nat) (W:Ws),b+k=31->AF W ->
 (∀d W',tk k W=aA (d,W')->m [.p<|wt W,.v<|.int b]=aA (.v d,[.p<|wt W',.v<|.int b])/\mx [.p<|wt W,.v<|.int b]=aB)/\(tk k W=aB->mx [.p<|wt W,.v<|.int b]=aA NL)
noncomputable def sg(l:List Nat):List D:=l.map λc=>.str [c]
variable{m:MF}{mx:List Sl->Option Str}{k b:Nat}{w:D}
def c4{S T:List D}{c:Nat}:aD (zG aQ (zD 4)<|mC<|.str [110]) [.p S,.v<|.int b,.v w,.o T,.v<|.str [c]]=aA (decide (c=110)):=by
 refine(kB<|zT (x:=.str [c]) (y:=.str [110]) rfl zH rfl).trans ?_
 congr 1
 rw[decide_eq_decide];simp
def Kz{S T:List D}{x:Sl}:(zP<|zC (zG xC (zD 1)<|mC<|.int 1) zN) [.p S,.v<|.int b,.v w,.o T,x]=aA ([],[.int ((b+1:Nat):Int)]):=rfl
def PZ{S:List D}{d:D}{r:En}(q:kQ [.p<|S++[d]]=aA (.v d,[.p S]))(e:r[0]?=aA (.p<|S++[d])):qS 1 kQ 0 (zP zN) r=aA (d,r.set 0<|.p S):=
 XL (L:=S++[d]) (es:=[]) (as:=[.p S]) e rfl rfl q rfl
def Sk{x:List Nat}{W:Ws}{T:List D}(h:Wd x)(hn:qN x=true)(hT:T.length<=1000):o6 m [.p<|wt (x::W),.v<|.int b,.v w,.o T,.v<|.str [110]]=aA (.nx [.p<|wt W,.v<|.int b,.v w,.o<|T++[.str x],.v<|.str [110]]):=by
 rw[XV];have q:=UB h hn<|wt W;have c:=PZ (S:=wt W) (d:=.str x) (r:=[.p<|wt W++[.str x],.v<|.int b,.v w,.o T,.v<|.str [110]]) q rfl;unfold o6;rw[o5<|c4.trans rfl];exact ZA (Mi rfl c rfl<|bj hT<|by decide)
def Sm{x:List Nat}{W:Ws}{T:List D}(h:Wd x):tP mx [.p<|wt (x::W),.v<|.int b,.v w,.o T,.v<|.str [110]]=if qN x=true then aB else aA NL:=by
 rw[XV];unfold tP;refine(o4<|c4.trans rfl).trans ((He rfl).trans<|(dA (L:=wt W++[.str x]) (es:=[]) rfl rfl rfl).trans ?_);cases hn:qN x with
 |true=>rw[if_pos rfl];exact JH h hn _
 |false=>rw[if_neg ah];exact UC h hn _
def TU{T:List D}:tP mx [.p<|wt [],.v<|.int b,.v w,.o T,.v<|.str [110]]=aA NL:=by
 unfold tP;exact(o4<|c4.trans rfl).trans ((He rfl).trans<|(dA (L:=[]) (es:=[]) rfl rfl rfl).trans Vs)
def Sj{W W':Ws}{T:List D}{d:D}(hm:m [.p<|wt W,.v<|.int ((b+1:Nat):Int)]=aA (.v d,[.p<|wt W',.v<|.int ((b+1:Nat):Int)]))(hT:T.length<=1000):o6 m [.p<|wt W,.v<|.int b,.v w,.o T,.v<|.str [69]]=aA (.nx [.p<|wt W',.v<|.int b,.v w,.o<|T++[d],.v<|.str [69]]):=by
 have c:qS 2 m 0 (zP<|zC (zG xC (zD 1)<|mC<|.int 1) zN) [.p<|wt W,.v<|.int b,.v w,.o T,.v<|.str [69]]=aA (d,[.p<|wt W',.v<|.int b,.v w,.o T,.v<|.str [69]]):=XL (L:=wt W) (L':=wt W') (es:=[.int ((b+1:Nat):Int)]) (as:=[.p<|wt W',.v<|.int ((b+1:Nat):Int)]) rfl Kz rfl hm rfl;unfold o6;rw[cC<|c4.trans rfl];exact ZA (Mi rfl c rfl<|bj hT<|by decide)
def Mn{W:Ws}{T:List D}{o:Option Str}(hm:mx [.p<|wt W,.v<|.int ((b+1:Nat):Int)]=o):tP mx [.p<|wt W,.v<|.int b,.v w,.o T,.v<|.str [69]]=o:=by
 unfold tP;exact(XT<|c4.trans rfl).trans ((He rfl).trans<|(dA (L:=wt W) (es:=[.int ((b+1:Nat):Int)]) rfl Kz rfl).trans hm)
theorem GB(hm:Jz m mx k)(hk:k<=31)(hb:b+1+k=31):∀(sh:List Nat) (W:Ws) (T:List D) (x:Sl),(∀c∈sh,c=110\/c=69)->AF W->T.length+sh.length<=1000->aL x ->
  (∀l W',fW (tk k) sh W=aA (l,W')->∃x',aL x'/\gM (y9 4) (o6 m) (sg sh) [.p<|wt W,.v<|.int b,.v w,.o T,x]=aA (.nx [.p<|wt W',.v<|.int b,.v w,.o<|T++l,x'])/\uZ (y9 4) (o6 m) (tP mx) (sg sh) [.p<|wt W,.v<|.int b,.v w,.o T,x]=aB)
  /\ (fW (tk k) sh W=aB->uZ (y9 4) (o6 m) (tP mx) (sg sh) [.p<|wt W,.v<|.int b,.v w,.o T,x]=aA NL)
 |[],W,T,x,_,_,_,hx=>by
  refine⟨λl W' e=>?_,λe=>by cases e⟩;cases e;exact⟨x,hx,by rw[dk];rfl,rfl⟩
 |c::sh,W,T,x,hc,hW,hT,hx=>by
  have i9:∀c∈sh,c=110\/c=69:=λq hq=>hc q (by simp[hq])
  have Ou:T.length<=1000:=by omega
  have Ot:∀d:D,(T++[d]).length+sh.length<=1000:=λd=>by rw[ae,gx];rw[ac] at hT;omega
  have u:y9 4 (.str [c]) [.p<|wt W,.v<|.int b,.v w,.o T,x]=aA [.p<|wt W,.v<|.int b,.v w,.o T,.v<|.str [c]]:=yT (x:=x) rfl hx;have V0:sg (c::sh)=.str [c]::sg sh:=rfl;rw[V0];rcases hc c (by simp) with rfl|rfl
  .cases W with
   |nil=>
    refine⟨λl W' e=>?_,λ_=>p7 u TU⟩;unfold fW at e;rw[if_pos rfl] at e;cases e
   |cons y W=>
    have hy:Wd y:=hW.wd y (by simp);have Dk:AF W:=XN (V:=[y]) hW;have bx:=Sm (mx:=mx) (b:=b) (w:=w) (W:=W) (T:=T) hy;have et:fW (tk k) (110::sh) (y::W)=if qN y=true then (fW (tk k) sh W).map λp=>(.str y::p.1,p.2) else aB:=by
     conv=>lhs;unfold fW
     rw[if_pos rfl]
    cases hn:qN y with
    |false=>
     rw[hn,if_neg ah] at bx et;exact⟨λl W' e=>(by rw[et] at e;cases e),λ_=>p7 u bx⟩
    |true=>
     rw[hn,if_pos rfl] at bx et;have bt:=Sk (m:=m) (b:=b) (w:=w) (W:=W) hy hn Ou;obtain⟨i1,i2⟩:=GB hm hk hb sh W (T++[.str y]) (.v<|.str [110]) i9 Dk (Ot _) trivial;refine⟨λl W' e=>?_,λe=>?_⟩
     .rw[et] at e;obtain⟨⟨l2,W2⟩,e1,e2⟩:=a8 e;cases e2;obtain⟨x',h1,h2,h3⟩:=i1 l2 W2 e1;refine⟨x',h1,?_,?_⟩
      .rw[cN u bt,h2,gk];rfl
      .rw[tT u bx bt];exact h3
     .rw[et] at e;rw[tT u bx bt];exact i2<|jy.mp e
  .have et:fW (tk k) (69::sh) W=(tk k W).bind λp=>(fW (tk k) sh p.2).map λq=>(p.1::q.1,q.2):=by
    conv=>lhs;unfold fW
    rw[if_neg<|by decide]
   obtain⟨j1,j2⟩:=hm (b+1) W hb hW;cases ek:tk k W with
   |none=>
    rw[ek] at et;exact⟨λl W' e=>(by rw[et] at e;cases e),λ_=>p7 u<|Mn<|j2 ek⟩
   |some p=>
    obtain⟨d,W1⟩:=p;rw[ek] at et;obtain⟨q1,q2⟩:=j1 d W1 ek;obtain⟨_,_,V,eV,_,_⟩:=YW k hk W d W1 ek;have Dk:AF W1:=XN (V:=V)<|eV ▸ hW;have bx:=Mn (w:=w) (T:=T) q2;have bt:=Sj (w:=w) q1 Ou;obtain⟨i1,i2⟩:=GB hm hk hb sh W1 (T++[d]) (.v<|.str [69]) i9 Dk (Ot _) trivial;refine⟨λl W' e=>?_,λe=>?_⟩
    .rw[et] at e;obtain⟨⟨l2,W2⟩,e1,e2⟩:=a8 e;cases e2;obtain⟨x',h1,h2,h3⟩:=i1 l2 W2 e1;refine⟨x',h1,?_,?_⟩
     .rw[cN u bt,h2,gk];rfl
     .rw[tT u bx bt];exact h3
    .rw[et] at e;rw[tT u bx bt];exact i2<|jy.mp e
def IP{S:List D}{b:Nat}{x y z:Sl}:aD (zG a_ (zD 1)<|mC<|.int 30) [.p S,.v<|.int b,x,y,z]=aA (decide (30<b)):=by
 refine(oA (i:=(b:Int)) (j:=30) rfl zH).trans ?_
 congr 1
 rw[decide_eq_decide];omega
def Oq{S:List D}{b:Nat}{w:List Nat}{y z:Sl}:aD (aF (j' yN true)<|zD 2) [.p S,.v<|.int b,.v<|.str w,y,z]=aA (!(look yN w).isSome):=rfl
def Ly{S:List D}{b:Nat}{x y z:Sl}(hb:b<=30):aJ (aD<|zG a_ (zD 1)<|mC<|.int 30) jU yP [.p S,.v<|.int b,x,y,z]=aA (.nx [.p S,.v<|.int b,x,y,z]):=by
 rw[cC<|IP.trans<|by rw[decide_eq_false<|by omega]];rfl
def Kv{S:List D}{b:Nat}{w:List Nat}:vE 2 (qS 1 wW 0<|zP zN) [.p<|S++[.str w],.v<|.int b,.un,.un,.un]=aA (.nx [.p S,.v<|.int b,.v<|.str w,.un,.un]):=rF (S:=S) (d:=.str w) rfl rfl
def N5{S:List D}{b:Nat}{w sh:List Nat}{y z:Sl}(h:look yN w=aA sh):iX (aF (atT yN)<|zD 2) [.p S,.v<|.int b,.v<|.str w,y,z]=aA (sg sh):=by
 show((look yN w).map D.str).bind Lx=_;rw[h];rfl
def Jj{S:List D}{b:Nat}{w:List Nat}:dD 3 (yB<|zC (zD 2) zN) [.p S,.v<|.int b,.v<|.str w,.un,.un]=aA (.nx [.p S,.v<|.int b,.v<|.str w,.o [.str w],.un]):=rfl
def KH{S:List D}{b:Nat}{w:List Nat}{d:D}(h:∃as,jK [.v<|.str w]=aA (.v d,as)):zW 1 jK (zC (zD 2) zN) [.p S,.v<|.int b,.v<|.str w,.un,.un]=aA d:=yG (p:=.v d) (zE rfl zO) rfl h
def LK{S:List D}{b:Nat}{w:List Nat}{o:Option Str}(h:xS [.v<|.str w]=o):vZ 1 xS (zC (zD 2) zN) [.p S,.v<|.int b,.v<|.str w,.un,.un]=o:=(dW (l:=[.str w]) (zE rfl zO) rfl).trans h
def Lw:∀q∈yN,q.2.length<=10:=by decide
theorem Gb:∀k,k<=31->Jz (yI<|k+9) (zV<|k+9) k
 |0,_=>λb W hb hW=>by
  refine⟨λd W' e=>(by cases e),λ_=>?_⟩;show yZ (yI 8) (zV 8) [.p<|wt W,.v<|.int b,.un,.un,.un]=_;unfold yZ;exact XR<|(o4<|IP.trans<|by rw[decide_eq_true<|by omega]).trans<|v7 ⟨_,rfl⟩
 |k+1,hk=>λb W hb hW=>by
  have ih:=Gb k (by omega);have Op:b<=30:=by omega
  let m:=yI<|k+9
  let mx:=zV<|k+9
  have eM:∀S,zV (k+1+9) [.p S,.v<|.int b]=yZ m mx [.p S,.v<|.int b,.un,.un,.un]:=λS=>rfl
  have x1:∀(S:List D) (o:Option Str),(fU (cG 1 xQ 0<|zP zN)
 (qF (vE 2<|qS 1 wW 0<|zP zN)
 (fU (fA (aD<|aF (j' yN true)<|zD 2)
 (vZ 1 xS<|zC (zD 2) zN)
 mR)
 (qF (aJ (aD<|aF (j' yN true)<|zD 2)
 (qE<|zW 1 jK<|zC (zD 2) zN)
 yP)
 (qF (dD 3<|yB<|zC (zD 2) zN)
 (sB (y9 4) (iX<|aF (atT yN)<|zD 2) (o6 m)<|tP mx)))))) [.p S,.v<|.int b,.un,.un,.un]=o->zV (k+1+9) [.p S,.v<|.int b]=o:=λS o h=>by
   rw[eM];unfold yZ;refine(tW<|(XT<|IP.trans<|by rw[decide_eq_false<|by omega]).trans rfl).trans ((kF<|Ly Op).trans ?_);exact h
  cases W with
  |nil=>exact⟨λd W' e=>(by cases e),λ_=>x1 _ _<|XR<|Kx _ rfl⟩
  |cons w W=>
   have hw:Wd w:=hW.wd w (by simp);have Dk:AF W:=XN (V:=[w]) hW;rw[XV];have x2:∀(o:Option Str),(fU (fA (aD<|aF (j' yN true)<|zD 2)
 (vZ 1 xS<|zC (zD 2) zN)
 mR)
 (qF (aJ (aD<|aF (j' yN true)<|zD 2)
 (qE<|zW 1 jK<|zC (zD 2) zN)
 yP)
 (qF (dD 3<|yB<|zC (zD 2) zN)
 (sB (y9 4) (iX<|aF (atT yN)<|zD 2) (o6 m)<|tP mx)))) [.p<|wt W,.v<|.int b,.v<|.str w,.un,.un]=o->zV (k+1+9) [.p<|wt W++[.str w],.v<|.int b]=o:=λo h=>
    x1 _ _ ((tW<|J9 _ _ _ rfl).trans<|(kF Kv).trans h)
   have f1:∀(d:D) (r':En),(yC (aJ (aD<|aF (j' yN true)<|zD 2)
 (qE<|zW 1 jK<|zC (zD 2) zN)
 yP)
 (yC (dD 3<|yB<|zC (zD 2) zN)
 (yC (dQ (y9 4) (iX<|aF (atT yN)<|zD 2)<|o6 m)
 (qE<|Gv<|jP 3)))) [.p<|wt W,.v<|.int b,.v<|.str w,.un,.un]=aA (.rt d r')->yI (k+1+9) [.p<|wt W++[.str w],.v<|.int b]=aA (.v d,r'.take 2):=λd r' h=>by
    refine Gw (n:=2) (N:=5) (s:=wX m) (as:=[.p<|wt W++[.str w],.v<|.int b]) ?_;show wX m [.p<|wt W++[.str w],.v<|.int b,.un,.un,.un]=_;unfold wX;exact(xA<|Ly Op).trans ((xA Kv).trans h)
   cases hl:look yN w with
   |none=>
    have et:tk (k+1) (w::W)=(ZJ w).map λd=>(d,W):=by
     conv=>lhs;unfold tk
     rw[hl]
    have h2:aD (aF (j' yN true)<|zD 2) [.p<|wt W,.v<|.int b,.v<|.str w,.un,.un]=aA true:=Oq.trans (by rw[hl];rfl);refine⟨λd W' e=>?_,λe=>?_⟩
    .rw[et] at e;obtain⟨d',e1,e2⟩:=a8 e;cases e2;obtain⟨q1,q2⟩:=SJ hw e1;refine⟨f1 d [.p<|wt W,.v<|.int b,.v<|.str w,.un,.un]<|wT h2<|yO<|KH q1,x2 _ ?_⟩;refine(tW<|(o4 h2).trans<|LK q2).trans ?_;exact Nr (d:=d) (r':=[.p<|wt W,.v<|.int b,.v<|.str w,.un,.un]) (by rw[o5 h2];exact yO<|KH q1)
    .rw[et] at e;exact x2 _<|XR<|(o4 h2).trans<|LK<|SM hw<|jy.mp e
   |some sh=>
    have et:tk (k+1) (w::W)=(fW (tk k) sh W).map λp=>(.tup (.str w::p.1),p.2):=by
     conv=>lhs;unfold tk
     rw[hl]
    have h2:aD (aF (j' yN true)<|zD 2) [.p<|wt W,.v<|.int b,.v<|.str w,.un,.un]=aA false:=Oq.trans (by rw[hl];rfl);have Ī:sh.length<=10:=Lw _<|oO hl;obtain⟨i1,i2⟩:=GB (b:=b) (w:=.str w) ih (by omega) (by omega) sh W [.str w] .un (ZH hl) Dk (by simp;omega) trivial;have fi:∀z,gM (y9 4) (o6 m) (sg sh) [.p<|wt W,.v<|.int b,.v<|.str w,.o [.str w],.un]=z->dQ (y9 4) (iX<|aF (atT yN)<|zD 2) (o6 m) [.p<|wt W,.v<|.int b,.v<|.str w,.o [.str w],.un]=z:=λz h=>by
     unfold dQ;rw[N5 hl];exact h
    have yi:∀z,uZ (y9 4) (o6 m) (tP mx) (sg sh) [.p<|wt W,.v<|.int b,.v<|.str w,.o [.str w],.un]=z->sB (y9 4) (iX<|aF (atT yN)<|zD 2) (o6 m) (tP mx) [.p<|wt W,.v<|.int b,.v<|.str w,.o [.str w],.un]=z:=λz h=>by
     unfold sB;rw[N5 hl];exact h
    have x3:∀(o:Option Str),uZ (y9 4) (o6 m) (tP mx) (sg sh) [.p<|wt W,.v<|.int b,.v<|.str w,.o [.str w],.un]=o->zV (k+1+9) [.p<|wt W++[.str w],.v<|.int b]=o:=λo h=>
     x2 _ ((tW<|(XT h2).trans rfl).trans<|(kF (r':=[.p<|wt W,.v<|.int b,.v<|.str w,.un,.un]) (by rw[cC h2];rfl)).trans<|(kF Jj).trans<|yi _ h)
    refine⟨λd W' e=>?_,λe=>?_⟩
    .rw[et] at e;obtain⟨⟨l,W2⟩,e1,e2⟩:=a8 e;cases e2;obtain⟨x',EZ,q1,q2⟩:=i1 l W2 e1;refine⟨f1 _ [.p<|wt W2,.v<|.int b,.v<|.str w,.o<|[.str w]++l,x']<|yS h2<|(xA Jj).trans<|(xA<|fi _ q1).trans<|yO ?_,x3 _ q2⟩;rfl
    .rw[et] at e;exact x3 _<|i2<|jy.mp e
def JJ(t:List Nat):wS [32] (vU t [32])=t:=by
 let x:Str:=⟨t.toArray⟩
 let L:=jw x ⟨#[32]⟩
 have hL:vU t [32]=L.map λz=>z.cps.toList:=rfl
 rw[hL];have e:=pR [32]<|L.map λz=>z.cps.toList;rw[ia] at e;have e1:(L.map ((λs=>(⟨s.toArray⟩:Str)) ∘ λz:Str=>z.cps.toList))=L:=by
  conv=>rhs;rw[<-pq L]
  exact jr λz _=>rfl
 rw[e1] at e;have e2:ou (⟨[32].toArray⟩:Str) L=x:=nu x ⟨#[32]⟩;rw[e2] at e;have e3:=congrArg (λs:Str=>s.cps.toList) e;simpa [x] using e3.symm
theorem rY(c:Nat):∀(L:Ws) (s:List Nat),s∈L->s.length<=(wS [c] L).length/\∀q∈s,q∈wS [c] L
 |[],s,h=>by simp at h
 |[a],s,h=>by
  have:s=a:=by simpa using h
  subst this;exact⟨ao _,λq hq=>hq⟩
 |a::b::L,s,h=>by
  have e:wS [c] (a::b::L)=a++[c]++wS [c] (b::L):=rfl;rw[e];rcases av.mp h with(rfl|h)
  .exact⟨by simp only[ae];omega,λq hq=>by simp[hq]⟩
  .obtain⟨h1,h2⟩:=rY c (b::L) s h;exact⟨by simp only[ae];omega,λq hq=>by simp[h2 q hq]⟩
theorem nZ(c:Nat):∀(L:Ws),L.length<=(wS [c] L).length+1
 |[]=>by simp
 |[a]=>by simp
 |a::b::L=>by
  have e:wS [c] (a::b::L)=a++[c]++wS [c] (b::L):=rfl;have ih:=nZ c (b::L);rw[e];simp only[ae,ac,am] at ih ⊢;omega
def No{t:List Nat}(h:Tx 99999 t):AF (vU t [32]):=by
 have e:=JJ t;have l:=h.len;refine⟨λw hw=>?_,?_⟩
 .obtain⟨h1,h2⟩:=rY 32 _ w hw;rw[e] at h1 h2;exact⟨by omega,λc hc=>h.sm c<|h2 c hc⟩
 .have:=nZ 32<|vU t [32]
  rw[e] at this;omega
def F7{t:List Nat}(h:Tx 99999 t):dD 1 (BG<|v5 (zD 0)<|mC<|.str [32]) [.v<|.str t,.un,.un]=aA (.nx [.v<|.str t,.o<|wt<|vU t [32],.un]):=by
 have q:v5 (zD 0) (mC<|.str [32]) [.v<|.str t,.un,.un]=aA ((vU t [32]).map D.str):=by
  show(if ([32]:List Nat).length≠0/\t.length<ag then aA ((vU t [32]).map D.str) else aB)=_;rw[if_pos ⟨by decide,bj h.len<|by decide⟩]
 have sp:BG (v5 (zD 0)<|mC<|.str [32]) [.v<|.str t,.un,.un]=aA (wt<|vU t [32]):=by
  unfold BG;rw[q];rfl
 unfold dD;rw[sp];rfl
def Ky{t:D}{S:List D}:(zP<|zC (mC<|.int 0) zN) [.v t,.o S,.un]=aA ([],[.int ((0:Nat):Int)]):=rfl
def PB:yI RF=yI (31+9):=rfl
def Pd:zV RF=zV (31+9):=rfl
def F8{t d:D}{W W':Ws}(q:yI (31+9) [.p<|wt W,.v<|.int ((0:Nat):Int)]=aA (.v d,[.p<|wt W',.v<|.int ((0:Nat):Int)])):vE 2 (qS 2 (yI RF) 1<|zP<|zC (mC<|.int 0) zN) [.v t,.o<|wt W,.un]=aA (.nx [.v t,.o<|wt W',.v d]):=by
 rw[PB];have c:qS 2 (yI<|31+9) 1 (zP<|zC (mC<|.int 0) zN) [.v t,.o<|wt W,.un]=aA (d,[.v t,.o<|wt W',.un]):=Nd (L:=wt W) (L':=wt W') (es:=[.int ((0:Nat):Int)]) (as:=[.p<|wt W',.v<|.int ((0:Nat):Int)]) rfl Ky rfl q rfl;unfold vE;rw[c];rfl
def FS{t:D}{W:Ws}{o:Option Str}(q:zV (31+9) [.p<|wt W,.v<|.int ((0:Nat):Int)]=o):cG 2 (zV RF) 1 (zP<|zC (mC<|.int 0) zN) [.v t,.o<|wt W,.un]=o:=by
 rw[Pd];exact(dA (L:=wt W) (es:=[.int ((0:Nat):Int)]) rfl Ky rfl).trans q
def UQ{t:List Nat}(h:Tx 99999 t){d:D}(e:tk 31 (vU t [32])=aA (d,[])):(∃as,w6 [.v<|.str t]=aA (.v d,as))/\wD [.v<|.str t]=aB:=by
 obtain⟨q1,q2⟩:=(Gb 31 (ao _) 0 _ rfl<|No h).1 d [] e;refine⟨qR (r':=[.v<|.str t,.o [],.v d]) ?_,?_⟩
 .show qK [.v<|.str t,.un,.un]=_;unfold qK;exact(xA<|F7 h).trans ((xA<|F8 q1).trans<|yS rfl<|yO rfl)
 .show y6 [.v<|.str t,.un,.un]=_;unfold y6;exact(kF<|F7 h).trans ((tW<|FS q2).trans<|(kF<|F8 q1).trans<|(XT rfl).trans rfl)
def TK{t:List Nat}(h:Tx 99999 t)(e:¬∃d,tk 31 (vU t [32])=aA (d,[])):wD [.v<|.str t]=aA NL:=by
 obtain⟨i1,i2⟩:=Gb 31 (ao _) 0 _ rfl<|No h;show y6 [.v<|.str t,.un,.un]=_;unfold y6;refine(kF<|F7 h).trans ?_;cases ek:tk 31 (vU t [32]) with
 |none=>exact XR<|FS<|i2 ek
 |some p=>
  obtain⟨d,W'⟩:=p;obtain⟨q1,q2⟩:=i1 d W' ek;have hW:W'≠[]:=λz=>e ⟨d,by rw[ek,z]⟩
  refine(tW<|FS q2).trans ((kF<|F8 q1).trans<|(o4 ?_).trans<|v7 ⟨_,rfl⟩);show aA (!(wt W').isEmpty)=_;cases W' with
  |nil=>exact absurd rfl hW
  |cons w W=>rw[XV];simp
def BM{p q:MR}{r:En}(e:p r=aB):zg p q r=q r:=by unfold zg;rw[e]
def F9{p q:MR}{r:En}{d:D}(e:p r=aA d):zg p q r=aA d:=by unfold zg;rw[e]
inductive Fo where
 |nil
 |nm (x:List Nat) (r:Fo)
 |aU (x:List Nat) (r:Fo)
 |num (w:List Nat) (r:Fo)
 |nd (w:List Nat) (ps r:Fo)
noncomputable abbrev Nm:=List<|List Nat
noncomputable def fB:List Nat:=[102,110]
noncomputable def eQ:List Nat:=[99,97,115,101]
def wo(x:List Nat)(l:Nm):Nm:=l.filter λy=>decide (y≠x)
def Q7(w:List Nat)(lb:Nm)(fs:List Nm):Nm:=
 if w=fB then (match lb,fs with
  |x::_,f::_=>wo x f
  |_,_=>[])
 else if w=eQ then (match lb,fs with
  |_::x::y::_,f::g::h::_=>f++wo x g++wo y h
  |_,_=>[])
 else fs.flatten
namespace Fo
def ds:Fo->List D
 |nil=>[]
 |nm x r=>.str x::r.ds
 |aU x r=>.tup [.str iY,.str x]::r.ds
 |num w r=>.tup [.str s_,.int (cu w:Nat)]::r.ds
 |nd w ps r=>.tup (.str w::ps.ds)::r.ds
def ws:Fo->Ws
 |nil=>[]
 |nm x r=>x::r.ws
 |aU x r=>x::r.ws
 |num w r=>w::r.ws
 |nd w ps r=>w::(ps.ws++r.ws)
noncomputable def eD:Fo->List Nat
 |nil=>[]
 |nm _ r=>110::r.eD
 |aU _ r=>69::r.eD
 |num _ r=>69::r.eD
 |nd _ _ r=>69::r.eD
noncomputable def lv:Fo->Nat
 |nil=>0
 |nm _ r=>r.lv
 |aU _ r=>max 1 r.lv
 |num _ r=>max 1 r.lv
 |nd _ ps r=>max (ps.lv+1) r.lv
noncomputable def sz:Fo->Nat
 |nil=>0
 |nm _ r=>r.sz
 |aU _ r=>1+r.sz
 |num _ r=>1+r.sz
 |nd _ ps r=>1+ps.sz+r.sz
def lb:Fo->Nm
 |nil=>[]
 |nm x r=>x::r.lb
 |aU _ r=>r.lb
 |num _ r=>r.lb
 |nd _ _ r=>r.lb
def fs:Fo->List Nm
 |nil=>[]
 |nm _ r=>r.fs
 |aU x r=>[x]::r.fs
 |num _ r=>[]::r.fs
 |nd w ps r=>Q7 w ps.lb ps.fs::r.fs
def ok:Fo->Prop
 |nil=>True
 |nm x r=>qN x=true/\r.ok
 |aU x r=>qN x=true/\r.ok
 |num w r=>look yN w=aB/\qN w=false/\WO w=true/\r.ok
 |nd w ps r=>look yN w=aA ps.eD/\ps.lv<=30/\ps.ok/\r.ok
noncomputable def app:Fo->Fo->Fo
 |nil,s=>s
 |nm x r,s=>nm x<|r.app s
 |aU x r,s=>aU x<|r.app s
 |num w r,s=>num w<|r.app s
 |nd w ps r,s=>nd w ps<|r.app s
theorem J0:∀a b:Fo,(a.app b).ds=a.ds++b.ds
 |nil,_=>rfl
 |nm x r,b=>by simp[app,ds,J0 r b]
 |aU x r,b=>by simp[app,ds,J0 r b]
 |num x r,b=>by simp[app,ds,J0 r b]
 |nd w ps r,b=>by simp[app,ds,J0 r b]
theorem JB:∀a b:Fo,(a.app b).ws=a.ws++b.ws
 |nil,_=>rfl
 |nm x r,b=>by simp[app,ws,JB r b]
 |aU x r,b=>by simp[app,ws,JB r b]
 |num x r,b=>by simp[app,ws,JB r b]
 |nd w ps r,b=>by simp[app,ws,JB r b]
theorem oU:∀a b:Fo,(a.app b).eD=a.eD++b.eD
 |nil,_=>rfl
 |nm x r,b=>by simp[app,eD,oU r b]
 |aU x r,b=>by simp[app,eD,oU r b]
 |num x r,b=>by simp[app,eD,oU r b]
 |nd w ps r,b=>by simp[app,eD,oU r b]
theorem JR:∀a b:Fo,(a.app b).lv=max a.lv b.lv
 |nil,b=>by simp[app,lv]
 |nm x r,b=>by simp[app,lv,JR r b]
 |aU x r,b=>by simp[app,lv,JR r b,gv]
 |num x r,b=>by simp[app,lv,JR r b,gv]
 |nd w ps r,b=>by simp[app,lv,JR r b,gv]
theorem JP:∀{a b:Fo},a.ok->b.ok->(a.app b).ok
 |nil,_,_,h=>h
 |nm _ _,_,ha,hb=>⟨ha.1,JP ha.2 hb⟩
 |aU _ _,_,ha,hb=>⟨ha.1,JP ha.2 hb⟩
 |num _ _,_,ha,hb=>⟨ha.1,ha.2.1,ha.2.2.1,JP ha.2.2.2 hb⟩
 |nd _ _ _,_,ha,hb=>⟨ha.1,ha.2.1,ha.2.2.1,JP ha.2.2.2 hb⟩
end Fo
open Fo
def SK{w:List Nat}{d:D}(h:look yN w=aB)(e:ZJ w=aA d):∃p:Fo,p.ok/\p.eD=[69]/\p.ds=[d]/\p.ws=[w]/\p.lv=1:=by
 unfold ZJ at e;split at e
 .rename_i hn;cases e;exact⟨.aU w .nil,⟨hn,trivial⟩,rfl,rfl,rfl,rfl⟩
 .rename_i hn;split at e
  .rename_i hm;cases e;exact⟨.num w .nil,⟨h,by simpa using hn,hm,trivial⟩,rfl,rfl,rfl,rfl⟩
  .cases e
theorem GA{k:Nat}(ih:∀W d W',tk k W=aA (d,W')->∃p:Fo,p.ok/\p.eD=[69]/\p.ds=[d]/\W=p.ws++W'/\p.lv<=k):∀(sh:List Nat) (W:Ws) (l:List D) (W':Ws),(∀c∈sh,c=110\/c=69)->fW (tk k) sh W=aA (l,W')->∃p:Fo,p.ok/\p.eD=sh/\p.ds=l/\W=p.ws++W'/\p.lv<=k
 |[],W,l,W',_,e=>by
  unfold fW at e;cases e;exact⟨.nil,trivial,rfl,rfl,rfl,cz _⟩
 |c::sh,W,l,W',hc,e=>by
  unfold fW at e;have i9:∀c∈sh,c=110\/c=69:=λq hq=>hc q (by simp[hq])
  split at e
  .rename_i IM;subst IM;cases W with
   |nil=>cases e
   |cons x W=>
    simp only at e;split at e
    .rename_i hn;obtain⟨⟨l2,W2⟩,e1,e2⟩:=a8 e;cases e2;obtain⟨p,h1,rfl,rfl,rfl,h5⟩:=GA ih sh W l2 W2 i9 e1;exact⟨.nm x p,⟨hn,h1⟩,rfl,rfl,rfl,h5⟩
    .cases e
  .rename_i hn;have IY:c=69:=(hc c<|by simp).resolve_left hn;subst IY;obtain⟨⟨d,W1⟩,e1,e2⟩:=aI e;obtain⟨⟨l2,W2⟩,e3,e4⟩:=a8 e2;cases e4;obtain⟨p,h1,h2,h3,rfl,h5⟩:=ih _ _ _ e1;obtain⟨q,i1,i2,i3,i4,i5⟩:=GA ih sh W1 l2 W2 i9 e3;subst i4;exact⟨p.app q,JP h1 i1,by rw[oU,h2,i2];rfl,by rw[J0,h3,i3];rfl,by rw[JB,gk],by rw[JR];omega⟩
theorem Ku:∀(k:Nat),k<=31->∀W d W',tk k W=aA (d,W')->∃p:Fo,p.ok/\p.eD=[69]/\p.ds=[d]/\W=p.ws++W'/\p.lv<=k
 |0,_,W,d,W',e=>by cases e
 |k+1,hk,[],d,W',e=>by cases e
 |k+1,hk,w::W,d,W',e=>by
  unfold tk at e;split at e
  .rename_i hl;obtain⟨d',e1,e2⟩:=a8 e;cases e2;obtain⟨p,h1,h2,h3,h4,h5⟩:=SK hl e1;exact⟨p,h1,h2,h3,by rw[h4];rfl,by omega⟩
  .rename_i sh hl;obtain⟨⟨l,W2⟩,e1,e2⟩:=a8 e;cases e2;obtain⟨p,h1,rfl,rfl,rfl,h5⟩:=GA (Ku k<|by omega) sh W l W2 (ZH hl) e1;exact⟨.nd w p .nil,⟨hl,by omega,h1,trivial⟩,rfl,rfl,by simp[Fo.ws],by simp[Fo.lv];omega⟩
structure Itm where
 b:Bool
 d:Nat
 n:Nat
 f:Nm
def Itm.it(x:Itm):It:=(x.b,x.d)
structure Acc where
 d:Nat
 n:Nat
 lb:Nm
 fs:List Nm
def ZC:List Nat->List Itm->Acc->Option (Acc×List Itm)
 |[],st,a=>aA (a,st)
 |_::_,[],_=>aB
 |c::sh,x::st,a=>if c=110/\x.b=false then aB else ZC sh st (if c=101 then { a with d:=max a.d<|x.d+1,n:=a.n+x.n,fs:=a.fs++[x.f] } else { a with lb:=a.lb++[x.f.headD []] })
def YN(w:List Nat)(st:List Itm):Option (List Itm):=match look yN w with
 |some sh=>(ZC (low sh) st ⟨0,1,[],[]⟩).bind λp=>if p.1.d > 30 then aB else aA (⟨false,p.1.d,p.1.n,Q7 w p.1.lb p.1.fs⟩::p.2)
 |none=>if qN w=true then aA (⟨true,0,1,[w]⟩::st) else if WO w=true then aA (⟨false,0,1,[]⟩::st) else aB
def eW:Ws->List Itm->Option (List Itm)
 |[],st=>aA st
 |w::ws,st=>(YN w st).bind<|eW ws
theorem pX:∀(a b:Ws) (st:List Itm),eW (a++b) st=(eW a st).bind (eW b)
 |[],b,st=>rfl
 |w::a,b,st=>by
  show(YN w st).bind (eW<|a++b)=((YN w st).bind<|eW a).bind (eW b);cases YN w st with
  |none=>rfl
  |some s=>exact pX a b s
theorem X9:∀(sh:List Nat) (st:List Itm) (a:Acc),lW sh (st.map Itm.it) a.d=(ZC sh st a).map λp=>(p.1.d,p.2.map Itm.it)
 |[],st,a=>rfl
 |c::sh,[],a=>rfl
 |c::sh,x::st,a=>by
  show(if c=110/\x.b=false then aB else lW sh (st.map Itm.it) (if c=101 then max a.d (x.d+1) else a.d))=_;unfold ZC;by_cases h:c=110/\x.b=false
  .rw[if_pos h,if_pos h];rfl
  .rw[if_neg h,if_neg h,<-X9 sh st]
   congr 1
   split<;>rfl
def TQ(w:List Nat)(st:List Itm):lN w (st.map Itm.it)=(YN w st).map λl=>l.map Itm.it:=by
 unfold lN YN;cases look yN w with
 |some sh=>
  simp only;rw[X9 _ st ⟨0,1,[],[]⟩];cases ZC (low sh) st ⟨0,1,[],[]⟩ with
  |none=>rfl
  |some p=>
   show(if p.1.d > 30 then aB else aA ((false,p.1.d)::p.2.map Itm.it))=((if p.1.d > 30 then aB else aA (Itm.mk false p.1.d p.1.n (Q7 w p.1.lb p.1.fs)::p.2)).map λl=>l.map Itm.it)
   split<;>rfl
 |none=>
  simp only;split
  .rfl
  .split<;>rfl
theorem KZ:∀(ws:Ws) (st:List Itm),bk ws (st.map Itm.it)=(eW ws st).map λl=>l.map Itm.it
 |[],st=>rfl
 |w::ws,st=>by
  show(lN w<|st.map Itm.it).bind (bk ws)=((YN w st).bind<|eW ws).map _;rw[TQ];cases YN w st with
  |none=>rfl
  |some s=>exact KZ ws s
theorem mJ:∀(p:Fo),p.ok->∃its:List Itm,(∀st,eW p.ws.reverse st=aA (its++st))/\∀st a,ZC (low p.eD) (its++st) a=aA (⟨max a.d p.lv,a.n+p.sz,a.lb++p.lb,a.fs++p.fs⟩,st)
 |.nil,_=>⟨[],λ_=>rfl,λst a=>by simp[low,eD,ZC,lv,sz,lb,fs]⟩
 |.nm x r,h=>by
  obtain⟨its,h1,h2⟩:=mJ r h.2;refine⟨⟨true,0,1,[x]⟩::its,λst=>?_,λst a=>?_⟩
  .show eW (x::r.ws).reverse st=_;rw[df,pX,h1];show(YN x<|its++st).bind _=_;unfold YN;rw[rW h.1];simp only[h.1,if_true];rfl
  .show ZC (110::low r.eD) (⟨true,0,1,[x]⟩::(its++st)) a=_;unfold ZC;rw[if_neg<|by simp,if_neg<|by decide,h2];simp[lv,sz,lb,fs]
 |.aU x r,h=>by
  obtain⟨its,h1,h2⟩:=mJ r h.2;refine⟨⟨true,0,1,[x]⟩::its,λst=>?_,λst a=>?_⟩
  .show eW (x::r.ws).reverse st=_;rw[df,pX,h1];show(YN x<|its++st).bind _=_;unfold YN;rw[rW h.1];simp only[h.1,if_true];rfl
  .show ZC (101::low r.eD) (⟨true,0,1,[x]⟩::(its++st)) a=_;unfold ZC;rw[if_neg<|by simp,if_pos rfl,h2];simp[lv,sz,lb,fs,gv,nk]
 |.num w r,h=>by
  obtain⟨its,h1,h2⟩:=mJ r h.2.2.2;refine⟨⟨false,0,1,[]⟩::its,λst=>?_,λst a=>?_⟩
  .show eW (w::r.ws).reverse st=_;rw[df,pX,h1];show(YN w<|its++st).bind _=_;unfold YN;rw[h.1];simp only[h.2.1,h.2.2.1,if_true,iq,if_false];rfl
  .show ZC (101::low r.eD) (⟨false,0,1,[]⟩::(its++st)) a=_;unfold ZC;rw[if_neg<|by simp,if_pos rfl,h2];simp[lv,sz,lb,fs,gv,nk]
 |.nd w ps r,h=>by
  obtain⟨its,h1,h2⟩:=mJ r h.2.2.2;obtain⟨Xj,j1,j2⟩:=mJ ps h.2.2.1;refine⟨⟨false,ps.lv,1+ps.sz,Q7 w ps.lb ps.fs⟩::its,λst=>?_,λst a=>?_⟩
  .show eW (w::(ps.ws++r.ws)).reverse st=_;rw[df,uz,pX,pX,h1];show((eW ps.ws.reverse<|its++st).bind<|eW [w])=_;rw[j1];show(YN w<|Xj++(its++st)).bind _=_;unfold YN;rw[h.1];simp only[j2,aa,su,iz];rw[if_neg (by have:=h.2.1;omega)];rfl
  .show ZC (101::low r.eD) (⟨false,ps.lv,1+ps.sz,Q7 w ps.lb ps.fs⟩::(its++st)) a=_;unfold ZC;rw[if_neg<|by simp,if_pos rfl,h2];simp[lv,sz,lb,fs,gv,nk]
def MG{p:Fo}(h:p.eD=[69]):(∃x,p=.aU x .nil)\/(∃w,p=.num w .nil)\/∃w ps,p=.nd w ps .nil:=by
 cases p with
 |nil=>cases h
 |nm x r=>cases h
 |aU x r=>cases r<;>first|exact .inl ⟨x,rfl⟩|cases h
 |num w r=>cases r<;>first|exact .inr (.inl ⟨w,rfl⟩)|cases h
 |nd w ps r=>cases r<;>first|exact .inr (.inr ⟨w,ps,rfl⟩)|cases h
def JU{W:Ws}{d:D}(e:tk 31 W=aA (d,[])):∃p:Fo,p.ok/\p.eD=[69]/\p.ds=[d]/\W=p.ws/\p.lv<=31/\∃b dp,eW W.reverse []=aA [⟨b,dp,p.sz,p.fs.flatten⟩]:=by
 obtain⟨p,h1,h2,h3,h4,h5⟩:=Ku 31 (ao _) W d [] e;rw[dk] at h4;refine⟨p,h1,h2,h3,h4,h5,?_⟩;obtain⟨its,i1,i2⟩:=mJ p h1;have i3:=i2 [] ⟨0,0,[],[]⟩;rw[h2] at i3;have i4:=i1 [];rw[dk] at i3 i4;cases its with
 |nil=>cases i3
 |cons x its=>
  have i5:ZC (low [69]) (x::its) ⟨0,0,[],[]⟩=aA (⟨max 0<|x.d+1,0+x.n,[],[]++[x.f]⟩,its):=by
   show(if (101:Nat)=110/\x.b=false then aB else ZC [] its _)=_;rw[if_neg<|by simp];rfl
  rw[i5] at i3
  injection i3 with i3
  injection i3 with z1 z2
  subst z2
  injection z1 with y1 y2 y3 y4
  have n1:x.n=p.sz:=by simpa using y2
  have f1:[x.f]=p.fs:=by simpa using y4
  refine⟨x.b,x.d,?_⟩;rw[h4,i4,<-n1,<-f1];simp
def U1{W:Ws}(e:¬∃d,tk 31 W=aA (d,[])):∀x,eW W.reverse []≠aA [x]:=λx z=>e (by
 rw[same]
 have:=KZ W.reverse []
 rw[z] at this;exact⟨x.it,this⟩)
open PySem PySem.Spec PyProof.Rows L2 DD Fo
noncomputable def eL:D->Bool
 |.tup _=>true
 |_=>false
def plain:D->Prop
 |.int _=>True
 |.str _=>True
 |.tup _=>True
 |_=>False
def SE:AU "tuple" "tuple" = aA true:=by decide
def SA:AU "str" "tuple" = aA false:=by decide
def Sz:AU "int" "tuple" = aA false:=by decide
def F2{d:D}(h:plain d):pT "tuple" d=aA (.bl<|eL d):=by
 cases d<;>first|(cases h;done)|skip
 .simp[pT,AZ,Sz,eL]
 .simp[pT,AZ,SA,eL]
 .simp[pT,AZ,SE,eL]
def K9{i:Nat}{f:ME}{r:En}{S m:List D}{d:D}(e:r[i]?=aA (.o S))(e2:f r=aA d)(e3:Gs d=aA m)(h:S.length+m.length<=ag):zt i f r=aA (.aG,r.set i<|.o<|S++m):=by
 simp[zt,ZF,e,Sl.ml,X7,e2,e3,h]
def rG{i:Nat}{f:En->Option (D×En)}{r r' r2:En}{d:D}(e:f r=aA (d,r'))(e2:y9 i d r'=aA r2):vE i f r=aA (.nx r2):=by
 unfold vE;rw[e];show(y9 i d r').map Fl.nx=_;rw[e2];rfl
def æ{E:D}{F S:List D}{d:D}{x:Sl}:vL (jP 2) [.v E,.o F,.o<|S++[d],x]=aA true:=by
 show aA (!(S++[d]).isEmpty)=_;simp
theorem Fo.B6:∀f:Fo,f.ds.length<=f.ws.length
 |nil=>by simp[ds,ws]
 |nm _ r=>by simp[ds,ws,B6 r]
 |aU _ r=>by simp[ds,ws,B6 r]
 |num _ r=>by simp[ds,ws,B6 r]
 |nd _ ps r=>by have:=B6 r;simp[ds,ws];lia
theorem Fo.A0:∀f:Fo,f.sz<=f.ws.length
 |nil=>by simp[sz,ws]
 |nm _ r=>by have:=A0 r;simp[sz,ws];lia
 |aU _ r=>by have:=A0 r;simp[sz,ws];lia
 |num _ r=>by have:=A0 r;simp[sz,ws];lia
 |nd _ ps r=>by have:=A0 r;have:=A0 ps;simp[sz,ws];lia
theorem Fo.BR:∀(f:Fo) (d:D),d∈f.ds->plain d
 |.nil,d,h=>by cases h
 |.nm x r,d,h=>by
  simp only[Fo.ds,av] at h;rcases h with rfl|h
  .trivial
  .exact BR r d h
 |.aU x r,d,h=>by
  simp only[Fo.ds,av] at h;rcases h with rfl|h
  .trivial
  .exact BR r d h
 |.num x r,d,h=>by
  simp only[Fo.ds,av] at h;rcases h with rfl|h
  .trivial
  .exact BR r d h
 |.nd x _ r,d,h=>by
  simp only[Fo.ds,av] at h;rcases h with rfl|h
  .trivial
  .exact BR r d h
theorem ZV:∀(l:List D) (x:Sl),aL x->(∀d∈l,plain d)->vQ (y9 0) (uG<|aF (pT "tuple")<|zD 0) (zD 0) l [x]=aA (l.filter eL)
 |[],x,_,_=>rfl
 |d::t,x,hx,h=>by
  have ih:=ZV t (.v d) trivial λe he=>h e (by simp[he])
  have e1:y9 0 d [x]=aA [.v d]:=yT (r:=[x]) rfl hx;have e2:uG (aF (pT "tuple")<|zD 0) [.v d]=aA (eL d):=by
   show((aA d).bind<|pT "tuple").bind AQ=_;rw[aa,F2<|h d<|by simp];rfl
  unfold vQ;rw[e1,aa,e2,aa,ih];cases q:eL d
  .simp[q]
  .simp[q,zD]
def M9{l:List D}(h:∀d∈l,plain d)(hl:l.length<ag):bO [.v<|.tup l]=aA (.v<|.lst<|l.filter eL,[.v<|.tup l]):=by
 have e:qG [] 1 (eA<|zD 0) (y9 0) (uG<|aF (pT "tuple")<|zD 0) (zD 0) [.v<|.tup l]=aA (l.filter eL):=by
  show(if l.length<ag then vQ _ _ _ l [.un] else aB)=_;rw[if_pos hl];exact ZV l .un trivial h
 unfold bO aY WZ;show((qE _ [.v<|.tup l]).bind _)=_;unfold qE xI;rw[e];rfl
def YU:MS:=(yC (vE 3<|iS 2)
 (yC (sX<|oM 1<|zD 3)
 (sX<|zt 2<|aF AN<|zW 1 bO<|zC (zD 3) zN)))
def TR{E:D}{F S l:List D}{x:Sl}(hx:aL x)(h:∀d∈l,plain d)(hl:l.length<ag)(hF:F.length<ag)(hS:S.length+l.length<=ag):YU [.v E,.o F,.o<|S++[.tup l],x]=aA (.nx [.v E,.o<|F++[.tup l],.o<|S++(l.filter eL).reverse,.v<|.tup l]):=by
 unfold YU;rw[xA (r':=[.v E,.o F,.o S,.v<|.tup l])<|rG (LF rfl)<|yT (x:=x) rfl hx];rw[xA (r':=[.v E,.o<|F++[.tup l],.o S,.v<|.tup l])<|ZA<|YO rfl rfl hF];refine ZA (d:=.aG) ?_;refine K9 (d:=.lst (l.filter eL).reverse) (S:=S) rfl ?_ rfl ?_
 .show(((bO [.v<|.tup l]).map λp=>HA p.1).bind AN)=_;rw[M9 h hl];rfl
 .have:=kg eL l
  rw[du];lia
def Fo.OE(f:Fo):(f.ds.filter eL).length<=f.ws.length:=bf (kg _ _) f.B6
def MK{E:D}{F S l m:List D}{x:Sl}{k:Nat}(hx:aL x)(h:∀d∈l,plain d)(hl:l.length<ag)(hF:F.length<ag)(hS:S.length+m.length+l.length<=ag):j7 (k+1) (vL<|jP 2) YU [.v E,.o F,.o<|S++(.tup l::m).reverse,x]=j7 k (vL<|jP 2) YU [.v E,.o<|F++[.tup l],.o<|S++m.reverse++(l.filter eL).reverse,.v<|.tup l]:=by
 rw[df,<-gk];exact p9 æ<|TR hx h hl hF (by rw[ae,du];lia)
def MI{E:D}{F S l:List D}{x:Sl}{r:Fo}(hx:aL x)(h:∀d∈l,plain d/\eL d=false)(h2:l.length=2)(h1:F.length+(1+r.ws.length)<100000)(h3:S.length+(1+r.ws.length)<100000)(ih:∃P x',P.length=r.sz/\aL x'/\∀m,j7 (r.sz+m) (vL<|jP 2) YU [.v E,.o<|F++[.tup l],.o<|S++(r.ds.filter eL).reverse,.v<|.tup l]=j7 m (vL<|jP 2) YU [.v E,.o<|F++[.tup l]++P,.o S,x']):∃P x',P.length=1+r.sz/\aL x'/\∀m,j7 (1+r.sz+m) (vL<|jP 2) YU [.v E,.o F,.o<|S++(.tup l::r.ds.filter eL).reverse,x]=j7 m (vL<|jP 2) YU [.v E,.o<|F++P,.o S,x']:=by
 obtain⟨P,x',q1,q2,q3⟩:=ih;have hz:1000000<ag:=by decide
 have z:=r.OE;refine⟨.tup l::P,x',by simp[q1];lia,q2,λm=>?_⟩;have e0:=MK (E:=E) (F:=F) (S:=S) (l:=l) (m:=r.ds.filter eL) (x:=x) (k:=r.sz+m) hx (λd hd=>(h d hd).1) (by lia) (by lia) (by lia);have ef:l.filter eL=[]:=tm.mpr λd hd=>by rw[(h d hd).2];simp
 rw[ef] at e0;rw[show 1+r.sz+m=r.sz+m+1 by lia,e0];simpa using q3 m
theorem pN(E:D):∀(f:Fo) (S F:List D) (x:Sl),aL x->F.length+f.ws.length<100000->S.length+f.ws.length<100000->∃P x',P.length=f.sz/\aL x'/\∀m,j7 (f.sz+m) (vL<|jP 2) YU [.v E,.o F,.o<|S++(f.ds.filter eL).reverse,x]=j7 m (vL<|jP 2) YU [.v E,.o<|F++P,.o S,x']
 |.nil,S,F,x,hx,_,_=>⟨[],x,rfl,hx,λm=>by simp[Fo.sz,Fo.ds]⟩
 |.nm y r,S,F,x,hx,h1,h2=>by
  simp only[Fo.ws,ac] at h1 h2;obtain⟨P,x',q0,q,e⟩:=pN E r S F x hx (by lia) (by lia);exact⟨P,x',q0,q,λm=>by simpa [Fo.sz,Fo.ds,eL] using e m⟩
 |.aU y r,S,F,x,hx,h1,h2=>by
  simp only[Fo.ws,ac] at h1 h2;exact MI (l:=[.str iY,.str y]) hx (by intro d hd;simp at hd;rcases hd with rfl|rfl<;>exact⟨trivial,rfl⟩) rfl (by lia) (by lia) (pN E r S (F++[.tup [.str iY,.str y]]) (.v _) trivial (by simp;lia)<|by lia)
 |.num y r,S,F,x,hx,h1,h2=>by
  simp only[Fo.ws,ac] at h1 h2;exact MI (l:=[.str s_,.int _]) hx (by intro d hd;simp at hd;rcases hd with rfl|rfl<;>exact⟨trivial,rfl⟩) rfl (by lia) (by lia) (pN E r S (F++[.tup [.str s_,.int _]]) (.v _) trivial (by simp;lia)<|by lia)
 |.nd w ps r,S,F,x,hx,h1,h2=>by
  simp only[Fo.ws,ac,ae] at h1 h2;have hz:1000000<ag:=by decide
  have z:=r.OE;have z2:=ps.B6;have z3:=ps.A0;obtain⟨P1,x1,p1,q1,a1⟩:=pN E ps (S++(r.ds.filter eL).reverse) (F++[.tup (.str w::ps.ds)]) (.v<|.tup (.str w::ps.ds)) trivial (by simp;lia) (by simp;lia);obtain⟨P2,x',p2,q,e⟩:=pN E r S (F++[.tup (.str w::ps.ds)]++P1) x1 q1 (by simp;lia) (by lia);refine⟨.tup (.str w::ps.ds)::(P1++P2),x',by simp[p1,p2,Fo.sz];lia,q,λm=>?_⟩;have e0:=MK (E:=E) (F:=F) (S:=S) (l:=.str w::ps.ds) (m:=r.ds.filter eL) (x:=x) (k:=ps.sz+(r.sz+m)) hx (by intro d hd;simp at hd;rcases hd with rfl|hd;trivial;exact ps.BR d hd) (by rw[ac];lia) (by lia) (by rw[ac];lia);have e3:(D.str w::ps.ds).filter eL=ps.ds.filter eL:=by simp[eL]
  show j7 (1+ps.sz+r.sz+m) _ _ [.v E,.o F,.o<|S++(.tup (.str w::ps.ds)::r.ds.filter eL).reverse,x]=_;rw[show 1+ps.sz+r.sz+m=ps.sz+(r.sz+m)+1 by lia,e0,e3,a1,e];simp
def S1{f:Fo}{d:D}(h:f.eD=[69])(e:f.ds=[d]):f.ds.filter eL=[d]:=by
 rcases MG h with⟨x,rfl⟩|⟨w,rfl⟩|⟨w,ps,rfl⟩<;>(simp only[Fo.ds] at e ⊢;cases e;rfl)
def Vg{f:Fo}{d:D}(h:f.eD=[69])(e:f.ds=[d])(hl:f.ws.length<50000):∃P as,P.length=f.sz/\uB [.v d]=aA (.f P,as):=by
 obtain⟨P,x',p,q,w⟩:=pN d f [] [] .un trivial (by simp;lia) (by simp;lia);have hp:=f.A0;have w1:=w<|WF-f.sz;have hw:f.sz+(WF-f.sz)=WF:=by unfold WF;lia
 obtain⟨k,hk⟩:∃k,WF-f.sz=k+1:=⟨WF-f.sz-1,by unfold WF;lia⟩;rw[hw,hk,S1 h e,mW<|by rfl] at w1;unfold YU at w1;simp only[iz,List.reverse_singleton] at w1;refine⟨P,?_⟩;unfold uB aY tD;have g1:([.v d]++bq (4-1) Sl.un)=[.v d,.un,.un,.un]:=rfl;rw[g1];rw[xA (r':=[.v d,.o [],.un,.un])<|by rfl];rw[xA (r':=[.v d,.o [],.o [d],.un])<|by rfl];rw[xA (r':=[.v d,.o P,.o [],x']) w1];exact⟨_,p,rfl⟩
inductive Tm where
 |aU (x:List Nat)
 |num (w:List Nat)
 |nd (w:List Nat) (ps:Fo)
namespace Tm
def hd:Tm->List Nat
 |aU _=>iY
 |num _=>s_
 |nd w _=>w
def tl:Tm->List D
 |aU x=>[.str x]
 |num w=>[.int (cu w:Nat)]
 |nd _ ps=>ps.ds
def ds(t:Tm):D:=.tup (.str t.hd::t.tl)
def sz:Tm->Nat
 |aU _=>1
 |num _=>1
 |nd _ ps=>1+ps.sz
def lv:Tm->Nat
 |aU _=>1
 |num _=>1
 |nd _ ps=>ps.lv+1
def fr:Tm->Nm
 |aU x=>[x]
 |num _=>[]
 |nd w ps=>Q7 w ps.lb ps.fs
def ok:Tm->Prop
 |aU x=>qN x=true
 |num _=>True
 |nd w ps=>look yN w=aA ps.eD/\ps.ok
end Tm
noncomputable def kG:Fo->List Tm
 |.nil=>[]
 |.nm _ r=>kG r
 |.aU x r=>.aU x::kG r
 |.num w r=>.num w::kG r
 |.nd w ps r=>.nd w ps::kG r
theorem gX:∀f:Fo,f.ds.filter eL=(kG f).map Tm.ds
 |.nil=>rfl
 |.nm x r=>gX r
 |.aU x r=>congrArg (Tm.ds (.aU x)::·)<|gX r
 |.num w r=>congrArg (Tm.ds (.num w)::·)<|gX r
 |.nd w ps r=>congrArg (Tm.ds (.nd w ps)::·)<|gX r
theorem gB:∀f:Fo,f.fs=(kG f).map Tm.fr
 |.nil=>rfl
 |.nm _ r=>by simp[Fo.fs,kG,gB r]
 |.aU _ r=>by simp[Fo.fs,kG,gB r,Tm.fr]
 |.num _ r=>by simp[Fo.fs,kG,gB r,Tm.fr]
 |.nd _ _ r=>by simp[Fo.fs,kG,gB r,Tm.fr]
theorem dX:∀f:Fo,f.sz=((kG f).map Tm.sz).sum
 |.nil=>rfl
 |.nm _ r=>by simp[Fo.sz,kG,dX r]
 |.aU _ r=>by simp[Fo.sz,kG,dX r,Tm.sz]
 |.num _ r=>by simp[Fo.sz,kG,dX r,Tm.sz]
 |.nd _ _ r=>by simp[Fo.sz,kG,dX r,Tm.sz]
theorem oN:∀(f:Fo),∀t∈kG f,t.lv<=f.lv
 |.nil,t,h=>by cases h
 |.nm _ r,t,h=>oN r t h
 |.aU _ r,t,h=>by
  rcases av.mp h with rfl|h
  .exact qa _ _
  .exact bf (oN r t h)<|pi _ _
 |.num _ r,t,h=>by
  rcases av.mp h with rfl|h
  .exact qa _ _
  .exact bf (oN r t h)<|pi _ _
 |.nd _ ps r,t,h=>by
  rcases av.mp h with rfl|h
  .exact qa _ _
  .exact bf (oN r t h)<|pi _ _
theorem oJ:∀{f:Fo},f.ok->∀t∈kG f,t.ok
 |.nil,_,t,h=>by cases h
 |.nm _ r,k,t,h=>oJ k.2 t h
 |.aU _ r,k,t,h=>by
  rcases av.mp h with rfl|h
  .exact k.1
  .exact oJ k.2 t h
 |.num _ r,k,t,h=>by
  rcases av.mp h with rfl|h
  .trivial
  .exact oJ k.2.2.2 t h
 |.nd _ ps r,k,t,h=>by
  rcases av.mp h with rfl|h
  .exact⟨k.1,k.2.2.1⟩
  .exact oJ k.2.2.2 t h
theorem g9:∀f:Fo,(kG f).length=f.eD.count 69/\f.lb.length=f.eD.count 110
 |.nil=>⟨rfl,rfl⟩
 |.nm _ r=>by have:=g9 r;simp[kG,Fo.eD,Fo.lb,this]
 |.aU _ r=>by have:=g9 r;simp[kG,Fo.eD,Fo.lb,this]
 |.num _ r=>by have:=g9 r;simp[kG,Fo.eD,Fo.lb,this]
 |.nd _ _ r=>by have:=g9 r;simp[kG,Fo.eD,Fo.lb,this]
def W3:∀q∈yN,q.2.count 69<=3/\q.2.length<=6:=by decide
def W7{w:List Nat}{ps:Fo}(h:look yN w=aA ps.eD):(kG ps).length<=3:=by
 rw[(g9 ps).1];exact(W3 _<|oO h).1
def DR:∀{f:Fo} {l:List Nat},f.eD=69::l->∃(e:Tm) (r:Fo),r.eD=l/\f.ds=e.ds::r.ds/\kG f=e::kG r/\f.lb=r.lb
 |.nil,_,h=>by cases h
 |.nm _ _,_,h=>by cases h
 |.aU x r,_,h=>⟨.aU x,r,by cases h;rfl,rfl,rfl,rfl⟩
 |.num w r,_,h=>⟨.num w,r,by cases h;rfl,rfl,rfl,rfl⟩
 |.nd w ps r,_,h=>⟨.nd w ps,r,by cases h;rfl,rfl,rfl,rfl⟩
def DV:∀{f:Fo} {l:List Nat},f.eD=110::l->∃(x:List Nat) (r:Fo),r.eD=l/\f.ds=.str x::r.ds/\kG f=kG r/\f.lb=x::r.lb
 |.nil,_,h=>by cases h
 |.nm x r,_,h=>⟨x,r,by cases h;rfl,rfl,rfl,rfl⟩
 |.aU _ _,_,h=>by cases h
 |.num _ _,_,h=>by cases h
 |.nd _ _ _,_,h=>by cases h
def Kc{f:Fo}(h:f.eD=[]):f=.nil:=by cases f<;>first|rfl|cases h
def GS{ps:Fo}(h:look yN fB=aA ps.eD):∃x e,ps.lb=[x]/\kG ps=[e]/\ps.ds=[.str x,e.ds]:=by
 have hf:ps.eD=[110,69]:=(bp<|(show look yN fB=aA [110,69] from rfl).symm.trans h).symm;obtain⟨x,r1,f1,d1,t1,b1⟩:=DV hf;obtain⟨e,r2,f2,d2,t2,b2⟩:=DR f1;have z:=Kc f2;subst z;exact⟨x,e,by rw[b1,b2];rfl,by rw[t1,t2];rfl,by rw[d1,d2];rfl⟩
def GN{ps:Fo}(h:look yN eQ=aA ps.eD):∃e l x a y c,ps.lb=[l,x,y]/\kG ps=[e,a,c]/\ps.ds=[e.ds,.str l,.str x,a.ds,.str y,c.ds]:=by
 have hf:ps.eD=[69,110,110,69,110,69]:=(bp<|(show look yN eQ=aA [69,110,110,69,110,69] from rfl).symm.trans h).symm;obtain⟨e,r1,f1,d1,t1,b1⟩:=DR hf;obtain⟨l,r2,f2,d2,t2,b2⟩:=DV f1;obtain⟨x,r3,f3,d3,t3,b3⟩:=DV f2;obtain⟨a,r4,f4,d4,t4,b4⟩:=DR f3;obtain⟨y,r5,f5,d5,t5,b5⟩:=DV f4;obtain⟨c,r6,f6,d6,t6,b6⟩:=DR f5;have z:=Kc f6;subst z;exact⟨e,l,x,a,y,c,by rw[b1,b2,b3,b4,b5,b6];rfl,by rw[t1,t2,t3,t4,t5,t6];rfl,by rw[d1,d2,d3,d4,d5,d6];rfl⟩
abbrev Sc:=Tm×Ws
def eP(q:Sc):D:=.tup [q.1.ds,.lst<|q.2.map D.str]
def sP(w:List Nat)(lb:Nm)(ts:List Tm)(k:Ws):List Sc:=
 if w=fB then (match lb,ts with
  |x::_,e::_=>[(e,k++[x])]
  |_,_=>[])
 else if w=eQ then (match lb,ts with
  |_::x::y::_,e::a::c::_=>[(e,k),(a,k++[x]),(c,k++[y])]
  |_,_=>[])
 else ts.map λe=>(e,k)
def fH:Tm->Ws->List Sc
 |.nd w ps,k=>sP w ps.lb (kG ps) k
 |_,_=>[]
def xy:Tm->Ws->Bool
 |.aU x,k=>decide (x∉k)
 |_,_=>false
def Tm.kn(t:Tm)(k:Ws):Bool:=t.fr.all λx=>decide (x∈k)
def GC(x:List Nat)(f:Nm)(k:Ws):((wo x f).all λy=>decide (y∈k))=f.all λy=>decide (y∈k++[x]):=by
 rw[gn];simp only[wo,eg,qc,decide_eq_true_eq,bi,cb];constructor
 .intro h y hy;by_cases z:y=x
  .exact .inr z
  .exact .inl<|h y ⟨hy,z⟩
 .intro h y hy;exact(h y hy.1).resolve_right hy.2
def K5{t:Tm}(h:t.ok)(k:Ws):t.kn k=(!xy t k && (fH t k).all λq=>q.1.kn q.2):=by
 cases t with
 |aU x=>simp[Tm.kn,Tm.fr,xy,fH]
 |num w=>simp[Tm.kn,Tm.fr,xy,fH]
 |nd w ps=>
  show((Q7 w ps.lb ps.fs).all λx=>decide (x∈k))=(true && (sP w ps.lb (kG ps) k).all λq=>q.1.kn q.2);rw[lr];by_cases h1:w=fB
  .subst h1;obtain⟨x,e,b,t,_⟩:=GS h.1;rw[gB,b,t];show((wo x e.fr).all _)=(e.kn (k++[x]) && true);rw[GC,rc];rfl
  .by_cases h2:w=eQ
   .subst h2;obtain⟨e,l,x,a,y,c,b,t,_⟩:=GN h.1;rw[gB,b,t];show((e.fr++wo x a.fr++wo y c.fr).all _)=(e.kn k && (a.kn (k++[x]) && (c.kn (k++[y]) && true)));rw[List.all_append,List.all_append,GC,GC,rc,kz];rfl
   .unfold Q7 sP;rw[if_neg h1,if_neg h1,if_neg h2,if_neg h2,gB,List.all_flatten,pc,pc];rfl
def Mq{t:Tm}{k:Ws}{q:Sc}(h:q∈fH t k):∃w ps,t=.nd w ps/\q.1∈kG ps/\q.2.length<=k.length+1:=by
 cases t with
 |aU x=>cases h
 |num w=>cases h
 |nd w ps=>
  refine⟨w,ps,rfl,?_⟩;have h:q∈sP w ps.lb (kG ps) k:=h;unfold sP at h;split at h
  .split at h
   .rename_i e1 e2;rw[cb] at h;subst h;rw[e2];exact⟨by simp,by simp⟩
   .cases h
  .split at h
   .split at h
    .rename_i e1 e2;rw[e2];simp only[av,ki,or_false] at h;rcases h with rfl|rfl|rfl<;>exact⟨by simp,by simp⟩
    .cases h
   .obtain⟨e,he,rfl⟩:=jp.mp h;exact⟨he,uq _⟩
def Lv{t:Tm}(h:t.ok)(k:Ws):t.sz=((fH t k).map λq=>q.1.sz).sum+1:=by
 cases t with
 |aU x=>rfl
 |num w=>rfl
 |nd w ps=>
  show 1+ps.sz=((sP w ps.lb (kG ps) k).map λq=>q.1.sz).sum+1;by_cases h1:w=fB
  .subst h1;obtain⟨x,e,b,t,_⟩:=GS h.1;rw[dX,b,t];show 1+(e.sz+0)=e.sz+0+1;omega
  .by_cases h2:w=eQ
   .subst h2;obtain⟨e,l,x,a,y,c,b,t,_⟩:=GN h.1;rw[dX,b,t];show 1+(e.sz+(a.sz+(c.sz+0)))=e.sz+(a.sz+(c.sz+0))+1;omega
   .unfold sP;rw[if_neg h1,if_neg h2,dX,ia]
    have:((λq:Sc=>q.1.sz) ∘ λe=>(e,k))=Tm.sz:=rfl
    rw[this];omega
def G3{t:Tm}(h:t.ok)(k:Ws):(fH t k).length<=3:=by
 cases t with
 |aU x=>exact cz _
 |num w=>exact cz _
 |nd w ps=>
  have:=W7 h.1
  show(sP w ps.lb (kG ps) k).length<=3;unfold sP;split
  .split<;>simp
  .split
   .split<;>simp
   .simpa using this
def Lu{t:Tm}{k:Ws}{q:Sc}(h:q∈fH t k):q.1.lv<t.lv/\q.2.length<=k.length+1:=by
 obtain⟨w,ps,rfl,h1,h2⟩:=Mq h;exact⟨Nat.lt_succ_of_le<|oN ps _ h1,h2⟩
def GH{t:Tm}{k:Ws}{q:Sc}(h:t.ok)(hq:q∈fH t k):q.1.ok:=by
 obtain⟨w,ps,rfl,h1,_⟩:=Mq hq;exact oJ h.2 _ h1
def K7(t:Tm):0<t.lv:=by cases t<;>simp[Tm.lv]
def Y5{i:Nat}{r:En}{S:List D}{d:D}(e:r[i]?=aA (.o<|S++[d])):vL (jP i) r=aA true:=by
 unfold vL jP;rw[e];show aA (!(S++[d]).isEmpty)=_;simp
def VC{i:Nat}{r:En}(e:r[i]?=aA (.o [])):vL (jP i) r=aA false:=by
 unfold vL jP;rw[e];rfl
def J_{k:Nat}(h:k<WF):k+((WF-k-1)+1)=WF:=by omega
def XB{x:List Nat}{kn:Ws}:inD true (.str x) (.lst<|kn.map D.str)=aA (.bl<|decide (x∉kn)):=by
 show(if uJ (.str x)=true/\(kn.map D.str).all uJ=true then aA (D.bl<|!((kn.map D.str).any λz=>sK z<|.str x)) else aB)=_;rw[if_pos ⟨rfl,gY _⟩,Ed];by_cases h:x∈kn
 .rw[decide_eq_true h,decide_eq_false<|by simpa using h];rfl
 .rw[decide_eq_false h,decide_eq_true h];rfl
noncomputable def F3:Tm->Bool
 |.aU _=>true
 |_=>false
def Qs{t:Tm}(h:t.ok):decide (t.hd=iY)=F3 t:=by
 cases t with
 |aU x=>rfl
 |num w=>rfl
 |nd w ps=>
  refine decide_eq_false λz=>?_
  have z:w=iY:=z;subst z
  have:=h.1
  rw[show look yN iY=aB from rfl] at this;cases this
theorem ZP:∀f:Fo,f.ds.length=f.eD.length
 |.nil=>rfl
 |.nm _ r=>congrArg (·+1)<|ZP r
 |.aU _ r=>congrArg (·+1)<|ZP r
 |.num _ r=>congrArg (·+1)<|ZP r
 |.nd _ _ r=>congrArg (·+1)<|ZP r
def BE:Tm->List Tm
 |.nd _ ps=>kG ps
 |_=>[]
def T8{t:Tm}(h:t.ok):∃as,bO [.v t.ds]=aA (.v<|.lst<|(BE t).map Tm.ds,as):=by
 have go:∀{w:List Nat} {l:List D} {m:List D},(∀d∈l,plain d)->l.length<=6->l.filter eL=m->∃as,bO [.v<|.tup (.str w::l)]=aA (.v<|.lst m,as):=λ{w l m} h1 h2 h3=>by
  have e:=M9 (l:=.str w::l) (λd hd=>by rcases av.mp hd with rfl|hd;trivial;exact h1 d hd) (bj (show(D.str w::l).length<=7 by simpa using h2)<|by decide);rw[show(D.str w::l).filter eL=m from h3] at e;exact⟨_,e⟩
 cases t with
 |aU x=>exact go (by intro d hd;simp[Tm.tl] at hd;subst hd;trivial) (by simp[Tm.tl]) rfl
 |num w=>exact go (by intro d hd;simp[Tm.tl] at hd;subst hd;trivial) (by simp[Tm.tl]) rfl
 |nd w ps=>exact go (λd hd=>ps.BR d hd) (by show ps.ds.length<=6;rw[ZP];exact(W3 _<|oO h.1).2)<|gX ps
def B':MB:=(bF (aD<|zG aQ (zG aC (zD 0)<|mC<|.int 0)<|mC<|.str [110,97,109,101])<|aD<|zG (inD true) (zG aC (zD 0)<|mC<|.int 1)<|zD 1)
def GK{t:Tm}(ht:t.ok)(k:Ws):B' [.v t.ds,.v<|.lst<|k.map D.str,.un]=aA (xy t k):=by
 let R:En:=[.v t.ds,.v<|.lst<|k.map D.str,.un]
 have e1:aD (zG aQ (zG aC (zD 0)<|mC<|.int 0)<|mC<|.str [110,97,109,101]) R=aA (F3 t):=by
  rw[<-Qs ht];exact kB<|zT (zT (x:=t.ds) rfl zH<|vI _ _) zH rfl
 unfold B' bF;rw[e1,aa];cases t with
 |aU x=>
  rw[if_pos (show F3 (Tm.aU x)=true from rfl)];exact kB<|zT (x:=.str x) (y:=.lst<|k.map D.str) (zT (x:=(Tm.aU x).ds) rfl zH<|qD (j:=1) rfl) rfl XB
 |_=>rfl
def Uh{t:Tm}{k:Ws}(ht:t.ok)(h:xy t k=false):∃as,wC [.v t.ds,.v<|.lst<|k.map D.str]=aA (.v .aG,as):=by
 have c:=(GK ht k).trans (by rw[h]);unfold B' at c;unfold wC aY qT;show ∃as,(aJ _ _ _ [.v t.ds,.v<|.lst<|k.map D.str,.un]).bind _=_;rw[cC c];exact⟨_,rfl⟩
def Ld{t:Tm}{k:Ws}(ht:t.ok)(h:xy t k=false):yQ [.v t.ds,.v<|.lst<|k.map D.str]=aB:=by
 have c:=(GK ht k).trans (by rw[h]);unfold B' at c;unfold yQ iD xJ;show fA _ _ _ [.v t.ds,.v<|.lst<|k.map D.str,.un]=_;unfold fA;rw[c];rfl
def KE{r:En}{i:Nat}{a b s:List Nat}(e:r[i]?=aA (.v<|.str s))(h:a.length+(s.length+b.length)<=1000):∃d,YR (jE (mC<|.str a)<|jE (zD i)<|jE (mC<|.str b) vv) r=aA d:=by
 refine⟨.str ([a,s,b]).flatten,?_⟩;unfold YR;have z:jE (mC<|.str a) (jE (zD i)<|jE (mC<|.str b) vv) r=aA [a,s,b]:=by unfold jE;rw[mX e];rfl
 rw[z,aa,if_pos];simp only[ip,bg,mi,jc,Nat.add_zero];exact bf h (by decide)
def S2{x:List Nat}{k:Ws}(ht:qN x=true)(h:x∉k)(hl:x.length<=8):yQ [.v (Tm.aU x).ds,.v<|.lst<|k.map D.str]=aA "NoName" := by
 have c:=(GK (t:=.aU x) ht k).trans (by rw[show xy (.aU x) k=true from decide_eq_true h]);unfold B' at c;unfold yQ iD xJ;show fA _ _ _ [.v (Tm.aU x).ds,.v<|.lst<|k.map D.str,.un]=_;unfold fA;rw[c,aa,if_pos rfl];have s:xF 2 (zG aC (zD 0)<|mC<|.int 1) [.v (Tm.aU x).ds,.v<|.lst<|k.map D.str,.un]=aA (.nx [.v (Tm.aU x).ds,.v<|.lst<|k.map D.str,.v<|.str x]):=jI (zT (x:=(Tm.aU x).ds) rfl zH<|qD (j:=1) rfl) rfl;unfold qF;rw[s];obtain⟨d,hd⟩:=KE (r:=[.v (Tm.aU x).ds,.v<|.lst<|k.map D.str,.v<|.str x]) (i:=2) (s:=x) (a:=[116,104,101,32,110,97,109,101,32]) (b:=[32,105,115,32,111,112,101,110]) rfl (by simp only[ac,am];omega);show u7 "NoName" _ [.v (Tm.aU x).ds,.v<|.lst<|k.map D.str,.v<|.str x]=_;unfold u7;rw[hd];rfl
theorem LU{kn:D}:∀(l:List D) (y:Sl),aL y->vQ (y9 1) mS (vD<|zC (zD 1)<|zC (zD 0) zN) l [.v kn,y]=aA (l.map λd=>.tup [d,kn])
 |[],y,_=>rfl
 |d::l,y,hy=>by
  have ih:=LU (kn:=kn) l (.v d) trivial;have e1:y9 1 d [.v kn,y]=aA [.v kn,.v d]:=yT (x:=y) rfl hy;have e3:mS [.v kn,.v d]=aA true:=rfl;have e2:vD (zC (zD 1)<|zC (zD 0) zN) [.v kn,.v d]=aA (.tup [d,kn]):=qZ (zE rfl<|zE rfl zO) (by show 2<=100;decide);unfold vQ;rw[e1,aa,e3,aa,if_pos rfl,e2,aa,ih];rfl
def JS{kn:Ws}{x:List Nat}{f:ME}{r:En}(h1:zD 1 r=aA (.lst<|kn.map D.str))(h2:f r=aA (.str x))(hl:kn.length<=5000):zG xC (zD 1) (xI<|yB<|zC f zN) r=aA (.lst<|(kn++[x]).map D.str):=by
 rw[aw];exact mO h1 (wH (zE h2 zO) (by show 1<=100;decide)) (by rw[af];show _+1<=_;omega)
def Ci{t:Tm}{v:List Nat}{r:En}(e:r[0]?=aA (.v t.ds)):aD (zG aQ (zG aC (zD 0)<|mC<|.int 0)<|mC<|.str v) r=aA (decide (t.hd=v)):=
 kB (zT (zT (x:=t.ds) (mX e) zH<|vI _ _) zH rfl)
def zl{l:List D}{j:Nat}{d:D}{r:En}(e:r[0]?=aA (.v<|.tup l))(h:l[j]?=aA d):zG aC (zD 0) (mC<|.int j) r=aA d:=zT (mX e) zH<|qD h
def Vn{t:Tm}(ht:t.ok){k:Ws}(hk:k.length<=5000):∃as,vJ [.v t.ds,.v<|.lst<|k.map D.str]=aA (.v<|.lst<|(fH t k).map eP,as):=by
 let N:D:=.lst<|k.map D.str
 let R:En:=[.v t.ds,.v N,.un,.un]
 have last:decide (t.hd=fB)=false->decide (t.hd=eQ)=false->(fH t k)=(BE t).map (λe=>(e,k))->(BE t).length<=3->∃as,vJ [.v t.ds,.v N]=aA (.v<|.lst<|(fH t k).map eP,as):=λh1 h2 h3 h4=>by
  refine qR (r':=R) ?_;show j3 R=_;unfold j3;refine yS ((Ci (r:=R) rfl).trans (by rw[<-h1];rfl))<|yS ((Ci (r:=R) rfl).trans (by rw[<-h2];rfl))<|yO ?_;have c:eA (zW 1 bO<|zC (zD 0) zN) R=aA ((BE t).map Tm.ds):=by
   have c0:zW 1 bO (zC (zD 0) zN) R=aA (.lst<|(BE t).map Tm.ds):=yG (p:=.v<|.lst _) (zE rfl zO) rfl<|T8 ht;unfold eA;rw[c0];rfl
  have e:vY [1] 2 (eA<|zW 1 bO<|zC (zD 0) zN) (y9 1) (vD<|zC (zD 1)<|zC (zD 0) zN) R=aA (((BE t).map Tm.ds).map λd=>.tup [d,N]):=by
   unfold vY qG;rw[c,aa,if_pos (by rw[af];exact bj h4<|by decide)];exact LU _ .un trivial
  unfold xI;rw[e,h3,ia,ia];rfl
 cases t with
 |aU x=>exact last rfl rfl rfl<|cz _
 |num x=>exact last rfl rfl rfl<|cz _
 |nd w ps=>
  by_cases h1:w=fB
  .subst h1;obtain⟨x,e,b,t,d⟩:=GS ht.1;have hs:fH (.nd fB ps) k=[(e,k++[x])]:=by show sP fB ps.lb (kG ps) k=_;rw[b,t];rfl
   have hd:(Tm.nd fB ps).ds=.tup [.str fB,.str x,e.ds]:=by show D.tup (.str fB::ps.ds)=_;rw[d]
   rw[hs];refine qR (r':=R) ?_;show j3 R=_;unfold j3;have hR:R[0]?=aA (.v<|.tup [.str fB,.str x,e.ds]):=congrArg (λz=>aA<|Sl.v z) hd;exact wT (Ci (t:=.nd fB ps) (r:=R) rfl)<|yO<|wH (zE (qZ (zE (zl (j:=2) (r:=R) hR rfl)<|zE (JS (x:=x) rfl (zl (j:=1) (r:=R) hR rfl) hk) zO) (by show 2<=100;decide)) zO) (by show 1<=100;decide)
  .by_cases h2:w=eQ
   .subst h2;obtain⟨e,l,x,a,y,c,b,t,d⟩:=GN ht.1;have hs:fH (.nd eQ ps) k=[(e,k),(a,k++[x]),(c,k++[y])]:=by show sP eQ ps.lb (kG ps) k=_;rw[b,t];rfl
    have hd:(Tm.nd eQ ps).ds=.tup [.str eQ,e.ds,.str l,.str x,a.ds,.str y,c.ds]:=by show D.tup (.str eQ::ps.ds)=_;rw[d]
    rw[hs]
    let A:D:=eP (a,k++[x])
    let B:D:=eP (c,k++[y])
    let R2:En:=[.v (Tm.nd eQ ps).ds,.v N,.v A,.un]
    let R3:En:=[.v (Tm.nd eQ ps).ds,.v N,.v A,.v B]
    have g:∀{q:En},q[0]?=aA (.v (Tm.nd eQ ps).ds)->q[0]?=aA (.v<|.tup [.str eQ,e.ds,.str l,.str x,a.ds,.str y,c.ds]):=λh=>h.trans<|congrArg (λz=>aA<|Sl.v z) hd
    refine qR (r':=R3) ?_;show j3 R=_;unfold j3;have t1:vD (zC (zG aC (zD 0)<|mC<|.int 4)<|zC (zG xC (zD 1)<|xI<|yB<|zC (zG aC (zD 0)<|mC<|.int 3) zN) zN) R=aA A:=qZ (zE (zl (j:=4) (r:=R) (g rfl) rfl)<|zE (JS (x:=x) rfl (zl (j:=3) (r:=R) (g rfl) rfl) hk) zO) (by show 2<=100;decide);have t2:vD (zC (zG aC (zD 0)<|mC<|.int 6)<|zC (zG xC (zD 1)<|xI<|yB<|zC (zG aC (zD 0)<|mC<|.int 5) zN) zN) R2=aA B:=qZ (zE (zl (j:=6) (r:=R2) (g rfl) rfl)<|zE (JS (x:=y) rfl (zl (j:=5) (r:=R2) (g rfl) rfl) hk) zO) (by show 2<=100;decide);exact yS (Ci (t:=.nd eQ ps) (r:=R) rfl)<|wT (Ci (t:=.nd eQ ps) (r:=R) rfl)<|yL (r2:=R2) A t1 rfl<|yL (r2:=R3) B t2 rfl<|yO<|wH (zE (qZ (zE (zl (j:=1) (r:=R3) (g rfl) rfl)<|zE rfl zO) (by show 2<=100;decide))<|zE rfl<|zE rfl zO) (by show 3<=100;decide)
   .refine last (decide_eq_false h1) (decide_eq_false h2) ?_<|W7 ht.1;show sP w ps.lb (kG ps) k=_;unfold sP;rw[if_neg h1,if_neg h2];rfl
def z_:MS:=(yC (vE 3<|iS 2)
 (yC (QZ<|zW 2 wC<|zC (zG aC (zD 3)<|mC<|.int 0)<|zC (zG aC (zD 3)<|mC<|.int 1) zN)
 (sX<|zt 2<|zW 2 vJ<|zC (zG aC (zD 3)<|mC<|.int 0)<|zC (zG aC (zD 3)<|mC<|.int 1) zN)))
def xR:MX:=(qF (vE 3<|iS 2)
 (vZ 2 yQ<|zC (zG aC (zD 3)<|mC<|.int 0)<|zC (zG aC (zD 3)<|mC<|.int 1) zN))
def FH{α:Type}(W:Nat->En->α):Prop:=∀(n:Nat) (r r':En),vL (jP 2) r=aA true->xR r=aB->z_ r=aA (.nx r')->W (n+1) r=W n r'
def Qr:FH (λn=>j7 n (vL<|jP 2) z_):=λn r r' h _ e=>p9 h e
def K3:FH (λn=>o9 n (vL<|jP 2) z_ xR):=λn r r' h1 h2 h3=>by
 show((vL<|jP 2) r).bind _=_;rw[h1,aa,if_pos rfl,h2,h3];rfl
def Jk{E K0 d:D}{S:List D}{x:Sl}(hx:aL x):vE 3 (iS 2) [.v E,.v K0,.o<|S++[d],x]=aA (.nx [.v E,.v K0,.o S,.v d]):=rG (LF rfl)<|yT (x:=x) rfl hx
def i0{E K0:D}{S:List D}{q:Sc}:zG aC (zD 3) (mC<|.int 0) [.v E,.v K0,.o S,.v<|eP q]=aA q.1.ds:=zT (x:=eP q) rfl zH<|vI _ _
def i1{E K0:D}{S:List D}{q:Sc}:zG aC (zD 3) (mC<|.int 1) [.v E,.v K0,.o S,.v<|eP q]=aA (.lst<|q.2.map D.str):=zT (x:=eP q) rfl zH<|qD (j:=1) rfl
def Mt{E K0:D}{S:List D}{x:Sl}{t:Tm}{k:Ws}(hx:aL x)(ht:t.ok)(ho:xy t k=false)(hk:k.length<=5000)(hS:S.length<=1000000):z_ [.v E,.v K0,.o<|S++[eP (t,k)],x]=aA (.nx [.v E,.v K0,.o<|S++(fH t k).map eP,.v<|eP (t,k)]):=by
 have hl:=G3 ht k
 let R:En:=[.v E,.v K0,.o S,.v<|eP (t,k)]
 unfold z_;refine(xA<|Jk hx).trans ?_;have c1:zW 2 wC (zC (zG aC (zD 3)<|mC<|.int 0)<|zC (zG aC (zD 3)<|mC<|.int 1) zN) R=aA .aG:=yG (p:=.v .aG) (zE i0<|zE i1 zO) rfl<|Uh ht ho;refine(xA (r':=R) (by unfold QZ;rw[c1];rfl)).trans ?_;have c2:zW 2 vJ (zC (zG aC (zD 3)<|mC<|.int 0)<|zC (zG aC (zD 3)<|mC<|.int 1) zN) R=aA (.lst<|(fH t k).map eP):=yG (p:=.v<|.lst<|(fH t k).map eP) (zE i0<|zE i1 zO) rfl<|Vn ht hk;exact ZA<|K9 (S:=S) rfl c2 rfl (by rw[af];exact bf (by omega:S.length+(fH t k).length<=1000003)<|by decide)
def Ge{E K0:D}{S:List D}{x:Sl}{t:Tm}{k:Ws}{z:Option Str}(hx:aL x)(h:yQ [.v t.ds,.v<|.lst<|k.map D.str]=z):xR [.v E,.v K0,.o<|S++[eP (t,k)],x]=z:=by
 unfold xR qF;rw[Jk hx];exact(dW (r:=[.v E,.v K0,.o S,.v<|eP (t,k)]) (zE i0<|zE i1 zO) rfl).trans h
def I0{α:Type}(W:Nat->En->α)(n:Nat)(q:Sc):Prop:=∀(E K0:D) (S:List D) (x:Sl),aL x->S.length+5*n<=100000->∃x',aL x'/\∀m,W (q.1.sz+m) [.v E,.v K0,.o<|S++[eP q],x]=W m [.v E,.v K0,.o S,x']
theorem Y4{α:Type}{W:Nat->En->α}{E K0:D}(n:Nat):∀(l:List Sc) (S:List D) (x:Sl),(∀q∈l,I0 W n q)->aL x->S.length+l.length+5*n<=100000->∃x',aL x'/\∀m,W ((l.map λq=>q.1.sz).sum+m) [.v E,.v K0,.o<|S++l.map eP,x]=W m [.v E,.v K0,.o S,x']
 |[],S,x,_,hx,_=>⟨x,hx,λm=>by simp⟩
 |q::l,S,x,h,hx,hl=>by
  rw[ac] at hl;obtain⟨x1,f1,e1⟩:=Y4 n l (S++[eP q]) x (λz hz=>h z<|by simp[hz]) hx (by rw[ae];simp only[ac,am];omega);obtain⟨x2,f2,e2⟩:=h q (by simp) E K0 S x1 f1 (by omega);refine⟨x2,f2,λm=>?_⟩;have e0:S++(q::l).map eP=S++[eP q]++l.map eP:=by simp
  rw[e0,bg,jc,show q.1.sz+(l.map λq=>q.1.sz).sum+m=(l.map λq=>q.1.sz).sum+(q.1.sz+m) by omega,e1,e2]
def SI{t:Tm}{k:Ws}(ht:t.ok)(h:t.kn k=true):xy t k=false/\∀q∈fH t k,q.1.kn q.2=true:=by
 rw[K5 ht,bo,eg] at h;exact⟨by simpa using h.1,h.2⟩
theorem Gx{α:Type}{W:Nat->En->α}(hW:FH W):∀(n:Nat) (t:Tm) (k:Ws),t.lv<=n->t.ok->t.kn k=true->k.length+n<=5000->I0 W n (t,k)
 |0,t,k,h,_,_,_=>by
  have:=K7 t
  omega
 |n+1,t,k,h3,ht,hs,hk=>λE K0 S x hx hS=>by
  obtain⟨ho,hq⟩:=SI ht hs;have hl:=G3 ht k;obtain⟨x',fx,lp⟩:=Y4 (W:=W) (E:=E) (K0:=K0) n (fH t k) S (.v<|eP (t,k)) (λq h=>by
   obtain⟨a1,a2⟩:=Lu h;exact Gx hW n q.1 q.2 (by omega) (GH ht h) (hq q h)<|by omega) trivial (by omega)
  refine⟨x',fx,λm=>?_⟩;show W (t.sz+m) _=_;rw[Lv ht k,show((fH t k).map λq=>q.1.sz).sum+1+m=((fH t k).map λq=>q.1.sz).sum+m+1 by omega];exact(hW _ _ _ (Y5 (S:=S) rfl) (Ge hx<|Ld ht ho)<|Mt hx ht ho (by omega)<|by omega).trans (lp m)
def Mf{x:List Nat}(h:qN x=true):x.length<=8:=by
 unfold qN at h;simp at h;omega
abbrev yW(n:Nat)(r:En):Option Str:=o9 n (vL<|jP 2) z_ xR r
def Qd{n:Nat}{r:En}{z:Str}(h1:vL (jP 2) r=aA true)(h2:xR r=aA z):yW (n+1) r=aA z:=by
 show((vL<|jP 2) r).bind _=_;rw[h1,aa,if_pos rfl,h2]
def Rz(n:Nat)(q:Sc):Prop:=∀(E K0:D) (S:List D) (x:Sl),aL x->S.length+5*n<=100000->∀m,yW (q.1.sz+m) [.v E,.v K0,.o<|S++[eP q],x]=aA "NoName"
theorem MQ{E K0:D}(n:Nat):∀(l:List Sc) (S:List D) (x:Sl),(∀q∈l,(q.1.kn q.2=true->I0 yW n q)/\(q.1.kn q.2=false->Rz n q))->(∃q∈l,q.1.kn q.2=false)->aL x->S.length+l.length+5*n<=100000->∀m,yW ((l.map λq=>q.1.sz).sum+m) [.v E,.v K0,.o<|S++l.map eP,x]=aA "NoName"
 |[],S,x,_,⟨_,h,_⟩,_,_=>by cases h
 |q::l,S,x,h,he,hx,hl=>λm=>by
  rw[ac] at hl;have e0:S++(q::l).map eP=S++[eP q]++l.map eP:=by simp
  rw[e0,bg,jc,show q.1.sz+(l.map λq=>q.1.sz).sum+m=(l.map λq=>q.1.sz).sum+(q.1.sz+m) by omega];by_cases hb:∃q∈l,q.1.kn q.2=false
  .exact MQ n l (S++[eP q]) x (λz hz=>h z<|by simp[hz]) hb hx (by rw[ae];simp only[ac,am];omega) _
  .have ha:∀z∈l,z.1.kn z.2=true:=λz hz=>by
    cases hc:z.1.kn z.2 with
    |true=>rfl
    |false=>exact absurd ⟨z,hz,hc⟩ hb
   obtain⟨x1,f1,e1⟩:=Y4 (W:=yW) (E:=E) (K0:=K0) n l (S++[eP q]) x (λz hz=>(h z<|by simp[hz]).1<|ha z hz) hx (by rw[ae];simp only[ac,am];omega);have hq:q.1.kn q.2=false:=by
    obtain⟨z,hz,hc⟩:=he;rcases av.mp hz with(rfl|hz)
    .exact hc
    .rw[ha z hz] at hc;cases hc
   rw[e1];exact(h q<|by simp).2 hq E K0 S x1 f1 (by omega) m
theorem Ko:∀(n:Nat) (t:Tm) (k:Ws),t.lv<=n->t.ok->t.kn k=false->k.length+n<=5000->Rz n (t,k)
 |0,t,k,h,_,_,_=>by
  have:=K7 t
  omega
 |n+1,t,k,h3,h2,hs,hk=>λE K0 S x hx hS m=>by
  have hl:=G3 h2 k;show yW (t.sz+m) _=_;rw[Lv h2 k,show((fH t k).map λq=>q.1.sz).sum+1+m=((fH t k).map λq=>q.1.sz).sum+m+1 by omega];cases ho:xy t k with
  |true=>
   cases t with
   |aU y=>exact Qd (Y5 (S:=S) rfl)<|Ge hx<|S2 h2 (of_decide_eq_true ho)<|Mf h2
   |_=>cases ho
  |false=>
   refine(K3 _ _ _ (Y5 (S:=S) rfl) (Ge hx<|Ld h2 ho)<|Mt hx h2 ho (by omega)<|by omega).trans ?_;refine MQ n (fH t k) S (.v<|eP (t,k)) (λq hq=>?_) ?_ trivial (by omega) m
   .obtain⟨a1,a2⟩:=Lu hq;exact⟨λz=>Gx K3 n q.1 q.2 (by omega) (GH h2 hq) z<|by omega,λz=>Ko n q.1 q.2 (by omega) (GH h2 hq) z<|by omega⟩
   .rw[K5 h2,ho] at hs
    have:((fH t k).all λq=>q.1.kn q.2)=false:=by simpa using hs
    rw[List.all_eq_false] at this;obtain⟨q,hq,z⟩:=this;exact⟨q,hq,by simpa using z⟩
def Vk{t:Tm}{k:Ws}(h3:t.lv<=40)(h2:t.ok)(hs:t.kn k=true)(hk:k.length<=100)(hp:t.sz<=2000):∃as,qL [.v t.ds,.v<|.lst<|k.map D.str]=aA (.v .aG,as):=by
 let N:D:=.lst<|k.map D.str
 obtain⟨x',fx,w⟩:=Gx Qr 40 t k h3 h2 hs (by omega) t.ds N [] .un trivial (by simp);have Io:t.sz<WF:=by unfold WF;omega
 have w1:=w<|WF-t.sz-1+1;dsimp only at w1;rw[J_ Io,mW<|VC (i:=2)<|by rfl] at w1;unfold qL aY qJ;show ∃as,(yC _ _ [.v t.ds,.v N,.un,.un]).bind _=_;rw[xA (r':=[.v t.ds,.v N,.o [eP (t,k)],.un])<|by rfl];unfold z_ at w1;simp only[iz] at w1;rw[w1];exact⟨_,rfl⟩
def Vj{t:Tm}{k:Ws}(h3:t.lv<=40)(h2:t.ok)(hs:t.kn k=false)(hk:k.length<=100)(hp:t.sz<=2000):xG [.v t.ds,.v<|.lst<|k.map D.str]=aA "NoName" := by
 let N:D:=.lst<|k.map D.str
 have w1:=Ko 40 t k h3 h2 hs (by omega) t.ds N [] .un trivial (by simp)<|WF-t.sz-1+1;have Io:t.sz<WF:=by unfold WF;omega
 dsimp only at w1;rw[J_ Io,iz] at w1;unfold yW z_ xR at w1;unfold xG iD xT;show qF _ _ [.v t.ds,.v N,.un,.un]=_;unfold qF;rw[show dD 2 (yB<|zC (vD<|zC (zD 0)<|zC (zD 1) zN) zN) [.v t.ds,.v N,.un,.un]=aA (.nx [.v t.ds,.v N,.o [eP (t,k)],.un]) from rfl,aa];exact w1
open PySem.StrLaws PySem.Builtin.Str
theorem pM{c:Nat}:∀{s:List Nat},c∉s->xP c s=[s]
 |[],_=>rfl
 |x::r,h=>by
  have hx:x≠c:=λe=>h (by simp[e])
  have hr:=pM (c:=c) (s:=r) λe=>h (by simp[e])
  simp only[xP,if_neg hx,hr]
theorem gP{c:Nat}{t:List Nat}:∀{s:List Nat},c∉s->xP c (s++c::t)=s::xP c t
 |[],_=>by simp only[iz,xP,if_pos]
 |x::r,h=>by
  have hx:x≠c:=λe=>h (by simp[e])
  have hr:=gP (c:=c) (t:=t) (s:=r) λe=>h (by simp[e])
  simp only[kj,xP,if_neg hx,hr]
theorem dC{c:Nat}:∀{ws:List (List Nat)},ws≠[]->(∀x∈ws,c∉x)->xP c (wS [c] ws)=ws
 |[],h,_=>absurd rfl h
 |[s],_,h=>pM (h s<|by simp)
 |s::t::r,_,h=>by
  have ih:=dC (c:=c) (ws:=t::r) (by simp) λx hx=>h x (by simp at hx ⊢;exact .inr hx)
  show xP c (s++[c]++wS [c] (t::r))=_;rw[gk,List.singleton_append,gP<|h s<|by simp,ih]
theorem LP(c:Nat):∀l:List Nat,(0:Int)<=cnt c l
 |[]=>by rw[cnt_none c []<|by simp];omega
 |k::r=>by
  have ih:=LP c r;rw[cnt_cons]
  split<;>omega
def hX{c:Nat}{ws:List (List Nat)}(h0:ws≠[])(h:∀x∈ws,c∉x):vU (wS [c] ws) [c]=ws:=by
 have key:∀ys:List (List Nat),ys≠[]->(∀y∈ys,c∉y)->wS [c] ys=wS [c] ws->ys=ws:=λys y0 yf e=>by
  rw[<-dC y0 yf,e,dC h0 h]
 let x:Str:=⟨(wS [c] ws).toArray⟩
 let L:=jw x ⟨#[c]⟩
 have hL:vU (wS [c] ws) [c]=L.map λz=>z.cps.toList:=rfl
 rw[hL];refine key _ ?_ ?_ ?_
 .intro e;have e2:L=[]:=by simpa using e
  have q:((L.length:Nat):Int)=1+cnt c x.cps.toList:=split_len x c;have z:=nu x ⟨#[c]⟩;have p:(0:Int)<=cnt c x.cps.toList:=LP c _;rw[e2] at q;simp at q;omega
 .intro y hy;obtain⟨z,hz,rfl⟩:=jp.mp hy;exact StrLaws.split_free x c z hz
 .have e:=pR [c]<|L.map λz=>z.cps.toList;rw[ia] at e;have e1:(L.map ((λs=>(⟨s.toArray⟩:Str)) ∘ λz:Str=>z.cps.toList))=L:=by
   conv=>rhs;rw[<-pq L]
   exact jr λz _=>rfl
  rw[e1] at e;have e2:ou (⟨[c].toArray⟩:Str) L=x:=nu x ⟨#[c]⟩;rw[e2] at e;have e3:=congrArg (λs:Str=>s.cps.toList) e;simpa [x] using e3.symm
theorem n4(c:Nat):∀ws:List (List Nat),(wS [c] ws).length<=(ws.map cx).sum+ws.length
 |[]=>by simp[wS]
 |[s]=>by simp[wS]
 |s::t::r=>by
  have ih:=n4 c (t::r);show(s++[c]++wS [c] (t::r)).length<=_;simp at ih ⊢;omega
theorem Hj(s sub:Str)(hi limit lo:Nat)(hw:1<=sub.length):∀(m cur:Nat) (st:Array Nat×Nat),ChainG s sub hi lo st.fst.toList st.snd->((∀k,st.snd<=k->k<cur->¬At s sub hi k)\/st.fst.size=limit)->st.fst.size<=limit ->
  ChainG s sub hi lo (forIn (jx cur m) st<|occBody s sub hi limit).run.fst.toList (forIn (jx cur m) st<|occBody s sub hi limit).run.snd/\((∀k,(forIn (jx cur m) st<|occBody s sub hi limit).run.snd<=k->k<cur+m->¬At s sub hi k)\/(forIn (jx cur m) st<|occBody s sub hi limit).run.fst.size=limit)/\(forIn (jx cur m) st<|occBody s sub hi limit).run.fst.size<=limit
 |0,cur,st,h,hn,hl=>⟨h,hn,hl⟩
 |m+1,cur,st,h,hn,hl=>by
  rw[List.range'_succ];rw[List.forIn_cons];unfold occBody;have e:cur+(m+1)=cur+1+m:=by omega
  rw[e];split
  .rename_i hc;have iH:st.fst.size<limit:=hc.1.1.1;have Hn:∀k,st.snd<=k->k<cur->¬At s sub hi k:=hn.elim id λz=>by omega
   refine Hj s sub hi limit lo hw m (cur+1) _ ?_ (.inl ?_) ?_
   .show(ChainG s sub hi lo (st.fst.push cur).toList<|cur+sub.length);rw[Array.toList_push];exact chainG_snoc h hc.1.1.2 ⟨hc.1.2,hc.2⟩ Hn
   .intro k h1 h2;have Bl:cur+sub.length<=k:=(h1);omega
   .show(st.fst.push cur).size<=limit;rw[Array.size_push];omega
  .rename_i hc;refine Hj s sub hi limit lo hw m (cur+1) _ h ?_ hl;by_cases hq:st.fst.size=limit
   .exact .inr hq
   .have Hn:∀k,st.snd<=k->k<cur->¬At s sub hi k:=hn.elim id λz=>absurd z hq
    refine .inl λk h1 h2 hA=>?_
    by_cases hk:k<cur
    .exact Hn k h1 hk hA
    .have ek:(k=cur):=by omega
     subst ek;exact hc ⟨⟨⟨by omega,h1⟩,hA.1⟩,(hA.2)⟩
def Mg(x y:Str)(limit:Nat)(hw:1<=y.length):∃f,ChainG x y x.length 0 (occurrences x y 0 x.length limit) f/\((∀k,f<=k->¬At x y x.length k)\/(occurrences x y 0 x.length limit).length=limit)/\(occurrences x y 0 x.length limit).length<=limit:=by
 rw[occ_eq];have key:=Hj x y x.length limit 0 hw (x.length+1-0) 0 ((#[]:Array Nat),0) rfl (.inl λk _ h=>by omega) (by simp);refine⟨_,key.1,?_,by rw[gr];exact key.2.2⟩;rcases key.2.1 with z|z
 .exact .inl λk hk hA=>z k hk (by have:=hA.1;omega) hA
 .exact .inr (by rw[gr];exact z)
theorem oY{s sub:Str}{hi:Nat}:∀{a:Nat} {yn:List Nat} {f:Nat},ChainG s sub hi a yn f->ChainTo s sub hi a yn f
 |_,[],_,h=>h
 |_,_::_,_,h=>⟨h.1,h.2.1,oY h.2.2.2⟩
theorem Gq{c:Nat}:∀{p q t u:List Nat},c∉p->c∉q->p++c::t=q++c::u->p=q/\t=u
 |[],[],t,u,_,_,e=>by simp at e;exact⟨rfl,e⟩
 |[],y::q,t,u,_,h,e=>by
  simp only[iz,kj,mv] at e;exact absurd (by rw[<-e.1];simp) h
 |x::p,[],t,u,h,_,e=>by
  simp only[iz,kj,mv] at e;exact absurd (by rw[e.1];simp) h
 |x::p,y::q,t,u,h,h',e=>by
  simp only[kj,mv] at e;obtain⟨a,b⟩:=Gq (c:=c) (λz=>h<|by simp[z]) (λz=>h'<|by simp[z]) e.2;exact⟨by rw[e.1,a],b⟩
def RN{a b r:List Nat}(ha:32∉a)(hb:32∉b):bA (a++32::(b++32::r)) [32] 2=[a,b,r]:=by
 let x:Str:=⟨(a++32::(b++32::r)).toArray⟩
 let y:Str:=⟨#[32]⟩
 have hx:x.cps.toList=a++32::(b++32::r):=by simp[x]
 have lim:limitOf x 2=2:=rfl;obtain⟨f,G,T,L⟩:=Mg x y 2<|ao 1;have C:=oY G;have jn:=join_partsFrom x y (occurrences x y 0 x.length 2) 0 f C;rw[sub_whole] at jn;have ne:∀(hc:(decide (x.length<y.length) || decide (strKind x<strKind y))=true),False:=λhc=>by
  rcases Bool.or_eq_true _ _ ▸ hc with z|z
  .have z:=of_decide_eq_true z
   have:x.length=(a++32::(b++32::r)).length:=str_len _
   have y1:y.length=1:=rfl;rw[this,y1] at z;simp at z
  .have z:=kind_free x 32<|of_decide_eq_true z;rw[hx] at z;simp at z
 let P:List Str:=partsFrom x y.length 0<|occurrences x y 0 x.length 2
 have NZ:∀(yn:List Nat) (s:Nat),(partsFrom x y.length s yn).length=yn.length+1:=λyn=>by
  induction yn with
  |nil=>intro s;rfl
  |cons c t ih=>intro s;simp[partsFrom,ih]
 have jl:wS [32] (P.map λz=>z.cps.toList)=a++32::(b++32::r):=by
  have e:=pR [32]<|P.map λz=>z.cps.toList;rw[ia] at e;have e1:(P.map ((λs=>(⟨s.toArray⟩:Str)) ∘ λz:Str=>z.cps.toList))=P:=by
   conv=>rhs;rw[<-pq P]
   exact jr λz _=>rfl
  rw[e1] at e;have e2:ou (⟨[32].toArray⟩:Str) P=x:=jn;rw[e2] at e;have e3:=congrArg (λs:Str=>s.cps.toList) e;rw[hx] at e3;simpa using e3.symm
 have big:3<=(xP 32 (a++32::(b++32::r))).length:=by
  rw[gP ha,gP hb]
  have:xP 32 r≠[]:=by
   cases r with
   |nil=>simp[xP]
   |cons c t=>
    unfold xP;split
    .simp
    .split<;>simp
  have:=gp.mpr this
  simp;omega
 have iR:(occurrences x y 0 x.length 2).length=2:=by
  rcases T with T|T
  .by_cases h2:(occurrences x y 0 x.length 2).length=2
   .exact h2
   exfalso;have free:=parts_free x 32 (occurrences x y 0 x.length 2) 0 f G T;have sc:=dC (c:=32) (ws:=P.map λz=>z.cps.toList) (λz=>by
    have l:=congrArg cx z;rw[af] at l
    have:=NZ (occurrences x y 0 x.length 2) 0
    have l2:P.length=(occurrences x y 0 x.length 2).length+1:=this;have l0:P.length=0:=l
    omega) (λq hq=>by
    obtain⟨z,hz,rfl⟩:=jp.mp hq;exact free z hz)
   rw[jl] at sc;rw[sc,af] at big;have l2:P.length=(occurrences x y 0 x.length 2).length+1:=NZ _ 0;omega
  .exact T
 have res:P.map (λz=>z.cps.toList)=[a,b,r]:=by
  have G':=G;have ī:=jl;show(partsFrom x y.length 0<|occurrences x y 0 x.length 2).map (λz=>z.cps.toList)=_;have HQ:wS [32] ((partsFrom x y.length 0<|occurrences x y 0 x.length 2).map λz=>z.cps.toList)=a++32::(b++32::r):=jl
  match Ys:occurrences x y 0 x.length 2,iR with
  |[c1,c2],_=>
   rw[Ys] at G' HQ;obtain⟨g1,g2,g3,g4,g5,g6,g7⟩:=G';have b1:c1<=x.length:=by have:=g2.1;omega
   have b2:c2<=x.length:=by have:=g5.1;omega
   have f1:=part_free x 32 0 c1 b1 g3;have f2:=part_free x 32 (c1+y.length) c2 b2 g6;simp only[partsFrom,bg,ip] at HQ ⊢;have jj:(strSub x 0 c1).cps.toList++32::((strSub x (c1+y.length) c2).cps.toList++32::(strSub x (c2+y.length) x.length).cps.toList)=a++32::(b++32::r):=by
    have:wS [32] [(strSub x 0 c1).cps.toList,(strSub x (c1+y.length) c2).cps.toList,(strSub x (c2+y.length) x.length).cps.toList]=a++32::(b++32::r):=HQ
    simpa [wS] using this
   obtain⟨u1,u2⟩:=Gq f1 ha jj;obtain⟨u3,u4⟩:=Gq f2 hb u2;rw[u1,u3,u4]
 unfold bA gy;rw[if_neg λh=>ne h,lim];have em:(occurrences x y 0 x.length 2).isEmpty=false:=by
  cases h:occurrences x y 0 x.length 2 with
  |nil=>rw[h] at iR;simp at iR
  |cons c t=>rfl
 show(if (occurrences x y 0 x.length 2).isEmpty=true then [x] else partsBetween x (occurrences x y 0 x.length 2) y.length).map (λz=>z.cps.toList)=_;rw[em,if_neg<|by simp,partsBetween_eq];exact res
def DL:MS:=(aJ (aD<|zG (C8 true) (zD 2)<|zD 1)
 (qE<|mC<|.bl false)
 yP)
theorem L8(s0 S:List Nat):∀(s:List Nat) (x:Sl),aL x->∃x',aL x'/\gM (y9 2) DL (s.map λc=>D.str [c]) [.v<|.str s0,.v<|.str S,x]=if s.all (λc=>decide (c∈S))=true then aA (.nx [.v<|.str s0,.v<|.str S,x']) else aA (.rt (.bl false) [.v<|.str s0,.v<|.str S,x'])
 |[],x,hx=>⟨x,hx,rfl⟩
 |c::s,x,hx=>by
  obtain⟨x',h',ih⟩:=L8 s0 S s (.v<|.str [c]) trivial;have e1:y9 2 (.str [c]) [.v<|.str s0,.v<|.str S,x]=aA [.v<|.str s0,.v<|.str S,.v<|.str [c]]:=yT (x:=x) rfl hx;have e2:aD (zG (C8 true) (zD 2)<|zD 1) [.v<|.str s0,.v<|.str S,.v<|.str [c]]=aA (!decide (c∈S)):=kB<|zT rfl rfl rfl;rw[bg,ie];by_cases hc:c∈S
  .rw[decide_eq_true hc] at e2 ⊢;rw[lr];refine⟨x',h',?_⟩;rw[cN e1 (by unfold DL;rw[cC e2];rfl),ih]
  .rw[decide_eq_false hc] at e2 ⊢;rw[ky];refine⟨.v<|.str [c],trivial,?_⟩;rw[if_neg ah];exact YG e1 (by unfold DL;rw[o5 e2];exact yO zH)
def QW(s S:List Nat):∃as,kR [.v<|.str s,.v<|.str S]=aA (.v<|.bl<|s.all (λc=>decide (c∈S)) && !decide (s=[]),as):=by
 obtain⟨x',hx,e⟩:=L8 s S s .un trivial;have e2:dQ (y9 2) (iX<|zD 0) DL [.v<|.str s,.v<|.str S,.un]=if s.all (λc=>decide (c∈S))=true then aA (.nx [.v<|.str s,.v<|.str S,x']) else aA (.rt (.bl false) [.v<|.str s,.v<|.str S,x']):=e
 refine qR (r':=[.v<|.str s,.v<|.str S,x']) ?_;show bC [.v<|.str s,.v<|.str S,.un]=_;by_cases h:s.all (λc=>decide (c∈S))=true
 .rw[if_pos h] at e2;rw[h,lr];refine(xA e2).trans (yO<|zT (x:=.str s) (y:=.str []) rfl zH rfl)
 .rw[if_neg h] at e2;rw[jf.mpr h,ky];exact JL e2
noncomputable def F0:List Nat:=[48,49,50,51,52,53,54,55,56,57]
def Tp(s:List Nat):s.all (λc=>decide (c∈F0))=s.all (h_ 48 57):=by
 congr 1
 funext c
 unfold h_;rw[show F0=jx 48 10 from rfl,gn,decide_eq_true_eq,List.mem_range'_1,bo,decide_eq_true_eq,decide_eq_true_eq];exact and_congr_right λ_=>Nat.lt_succ_iff
def Qo(s:List Nat):s.all (λc=>decide (c∈Bo))=s.all (h_ 97 122):=by
 congr 1
 funext c
 unfold h_;rw[show Bo=jx 97 26 from rfl,gn,decide_eq_true_eq,List.mem_range'_1,bo,decide_eq_true_eq,decide_eq_true_eq];exact and_congr_right λ_=>Nat.lt_succ_iff
theorem G7:∀l:List (List Nat),X2 (l.map D.str)=aA l
 |[]=>rfl
 |s::l=>by simp[X2,G7 l]
def wl:Ws:=[[101,109,112,116,121],[102,110],[100,111],[103,101,116],[119,105,116,104],[112,117,116],[108,101,115,115],[116,97,103],[119,105,100,101],[99,97,115,101],[110,101,118,101,114],[105,102],[43],[45],[42]]
def sl:Ws:=[[],[110,101],[101,101],[110,101],[110,101,101],[110,101,101],[110,101],[110,101],[110,101],[101,110,110,101,110,101],[101],[101,101,101],[101,101],[101,101],[101,101]]
def iZ(w:List Nat):D:=match look yN w with
 |some sh=>.str<|low sh
 |none=>.aG
def P9:∀w∈wl,(look yN w).isSome=true/\sl[wl.idxOf w]?=(look yN w).map low:=by decide
def SH:∀q∈yN,q.1∈wl\/q.1=[60]:=by decide
def YD{ss:Ws}{r:En}(h:ss.length<=100):xI (yB<|lV ss) r=aA (.lst<|ss.map D.str):=wH rfl (by rw[af];exact h)
def DW{w:List Nat}{l:Ws}:inD false (.str w) (.lst<|l.map D.str)=aA (.bl<|decide (w∈l)):=by
 show(if uJ (.str w)=true/\(l.map D.str).all uJ=true then aA (D.bl<|(l.map D.str).any λz=>sK z<|.str w) else aB)=_;rw[if_pos ⟨rfl,gY _⟩,Ed]
def Y0(w:List Nat):∃as,jG [.v<|.str w]=aA (.v<|iZ w,as):=by
 let R:En:=[.v<|.str w,.v<|.lst<|wl.map D.str,.v<|.lst<|sl.map D.str]
 have start:∀{h:MS} {z},h R=z->yC (xF 1<|xI<|yB<|lV wl) (yC (xF 2<|xI<|yB<|lV sl) h) [.v<|.str w,.un,.un]=z:=λhz=>
  yL (r2:=[.v<|.str w,.v<|.lst<|wl.map D.str,.un]) _ (YD<|by decide) rfl (yL (r2:=R) _ (YD<|by decide) rfl hz)
 have c1:aD (zG aQ (zD 0)<|mC<|.str [60]) R=aA (decide (w=[60])):=kB<|zT rfl zH rfl;have c2:aD (zG (inD false) (zD 0)<|zD 1) R=aA (decide (w∈wl)):=kB<|zT (x:=.str w) (y:=.lst<|wl.map D.str) rfl rfl DW;by_cases h1:w=[60]
 .subst h1;exact qR (r':=R)<|start<|wT (c1.trans rfl)<|yO zH
 .by_cases h2:w∈wl
  .obtain⟨k1,k2⟩:=P9 w h2;obtain⟨sh,hs⟩:=js.mp k1;rw[hs] at k2;have e:iZ w=.str (low sh):=by unfold iZ;rw[hs]
   rw[e];refine qR (r':=R)<|start<|yS (c1.trans<|by rw[decide_eq_false h1])<|wT (c2.trans<|by rw[decide_eq_true h2])<|yO ?_;have ix:FP (zD 1) (zD 0) R=aA (.int (wl.idxOf w:Nat)):=by
    show(X2<|wl.map D.str).bind (λss=>if w∈ss/\ss.length<=1000 then aA (D.int (ss.idxOf w:Nat)) else aB)=_;rw[G7,aa,if_pos ⟨h2,by decide⟩]
   refine zT (x:=.lst<|sl.map D.str) rfl ix ?_;show eZ (sl.map D.str) ((wl.idxOf w:Nat):Int)=_;exact qD (by rw[az,k2];rfl)
  .have e:iZ w=.aG:=by
    unfold iZ;rw[WT (s:=w) λq hq z=>(SH q hq).elim (λy=>h2 (by rw[<-z];exact y)) λy=>h1 (by rw[<-z];exact y)]
   rw[e];exact qR (r':=R)<|start<|yS (c1.trans<|by rw[decide_eq_false h1])<|yS (c2.trans<|by rw[decide_eq_false h2])<|yO zH
def JT:∀k∈kept,k=[100,101,102]\/(look yN k).isSome=true:=by decide
def Nu{w:List Nat}(h:Wd w)(hl:look yN w=aB):∃as,wJ [.v<|.str w]=aA (.v<|.bl<|qN w,as):=by
 have c1:aD (zG a_ (aF kA<|zD 0)<|mC<|.int 8) [.v<|.str w]=aA (decide (8<w.length)):=(oA (Em rfl h.len) zH).trans (by congr 1;rw[decide_eq_decide];omega);have c2:aD (zG aQ (zD 0)<|mC<|.str [100,101,102]) [.v<|.str w]=aA (decide (w=[100,101,102])):=kB<|zT rfl zH rfl;have sn:iZ w=.aG:=by unfold iZ;rw[hl]
 have c3:aD (zG WP (zW 1 jG<|zC (zD 0) zN)<|mC .aG) [.v<|.str w]=aA false:=by
  have q:=Y0 w;rw[sn] at q;exact kB<|zT (yG (p:=.v .aG) (zE rfl zO) rfl q) zH rfl
 have c:cU (aD<|zG a_ (aF kA<|zD 0)<|mC<|.int 8) (cU (aD<|zG aQ (zD 0)<|mC<|.str [100,101,102])<|aD<|zG WP (zW 1 jG<|zC (zD 0) zN)<|mC .aG) [.v<|.str w]=aA (decide (8<w.length) || decide (w=[100,101,102])):=by
  unfold cU;rw[c1,aa,c2,aa,c3];cases decide (8<w.length)<;>cases decide (w=[100,101,102])<;>rfl
 have kp:decide (w∈kept)=decide (w=[100,101,102]):=by
  rw[decide_eq_decide];refine⟨λz=>(JT w z).resolve_right λy=>?_,λz=>by subst z;decide⟩;rw[hl] at y;cases y
 have al:=QW w Bo;rw[Qo] at al;cases hc:(decide (8<w.length) || decide (w=[100,101,102])) with
 |true=>
  have e:qN w=false:=by
   unfold qN;rw[kp];rcases Bool.or_eq_true_iff.mp hc with z|z
   .rw[decide_eq_false (p:=1<=w.length/\w.length<=8) (by have:=of_decide_eq_true z;omega)];rfl
   .rw[z];simp
  rw[e];exact qR (r':=[.v<|.str w])<|wT (c.trans<|by rw[hc])<|yO zH
 |false=>
  obtain⟨z1,z2⟩:=Bool.or_eq_false_iff.mp hc;have e:qN w=(w.all (h_ 97 122) && !decide (w=[])):=by
   unfold qN;rw[kp,z2,Bool.not_false,rc];have h8:w.length<=8:=by have:=of_decide_eq_false z1;omega
   cases w with
   |nil=>rfl
   |cons a l=>
    rw[decide_eq_true (p:=1<=(a::l).length/\(a::l).length<=8) ⟨by simp,h8⟩];simp
  rw[e];exact qR (r':=[.v<|.str w])<|yS (c.trans<|by rw[hc])<|yO<|yG (p:=.v<|.bl _) (zE rfl<|zE zH zO) rfl al
def SO{w:List Nat}(h:Wd w):∃as,jS [.v<|.str w]=aA (.v<|.bl<|WO w,as):=by
 have c1:aD (zG a_ (aF kA<|zD 0)<|mC<|.int 6) [.v<|.str w]=aA (decide (6<w.length)):=(oA (Em rfl h.len) zH).trans (by congr 1;rw[decide_eq_decide];omega);have al:=QW w F0;rw[Tp] at al;have c2:=xn (f:=zW 2 kR<|zC (zD 0)<|zC (mC<|.str [48,49,50,51,52,53,54,55,56,57]) zN) (r:=[.v<|.str w])<|yG (p:=.v<|.bl _) (zE rfl<|zE zH zO) rfl al;have c:cU (aD<|zG a_ (aF kA<|zD 0)<|mC<|.int 6) (jW<|uG<|zW 2 kR<|zC (zD 0)<|zC (mC<|.str [48,49,50,51,52,53,54,55,56,57]) zN) [.v<|.str w]=aA (decide (6<w.length) || !(w.all (h_ 48 57) && !decide (w=[]))):=by
  unfold cU;rw[c1,aa,c2];cases decide (6<w.length)<;>rfl
 have e1:(decide (1<=w.length/\w.length<=6) && w.all (h_ 48 57)) = !(decide (6<w.length) || !(w.all (h_ 48 57) && !decide (w=[]))):=by
  have:decide (1<=w.length/\w.length<=6)=(!decide (6<w.length) && !decide (w=[])):=by
   rw[gn];simp only[decide_eq_true_eq,bo,pe,decide_eq_false_iff_not];rw[<-ii];omega
  rw[this];cases decide (6<w.length)<;>cases decide (w=[])<;>cases w.all (h_ 48 57)<;>rfl
 cases hc:(decide (6<w.length) || !(w.all (h_ 48 57) && !decide (w=[]))) with
 |true=>
  rw[hc] at e1 c;have e:WO w=false:=by unfold WO;rw[<-kz,e1];rfl
  rw[e];exact qR (r':=[.v<|.str w])<|wT c<|yO zH
 |false=>
  rw[hc] at e1 c;have e:WO w=(decide (w=[48]) || !decide (w.head?=aA 48)):=by unfold WO;rw[<-kz,e1];rfl
  rw[e];refine qR (r':=[.v<|.str w])<|yS c<|yO ?_;have d1:zG aQ (zD 0) (mC<|.str [48]) [.v<|.str w]=aA (.bl<|decide (w=[48])):=zT rfl zH rfl;show BW (zG aQ (zD 0)<|mC<|.str [48]) (zG d_ (zG aC (zD 0)<|mC<|.int 0)<|mC<|.str [48]) [.v<|.str w]=_;unfold BW;rw[d1];by_cases hz:w=[48]
  .rw[decide_eq_true hz];rfl
  .rw[decide_eq_false hz,rb];show zG d_ (zG aC (zD 0)<|mC<|.int 0) (mC<|.str [48]) [.v<|.str w]=_;cases w with
   |nil=>simp at e1
   |cons a l=>
    refine zT (x:=.str [a]) (zT rfl zH ?_) zH ?_
    .show(if (a::l).length<=ag then (eZ (a::l) 0).map λc=>D.str [c] else aB)=_;rw[if_pos<|bf h.len<|by decide,vI];rfl
    .show aA (D.bl<|!decide ([a]=[48]))=_
     congr 3
     rw[decide_eq_decide];simp
def Z4(t:List Nat):wS [32] (bA t [32] 2)=t:=by
 let x:Str:=⟨t.toArray⟩
 let y:Str:=⟨#[32]⟩
 have hx:x.cps.toList=t:=by simp[x]
 have one:wS [32] ([x].map λz:Str=>z.cps.toList)=t:=by
  show wS [32] [x.cps.toList]=t;rw[hx];rfl
 have lim:limitOf x 2=2:=rfl;unfold bA gy;split
 .exact one
 .rw[show limitOf (⟨t.toArray⟩:Str) 2=2 from rfl];show wS [32] ((if (occurrences x y 0 x.length 2).isEmpty=true then [x] else partsBetween x (occurrences x y 0 x.length 2) y.length).map λz=>z.cps.toList)=t;split
  .exact one
  .rw[partsBetween_eq];obtain⟨f,G,T,L⟩:=Mg x y 2<|ao 1;have C:=oY G;have jn:=join_partsFrom x y (occurrences x y 0 x.length 2) 0 f C;rw[sub_whole] at jn
   let P:List Str:=partsFrom x y.length 0<|occurrences x y 0 x.length 2
   show wS [32] (P.map λz=>z.cps.toList)=t;have e:=pR [32]<|P.map λz=>z.cps.toList;rw[ia] at e;have e1:(P.map ((λs=>(⟨s.toArray⟩:Str)) ∘ λz:Str=>z.cps.toList))=P:=by
    conv=>rhs;rw[<-pq P]
    exact jr λz _=>rfl
   rw[e1] at e;have e2:ou (⟨[32].toArray⟩:Str) P=x:=jn;rw[e2] at e;have e3:=congrArg (λs:Str=>s.cps.toList) e;rw[hx] at e3;simpa using e3.symm
def kW(c:Nat):∀s:List Nat,1<=(xP c s).length
 |[]=>by simp[xP]
 |x::r=>by
  unfold xP;split
  .simp
  .split<;>simp
theorem oI(c:Nat):∀(a b:List Nat),(xP c (a++c::b)).length=(xP c a).length+(xP c b).length
 |[],b=>by simp[xP];omega
 |x::a,b=>by
  have ih:=oI c a b;have p:=kW c a;generalize (xP c b).length=B at ih ⊢;show(xP c (x::(a++c::b))).length=_;unfold xP;split
  .simp[ih];omega
  .cases h1:xP c (a++c::b) with
   |nil=>rw[h1] at ih;simp at ih;omega
   |cons u v=>
    cases h2:xP c a with
    |nil=>rw[h2] at p;simp at p
    |cons u2 v2=>
     rw[h1,h2] at ih;simpa using ih
def Vr{t:List Nat}(h:(xP 32 t).length<3):(bA t [32] 2).length≠3:=λz=>by
 have j:=Z4 t
 match hq:bA t [32] 2,z with
 |[a,b,c],_=>
  rw[hq] at j;have e:t=a++32::(b++32::c):=by rw[<-j];simp[wS]
  rw[e,oI,oI] at h
  have:=kW 32 a
  have:=kW 32 b
  have:=kW 32 c
  omega
def XG(g:MS)(x:MX):Prop:=∀r n,x r=aA n->g r=aB
def XX(x y:MX):Prop:=∀r n,x r=aA n->y r=aB
def XF(F:MF)(M:List Sl->Option Str):Prop:=∀as n,M as=aA n->F as=aB
def XE(f:ME)(x:MX):Prop:=∀r n,x r=aA n->f r=aB
def XP(f:En->Option (D×En))(x:MX):Prop:=∀r n,x r=aA n->f r=aB
def tU{g:MS}{x:MX}{r:En}{n:Str}(h:qF g x r=aA n):∃r',g r=aA (.nx r')/\x r'=aA n:=by
 obtain⟨fl,e1,e2⟩:=aI h;cases fl<;>first|(cases e2;done)|exact⟨_,e1,e2⟩
def UU{a b:MS}{r:En}(h:a r=aB):yC a b r=aB:=by unfold yC;rw[h];rfl
def JA{a:MS}{x:MX}{r:En}(h:a r=aB):qF a x r=aB:=by unfold qF;rw[h];rfl
def Nq{x y:MX}{r:En}{n:Str}(h:fU x y r=aA n):x r=aA n\/y r=aA n:=by
 unfold fU at h;split at h
 .rename_i m e;cases h;exact .inl e
 .exact .inr h
def wF{a b:MS}{y:MX}(h:XG b y):XG (yC a b) (qF a y):=λr n e=>by
 obtain⟨r',e1,e2⟩:=tU e;rw[xA e1];exact h r' n e2
def jN{a b:MS}{x:MX}(h:XG a x):XG (yC a b) x:=λr n e=>UU<|h r n e
def QY{g:MS}{x y:MX}(h:XG g x)(h2:XG g y):XG g (fU x y):=λr n e=>(Nq e).elim (h r n)<|h2 r n
def hU{c:MB}{g g':MS}{x x':MX}(h:XG g x)(h2:XG g' x'):XG (aJ c g g') (fA c x x'):=λr n e=>by
 obtain⟨b,e1,e2⟩:=aI e;unfold aJ;rw[e1,aa];cases b
 .rw[if_neg ah] at e2 ⊢;exact h2 r n e2
 .rw[if_pos rfl] at e2 ⊢;exact h r n e2
def jT{x:MX}:XG jU x:=λ_ _ _=>rfl
def mQ{g:MS}:XG g mR:=λ_ _ e=>by cases e
def Ha{j:Nat}{f:En->Option (D×En)}{x:MX}(h:XP f x):XG (vE j f) x:=λr n e=>by unfold vE;rw[h r n e];rfl
def sO{f:En->Option (D×En)}{x:MX}(h:XP f x):XG (sX f) x:=λr n e=>by unfold sX;rw[h r n e];rfl
def GD{j:Nat}{f:ME}{x:MX}(h:XE f x):XG (xF j f) x:=λr n e=>by unfold xF;rw[h r n e];rfl
def LJ{f:ME}{x:MX}(h:XE f x):XG (qE f) x:=λr n e=>by unfold qE;rw[h r n e];rfl
def Mx{f:ME}{x:MX}(h:XE f x):XG (QZ f) x:=λr n e=>by unfold QZ;rw[h r n e];rfl
def kI{n:Nat}{F:MF}{M:List Sl->Option Str}{fs:ML}(h:XF F M):XE (zW n F fs) (vZ n M fs):=λr k e=>by
 obtain⟨ds,e1,e2⟩:=aI e;unfold zW;rw[e1,aa];split at e2
 .rename_i hn;rw[if_pos hn,h _ _ e2];rfl
 .cases e2
def tV{n i:Nat}{F:MF}{M:List Sl->Option Str}{z:MZ}(h:XF F M):XP (qS n F i z) (cG n M i z):=λr k e=>by
 obtain⟨l,e1,e2⟩:=aI e;obtain⟨q,e3,e4⟩:=aI e2;unfold qS;rw[e1,aa,e3,aa];split at e4
 .rename_i hn;rw[if_pos hn,h _ _ e4];rfl
 .cases e4
def Mz{i:Nat}{f:En->Option (D×En)}{x:MX}(h:XP f x):XP (YT i f) (zw i x):=λr n e=>by
 obtain⟨l,e1,e2⟩:=aI e;unfold YT;rw[h r n e2];rfl
def b0{i:Nat}{f:ME}{x:MX}(h:XE f x):XP (Q3 i f) (mV i x):=λr n e=>by
 obtain⟨r1,e1,e2⟩:=aI e;obtain⟨l,e3,e4⟩:=aI e2;unfold Q3;rw[e1,aa,h r1 n e4];rfl
def T2{f g:ME}{x:MX}(h:XE g x):XE (vD<|zC f<|zC g zN) (F1 f x):=λr n e=>by
 obtain⟨d,e1,e2⟩:=aI e;unfold vD zC;rw[e1,aa,h r n e2];rfl
theorem My{bd:D->En->Option En}{g:MS}{x:MX}(h:XG g x):∀(l:List D) (r:En) (n:Str),uZ bd g x l r=aA n->gM bd g l r=aB
 |[],r,n,e=>by cases e
 |d::l,r,n,e=>by
  obtain⟨r1,e1,e2⟩:=aI e;unfold gM;rw[e1,aa];cases hx:x r1 with
  |some m=>rw[h r1 m hx];rfl
  |none=>
   rw[hx] at e2;obtain⟨fl,e3,e4⟩:=aI e2;rw[e3,aa];cases fl<;>first|(cases e4;done)|exact My h l _ n e4
def XU{bd:D->En->Option En}{it:ML}{g:MS}{x:MX}(h:XG g x):XG (dQ bd it g) (sB bd it g x):=λr n e=>by
 obtain⟨l,e1,e2⟩:=aI e;unfold dQ;rw[e1,aa];exact My h l r n e2
theorem Np{c:MB}{g:MS}{x:MX}(h:XG g x):∀(k:Nat),XG (j7 k c g) (o9 k c g x)
 |0=>λr n e=>by cases e
 |k+1=>λr n e=>by
  obtain⟨b,e1,e2⟩:=aI e;unfold j7;rw[e1,aa];cases b
  .cases e2
  .rw[if_pos rfl] at e2 ⊢;cases hx:x r with
   |some m=>rw[h r m hx];rfl
   |none=>
    rw[hx] at e2;obtain⟨fl,e3,e4⟩:=aI e2;rw[e3,aa];cases fl<;>first|(cases e4;done)|exact Np h k _ n e4
def pL{n N:Nat}{g:MS}{x:MX}(h:XG g x):XF (aY n N g) (iD n N x):=λas k e=>by
 have e':x (as++bq (N-n) .un)=aA k:=e;unfold aY;rw[h _ _ e'];rfl
def kD{a:MS}{x y:MX}(h:XX x y):XX (qF a x) (qF a y):=λr n e=>by
 obtain⟨r',e1,e2⟩:=tU e;rw[kF e1];exact h r' n e2
def gG{a:MS}{x y:MX}(h:XG a x):XX x (qF a y):=λr n e=>JA<|h r n e
def BL{x x' y:MX}(h:XX x y)(h':XX x' y):XX (fU x x') y:=λr n e=>(Nq e).elim (h r n)<|h' r n
def p8{x y:MX}(h:XX x y):XX y x:=λr n e=>by
 cases hx:x r with
 |none=>rfl
 |some m=>rw[h r m hx] at e;cases e
theorem MA{bd:D->En->Option En}{g:MS}{x y:MX}(h:XX x y)(hx:XG g x)(hy:XG g y):∀(l:List D) (r:En) (n:Str),uZ bd g x l r=aA n->uZ bd g y l r=aB
 |[],r,n,e=>rfl
 |d::l,r,n,e=>by
  obtain⟨r1,e1,e2⟩:=aI e;unfold uZ;rw[e1,aa];cases ex:x r1 with
  |some m=>rw[h r1 m ex,hx r1 m ex];rfl
  |none=>
   rw[ex] at e2;obtain⟨fl,e3,e4⟩:=aI e2;have ey:y r1=aB:=by
    cases z:y r1 with
    |none=>rfl
    |some m=>rw[hy r1 m z] at e3;cases e3
   rw[ey,e3];show(match fl with | .nx r'=>uZ bd g y l r' | .ct r'=>uZ bd g y l r'|_=>aB)=aB;cases fl<;>first|(cases e4;done)|exact MA h hx hy l _ n e4
def GF{bd:D->En->Option En}{it:ML}{g:MS}{x y:MX}(h:XX x y)(hx:XG g x)(hy:XG g y):XX (sB bd it g x) (sB bd it g y):=λr n e=>by
 obtain⟨l,e1,e2⟩:=aI e;unfold sB;rw[e1,aa];exact MA h hx hy l r n e2
def Hb{n:Nat}{M M':List Sl->Option Str}{fs:ML}(h:∀as k,M as=aA k->M' as=aB):XX (vZ n M fs) (vZ n M' fs):=λr k e=>by
 obtain⟨ds,e1,e2⟩:=aI e;unfold vZ;rw[e1,aa];split at e2
 .rename_i hn;rw[if_pos hn];exact h _ _ e2
 .cases e2
def Hc{i:Nat}{x y:MX}(h:XX x y):XX (mV i x) (mV i y):=λr n e=>by
 obtain⟨r1,e1,e2⟩:=aI e;obtain⟨l,e3,e4⟩:=aI e2;unfold mV;rw[e1,aa,e3,aa];exact h r1 n e4
def Mw:XF wW xQ:=pL (by unfold uH x0;exact jN<|hU jT mQ)
def T4:XF kQ wM:=pL (by
 unfold uI xH;exact QY (jN<|Ha<|tV Mw)<|wF<|jN<|hU jT mQ)
def RU:XF vR xY:=pL (by unfold vM xM;exact jN<|hU jT mQ)
def T3:XF jK xS:=pL (by unfold dM xO;exact wF<|LJ<|T2<|kI RU)
theorem Mv:∀k,XF (yI k) (zV k)
 |0=>λas n e=>by cases e
 |k+1=>pL (by
  unfold wX yZ;refine QY (jN<|hU jT mQ) (wF<|QY (jN<|Ha<|tV Mw)<|wF<|QY (jN<|hU (LJ<|kI T3) mQ)<|wF<|wF<|jN<|XU<|hU ?_ ?_)
  .exact sO (Mz<|tV T4)
  .exact sO<|Mz<|tV<|Mv k)
def G_:XF w6 wD:=pL (by
 unfold qK y6;exact wF<|QY (jN<|Ha<|tV<|Mv _)<|wF<|jN<|hU jT mQ)
def T5:XF wC yQ:=pL (by
 unfold qT xJ;exact hU (wF jT) mQ)
def UI:XF qL xG:=pL (by
 unfold qJ xT;exact wF<|Np (wF<|jN<|Mx<|kI T5) _)
def tX:XF w8 wN:=pL (by
 unfold vN wA;exact wF<|wF<|wF<|wF<|jN<|hU jT mQ)
def tZ:XF w8 wZ:=pL (by
 unfold vN xB;exact wF<|QY (jN<|hU jT mQ)<|wF<|wF<|jN<|GD<|kI G_)
def tY:XF w8 xW:=pL (by
 unfold vN wK;exact wF<|wF<|wF<|wF<|wF<|QY (jN<|hU jT mQ)<|wF<|jN<|Mx<|kI UI)
def BK{n N:Nat}{x y:MX}(h:XX x y):∀as k,iD n N x as=aA k->iD n N y as=aB:=λas k e=>h _ _ e
def Qb:∀as k,wZ as=aA k->wN as=aB:=BK (by
 unfold xB wA;exact kD<|BL (gG<|hU jT mQ)<|kD<|kD<|gG<|GD<|kI G_)
def Qa:∀as k,wZ as=aA k->xW as=aB:=BK (by
 unfold xB wK;exact kD<|BL (gG<|hU jT mQ)<|kD<|kD<|gG<|GD<|kI G_)
def Qc:∀as k,wN as=aA k->xW as=aB:=BK (by
 unfold wA wK;exact kD<|kD<|kD<|kD<|gG<|hU jT mQ)
def UL:XF tS j6:=pL (by
 unfold pH wO;exact wF<|QY (jN<|hU jT mQ)<|wF<|wF<|jN<|XU<|sO<|b0<|kI tX)
def RX:∀as k,kP as=aA k->j6 as=aB:=BK (by
 unfold jC wO;refine kD (p8<|BL (gG<|hU jT mQ)<|kD<|kD<|p8<|GF (Hc<|Hb Qb) ?_ ?_)
 .exact sO (b0<|kI tZ)
 .exact sO<|b0<|kI tX)
def RY:∀as k,kO as=aA k->kP as=aB:=BK (by
 unfold jC jB;refine kD (kD<|kD<|BL (p8<|GF (Hc<|Hb Qa) ?_ ?_)<|p8<|gG<|XU ?_)
 .exact sO (b0<|kI tZ)
 .exact sO (b0<|kI tY)
 .exact sO<|b0<|kI tZ)
def RZ:∀as k,kO as=aA k->j6 as=aB:=BK (by
 unfold wO jB;refine kD (p8<|BL (gG<|hU jT mQ)<|kD<|kD<|p8<|BL (p8<|GF (Hc<|Hb Qc) ?_ ?_)<|p8<|gG<|XU ?_)
 .exact sO (b0<|kI tX)
 .exact sO (b0<|kI tY)
 .exact sO<|b0<|kI tX)
def UJ:XF tS kP:=pL (by
 unfold pH jC;exact wF<|wF<|wF<|jN<|XU<|sO<|b0<|kI tZ)
def UK:XF tS kO:=pL (by
 unfold pH jB;exact wF<|wF<|wF<|QY (jN<|XU<|sO<|b0<|kI tY)<|wF<|jN<|hU jT mQ)
theorem gO(c:Nat):∀(t x:List Nat),x∈xP c t->c∉x
 |[],x,h=>by
  have:x=[]:=by simpa [xP] using h
  subst this;simp
 |y::t,x,h=>by
  unfold xP at h;split at h
  .rcases av.mp h with rfl|h
   .simp
   .exact gO c t x h
  .rename_i hy;cases e:xP c t with
   |nil=>have:=kW c t;rw[e] at this;cases this
   |cons s r=>
    rw[e] at h;rcases av.mp h with rfl|h
    .intro z;rcases av.mp z with z|z
     .exact hy z.symm
     .exact gO c t s (by rw[e];simp) z
    .exact gO c t x (by rw[e];simp[h])
theorem uC(c:Nat):∀t:List Nat,wS [c] (xP c t)=t
 |[]=>rfl
 |y::t=>by
  have ih:=uC c t;unfold xP;cases e:xP c t with
  |nil=>have:=kW c t;rw[e] at this;cases this
  |cons s r=>
   rw[e] at ih;split
   .rename_i hy;subst hy;show[]++[y]++wS [y] (s::r)=_;rw[ih];rfl
   .show wS [c] ((y::s)::r)=_;rw[<-ih];cases r<;>rfl
def Nn(c:Nat)(t:List Nat):vU t [c]=xP c t:=by
 have:=hX (c:=c) (ws:=xP c t) (λz=>by have:=kW c t;rw[z] at this;cases this)<|gO c t
 rwa [uC] at this
noncomputable def p5:List Nat:=[100,101,102]
inductive Oc where
 |T
 |L
 |N
 |ok (x:List Nat)
def jg(W:Ws):Option (Nat×Nm):=match eW W.reverse [] with
 |some [x]=>aA (x.n,x.f)
 |_=>aB
def Wi(b:List Nat)(k:Ws):Option (Nat×Nm)->Oc
 |none=>.L
 |some (n,f)=>if 80<n then .T else if b∈k then .N else if (f.all λy=>decide (y∈k++[b]))=true then .ok b else .N
def Wh(k:Ws):Ws->Oc
 |a::b::c::r=>if a=p5/\qN b=true then Wi b k (jg (c::r)) else .L
 |_=>.L
def oc(t:List Nat)(k:Ws):Oc:=Wh k<|xP 32 t
def cD:MB:=(cU (aD<|zG d_ (aF kA<|zD 2)<|mC<|.int 3)<|cU (aD<|zG d_ (zG aC (zD 2)<|mC<|.int 0)<|mC<|.str [100,101,102])<|jW<|uG<|zW 1 qA<|zC (zG aC (zD 2)<|mC<|.int 1) zN)
def AS{f g:MB}{r:En}(e:f r=aA true):cU f g r=aA true:=by unfold cU;rw[e];rfl
def AR{f g:MB}{r:En}{z:Option Bool}(e:f r=aA false)(e2:g r=z):cU f g r=z:=by unfold cU;rw[e];exact e2
section
variable{t:List Nat}{K:D}{ws:List D}
def Kf(h:Tx 40000 t):xF 2 (xI<|mD (zD 0) (mC<|.str [32]) 2) [.v<|.str t,.v K,.un,.un,.un]=aA (.nx [.v<|.str t,.v K,.v<|.lst<|(bA t [32] 2).map D.str,.un,.un]):=by
 refine jI (d:=.lst<|(bA t [32] 2).map D.str) ?_ rfl;have q:mD (zD 0) (mC<|.str [32]) 2 [.v<|.str t,.v K,.un,.un,.un]=aA ((bA t [32] 2).map D.str):=by
  show(if ([32]:List Nat).length≠0/\t.length<ag/\(0:Int)<=2/\(2:Int)<1000 then aA ((bA t [32] 2).map D.str) else aB)=_;rw[if_pos ⟨by decide,bj h.len<|by decide,by decide,by decide⟩]
 unfold xI;rw[q];rfl
def Rt{W:Ws}(h:W.length≠3):cD [.v<|.str t,.v K,.v<|.lst<|W.map D.str,.un,.un]=aA true:=by
 unfold cD;refine AS<|kB (b:=true)<|zT (x:=.int ((W.map D.str).length:Nat)) (y:=.int 3) rfl zH ?_;show aA (D.bl<|!decide (((W.map D.str).length:Int)=3))=_;rw[af,decide_eq_false<|by omega];rfl
def TW{a b e:List Nat}(hb:b.length<=100000):cD [.v<|.str t,.v K,.v<|.lst [.str a,.str b,.str e],.un,.un]=aA (!(decide (a=p5) && qN b)):=by
 unfold cD;refine AR (kB (b:=false) rfl) ?_;have h1:aD (zG d_ (zG aC (zD 2)<|mC<|.int 0)<|mC<|.str [100,101,102]) [.v<|.str t,.v K,.v<|.lst [.str a,.str b,.str e],.un,.un]=aA (!decide (a=p5)):=kB<|zT (x:=.str a) (y:=.str p5) (zT rfl zH<|vI _ _) zH rfl;have h2:zW 1 qA (zC (zG aC (zD 2)<|mC<|.int 1) zN) [.v<|.str t,.v K,.v<|.lst [.str a,.str b,.str e],.un,.un]=aA (.bl<|qN b):=yG (p:=.v<|.bl _) (zE (zT rfl zH<|qD (j:=1) rfl) zO) rfl<|Me b hb;cases ha:decide (a=p5) with
 |false=>rw[ha] at h1;exact AS h1
 |true=>rw[ha] at h1;exact(AR h1<|xn h2).trans rfl
end
def P8{p:Fo}{d:D}(h:p.ok)(h2:p.eD=[69])(h3:p.ds=[d]):∃t:Tm,t.ok/\t.ds=d/\t.fr=p.fs.flatten/\t.sz=p.sz/\t.lv=p.lv:=by
 rcases MG h2 with⟨x,rfl⟩|⟨w,rfl⟩|⟨w,ps,rfl⟩
 .cases h3;exact⟨.aU x,h.1,rfl,rfl,rfl,rfl⟩
 .cases h3;exact⟨.num w,trivial,rfl,rfl,rfl,rfl⟩
 .cases h3;exact⟨.nd w ps,⟨h.1,h.2.2.1⟩,rfl,by simp[Fo.fs,Tm.fr],by simp[Fo.sz,Tm.sz],by simp[Fo.lv,Tm.lv]⟩
def Qw{W:Ws}{d:D}(e:tk 31 W=aA (d,[])):∃t:Tm,t.ok/\t.ds=d/\t.lv<=31/\jg W=aA (t.sz,t.fr)/\(W.length<50000->∃P as,P.length=t.sz/\uB [.v d]=aA (.f P,as)):=by
 obtain⟨p,h1,h2,h3,h4,h5,b,dp,h6⟩:=JU e;obtain⟨t,q1,q2,q3,q4,q5⟩:=P8 h1 h2 h3;refine⟨t,q1,q2,q5 ▸ h5,?_,λhl=>?_⟩
 .unfold jg;rw[h6,q3,q4]
 .rw[q4];exact Vg h2 h3<|h4 ▸ hl
def PV{W:Ws}(e:¬∃d,tk 31 W=aA (d,[])):jg W=aB:=by
 have:=U1 e
 unfold jg;split
 .rename_i x h;exact absurd h<|this x
 .rfl
abbrev Rd(t:List Nat)(k:Ws):List Sl:=[.v<|.str t,.v<|.lst<|k.map D.str]
def Dv(t:List Nat)(k:Ws):Oc->Prop
 |.L=>wZ (Rd t k)=aA "NoLine"
 |.T=>wN (Rd t k)=aA "TooMuch"
 |.N=>xW (Rd t k)=aA "NoName"
 |.ok x=>∃d as,w8 (Rd t k)=aA (.v<|.tup [.str x,d],as)
def Y2{t:List Nat}{k:Ws}(h:Tx 40000 t)(hf:(xP 32 t).length<3):Dv t k .L:=by
 show xB [.v<|.str t,.v<|.lst<|k.map D.str,.un,.un,.un]=_;unfold xB;exact(kF<|Kf h).trans (XR<|(o4<|Rt<|Vr hf).trans<|v7 ⟨_,rfl⟩)
def PN{r:En}{s:List Nat}(e:r[3]?=aA (.v<|.str s))(h:s.length<=8){a b:List Nat}(ha:a.length+b.length<=100):∃d,YR (jE (mC<|.str a)<|jE (zD 3)<|jE (mC<|.str b) vv) r=aA d:=KE e (by omega)
def Vi{t:List Nat}{k:Ws}(h:Tx 40000 t)(hk:k.length<=50):Dv t k (oc t k):=by
 unfold oc
 match hq:xP 32 t with
 |[]=>exact Y2 h (by rw[hq];decide)
 |[_]=>exact Y2 h (by rw[hq];simp)
 |[_,_]=>exact Y2 h (by rw[hq];simp)
 |a::b::c::r=>
  have Bg:=gO 32 t;rw[hq] at Bg;have et:t=a++32::(b++32::wS [32] (c::r)):=by
   conv=>lhs;rw[<-uC 32 t,hq]
   simp[wS]
  let e:=wS [32] (c::r)
  have sp:bA t [32] 2=[a,b,e]:=by rw[et];exact RN (Bg a<|by simp) (Bg b<|by simp)
  have se:vU e [32]=c::r:=hX (by simp) λx hx=>Bg x (by simp only[av] at hx ⊢;exact .inr<|.inr hx)
  have he:Tx 99999 e:=⟨by have:=h.len;rw[et] at this;simp only[ae,ac] at this;show(wS [32] (c::r)).length<=_;omega,λq C_=>h.sm q (by rw[et];simp[e] at C_ ⊢;simp[C_])⟩;have hb:b.length<=100000:=by have:=h.len;rw[et] at this;simp only[ae,ac] at this;omega
  have hw:(c::r).length<50000:=by
   have:=nZ 32 (c::r)
   have:=h.len;rw[et] at this;simp only[ae,ac] at this
   simp only[ac] at *;omega
  let K:D:=.lst<|k.map D.str
  let r1:En:=[.v<|.str t,.v K,.v<|.lst [.str a,.str b,.str e],.un,.un]
  have s1:xF 2 (xI<|mD (zD 0) (mC<|.str [32]) 2) [.v<|.str t,.v K,.un,.un,.un]=aA (.nx r1):=by
   have:=Kf (K:=K) h
   rw[sp] at this;exact this
  have cd:=TW (t:=t) (K:=K) (a:=a) (b:=b) (e:=e) hb;show Dv t k (if a=p5/\qN b=true then _ else _);by_cases hg:a=p5/\qN b=true
  .rw[if_pos hg];have ON:cD r1=aA false:=cd.trans (by rw[hg.1,hg.2];rfl);have s2:aJ cD jU yP r1=aA (.nx r1):=by rw[cC ON];rfl
   let r2:En:=[.v<|.str t,.v K,.v<|.lst [.str a,.str b,.str e],.v<|.str b,.un]
   have s3:xF 3 (zG aC (zD 2)<|mC<|.int 1) r1=aA (.nx r2):=jI (d:=.str b) (zT rfl zH<|qD (j:=1) rfl) rfl;have a2:zC (zG aC (zD 2)<|mC<|.int 2) zN r2=aA [.str e]:=zE (zT rfl zH<|qD (j:=2) rfl) zO;have nb:=Mf hg.2;by_cases hx:∃d,tk 31 (c::r)=aA (d,[])
   .obtain⟨d,hd⟩:=hx;obtain⟨T,t1,t2,t3,t4,t5⟩:=Qw hd;obtain⟨P,ñ,p1,p2⟩:=t5 hw;obtain⟨q1,q2⟩:=UQ he (d:=d) (by rw[se];exact hd);rw[t4]
    let r3:En:=[.v<|.str t,.v K,.v<|.lst [.str a,.str b,.str e],.v<|.str b,.v d]
    have s4:xF 4 (zW 1 w6<|zC (zG aC (zD 2)<|mC<|.int 2) zN) r2=aA (.nx r3):=jI (d:=d) (yG (p:=.v d) a2 rfl q1) rfl;have c5:aD (zG a_ (aF kA<|xI<|dL 1 uB<|zC (zD 4) zN)<|mC<|.int 80) r3=aA (decide (80<T.sz)):=by
     have q:xI (dL 1 uB<|zC (zD 4) zN) r3=aA (.lst P):=by
      unfold xI dL;rw[zE (x:=d) (l:=[]) rfl zO,aa,if_pos (show[d].length=1 from rfl)];show Option.map _ ((uB [.v d]).bind _)=_;rw[p2];rfl
     refine(oA (i:=((P.length:Nat):Int)) (j:=80) (u8 q rfl) zH).trans ?_;rw[p1];congr 1;rw[decide_eq_decide];omega
    show Dv t k (if 80<T.sz then _ else _);by_cases wu:80<T.sz
    .rw[if_pos wu];show wA [.v<|.str t,.v K,.un,.un,.un]=_;unfold wA;exact(kF s1).trans ((kF s2).trans<|(kF s3).trans<|(kF s4).trans<|(o4<|c5.trans<|by rw[decide_eq_true wu]).trans<|v7 ⟨_,rfl⟩)
    .rw[if_neg wu];have s5:aJ (aD<|zG a_ (aF kA<|xI<|dL 1 uB<|zC (zD 4) zN)<|mC<|.int 80) jU yP r3=aA (.nx r3):=by rw[cC<|c5.trans<|by rw[decide_eq_false wu]];rfl
     have c6:aD (zG (inD false) (zD 3)<|zD 1) r3=aA (decide (b∈k)):=kB<|zT (x:=.str b) (y:=K) rfl rfl DW;have xN:∀{z},(fU (fA (aD<|zG (inD false) (zD 3)<|zD 1)
 (u7 "NoName"<|YR<|jE (mC<|.str [97,32,100,101,102,32,97,98,111,118,101,32,105,115,32,99,97,108,108,101,100,32])<|jE (zD 3)<|jE (mC<|.str [44,32,116,111,111]) vv)
 mR)
 (qF (aJ (aD<|zG (inD false) (zD 3)<|zD 1)
 jU
 yP)
 (vZ 2 xG<|zC (zD 4)<|zC (zG xC (zD 1)<|xI<|yB<|zC (zD 3) zN) zN))) r3=z->xW (Rd t k)=z:=λq=>by
      show wK [.v<|.str t,.v K,.un,.un,.un]=_;unfold wK;exact(kF s1).trans ((kF s2).trans<|(kF s3).trans<|(kF s4).trans<|(kF s5).trans q)
     by_cases zn:b∈k
     .rw[if_pos zn];exact xN (XR<|(o4<|c6.trans<|by rw[decide_eq_true zn]).trans<|v7<|PN rfl nb<|by decide)
     .rw[if_neg zn];have OO:=c6.trans (show _=aA false by rw[decide_eq_false zn]);have s6:aJ (aD<|zG (inD false) (zD 3)<|zD 1) jU yP r3=aA (.nx r3):=by rw[cC OO];rfl
      have a4:zC (zD 4) (zC (zG xC (zD 1)<|xI<|yB<|zC (zD 3) zN) zN) r3=aA [T.ds,.lst<|(k++[b]).map D.str]:=zE (by rw[t2];rfl)<|zE (JS rfl rfl<|by omega) zO;have hl:(k++[b]).length<=100:=by simp;omega
      by_cases ho:(T.fr.all λy=>decide (y∈k++[b]))=true
      .rw[if_pos ho];obtain⟨as,f1⟩:=Vk (t:=T) (k:=k++[b]) (by omega) t1 ho hl (by omega);obtain⟨bs,Ç⟩:∃bs,w8 (Rd t k)=aA (.v<|.tup [.str b,d],bs):=qR (r':=r3) (by
        show vN [.v<|.str t,.v K,.un,.un,.un]=_;unfold vN;refine(xA s1).trans ((xA s2).trans<|(xA s3).trans<|(xA s4).trans<|(xA s5).trans<|(xA s6).trans<|(xA (r':=r3) ?_).trans<|yO<|qZ (zE rfl<|zE rfl zO)<|by simp);unfold QZ;rw[yG (n:=2) (p:=.v .aG) a4 rfl ⟨as,f1⟩];rfl)
       exact⟨d,bs,Ç⟩
      .rw[if_neg ho];refine xN<|(tW<|(XT OO).trans rfl).trans<|(kF s6).trans<|(dW a4 rfl).trans ?_;exact Vj (t:=T) (k:=k++[b]) (by omega) t1 (by unfold Tm.kn;simpa using ho) hl (by omega)
   .rw[PV hx];show xB [.v<|.str t,.v K,.un,.un,.un]=_;unfold xB;refine(kF s1).trans ((tW<|(XT ON).trans rfl).trans<|(kF s2).trans<|(kF s3).trans<|(dW a2 rfl).trans ?_);exact TK he (by rw[se];exact hx)
  .rw[if_neg hg];show xB [.v<|.str t,.v K,.un,.un,.un]=_;unfold xB;refine(kF s1).trans (XR<|(o4<|cd.trans ?_).trans<|v7 ⟨_,rfl⟩);cases hn:qN b
   .simp
   .rw[decide_eq_false λz=>hg ⟨z,hn⟩];rfl
noncomputable def cP:List Nat:=[109,97,105,110]
def fin:Ws->Ws->Oc
 |[],k=>if k.getLast?=aA cP then .ok [] else .N
 |t::L,k=>match oc t k with
  |.ok x=>fin L<|k++[x]
  |c=>c
noncomputable def Oc.s:Oc->List Nat
 |.T=>[84,111,111,77,117,99,104]
 |.L=>[78,111,76,105,110,101]
 |.N=>[78,111,78,97,109,101]
 |.ok _=>[114,101,97,100]
def gH(L:Ws):Oc:=if 12<L.length then .T else fin L []
noncomputable abbrev Pr:=List<|List Nat×D
def eE(Q:Pr):List D:=Q.map λq=>.tup [.str q.1,q.2]
theorem LR:∀(Q:Pr) (y:Sl),aL y->vQ (y9 0) mS (zG aC (zD 0)<|mC<|.int 0) (eE Q) [y]=aA ((Q.map eh).map D.str)
 |[],y,_=>rfl
 |q::Q,y,hy=>by
  show(y9 0 (.tup [.str q.1,q.2]) [y]).bind _=_;rw[yT (x:=y) rfl hy,aa];show(aA true).bind _=_;rw[aa,if_pos rfl];rw[zT (x:=.tup [.str q.1,q.2]) (y:=.int 0) (d:=.str q.1) rfl zH<|vI _ _,aa];have ih:=LR Q (.v<|.tup [.str q.1,q.2]) trivial;show(vQ (y9 0) mS (zG aC (zD 0)<|mC<|.int 0) (eE Q) [.v<|.tup [.str q.1,q.2]]).map _=_;rw[ih];rfl
def aR:ML:=(zC (zD 3)<|zC (xI<|vY [] 1 (l7 2) (y9 0)<|zG aC (zD 0)<|mC<|.int 0) zN)
def Kb{t:List Nat}{a b:D}{Q:Pr}(hQ:Q.length<=100):aR [.v a,.v b,.z<|eE Q,.v<|.str t]=aA [.str t,.lst<|(Q.map eh).map D.str]:=by
 refine zE rfl<|zE ?_ zO;have q:vY [] 1 (l7 2) (y9 0) (zG aC (zD 0)<|mC<|.int 0) [.v a,.v b,.z<|eE Q,.v<|.str t]=aA ((Q.map eh).map D.str):=by
  show(if (eE Q).length<ag then vQ (y9 0) mS (zG aC (zD 0)<|mC<|.int 0) (eE Q) [.un] else aB)=_;rw[if_pos<|bj (show(eE Q).length<=100 by unfold eE;rw[af];exact hQ)<|by decide];exact LR Q .un trivial
 unfold xI;rw[q];rfl
def gR:MS:=(sX<|Q3 2<|zW 2 w8 aR)
section
variable{a b:D}{Q:Pr}{t:List Nat}{k:Ws}
def PQ(hk:k=Q.map eh)(hQ:Q.length<=100){x:List Nat}{d:D}{as:List Sl}(h:w8 (Rd t k)=aA (.v<|.tup [.str x,d],as)):gR [.v a,.v b,.o<|eE Q,.v<|.str t]=aA (.nx [.v a,.v b,.o<|eE<|Q++[(x,d)],.v<|.str t]):=by
 subst hk;unfold gR;refine ZA (d:=.aG) ?_;have q:zW 2 w8 aR [.v a,.v b,.z<|eE Q,.v<|.str t]=aA (.tup [.str x,d]):=yG (p:=.v _) (Kb hQ) rfl ⟨as,h⟩;have hl:(eE Q).length<ag:=bj (show(eE Q).length<=100 by unfold eE;rw[af];exact hQ) (by decide);show((zW 2 w8 aR [.v a,.v b,.z<|eE Q,.v<|.str t]).bind λd'=>(if (eE Q).length<ag then aA (D.aG,[Sl.v a,Sl.v b,Sl.o<|eE Q++[d'],Sl.v<|.str t]) else aB))=_;rw[q,aa,if_pos hl];simp[eE]
def Kw(M:List Sl->Option Str)(hk:k=Q.map eh)(hQ:Q.length<=100):mV 2 (vZ 2 M aR) [.v a,.v b,.o<|eE Q,.v<|.str t]=M (Rd t k):=by
 subst hk;show vZ 2 M aR [.v a,.v b,.z<|eE Q,.v<|.str t]=_;exact dW (Kb hQ) rfl
end
def Lp(a b:D)(L:Ws)(Q:Pr)(x:Sl):Oc->Prop
 |.L=>uZ (y9 3) gR (mV 2<|vZ 2 wZ aR) (L.map D.str) [.v a,.v b,.o<|eE Q,x]=aA "NoLine"
 |.T=>uZ (y9 3) gR (mV 2<|vZ 2 wN aR) (L.map D.str) [.v a,.v b,.o<|eE Q,x]=aA "TooMuch"
 |.N=>uZ (y9 3) gR (mV 2<|vZ 2 xW aR) (L.map D.str) [.v a,.v b,.o<|eE Q,x]=aA "NoName" \/ ∃Q' x',gM (y9 3) gR (L.map D.str) [.v a,.v b,.o<|eE Q,x]=aA (.nx [.v a,.v b,.o<|eE Q',x'])/\(Q'.map eh).getLast?≠aA cP/\Q'.length=Q.length+L.length/\uZ (y9 3) gR (mV 2<|vZ 2 xW aR) (L.map D.str) [.v a,.v b,.o<|eE Q,x]=aB
 |.ok _=>∃Q' x',gM (y9 3) gR (L.map D.str) [.v a,.v b,.o<|eE Q,x]=aA (.nx [.v a,.v b,.o<|eE Q',x'])/\(Q'.map eh).getLast?=aA cP
theorem Nt(a b:D):∀(L:Ws) (Q:Pr) (x:Sl),aL x->(∀t∈L,Tx 40000 t)->Q.length+L.length<=12->Lp a b L Q x (fin L<|Q.map eh)
 |[],Q,x,hx,_,_=>by
  unfold fin;by_cases h:(Q.map eh).getLast?=aA cP
  .rw[if_pos h];exact⟨Q,x,rfl,h⟩
  .rw[if_neg h];exact .inr ⟨Q,x,rfl,h,rfl,rfl⟩
 |t::L,Q,x,hx,hL,hn=>by
  have E6:Q.length+L.length+1<=12:=by simpa [nk] using hn
  have hQ:Q.length<=100:=by omega
  have u:y9 3 (.str t) [.v a,.v b,.o<|eE Q,x]=aA [.v a,.v b,.o<|eE Q,.v<|.str t]:=yT (x:=x) rfl hx;have R:=Vi (k:=Q.map eh) (hL t<|by simp) (by rw[af];omega);have hit:∀{M:List Sl->Option Str} {n:Str},M (Rd t<|Q.map eh)=aA n->uZ (y9 3) gR (mV 2<|vZ 2 M aR) ((t::L).map D.str) [.v a,.v b,.o<|eE Q,x]=aA n:=λ{M n} h=>p7 u<|(Kw M rfl hQ).trans h
  unfold fin;cases ho:oc t (Q.map eh) with
  |T=>rw[ho] at R;exact hit R
  |L=>rw[ho] at R;exact hit R
  |N=>rw[ho] at R;exact .inl<|hit R
  |ok y=>
   rw[ho] at R;obtain⟨d,as,hf⟩:=R;have g1:=PQ (a:=a) (b:=b) (Q:=Q) (t:=t) rfl hQ hf;have nx:∀{M:List Sl->Option Str} (hM:XF w8 M) {z},uZ (y9 3) gR (mV 2<|vZ 2 M aR) (L.map D.str) [.v a,.v b,.o<|eE<|Q++[(y,d)],.v<|.str t]=z->uZ (y9 3) gR (mV 2<|vZ 2 M aR) ((t::L).map D.str) [.v a,.v b,.o<|eE Q,x]=z:=λ{M} hM {z} h=>by
    have e0:M (Rd t<|Q.map eh)=aB:=by
     cases hm:M (Rd t<|Q.map eh) with
     |none=>rfl
     |some n=>rw[hM _ _ hm] at hf;cases hf
    show uZ _ _ _ (.str t::L.map D.str) _=_;rw[tT u ((Kw M rfl hQ).trans e0) g1];exact h
   have fo:∀{z},gM (y9 3) gR (L.map D.str) [.v a,.v b,.o<|eE<|Q++[(y,d)],.v<|.str t]=z->gM (y9 3) gR ((t::L).map D.str) [.v a,.v b,.o<|eE Q,x]=z:=λ{z} h=>by
    show gM _ _ (.str t::L.map D.str) _=_;rw[cN u g1];exact h
   have ih:=Nt a b L (Q++[(y,d)]) (.v<|.str t) trivial (λq hq=>hL q<|by simp[hq]) (by simp;omega);have en:(Q++[(y,d)]).map eh=Q.map eh++[y]:=by simp
   rw[en] at ih;show Lp a b (t::L) Q x<|fin L<|Q.map eh++[y];cases E9:fin L (Q.map eh++[y]) with
   |T=>rw[E9] at ih;exact nx tX ih
   |L=>rw[E9] at ih;exact nx tZ ih
   |N=>
    rw[E9] at ih;rcases ih with ih|⟨Q',x',i1,i2,i3,i4⟩
    .exact .inl<|nx tY ih
    .exact .inr ⟨Q',x',fo i1,i2,by simp at i3 ⊢;omega,nx tY i4⟩
   |ok z=>
    rw[E9] at ih;obtain⟨Q',x',i1,i2⟩:=ih;exact⟨Q',x',fo i1,i2⟩
structure B9(L:Ws):Prop where
 tx:∀t∈L,Tx 40000 t
 nl:∀t∈L,10∉t
 ne:L≠[]
 Az:L.length<=60
theorem Et{n:Nat}:∀(L:Ws),(∀t∈L,t.length<=n)->(L.map cx).sum<=n*L.length
 |[],_=>by simp
 |t::L,h=>by
  have:=Et L λq hq=>h q (by simp[hq])
  have:=h t (by simp)
  simp only[bg,jc,ac,Nat.mul_add,Nat.mul_one];omega
def B9.len{L:Ws}(h:B9 L):(wS [10] L).length<=3000000:=by
 have h1:=n4 10 L;have h2:=Et L λt ht=>(h.tx t ht).len
 have h3:=h.Az
 have:40000*L.length<=40000*60:=uy _ h3
 omega
def rT(L:Ws):D:=.str<|wS [10] L
def OY(L:Ws):Oc->Prop
 |.L=>kP [.v<|rT L]=aA "NoLine"
 |.T=>j6 [.v<|rT L]=aA "TooMuch"
 |.N=>kO [.v<|rT L]=aA "NoName"
 |.ok _=>∃P as,tS [.v<|rT L]=aA (.f P,as)
def Mk{α:Type}(a b:List α)(x:α){k:Int}(hk:k=-((b.length:Int)+1)):eZ (a++x::b) k=aA x:=by
 have e:Av (a++x::b).length k=aA a.length:=by
  unfold Av;rw[if_neg<|by lia,if_pos (by simp;lia)]
  congr 1
  simp;lia
 unfold eZ;rw[e];simp
def GY{α:Type}(a:List α)(x:α):eZ (a++[x]) (-1)=aA x:=Mk a [] x rfl
def L_{Q:Pr}{x y:Sl}{a b:D}(h:Q≠[]):aD (zG d_ (zG aC (mM (jP 2)<|aF nX<|mC<|.int 1)<|mC<|.int 0)<|mC<|.str [109,97,105,110]) [.v a,.v b,.o<|eE Q,x]=aA (!decide ((Q.map eh).getLast?=aA cP)):=by
 obtain⟨Q0,q,rfl⟩:∃Q0 q,Q=Q0++[q]:=⟨Q.dropLast,Q.getLast h,(qd h).symm⟩;have e1:mM (jP 2) (aF nX<|mC<|.int 1) [.v a,.v b,.o<|eE<|Q0++[q],x]=aA (.tup [.str q.1,q.2]):=by
  have:eE (Q0++[q])=eE Q0++[.tup [.str q.1,q.2]]:=by simp[eE]
  rw[this];exact GY _ _
 refine(kB<|zT (x:=.str q.1) (y:=.str cP) (zT e1 zH<|vI _ _) zH rfl).trans ?_;simp
def TJ{L:Ws}(h:B9 L):OY L (gH L):=by
 have vi:(wS [10] L).length<ag:=bj h.len (by decide);have sp:vU (wS [10] L) [10]=L:=hX h.ne h.nl
 let b:D:=.lst<|L.map D.str
 let r1:En:=[.v<|rT L,.v b,.un,.un]
 have s1:xF 1 (xI<|v5 (zD 0)<|mC<|.str [10]) [.v<|rT L,.un,.un,.un]=aA (.nx r1):=by
  refine jI (d:=b) ?_ rfl;have q:v5 (zD 0) (mC<|.str [10]) [.v<|rT L,.un,.un,.un]=aA (L.map D.str):=by
   show(if ([10]:List Nat).length≠0/\(wS [10] L).length<ag then aA ((vU (wS [10] L) [10]).map D.str) else aB)=_;rw[if_pos ⟨by decide,vi⟩,sp]
  unfold xI;rw[q];rfl
 have c1:aD (zG a_ (aF kA<|zD 1)<|mC<|.int 12) r1=aA (decide (12<L.length)):=by
  refine(oA (i:=(((L.map D.str).length:Nat):Int)) (j:=12) (u8 (x:=b) rfl rfl) zH).trans ?_;rw[af];congr 1;rw[decide_eq_decide];omega
 unfold gH;by_cases sU:12<L.length
 .rw[if_pos sU];show wO [.v<|rT L,.un,.un,.un]=_;unfold wO;exact(kF s1).trans (XR<|(o4<|c1.trans<|by rw[decide_eq_true sU]).trans<|v7 ⟨_,rfl⟩)
 .rw[if_neg sU];have c0:=c1.trans (show _=aA false by rw[decide_eq_false sU]);have s2:aJ (aD<|zG a_ (aF kA<|zD 1)<|mC<|.int 12) jU yP r1=aA (.nx r1):=by rw[cC c0];rfl
  let r2:En:=[.v<|rT L,.v b,.o<|eE [],.un]
  have s3:dD 2 (yB zN) r1=aA (.nx r2):=rfl;have lp:=Nt (rT L) b L [] .un trivial h.tx (by simp;omega);have yf:∀{g:MS} {x:MX} {z},uZ (y9 3) g x (L.map D.str) r2=z->sB (y9 3) (eA<|zD 1) g x r2=z:=λq=>q
  have ff:∀{g:MS} {z},gM (y9 3) g (L.map D.str) r2=z->dQ (y9 3) (eA<|zD 1) g r2=z:=λq=>q
  have Xc:∀{Q':Pr},(Q'.map eh).getLast?=aA cP->Q'≠[]:=λe z=>by rw[z] at e;cases e
  show OY L<|fin L [];cases hf:fin L [] with
  |T=>
   have wm:Lp (rT L) b L [] .un (fin L []):=lp;rw[hf] at wm;show wO [.v<|rT L,.un,.un,.un]=_;unfold wO;exact(kF s1).trans ((tW<|(XT c0).trans rfl).trans<|(kF s2).trans<|(kF s3).trans<|yf wm)
  |L=>
   have wm:Lp (rT L) b L [] .un (fin L []):=lp;rw[hf] at wm;show jC [.v<|rT L,.un,.un,.un]=_;unfold jC;exact(kF s1).trans ((kF s2).trans<|(kF s3).trans<|yf wm)
  |N=>
   have wm:Lp (rT L) b L [] .un (fin L []):=lp;rw[hf] at wm;show jB [.v<|rT L,.un,.un,.un]=_;unfold jB;refine(kF s1).trans ((kF s2).trans<|(kF s3).trans ?_);rcases wm with q|⟨Q',x',q1,q2,q3,q4⟩
   .exact XR<|yf q
   .have hQ:Q'≠[]:=λz=>by
     rw[z] at q3;have q4:L.length=0:=by simpa using q3.symm
     exact h.ne<|ii.mp q4
    refine(tW<|yf q4).trans ((kF<|ff q1).trans<|(o4<|(L_ (y:=.un) hQ).trans ?_).trans<|v7 ⟨_,rfl⟩);rw[decide_eq_false q2];rfl
  |ok z=>
   have wm:Lp (rT L) b L [] .un (fin L []):=lp;rw[hf] at wm;obtain⟨Q',x',q1,q2⟩:=wm;refine⟨eE Q',[.v<|rT L],?_⟩;have e:pH [.v<|rT L,.un,.un,.un]=aA (.rf (eE Q') [.v<|rT L,.v b,.o<|eE Q',x']):=by
    unfold pH;refine(xA s1).trans ((xA s2).trans<|(xA s3).trans<|(xA<|ff q1).trans<|(yS ((L_ (y:=.un)<|Xc q2).trans ?_) rfl));rw[decide_eq_true q2];rfl
   show(pH [.v<|rT L,.un,.un,.un]).bind _=_;rw[e];rfl
def Hi{F:MF}{M:List Sl->Option Str}(h:XF F M){as:List Sl}{p:Rs×List Sl}(e:F as=aA p):M as=aB:=by
 cases hm:M as with
 |none=>rfl
 |some n=>rw[h _ _ hm] at e;cases e
def G9{M:List Sl->Option Str}{n:Str}{ρ:MR}{d:D}{r:En}(e:r[0]?=aA (.v d))(h:M [.v d]=aA n):zu (zC (zD 0) zN) 1 (λds=>M<|ds.map .v) n ρ r=ρ r:=by
 unfold zu;rw[zE (mX e) zO,aa,if_pos ⟨rfl,h⟩]
def X0{M:List Sl->Option Str}{n:Str}{ρ:MR}{d:D}{r:En}(e:r[0]?=aA (.v d))(h:M [.v d]=aB):zu (zC (zD 0) zN) 1 (λds=>M<|ds.map .v) n ρ r=aB:=by
 unfold zu;rw[zE (mX e) zO,aa,if_neg (λz=>by have:=h.symm.trans z.2;cases this)]
def Ts{L:Ws}(h:B9 L):∃as,uL [.v<|rT L]=aA (.v<|.str (gH L).s,as):=by
 have R:=TJ h;have mk:∀{d:D},uD [.v<|rT L,.un,.un,.un]=aA d->∃as,uL [.v<|rT L]=aA (.v d,as):=λ{d} q=>by
  refine⟨[.v<|rT L],?_⟩;show(if List.all [Sl.v<|rT L] N7=true then (uD [.v<|rT L,.un,.un,.un]).map _ else aB)=_;rw[q];rfl
 refine mk ?_;have t0:∀{ρ:MR} {z},ρ [.v<|rT L,.v .aG,.un,.un]=z->F6 (xF 1<|mC .aG) ρ [.v<|rT L,.un,.un,.un]=z:=λq=>q
 have rh:∀d:D,xp 4 1 2 3 d [.v<|rT L,.v .aG,.un,.un]=aA d:=λd=>rfl
 unfold uD;refine t0 ?_;cases hw:gH L with
 |T=>
  rw[hw] at R;exact F9<|(G9 rfl R).trans<|rh _
 |L=>
  rw[hw] at R;exact(BM<|X0 rfl<|RX _ _ R).trans (F9<|(G9 rfl R).trans<|rh _)
 |N=>
  rw[hw] at R;exact(BM<|X0 rfl<|RZ _ _ R).trans ((BM<|X0 rfl<|RY _ _ R).trans<|F9<|(G9 rfl R).trans<|rh _)
 |ok z=>
  rw[hw] at R;obtain⟨P,as,q⟩:=R;refine(BM<|X0 rfl<|Hi UL q).trans ((BM<|X0 rfl<|Hi UJ q).trans<|(BM<|X0 rfl<|Hi UK q).trans ?_);have e:xI (dL 1 tS<|zC (zD 0) zN) [.v<|rT L,.v .aG,.un,.un]=aA (.lst P):=by
   unfold xI dL;rw[zE (x:=rT L) (l:=[]) rfl zO,aa,if_pos (show[rT L].length=1 from rfl)];show Option.map _ ((tS [.v<|rT L]).bind _)=_;rw[q];rfl
  unfold Gu;rw[e];rfl
def aE(l:Nm):D:=.lst<|l.map D.str
def fD(x:Itm):D:=.tup [.bl x.b,.int (x.d:Nat),.int (x.n:Nat),aE x.f]
def u0(st:List Itm):List D:=(st.map fD).reverse
def WB(x:Itm)(st:List Itm):u0 (x::st)=u0 st++[fD x]:=by simp[u0]
theorem GL(x:List Nat):∀(l:Nm) (y:Sl),aL y->vQ (y9 1) (aD<|zG d_ (zD 1)<|zD 0) (zD 1) (l.map D.str) [.v<|.str x,y]=aA ((wo x l).map D.str)
 |[],y,_=>rfl
 |z::l,y,hy=>by
  have ih:=GL x l (.v<|.str z) trivial;show(y9 1 (.str z) [.v<|.str x,y]).bind _=_;rw[yT (x:=y) rfl hy,aa];show((aA<|!decide (z=x)).bind λb=>if b=true then (aA<|D.str z).bind λy'=>(vQ (y9 1) (aD<|zG d_ (zD 1)<|zD 0) (zD 1) (l.map D.str) [.v<|.str x,.v<|.str z]).map (y'::·) else vQ (y9 1) (aD<|zG d_ (zD 1)<|zD 0) (zD 1) (l.map D.str) [.v<|.str x,.v<|.str z])=_;rw[aa,aa,ih];unfold wo;rw[pj];by_cases h:z=x
  .rw[decide_eq_true h,if_neg<|by decide,if_neg<|by simp[h]]
  .rw[decide_eq_false h,if_pos<|by decide,if_pos<|by simp[h]];rfl
def JC(l:Nm)(x:List Nat)(h:l.length<=1000000):∃as,xX [.v<|aE l,.v<|.str x]=aA (.v<|aE<|wo x l,as):=by
 refine qR (r':=[.v<|aE l,.v<|.str x]) ?_;show kZ [.v<|aE l,.v<|.str x]=_;unfold kZ;refine yO ?_;have q:qG [1] 2 (eA<|zD 0) (y9 1) (aD<|zG d_ (zD 1)<|zD 0) (zD 1) [.v<|aE l,.v<|.str x]=aA ((wo x l).map D.str):=by
  show(if (l.map D.str).length<ag then vQ (y9 1) (aD<|zG d_ (zD 1)<|zD 0) (zD 1) (l.map D.str) [.v<|.str x,.un] else aB)=_;rw[if_pos (by rw[af];exact bj h<|by decide)];exact GL x l .un trivial
 unfold xI;rw[q];rfl
def ZG{f g:ME}{r:En}{i j:Int}(e1:f r=aA (.int i))(e2:g r=aA (.int j)):Q2 (zC f<|zC g zN) r=aA (.int<|max i j):=by
 unfold Q2;rw[zE e1<|zE e2 zO];show aA (D.int (if j > i then j else i))=_
 congr 2
 split<;>omega
def Q8:MS:=(yC (aJ (Eo (jP 0)<|yB zN)
 (qE<|mC .aG)
 yP)
 (yC (vE 8<|iS 0)
 (yC (aJ (bF (aD<|zG aQ (zD 7)<|mC<|.str [110])<|jW<|uG<|zG aC (zD 8)<|mC<|.int 0)
 (qE<|mC .aG)
 yP)
 (aJ (aD<|zG aQ (zD 7)<|mC<|.str [110])
 (sX<|oM 5<|zG aC (zG aC (zD 8)<|mC<|.int 3)<|mC<|.int 0)
 (yC (xF 3<|Q2<|zC (zD 3)<|zC (zG xC (zG aC (zD 8)<|mC<|.int 1)<|mC<|.int 1) zN)
 (yC (xF 4<|zG xC (zD 4)<|zG aC (zD 8)<|mC<|.int 2)
 (sX<|oM 6<|zG aC (zD 8)<|mC<|.int 3)))))))
abbrev FT(p:List D)(w sh:D)(d n:Nat)(lb:Nm)(fs:List Nm)(x7 x8:Sl):En:=[.p p,.v w,.v sh,.v<|.int d,.v<|.int n,.o<|lb.map D.str,.o<|fs.map aE,x7,x8,.un,.un]
def lH(c:Nat)(x:Itm)(a:Acc):Acc:=if c=101 then { a with d:=max a.d<|x.d+1,n:=a.n+x.n,fs:=a.fs++[x.f] } else { a with lb:=a.lb++[x.f.headD []] }
section
variable{w sh:D}{c:Nat}{x:Itm}{st:List Itm}{a:Acc}{x7 x8:Sl}
def TV:Q8 (FT (u0 []) w sh a.d a.n a.lb a.fs x7 x8)=aA (.rt .aG<|FT (u0 []) w sh a.d a.n a.lb a.fs x7 x8):=by
 unfold Q8;exact wT rfl<|yO zH
def U8(hc:c=110\/c=101)(hx:x.b=true->x.f≠[])(Zd:a.lb.length<=100)(Zp:a.fs.length<=100)(h8:aL x8):Q8 (FT (u0 (x::st)) w sh a.d a.n a.lb a.fs (.v<|.str [c]) x8) =
  if c=110/\x.b=false then aA<|.rt .aG<|FT (u0 st) w sh a.d a.n a.lb a.fs (.v<|.str [c])<|.v<|fD x
  else aA (.nx<|FT (u0 st) w sh (lH c x a).d (lH c x a).n (lH c x a).lb (lH c x a).fs (.v<|.str [c])<|.v<|fD x):=by
 rw[WB]
 let R:En:=FT (u0 st) w sh a.d a.n a.lb a.fs (.v<|.str [c])<|.v<|fD x
 have c0:Eo (jP 0) (yB zN) (FT (u0 st++[fD x]) w sh a.d a.n a.lb a.fs (.v<|.str [c]) x8)=aA false:=by
  show aA ((u0 st++[fD x]).isEmpty)=_;simp
 have p0:vE 8 (iS 0) (FT (u0 st++[fD x]) w sh a.d a.n a.lb a.fs (.v<|.str [c]) x8)=aA (.nx R):=rG (MM (S:=u0 st) (d:=fD x) rfl)<|yT (x:=x8) rfl h8;have q:aD (zG aQ (zD 7)<|mC<|.str [110]) R=aA (decide (c=110)):=(kB<|zT (x:=.str [c]) (y:=.str [110]) rfl zH rfl).trans (by congr 1;rw[decide_eq_decide];simp);have i8:∀{j:Nat} {d:D},[D.bl x.b,.int (x.d:Nat),.int (x.n:Nat),aE x.f][j]?=aA d->zG aC (zD 8) (mC<|.int j) R=aA d:=λh=>zT (x:=fD x) rfl zH<|qD h
 have c1:bF (aD<|zG aQ (zD 7)<|mC<|.str [110]) (jW<|uG<|zG aC (zD 8)<|mC<|.int 0) R=aA (decide (c=110) && !x.b):=by
  unfold bF;rw[q,aa];cases decide (c=110)
  .rfl
  .rw[if_pos rfl];exact xn<|i8 (j:=0) rfl
 unfold Q8;refine(yS c0<|(xA p0).trans rfl).trans ?_;by_cases h:c=110/\x.b=false
 .rw[if_pos h];exact wT (c1.trans (by rw[h.1,h.2];rfl))<|yO zH
 .rw[if_neg h];rcases hc with rfl|rfl
  .have hb:x.b=true:=by cases EZ:x.b;exact absurd ⟨rfl,EZ⟩ h;rfl
   refine yS (c1.trans (by rw[hb];rfl))<|(o5<|q.trans rfl).trans ?_;obtain⟨y,l,hf⟩:∃y l,x.f=y::l:=by
    cases hf:x.f with
    |nil=>exact absurd hf<|hx hb
    |cons y l=>exact⟨y,l,rfl⟩
   have e3:zG aC (zG aC (zD 8)<|mC<|.int 3) (mC<|.int 0) R=aA (.str<|x.f.headD []):=zT (i8 (j:=3) rfl) zH (by rw[hf];exact vI _ _);refine(ZA<|YO (i:=5) (S:=a.lb.map D.str) rfl e3 (by rw[af];exact bj Zd<|by decide)).trans ?_;unfold lH;rw[if_neg<|by decide];show aA (Fl.nx [_,_,_,_,_,.o<|a.lb.map D.str++[.str<|x.f.headD []],_,_,_,_,_])=aA (Fl.nx [_,_,_,_,_,.o<|(a.lb++[x.f.headD []]).map D.str,_,_,_,_,_]);rw[aw];rfl
  .refine yS (c1.trans rfl)<|(cC<|q.trans rfl).trans ?_;refine yL (.int ((max a.d (x.d+1):Nat):Int)) ((ZG (i:=(a.d:Int)) (j:=((x.d:Nat):Int)+1) rfl<|qU (i8 (j:=1) rfl) zH).trans (by congr 2;omega)) rfl ?_;refine yL (.int ((a.n+x.n:Nat):Int)) ((qU (i:=(a.n:Int)) (j:=((x.n:Nat):Int)) rfl<|zT (x:=fD x) rfl zH<|qD (j:=2) rfl).trans<|by simp) rfl ?_;refine(ZA<|YO (i:=6) (S:=a.fs.map aE) (d:=aE x.f) rfl (zT (x:=fD x) rfl zH<|qD (j:=3) rfl) (by rw[af];exact bj Zp<|by decide)).trans ?_;unfold lH;rw[if_pos rfl];show aA (Fl.nx [_,_,_,_,_,_,.o<|a.fs.map aE++[aE x.f],_,_,_,_])=aA (Fl.nx [_,_,_,_,_,_,.o<|(a.fs++[x.f]).map aE,_,_,_,_]);rw[aw];rfl
end
theorem Ni(w S:D):∀(sh:List Nat) (st:List Itm) (a:Acc) (x7 x8:Sl),aL x7->aL x8->(∀c∈sh,c=110\/c=101)->(∀x∈st,x.b=true->x.f≠[])->a.lb.length+a.fs.length+sh.length<=100 ->
  (∀a' aW,ZC sh st a=aA (a',aW)->∃y7 y8,aL y7/\aL y8/\gM (y9 7) Q8 (sg sh) (FT (u0 st) w S a.d a.n a.lb a.fs x7 x8)=aA (.nx<|FT (u0 aW) w S a'.d a'.n a'.lb a'.fs y7 y8))
  /\ (ZC sh st a=aB->∃l r,gM (y9 7) Q8 (sg sh) (FT (u0 st) w S a.d a.n a.lb a.fs x7 x8)=aA (.rt .aG (.p l::r)))
 |[],st,a,x7,x8,h7,h8,_,_,_=>⟨λa' aW e=>by
   have e':aA (a,st)=aA (a',aW):=e;cases e';exact⟨x7,x8,h7,h8,rfl⟩,λe=>by cases e⟩
 |c::sh,st,a,x7,x8,h7,h8,hc,iN,hl=>by
  have u:∀L,y9 7 (.str [c]) (FT L w S a.d a.n a.lb a.fs x7 x8)=aA (FT L w S a.d a.n a.lb a.fs (.v<|.str [c]) x8):=λL=>yT (x:=x7) rfl h7
  rw[ac] at hl;cases st with
  |nil=>exact⟨λa' aW e=>(by cases e),λ_=>⟨_,_,YG (u _) TV⟩⟩
  |cons x st=>
   have bc:=U8 (w:=w) (sh:=S) (c:=c) (x:=x) (st:=st) (a:=a) (hc c<|by simp) (iN x<|by simp) (by omega) (by omega) h8;have ep:ZC (c::sh) (x::st) a=if c=110/\x.b=false then aB else ZC sh st (lH c x a):=rfl
   by_cases h:c=110/\x.b=false
   .rw[if_pos h] at ep bc;exact⟨λa' aW e=>(by rw[ep] at e;cases e),λ_=>⟨_,_,YG (u _) bc⟩⟩
   .rw[if_neg h] at ep bc;have hn:(lH c x a).lb.length+(lH c x a).fs.length+sh.length<=100:=by
     unfold lH;split
     .show a.lb.length+(a.fs++[x.f]).length+_<=_;rw[ae,gx];omega
     .show(a.lb++[_]).length+a.fs.length+_<=_;rw[ae,gx];omega
    obtain⟨i1,i2⟩:=Ni w S sh st (lH c x a) (.v<|.str [c]) (.v<|fD x) trivial trivial (λq hq=>hc q<|by simp[hq]) (λq hq=>iN q<|by simp[hq]) hn;have g:=cN (l:=sg sh) (u<|u0 (x::st)) bc;refine⟨λa' aW e=>?_,λe=>?_⟩
    .rw[ep] at e;obtain⟨y7,y8,z7,z8,z⟩:=i1 a' aW e;exact⟨y7,y8,z7,z8,g.trans z⟩
    .rw[ep] at e;obtain⟨l,r,z⟩:=i2 e;exact⟨l,r,g.trans z⟩
noncomputable def fV(st:List Itm):Nat:=(st.map λx=>x.f.length+1).sum
def fN(fs:List Nm):Nat:=(fs.map cx).sum
def hV(x:Itm)(st:List Itm):fV (x::st)=x.f.length+1+fV st:=by simp[fV]
def Tq(fs:List Nm)(f:Nm):fN (fs++[f])=fN fs+f.length:=by simp[fN]
theorem MN:∀(sh:List Nat) (st:List Itm) (a a':Acc) (aW:List Itm),(∀c∈sh,c=110\/c=101)->ZC sh st a=aA (a',aW)->fN a'.fs+fV aW<=fN a.fs+fV st/\a'.lb.length=a.lb.length+sh.count 110/\a'.fs.length=a.fs.length+sh.count 101/\∀x∈aW,x∈st
 |[],st,a,a',aW,_,e=>by
  have e':aA (a,st)=aA (a',aW):=e;cases e';simp
 |c::sh,[],a,a',aW,_,e=>by cases e
 |c::sh,x::st,a,a',aW,hc,e=>by
  have ep:ZC (c::sh) (x::st) a=if c=110/\x.b=false then aB else ZC sh st (lH c x a):=rfl
  rw[ep] at e;split at e
  .cases e
  .obtain⟨i1,i2,i3,i4⟩:=MN sh st _ a' aW (λq hq=>hc q<|by simp[hq]) e;rw[hV];rcases hc c (by simp) with rfl|rfl
   .have n1:(lH 110 x a).fs=a.fs:=rfl;have n2:(lH 110 x a).lb=a.lb++[x.f.headD []]:=rfl;rw[n1] at i1 i3;rw[n2,ae,gx] at i2;refine⟨by omega,by rw[i2];simp;omega,by rw[i3];simp,λy hy=>by simp[i4 y hy]⟩
   .have n1:(lH 101 x a).fs=a.fs++[x.f]:=rfl;have n2:(lH 101 x a).lb=a.lb:=rfl;rw[n1,Tq] at i1;rw[n1,ae,gx] at i3;rw[n2] at i2;refine⟨by omega,by rw[i2];simp,by rw[i3];simp;omega,λy hy=>by simp[i4 y hy]⟩
def Eu(x:List Nat)(l:Nm):(wo x l).length<=l.length:=kg _ _
abbrev FU(p:List D)(w sh d n:D)(lb fs:Sl)(x7 x8 x9 zd:Sl):En:=[.p p,.v w,.v sh,.v d,.v n,lb,fs,x7,x8,x9,zd]
section
variable{p:List D}{w S d n:D}{lb fs x7 x8:Sl}
theorem W6:∀(L:List Nm) (acc:Nm) (zd:Sl),aL zd->acc.length+fN L<=100000->∃y,aL y/\gM (y9 10) (xF 9<|zG xC (zD 9)<|zD 10) (L.map aE) (FU p w S d n lb fs x7 x8 (.v<|aE acc) zd)=aA (.nx<|FU p w S d n lb fs x7 x8 (.v<|aE<|acc++L.flatten) y)
 |[],acc,zd,h,_=>⟨zd,h,by simp[gM]⟩
 |f::L,acc,zd,h,hl=>by
  have Iu:acc.length+(f.length+fN L)<=100000:=by simpa [fN] using hl
  obtain⟨y,hy,ih⟩:=W6 L (acc++f) (.v<|aE f) trivial (by rw[ae];omega);refine⟨y,hy,?_⟩;have u:y9 10 (aE f) (FU p w S d n lb fs x7 x8 (.v<|aE acc) zd)=aA (FU p w S d n lb fs x7 x8 (.v<|aE acc)<|.v<|aE f):=yT (x:=zd) rfl h;have e:zG xC (zD 9) (zD 10) (FU p w S d n lb fs x7 x8 (.v<|aE acc)<|.v<|aE f)=aA (aE<|acc++f):=(mO (l:=acc.map D.str) (m:=f.map D.str) rfl rfl (by simp;omega)).trans (by simp[aE]);rw[bg,cN u<|jI e rfl];rw[List.flatten_cons,<-gk];exact ih
end
def FZ:MS:=(yC (aJ (aD<|zG aQ (zD 1)<|mC<|.str [102,110])
 (dD 6<|yB<|zC (zW 2 xX<|zC (mM (jP 6)<|mC<|.int 0)<|zC (mM (jP 5)<|mC<|.int 0) zN) zN)
 yP)
 (yC (aJ (aD<|zG aQ (zD 1)<|mC<|.str [99,97,115,101])
 (dD 6<|yB<|zC (mM (jP 6)<|mC<|.int 0)<|zC (zW 2 xX<|zC (mM (jP 6)<|mC<|.int 1)<|zC (mM (jP 5)<|mC<|.int 1) zN)<|zC (zW 2 xX<|zC (mM (jP 6)<|mC<|.int 2)<|zC (mM (jP 5)<|mC<|.int 2) zN) zN)
 yP)
 (yC (xF 9<|xI<|yB zN)
 (yC (sZ 6 (dQ (y9 10) (l7 6)
 (xF 9<|zG xC (zD 9)<|zD 10)))
 (qE<|vD<|zC (mC<|.bl false)<|zC (zD 3)<|zC (zD 4)<|zC (zD 9) zN)))))
def Mp{i:Nat}{fl:ML}{r r2:En}{l:List D}(e:fl r=aA l)(e2:AO i l r=aA r2):dD i fl r=aA (.nx r2):=by
 unfold dD;rw[e,aa,e2];rfl
def rV{fl:ML}{r:En}{l:List D}(e:fl r=aA l)(h:l.length<=100):yB fl r=aA l:=by
 unfold yB;rw[e,aa,if_pos<|bf h<|by decide]
def YX{p:List D}{w S:D}{d n:Nat}{lb:Nm}{L:List Nm}{x7 x8:Sl}(hl:fN L<=100000):∃r,(yC (xF 9<|xI<|yB zN)
 (yC (sZ 6 (dQ (y9 10) (l7 6)
 (xF 9<|zG xC (zD 9)<|zD 10)))
 (qE<|vD<|zC (mC<|.bl false)<|zC (zD 3)<|zC (zD 4)<|zC (zD 9) zN))) (FT p w S d n lb L x7 x8)=aA (.rt (fD ⟨false,d,n,L.flatten⟩) (.p p::r)):=by
 obtain⟨y,_,e⟩:=W6 (p:=p) (w:=w) (S:=S) (d:=.int d) (n:=.int n) (lb:=.o<|lb.map D.str) (fs:=.z<|L.map aE) (x7:=x7) (x8:=x8) L [] .un trivial (by simpa using hl);refine⟨[.v w,.v S,.v<|.int d,.v<|.int n,.o<|lb.map D.str,.o<|L.map aE,x7,x8,.v<|aE L.flatten,y],?_⟩;refine yL (aE []) rfl rfl ?_;rw[xA (r':=FU p w S (.int d) (.int n) (.o<|lb.map D.str) (.o<|L.map aE) x7 x8 (.v<|aE L.flatten) y) ?_]
 .exact yO (qZ (zE zH<|zE rfl<|zE rfl<|zE rfl zO)<|by simp)
 .show((gM (y9 10) (xF 9<|zG xC (zD 9)<|zD 10) (L.map aE)<|FU p w S (.int d) (.int n) (.o<|lb.map D.str) (.z<|L.map aE) x7 x8 (.v<|aE []) .un).bind<|Nw 6)=_;rw[e];rfl
def To{p:List D}{w sh:List Nat}{S:D}{d n:Nat}{lb:Nm}{fs:List Nm}{x7 x8:Sl}(hw:look yN w=aA sh)(h1:lb.length=sh.count 110)(h2:fs.length=sh.count 69)(hl:fN fs<=100000):fN [Q7 w lb fs]<=fN fs/\∃r,FZ (FT p (.str w) S d n lb fs x7 x8)=aA (.rt (fD ⟨false,d,n,Q7 w lb fs⟩) (.p p::r)):=by
 have q:∀(v:List Nat) (L:List Nm),aD (zG aQ (zD 1)<|mC<|.str v) (FT p (.str w) S d n lb L x7 x8)=aA (decide (w=v)):=λv L=>kB<|zT (x:=.str w) (y:=.str v) rfl zH rfl
 have wi:∀(L:List Nm) (j:Nat) (f:Nm) (x:List Nat),L[j]?=aA f->lb[j]?=aA x->f.length<=100000->zW 2 xX (zC (mM (jP 6)<|mC<|.int j)<|zC (mM (jP 5)<|mC<|.int j) zN) (FT p (.str w) S d n lb L x7 x8)=aA (aE<|wo x f):=λL j f x e1 e2 hf=>by
  refine yG (p:=.v<|aE<|wo x f) (l:=[aE f,.str x]) (zE ?_<|zE ?_ zO) rfl (JC f x<|by omega)
  .show eZ (L.map aE) (j:Int)=_;exact qD (by rw[az,e1];rfl)
  .show eZ (lb.map D.str) (j:Int)=_;exact qD (by rw[az,e2];rfl)
 unfold FZ;by_cases hf:w=fB
 .have hs:sh=[110,69]:=by
                  rw[hf] at hw;have:look yN fB=aA [110,69]:=by decide
                  rw[this] at hw;cases hw;rfl
  subst hs;obtain⟨x,rfl⟩:=ka.mp (show lb.length=1 from h1);obtain⟨f,rfl⟩:=ka.mp (show fs.length=1 from h2);have ec:Q7 w [x] [f]=wo x f:=by unfold Q7;rw[if_pos hf]
  have vk:f.length<=100000:=by simpa [fN] using hl
  have lw:=Eu x f;rw[ec];refine⟨by simpa [fN] using lw,?_⟩;have e1:aJ (aD<|zG aQ (zD 1)<|mC<|.str [102,110]) (dD 6<|yB<|zC (zW 2 xX<|zC (mM (jP 6)<|mC<|.int 0)<|zC (mM (jP 5)<|mC<|.int 0) zN) zN) yP (FT p (.str w) S d n [x] [f] x7 x8)=aA (.nx<|FT p (.str w) S d n [x] [wo x f] x7 x8):=by
   rw[o5<|(q _ _).trans (by rw[hf];rfl)];exact Mp (rV (zE (wi [f] 0 f x rfl rfl vk) zO)<|by simp) rfl
  rw[xA e1,xA (r':=FT p (.str w) S d n [x] [wo x f] x7 x8) (by rw[cC<|(q _ _).trans (by rw[hf];rfl)];rfl)]
  have:=YX (p:=p) (w:=.str w) (S:=S) (d:=d) (n:=n) (lb:=[x]) (L:=[wo x f]) (x7:=x7) (x8:=x8) (by simp[fN];omega)
  simpa using this
 .by_cases hs:w=eQ
  .have yh:sh=[69,110,110,69,110,69]:=by
                            rw[hs] at hw;have:look yN eQ=aA [69,110,110,69,110,69]:=by decide
                            rw[this] at hw;cases hw;rfl
   subst yh;have Bl:lb.length=3:=h1;have Dm:fs.length=3:=h2
   match lb,Bl,fs,Dm with
   |[l,x,y],_,[f,g,h],_=>
    have ec:Q7 w [l,x,y] [f,g,h]=f++wo x g++wo y h:=by unfold Q7;rw[if_neg hf,if_pos hs]
    have vk:f.length+(g.length+h.length)<=100000:=by simpa [fN] using hl
    have l1:=Eu x g;have l2:=Eu y h;rw[ec];refine⟨by simp[fN];omega,?_⟩;have e1:aJ (aD<|zG aQ (zD 1)<|mC<|.str [99,97,115,101]) (dD 6<|yB<|zC (mM (jP 6)<|mC<|.int 0)<|zC (zW 2 xX<|zC (mM (jP 6)<|mC<|.int 1)<|zC (mM (jP 5)<|mC<|.int 1) zN)<|zC (zW 2 xX<|zC (mM (jP 6)<|mC<|.int 2)<|zC (mM (jP 5)<|mC<|.int 2) zN) zN) yP (FT p (.str w) S d n [l,x,y] [f,g,h] x7 x8)=aA (.nx<|FT p (.str w) S d n [l,x,y] [f,wo x g,wo y h] x7 x8):=by
     rw[o5<|(q _ _).trans (by rw[hs];rfl)];exact Mp (rV (zE (x:=aE f) (vI (aE f) [aE g,aE h])<|zE (wi [f,g,h] 1 g x rfl rfl<|by omega)<|zE (wi [f,g,h] 2 h y rfl rfl<|by omega) zO)<|by simp) rfl
    obtain⟨r,hr⟩:=YX (p:=p) (w:=.str w) (S:=S) (d:=d) (n:=n) (lb:=[l,x,y]) (L:=[f,wo x g,wo y h]) (x7:=x7) (x8:=x8) (by simp[fN];omega);exact⟨r,(xA (r':=FT p (.str w) S d n [l,x,y] [f,g,h] x7 x8)<|(cC<|(q _ _).trans<|congrArg aA<|decide_eq_false hf).trans rfl).trans<|(xA e1).trans<|hr.trans<|by simp⟩
  .have ec:Q7 w lb fs=fs.flatten:=by unfold Q7;rw[if_neg hf,if_neg hs]
   rw[ec];refine⟨by simp[fN],?_⟩;obtain⟨r,hr⟩:=YX (p:=p) (w:=.str w) (S:=S) (d:=d) (n:=n) (lb:=lb) (L:=fs) (x7:=x7) (x8:=x8) hl;exact⟨r,(xA (r':=FT p (.str w) S d n lb fs x7 x8)<|(cC<|(q _ _).trans<|congrArg aA<|decide_eq_false hf).trans rfl).trans<|(xA (r':=FT p (.str w) S d n lb fs x7 x8)<|(cC<|(q _ _).trans<|congrArg aA<|decide_eq_false hs).trans rfl).trans hr⟩
def Rc{sh:List Nat}(h:∀c∈sh,c=110\/c=69):(∀c∈low sh,c=110\/c=101)/\(low sh).count 110=sh.count 110/\(low sh).count 101=sh.count 69:=by
 induction sh with
 |nil=>simp[low]
 |cons c sh ih=>
  obtain⟨i1,i2,i3⟩:=ih λq hq=>h q (by simp[hq])
  rcases h c (by simp) with rfl|rfl
  .have e:low (110::sh)=110::low sh:=rfl;rw[e];refine⟨λq hq=>?_,by simp[i2],by simp[i3]⟩;rcases av.mp hq with rfl|hq
   .exact .inl rfl
   .exact i1 q hq
  .have e:low (69::sh)=101::low sh:=rfl;rw[e];refine⟨λq hq=>?_,by simp[i2],by simp[i3]⟩;rcases av.mp hq with rfl|hq
   .exact .inr rfl
   .exact i1 q hq
def AD(w sh:List Nat)(st:List Itm):Option (List Itm):=(ZC (low sh) st ⟨0,1,[],[]⟩).bind λp=>if p.1.d > 30 then aB else aA (⟨false,p.1.d,p.1.n,Q7 w p.1.lb p.1.fs⟩::p.2)
def UA{w sh:List Nat}(hw:look yN w=aA sh){st:List Itm}(iN:∀x∈st,x.b=true->x.f≠[])(ht:fV st<=90000):(∀s,AD w sh st=aA s->∃x aW,s=x::aW/\x.b=false/\fV s<=fV st+1/\(∀y∈aW,y∈st)/\∃as,jY [.p<|u0 st,.v<|.str w,.v<|.str<|low sh]=aA (.v<|fD x,as)/\as[0]?=aA (.p<|u0 aW))
  /\ (AD w sh st=aB->∃l as,jY [.p<|u0 st,.v<|.str w,.v<|.str<|low sh]=aA (.v .aG,as)/\as[0]?=aA (.p l)):=by
 obtain⟨k1,k2,k3⟩:=Rc<|ZH hw;have C9:(low sh).length<=10:=by simpa [low] using Lw _ (oO hw)
 obtain⟨i1,i2⟩:=Ni (.str w) (.str<|low sh) (low sh) st ⟨0,1,[],[]⟩ .un .un trivial trivial k1 iN (by simp;omega)
 let R0:En:=FT (u0 st) (.str w) (.str<|low sh) 0 1 [] [] .un .un
 have fi:∀{z},gM (y9 7) Q8 (sg<|low sh) R0=z->dQ (y9 7) (iX<|zD 2) Q8 R0=z:=λh=>h
 have sC:∀{z},(yC (dQ (y9 7) (iX<|zD 2) Q8)<|yC (aJ (aD<|zG a_ (zD 3)<|mC<|.int 30) (qE<|mC .aG) yP) FZ) R0=z->vG [.p<|u0 st,.v<|.str w,.v<|.str<|low sh,.un,.un,.un,.un,.un,.un,.un,.un]=z:=λhz=>hz
 have mk:∀{d:D} {a:Sl} {r:En},vG [.p<|u0 st,.v<|.str w,.v<|.str<|low sh,.un,.un,.un,.un,.un,.un,.un,.un]=aA (.rt d (a::r))->∃as,jY [.p<|u0 st,.v<|.str w,.v<|.str<|low sh]=aA (.v d,as)/\as[0]?=aA a:=λ{d a r} h=>⟨_,Gw (n:=3) (N:=11) (s:=vG) (as:=[.p<|u0 st,.v<|.str w,.v<|.str<|low sh]) h,rfl⟩
 have Oy:∀(L:List D) (d n:Nat) (lb:Nm) (fs:List Nm) (y7 y8:Sl),aD (zG a_ (zD 3)<|mC<|.int 30) (FT L (.str w) (.str<|low sh) d n lb fs y7 y8)=aA (decide (30<d)):=λL d n lb fs y7 y8=>(oA (i:=(d:Int)) (j:=30) rfl zH).trans (by congr 1;rw[decide_eq_decide];omega)
 cases ep:ZC (low sh) st ⟨0,1,[],[]⟩ with
 |none=>
  have eb:AD w sh st=aB:=by unfold AD;rw[ep];rfl
  rw[eb];refine⟨λs e=>(by cases e),λ_=>?_⟩;obtain⟨l,r,z⟩:=i2 ep;obtain⟨as,h1,h2⟩:=mk<|sC<|JL<|fi z;exact⟨l,as,h1,h2⟩
 |some p=>
  obtain⟨a,s2⟩:=p;have eb:AD w sh st=if a.d > 30 then aB else aA (⟨false,a.d,a.n,Q7 w a.lb a.fs⟩::s2):=by unfold AD;rw[ep];rfl
  obtain⟨t1,t2,t3,t4⟩:=MN _ _ _ _ _ k1 ep;have ġ:fN a.fs+fV s2<=fV st:=by simpa [fN] using t1
  obtain⟨y7,y8,_,_,z⟩:=i1 a s2 ep;by_cases Fd:a.d > 30
  .rw[eb,if_pos Fd];refine⟨λs e=>(by cases e),λ_=>?_⟩;obtain⟨as,h1,h2⟩:=mk<|sC<|(xA<|fi z).trans<|wT ((Oy _ _ _ _ _ _ _).trans<|by rw[decide_eq_true<|by omega])<|yO zH;exact⟨_,as,h1,h2⟩
  .rw[eb,if_neg Fd];refine⟨λs e=>?_,λe=>(by cases e)⟩;cases e;obtain⟨c1,r,c2⟩:=To (p:=u0 s2) (S:=.str<|low sh) (d:=a.d) (n:=a.n) (x7:=y7) (x8:=y8) hw (by rw[t2,k2];simp) (by rw[t3,k3];simp) (show fN a.fs<=100000 by omega);have OP:(Q7 w a.lb a.fs).length<=fN a.fs:=by simpa [fN] using c1
   refine⟨_,_,rfl,rfl,by rw[hV];show(Q7 w a.lb a.fs).length+1+fV s2<=_;omega,t4,?_⟩;exact mk<|sC<|(xA<|fi z).trans<|yS ((Oy _ _ _ _ _ _ _).trans<|by rw[decide_eq_false<|by omega]) c2
def U4{w:List Nat}(h:Wd w):∃as,wJ [.v<|.str w]=aA (.v<|.bl<|qN w,as):=by
 cases hl:look yN w with
 |none=>exact Nu h hl
 |some sh=>
  have hn:qN w=false:=by
   cases hn:qN w with
   |false=>rfl
   |true=>rw[rW hn] at hl;cases hl
  rw[hn];have es:iZ w=.str (low sh):=by unfold iZ;rw[hl]
  refine qR (r':=[.v<|.str w]) ?_;show k6 [.v<|.str w]=_;unfold k6;have h3:aD (zG WP (zW 1 jG<|zC (zD 0) zN)<|mC .aG) [.v<|.str w]=aA true:=kB (b:=true)<|zT (x:=.str<|low sh) (y:=.aG) (yG (p:=.v<|.str<|low sh) (zE rfl zO) rfl<|es ▸ Y0 w) zH rfl;refine wT ?_<|yO zH;have h1:aD (zG a_ (aF kA<|zD 0)<|mC<|.int 8) [.v<|.str w]=aA (decide ((8:Int)<w.length)):=oA (Em rfl h.len) zH;have h2:aD (zG aQ (zD 0)<|mC<|.str [100,101,102]) [.v<|.str w]=aA (decide (w=[100,101,102])):=kB<|zT (x:=.str w) (y:=.str [100,101,102]) rfl zH rfl;cases b1:decide ((8:Int)<w.length) with
  |true=>exact AS (h1.trans<|by rw[b1])
  |false=>
   refine AR (h1.trans<|by rw[b1]) ?_;cases b2:decide (w=[100,101,102]) with
   |true=>exact AS (h2.trans<|by rw[b2])
   |false=>exact AR (h2.trans<|by rw[b2]) h3
def AL:MS:=(aJ (aD<|zG WP (zD 3)<|mC .aG)
 (vE 4<|qS 3 jY 1<|zP<|zC (zD 2)<|zC (zD 3) zN)
 (aJ (uG<|zW 1 wJ<|zC (zD 2) zN)
 (xF 4<|vD<|zC (mC<|.bl true)<|zC (mC<|.int 0)<|zC (mC<|.int 1)<|zC (xI<|yB<|zC (zD 2) zN) zN)
 (aJ (uG<|zW 1 jS<|zC (zD 2) zN)
 (xF 4<|vD<|zC (mC<|.bl false)<|zC (mC<|.int 0)<|zC (mC<|.int 1)<|zC (xI<|yB zN) zN)
 yP)))
def ZY:MS:=(yC (xF 3<|zW 1 jG<|zC (zD 2) zN)
 (yC (xF 4<|mC .aG)
 (yC AL
 (yC (aJ (aD<|zG iQ (zD 4)<|mC .aG)
 (qE<|mC .aG)
 yP)
 (sX<|oM 1<|zD 4)))))
def Sx{L:D}{S:List D}{w:List Nat}{y3:Sl}{d:D}(h:S.length<=100000):sX (oM 1<|zD 4) [.v L,.o S,.v<|.str w,y3,.v d]=aA (.nx [.v L,.o<|S++[d],.v<|.str w,y3,.v d]):=
 ZA (YO (S:=S) (d:=d) rfl rfl<|bj h<|by decide)
def Vf{L:D}{S:List D}{w:List Nat}(hw:Wd w)(hl:look yN w=aB):AL [.v L,.o S,.v<|.str w,.v .aG,.v .aG]=aA (.nx [.v L,.o S,.v<|.str w,.v .aG,.v (if qN w=true then fD ⟨true,0,1,[w]⟩ else if WO w=true then fD ⟨false,0,1,[]⟩ else .aG)]):=by
 let r:En:=[.v L,.o S,.v<|.str w,.v .aG,.v .aG]
 have c1:uG (zW 1 wJ<|zC (zD 2) zN) r=aA (qN w):=pA<|yG (p:=.v<|.bl _) (zE rfl zO) rfl<|Nu hw hl;have c2:uG (zW 1 jS<|zC (zD 2) zN) r=aA (WO w):=pA<|yG (p:=.v<|.bl _) (zE rfl zO) rfl<|SO hw;unfold AL;rw[cC (show aD (zG WP (zD 3)<|mC .aG) r=aA false from rfl)];cases hn:qN w with
 |true=>rw[o5<|c1.trans<|by rw[hn],if_pos rfl];exact jI (qZ (zE zH<|zE zH<|zE zH<|zE (wH (l:=[.str w]) (zE rfl zO)<|by simp) zO)<|by simp) rfl
 |false=>
  rw[cC<|c1.trans<|by rw[hn],if_neg ah];cases hm:WO w with
  |true=>rw[o5<|c2.trans<|by rw[hm],if_pos rfl];exact jI (qZ (zE zH<|zE zH<|zE zH<|zE (wH (l:=[]) zO<|by simp) zO)<|by simp) rfl
  |false=>rw[cC<|c2.trans<|by rw[hm],if_neg ah];rfl
def WC{L:D}{S S':List D}{w sh:List Nat}{d:D}{as:List Sl}(q:jY [.p S,.v<|.str w,.v<|.str sh]=aA (.v d,as))(ha:as[0]?=aA (.p S')):AL [.v L,.o S,.v<|.str w,.v<|.str sh,.v .aG]=aA (.nx [.v L,.o S',.v<|.str w,.v<|.str sh,.v d]):=by
 have z:(zP<|zC (zD 2)<|zC (zD 3) zN) [.v L,.o S,.v<|.str w,.v<|.str sh,.v .aG]=aA ([],[.str w,.str sh]):=rfl;have c:qS 3 jY 1 (zP<|zC (zD 2)<|zC (zD 3) zN) [.v L,.o S,.v<|.str w,.v<|.str sh,.v .aG]=aA (d,[.v L,.o S',.v<|.str w,.v<|.str sh,.v .aG]):=Nd (L:=S) (L':=S') (es:=[.str w,.str sh]) (as:=as) rfl z rfl q ha;unfold AL;rw[o5 (show aD (zG WP (zD 3)<|mC .aG) [.v L,.o S,.v<|.str w,.v<|.str sh,.v .aG]=aA true from rfl)];exact rG c rfl
theorem G8:∀st:List Itm,st.length<=fV st
 |[]=>ao _
 |x::st=>by rw[hV,ac];have:=G8 st;omega
def Iv(st:List Itm):Prop:=∀x∈st,x.b=true->x.f≠[]
def QP{L:D}{st:List Itm}{w:List Nat}{x3 x4:Sl}(hw:Wd w)(h3:aL x3)(h4:aL x4)(hi:Iv st)(hl:fV st<=90000):(∀aW,YN w st=aA aW->Iv aW/\fV aW<=fV st+2/\∃y3 y4,aL y3/\aL y4/\ZY [.v L,.o<|u0 st,.v<|.str w,x3,x4]=aA (.nx [.v L,.o<|u0 aW,.v<|.str w,y3,y4]))
  /\ (YN w st=aB->∃r,ZY [.v L,.o<|u0 st,.v<|.str w,x3,x4]=aA (.rt .aG r)):=by
 have pl:∀s:List Itm,(u0 s).length=s.length:=λs=>by simp[u0]
 have s3:∀{h:MS} {z},h [.v L,.o<|u0 st,.v<|.str w,.v<|iZ w,.v .aG]=z->yC (xF 3<|zW 1 jG<|zC (zD 2) zN) (yC (xF 4<|mC .aG) h) [.v L,.o<|u0 st,.v<|.str w,x3,x4]=z:=λhz=>
  yL _ (yG (p:=.v<|iZ w) (zE rfl zO) rfl<|Y0 w) (yT (x:=x3) rfl h3) (yL .aG zH (yT (x:=x4) rfl h4) hz)
 have N6:∀(S:List D) (y d:D),aD (zG iQ (zD 4)<|mC .aG) [.v L,.o S,.v<|.str w,.v y,.v d]=aA (match d with | .aG=>true|_=>false):=λS y d=>by cases d<;>rfl
 have go:∀(x:Itm) (y:D) (s:List Itm),s.length<=100000->AL [.v L,.o<|u0 st,.v<|.str w,.v<|iZ w,.v .aG]=aA (.nx [.v L,.o<|u0 s,.v<|.str w,.v y,.v<|fD x])->ZY [.v L,.o<|u0 st,.v<|.str w,x3,x4]=aA (.nx [.v L,.o<|u0 (x::s),.v<|.str w,.v y,.v<|fD x]):=λx y s hs hp=>by
  unfold ZY;rw[WB];exact s3<|(xA hp).trans<|yS (N6 _ _ _)<|Sx (by rw[pl];exact hs)
 have no:∀(y:D) (S:List D),AL [.v L,.o<|u0 st,.v<|.str w,.v<|iZ w,.v .aG]=aA (.nx [.v L,.o S,.v<|.str w,.v y,.v .aG])->∃r,ZY [.v L,.o<|u0 st,.v<|.str w,x3,x4]=aA (.rt .aG r):=λy S hp=>by
  refine⟨[.v L,.o S,.v<|.str w,.v y,.v .aG],?_⟩;unfold ZY;exact s3<|(xA hp).trans<|wT (N6 S y .aG)<|yO zH
 have tl:=G8 st;cases hk:look yN w with
 |none=>
  have es:iZ w=.aG:=by unfold iZ;rw[hk]
  rw[es] at go no;have eb:YN w st=if qN w=true then aA (⟨true,0,1,[w]⟩::st) else if WO w=true then aA (⟨false,0,1,[]⟩::st) else aB:=by unfold YN;rw[hk]
  have pn:=Vf (L:=L) (S:=u0 st) hw hk;cases hn:qN w with
  |true=>
   rw[hn,if_pos rfl] at eb pn;rw[eb];refine⟨λaW e=>?_,λe=>(by cases e)⟩;cases e;refine⟨λx hx hb=>?_,by rw[hV];show 1+1+_<=_;omega,.v _,.v _,trivial,trivial,go _ _ _ (by omega) pn⟩;rcases av.mp hx with rfl|hx
   .simp
   .exact hi x hx hb
  |false=>
   rw[hn,if_neg ah] at eb pn;cases hm:WO w with
   |true=>
    rw[hm,if_pos rfl] at eb pn;rw[eb];refine⟨λaW e=>?_,λe=>(by cases e)⟩;cases e;refine⟨λx hx hb=>?_,by rw[hV];show 0+1+_<=_;omega,.v _,.v _,trivial,trivial,go _ _ _ (by omega) pn⟩;rcases av.mp hx with rfl|hx
    .cases hb
    .exact hi x hx hb
   |false=>
    rw[hm,if_neg ah] at eb pn;rw[eb];exact⟨λaW e=>(by cases e),λ_=>no .aG (u0 st) pn⟩
 |some sh=>
  have es:iZ w=.str (low sh):=by unfold iZ;rw[hk]
  rw[es] at go no;have eb:YN w st=AD w sh st:=by unfold YN AD;rw[hk]
  obtain⟨t1,t2⟩:=UA hk hi hl;rw[eb];refine⟨λaW e=>?_,λe=>?_⟩
  .obtain⟨x,s2,rfl,hb,ht,hm,as,q1,q2⟩:=t1 _ e;have l2:=G8 (x::s2);rw[ac] at l2;refine⟨λy hy Ij=>?_,by omega,.v _,.v _,trivial,trivial,go _ _ _ (by omega)<|WC q1 q2⟩;rcases av.mp hy with rfl|hy
   .rw[hb] at Ij;cases Ij
   .exact hi y (hm y hy) Ij
  .obtain⟨l,as,q1,q2⟩:=t2 e;exact no _ l<|WC q1 q2
theorem ZK(L:D):∀(ws:Ws) (st:List Itm) (x2 x3 x4:Sl),aL x2->aL x3->aL x4->(∀w∈ws,Wd w)->Iv st->fV st+2*ws.length<=90000 ->
  (∀aW,eW ws st=aA aW->∃y2 y3 y4,gM (y9 2) ZY (ws.map D.str) [.v L,.o<|u0 st,x2,x3,x4]=aA (.nx [.v L,.o<|u0 aW,y2,y3,y4]))
  /\ (eW ws st=aB->∃r,gM (y9 2) ZY (ws.map D.str) [.v L,.o<|u0 st,x2,x3,x4]=aA (.rt .aG r))
 |[],st,x2,x3,x4,_,_,_,_,_,_=>⟨λaW e=>by
   have e':aA st=aA aW:=e;cases e';exact⟨x2,x3,x4,rfl⟩,λe=>by cases e⟩
 |w::ws,st,x2,x3,x4,h2,h3,h4,hw,hi,hl=>by
  have Iu:fV st+2*ws.length+2<=90000:=by rw[ac] at hl;omega
  have u:y9 2 (.str w) [.v L,.o<|u0 st,x2,x3,x4]=aA [.v L,.o<|u0 st,.v<|.str w,x3,x4]:=yT (x:=x2) rfl h2;obtain⟨b1,b2⟩:=QP (L:=L) (st:=st) (hw w<|by simp) h3 h4 hi (by omega);have eb:eW (w::ws) st=(YN w st).bind (eW ws):=rfl;rw[bg,eb];cases e1:YN w st with
  |none=>
   obtain⟨r,hr⟩:=b2 e1;exact⟨λaW e=>(by cases e),λ_=>⟨r,YG u hr⟩⟩
  |some s1=>
   obtain⟨i1,i2,y3,y4,z3,z4,g⟩:=b1 s1 e1;obtain⟨j1,j2⟩:=ZK L ws s1 (.v<|.str w) y3 y4 trivial z3 z4 (λq hq=>hw q<|by simp[hq]) i1 (by omega);rw[cN u g];exact⟨j1,j2⟩
def lL(W:Ws):D:=match eW W.reverse [] with
 |some [x]=>.lst [fD x]
 |_=>.aG
def U0{W:Ws}(hw:∀w∈W,Wd w)(hl:W.length<=40001):∃as,jD [.v<|.lst<|W.map D.str]=aA (.v<|lL W,as):=by
 obtain⟨j1,j2⟩:=ZK (.lst<|W.map D.str) W.reverse [] .un .un .un trivial trivial trivial (λw h=>hw w<|by simpa using h) (λx h=>by cases h) (by simp[fV];omega);have mk:∀{d:D} {r:En},kL [.v<|.lst<|W.map D.str,.un,.un,.un,.un]=aA (.rt d r)->∃as,jD [.v<|.lst<|W.map D.str]=aA (.v d,as):=λh=>qR h
 have st:∀{h:MS} {z},yC (dQ (y9 2) (Co<|zD 0) ZY) h [.v<|.lst<|W.map D.str,.o<|u0 [],.un,.un,.un]=z->yC (dD 1<|yB zN) (yC (dQ (y9 2) (Co<|zD 0) ZY) h) [.v<|.lst<|W.map D.str,.un,.un,.un,.un]=z:=λh=>h
 have fo:∀{z},gM (y9 2) ZY (W.reverse.map D.str) [.v<|.lst<|W.map D.str,.o<|u0 [],.un,.un,.un]=z->dQ (y9 2) (Co<|zD 0) ZY [.v<|.lst<|W.map D.str,.o<|u0 [],.un,.un,.un]=z:=λh=>by
  rw[List.map_reverse] at h;exact h
 unfold lL;cases e:eW W.reverse [] with
 |none=>
  obtain⟨r,hr⟩:=j2 e;exact mk (by unfold kL;exact st<|JL<|fo hr)
 |some s=>
  obtain⟨y2,y3,y4,hr⟩:=j1 s e;have fin:∀{d:D},(zG aC (xI<|yB<|zC (mC .aG)<|zC (xI<|Dz (jP 1) (xL<|aF nX<|mC<|.int 1) wG) zN)<|aF Q5<|zG aQ (WR<|jP 1)<|mC<|.int 1) [.v<|.lst<|W.map D.str,.o<|u0 s,y2,y3,y4]=aA d->∃as,jD [.v<|.lst<|W.map D.str]=aA (.v d,as):=λh=>mk (by unfold kL;exact st<|(xA<|fo hr).trans<|yO h)
  have l1:xI (yB<|zC (mC .aG)<|zC (xI<|Dz (jP 1) (xL<|aF nX<|mC<|.int 1) wG) zN) [.v<|.lst<|W.map D.str,.o<|u0 s,y2,y3,y4]=aA (.lst [.aG,.lst<|dS (u0 s) (aA<|-1) aB]):=wH (zE zH<|zE rfl zO) (by simp);have l2:aF Q5 (zG aQ (WR<|jP 1)<|mC<|.int 1) [.v<|.lst<|W.map D.str,.o<|u0 s,y2,y3,y4]=aA (.int (if decide (((u0 s).length:Int)=1) then 1 else 0)):=u8 (zT (x:=.int ((u0 s).length:Nat)) (y:=.int 1) rfl zH rfl) rfl;have pl:(u0 s).length=s.length:=by simp[u0]
  match s with
  |[x]=>
   refine fin<|zT l1 l2 ?_;show eZ [D.aG,.lst<|dS (u0 [x]) (aA<|-1) aB] 1=_;rfl
  |[]=>exact fin<|zT l1 l2 rfl
  |x::y::s'=>
   refine fin<|zT l1 l2 ?_;have e0:decide (((u0 (x::y::s')).length:Int)=1)=false:=by rw[decide_eq_false];rw[pl];simp only[ac];omega
   rw[e0];exact vI _ _
def oW{α:Type}(s:List α)(k:Nat):dS s (aA (k:Int)) aB=s.drop k:=by
 unfold dS;rw[HT.Cv,HT.EH];by_cases h:k<=s.length
 .rw[Nat.min_eq_left h,td (by rw[cw];omega)]
 .have e1:s.drop (min k s.length)=[]:=ke (by omega);have e2:s.drop k=[]:=ke (by omega);rw[e1,e2];simp
def mE{fl:ML}{r:En}{l:List D}(e:fl r=aA l):xI fl r=aA (.lst l):=by unfold xI;rw[e];rfl
theorem Mh(l:List D):∀m:Nm,zq l (m.map D.str)=true
 |[]=>rfl
 |s::m=>by
  have:=Mh l m
  show(B7 l (.str s) && zq l (m.map D.str))=true;rw[this];rfl
theorem LQ{k W:Ws}{a b c:List Nat}{r:Ws}(hW:W=a::b::c::r)(hk:k.length<=50):∀(l:Nm) (y:Sl),aL y->vQ (y9 2) (aD<|zG (inD true) (zD 2)<|zG xC (zD 0)<|xI<|yB<|zC (zG aC (zD 1)<|mC<|.int 1) zN) (zD 2) (l.map D.str) [.v<|aE k,.v<|aE W,y]=aA ((l.filter λz=>decide (z∉k++[b])).map D.str)
 |[],y,_=>rfl
 |z::l,y,hy=>by
  have ih:=LQ hW hk l (.v<|.str z) trivial;have c1:aD (zG (inD true) (zD 2)<|zG xC (zD 0)<|xI<|yB<|zC (zG aC (zD 1)<|mC<|.int 1) zN) [.v<|aE k,.v<|aE W,.v<|.str z]=aA (decide (z∉k++[b])):=by
   refine kB<|zT (x:=.str z) (y:=aE<|k++[b]) rfl ?_ XB;refine(mO (l:=k.map D.str) (m:=[.str b]) rfl (wH (zE (x:=.str b) (zT (x:=aE W) rfl zH<|qD (j:=1) (by rw[hW];rfl)) zO)<|by simp) (by simp;omega)).trans (by simp[aE])
  show(y9 2 (.str z) [.v<|aE k,.v<|aE W,y]).bind _=_;rw[yT (x:=y) rfl hy,aa];show((aD (zG (inD true) (zD 2)<|zG xC (zD 0)<|xI<|yB<|zC (zG aC (zD 1)<|mC<|.int 1) zN) [.v<|aE k,.v<|aE W,.v<|.str z]).bind _)=_;rw[c1,aa,pj];by_cases h:z∉k++[b]
  .rw[decide_eq_true h,if_pos rfl,if_pos rfl];show((aA<|D.str z).bind λy'=>(vQ (y9 2) (aD<|zG (inD true) (zD 2)<|zG xC (zD 0)<|xI<|yB<|zC (zG aC (zD 1)<|mC<|.int 1) zN) (zD 2) (l.map D.str) [.v<|aE k,.v<|aE W,.v<|.str z]).map (y'::·))=_;rw[ih];rfl
  .rw[decide_eq_false h,if_neg ah,if_neg ah];exact ih
def tQ:MS:=(yC (xF 3<|xI<|v5 (zD 2)<|mC<|.str [32])
 (yC (aJ (cU (aD<|zG f_ (aF kA<|zD 3)<|mC<|.int 3)<|cU (aD<|zG d_ (zG aC (zD 3)<|mC<|.int 0)<|mC<|.str [100,101,102])<|jW<|uG<|zW 1 wJ<|zC (zG aC (zD 3)<|mC<|.int 1) zN)
 (qE<|mC<|.str [78,111,76,105,110,101])
 yP)
 (yC (xF 4<|zW 1 jD<|zC (aT (zD 3) (xL<|mC<|.int 2) wG) zN)
 (yC (aJ (aD<|zG iQ (zD 4)<|mC .aG)
 (qE<|mC<|.str [78,111,76,105,110,101])
 yP)
 (yC (aJ (aD<|zG a_ (zG aC (zG aC (zD 4)<|mC<|.int 0)<|mC<|.int 2)<|mC<|.int 80)
 (qE<|mC<|.str [84,111,111,77,117,99,104])
 yP)
 (yC (xF 5<|xI<|A' 1<|qG [1,3] 3 (eA<|zG aC (zG aC (zD 4)<|mC<|.int 0)<|mC<|.int 3) (y9 2) (aD<|zG (inD true) (zD 2)<|zG xC (zD 0)<|xI<|yB<|zC (zG aC (zD 1)<|mC<|.int 1) zN)<|zD 2)
 (yC (aJ (cU (Bx false (zG aC (zD 3)<|mC<|.int 1)<|jP 1)<|aD<|zG d_ (zD 5)<|xI<|yB zN)
 (qE<|mC<|.str [78,111,78,97,109,101])
 yP)
 (sX<|oM 1<|zG aC (zD 3)<|mC<|.int 1))))))))
def Qv(W:Ws):(lL W=.aG/\jg W=aB)\/∃x:Itm,lL W=.lst [fD x]/\jg W=aA (x.n,x.f):=by
 unfold lL jg;cases eW W.reverse [] with
 |none=>exact .inl ⟨rfl,rfl⟩
 |some s=>
  match s with
  |[]=>exact .inl ⟨rfl,rfl⟩
  |[x]=>exact .inr ⟨x,rfl,rfl⟩
  |x::y::s=>exact .inl ⟨rfl,rfl⟩
def BD(A:D)(t:List Nat)(k:Ws)(x3 x4 x5:Sl):Oc->Prop
 |.ok x=>∃y3 y4 y5,aL y3/\aL y4/\aL y5/\tQ [.v A,.o<|k.map D.str,.v<|.str t,x3,x4,x5]=aA (.nx [.v A,.o<|(k++[x]).map D.str,.v<|.str t,y3,y4,y5])
 |c=>∃r,tQ [.v A,.o<|k.map D.str,.v<|.str t,x3,x4,x5]=aA (.rt (.str c.s) r)
def Kr{t:List Nat}(h:Tx 40000 t){W:Ws}(hW:xP 32 t=W):(∀w∈W,Wd w)/\W.length<=40001:=by
 have e:=uC 32 t;rw[hW] at e;constructor
 .intro w hw;obtain⟨q1,q2⟩:=rY 32 W w hw;rw[e] at q1 q2;exact⟨by have:=h.len;omega,λc hc=>h.sm c<|q2 c hc⟩
 .have:=nZ 32 W
  rw[e] at this
  have:=h.len;omega
section
variable{A:D}{t:List Nat}{k W:Ws}{x3 x4 x5:Sl}
def Kd(h3:aL x3)(h:Tx 40000 t)(hW:xP 32 t=W){g:MS}{z:Option Fl}(hz:g [.v A,.o<|k.map D.str,.v<|.str t,.v<|aE W,x4,x5]=z):yC (xF 3<|xI<|v5 (zD 2)<|mC<|.str [32]) g [.v A,.o<|k.map D.str,.v<|.str t,x3,x4,x5]=z:=by
 refine yL (aE W) ?_ (yT (x:=x3) rfl h3) hz;have q:v5 (zD 2) (mC<|.str [32]) [.v A,.o<|k.map D.str,.v<|.str t,x3,x4,x5]=aA (W.map D.str):=by
  show(if ([32]:List Nat).length≠0/\t.length<ag then aA ((vU t [32]).map D.str) else aB)=_;rw[if_pos ⟨by decide,bj h.len<|by decide⟩,Nn,hW]
 unfold xI;rw[q];rfl
def OQ:aD (zG f_ (aF kA<|zD 3)<|mC<|.int 3) [.v A,.o<|k.map D.str,.v<|.str t,.v<|aE W,x4,x5]=aA (decide (((W.length:Nat):Int)<3)):=kB<|zT (x:=.int ((W.length:Nat):Int)) (y:=.int 3) (u8 (x:=aE W) rfl (by show aA (D.int ((W.map D.str).length:Nat))=_;rw[af])) zH rfl
def Gn(h3:aL x3)(h:Tx 40000 t)(hW:xP 32 t=W)(hf:W.length<3):BD A t k x3 x4 x5 .L:=⟨_,by
 unfold tQ;exact Kd h3 h hW<|wT (AS<|OQ.trans<|by rw[decide_eq_true<|by omega])<|yO zH⟩
end
def PF{A:D}{t:List Nat}{k:Ws}{x3 x4 x5:Sl}(h3:aL x3)(h4:aL x4)(h5:aL x5)(h:Tx 40000 t)(hk:k.length<=50):BD A t k x3 x4 x5 (oc t k):=by
 unfold oc
 match hq:xP 32 t with
 |[]=>exact Gn h3 h hq (by decide)
 |[_]=>exact Gn h3 h hq (by simp)
 |[_,_]=>exact Gn h3 h hq (by simp)
 |a::b::c::r=>
  let W:Ws:=a::b::c::r
  obtain⟨jm,jl⟩:=Kr h hq
  let r1:En:=[.v A,.o<|k.map D.str,.v<|.str t,.v<|aE W,x4,x5]
  have s1:∀{g:MS} {z},g r1=z->yC (xF 3<|xI<|v5 (zD 2)<|mC<|.str [32]) g [.v A,.o<|k.map D.str,.v<|.str t,x3,x4,x5]=z:=λhz=>Kd h3 h hq hz
  have OP:aD (zG f_ (aF kA<|zD 3)<|mC<|.int 3) r1=aA false:=OQ.trans (congrArg aA<|decide_eq_false<|Int.not_lt.mpr<|by exact_mod_cast (show 3<=W.length by simp[W]));have i3:∀{r':En} {j:Nat} {x:List Nat},r'[3]?=aA (.v<|aE W)->(a::b::c::r)[j]?=aA x->zG aC (zD 3) (mC<|.int j) r'=aA (.str x):=λe1 e2=>zT (mX e1) zH<|qD (by rw[az,e2];rfl)
  have c2:aD (zG d_ (zG aC (zD 3)<|mC<|.int 0)<|mC<|.str [100,101,102]) r1=aA (!decide (a=p5)):=kB<|zT (x:=.str a) (y:=.str p5) (i3 (j:=0) rfl rfl) zH rfl;have c3:zW 1 wJ (zC (zG aC (zD 3)<|mC<|.int 1) zN) r1=aA (.bl<|qN b):=yG (p:=.v<|.bl _) (zE (i3 (j:=1) rfl rfl) zO) rfl (U4<|jm b<|by simp);have cc:(cU (aD<|zG f_ (aF kA<|zD 3)<|mC<|.int 3)<|cU (aD<|zG d_ (zG aC (zD 3)<|mC<|.int 0)<|mC<|.str [100,101,102])<|jW<|uG<|zW 1 wJ<|zC (zG aC (zD 3)<|mC<|.int 1) zN) r1=aA (!(decide (a=p5) && qN b)):=by
   refine AR OP ?_;cases ha:decide (a=p5) with
   |false=>rw[ha] at c2;exact AS c2
   |true=>rw[ha] at c2;exact(AR c2<|xn c3).trans rfl
  show BD A t k x3 x4 x5 (if a=p5/\qN b=true then _ else _);by_cases hg:a=p5/\qN b=true
  .rw[if_pos hg];have cf:=cc.trans (show _=aA false by rw[hg.1,hg.2];rfl)
   let r2:En:=[.v A,.o<|k.map D.str,.v<|.str t,.v<|aE W,.v<|lL (c::r),x5]
   have s2:∀{g:MS} {z},g r2=z->yC (xF 4<|zW 1 jD<|zC (aT (zD 3) (xL<|mC<|.int 2) wG) zN) g r1=z:=λhz=>by
    refine yL (lL (c::r)) (yG (p:=.v<|lL (c::r)) (l:=[.lst<|(c::r).map D.str]) (zE ?_ zO) rfl<|U0 (W:=c::r) (λw hw=>jm w (by simp only[av] at hw ⊢;exact .inr<|.inr hw)) (by simp only[ac] at jl ⊢;omega)) (yT (x:=x4) rfl h4) hz;refine dP (x:=aE W) rfl (jL zH) rfl ?_;show aA (D.lst<|dS (W.map D.str) (aA ((2:Nat):Int)) aB)=_;rw[oW];rfl
   have pre:∀{g:MS} {z},g r2=z->(yC (xF 3<|xI<|v5 (zD 2)<|mC<|.str [32])
 (yC (aJ (cU (aD<|zG f_ (aF kA<|zD 3)<|mC<|.int 3)<|cU (aD<|zG d_ (zG aC (zD 3)<|mC<|.int 0)<|mC<|.str [100,101,102])<|jW<|uG<|zW 1 wJ<|zC (zG aC (zD 3)<|mC<|.int 1) zN)
 (qE<|mC<|.str [78,111,76,105,110,101])
 yP)<|yC (xF 4<|zW 1 jD<|zC (aT (zD 3) (xL<|mC<|.int 2) wG) zN) g)) [.v A,.o<|k.map D.str,.v<|.str t,x3,x4,x5]=z:=λhz=>s1 (yS cf<|s2 hz)
   rcases Qv (c::r) with⟨j1,j2⟩|⟨x,j1,j2⟩
   .rw[j2];refine⟨r2,?_⟩;unfold tQ;exact pre<|wT (show aD (zG iQ (zD 4)<|mC .aG) r2=aA true by show(iQ (lL (c::r)) .aG).bind AC=_;rw[j1];rfl)<|yO zH
   .rw[j2];have n0:aD (zG iQ (zD 4)<|mC .aG) r2=aA false:=by show(iQ (lL (c::r)) .aG).bind AC=_;rw[j1];rfl
    have i4:zG aC (zD 4) (mC<|.int 0) r2=aA (fD x):=zT (x:=.lst [fD x]) (by show aA (lL (c::r))=_;rw[j1]) zH<|vI _ _;have Fn:aD (zG a_ (zG aC (zG aC (zD 4)<|mC<|.int 0)<|mC<|.int 2)<|mC<|.int 80) r2=aA (decide (80<x.n)):=(oA (i:=((x.n:Nat):Int)) (j:=80) (zT i4 zH<|qD (j:=2) rfl) zH).trans (by congr 1;rw[decide_eq_decide];omega);show BD A t k x3 x4 x5 (if 80<x.n then _ else _);by_cases wu:80<x.n
    .rw[if_pos wu];refine⟨r2,?_⟩;unfold tQ;exact pre<|yS n0<|wT (Fn.trans<|by rw[decide_eq_true wu])<|yO zH
    .rw[if_neg wu]
     let op:Nm:=x.f.filter λz=>decide (z∉k++[b])
     let r3:En:=[.v A,.o<|k.map D.str,.v<|.str t,.v<|aE W,.v<|lL (c::r),.v<|aE op]
     have vk:x.f.length<=1000000:=by
      have q:∃s,eW (c::r).reverse []=aA s/\s=[x]:=by
       unfold lL at j1;cases e:eW (c::r).reverse [] with
       |none=>rw[e] at j1;cases j1
       |some s=>
        rw[e] at j1
        match s with
        |[]=>cases j1
        |x'::y'::s'=>cases j1
        |[x']=>
         refine⟨_,rfl,?_⟩
         injection j1 with j1
         injection j1 with j1 _
         have:jg (c::r)=aA (x'.n,x'.f):=by unfold jg;rw[e]
         rw[this] at j2;obtain⟨b1,d1,n1,f1⟩:=x;obtain⟨b2,d2,n2,f2⟩:=x'
         injection j2 with j2
         injection j2 with z1 z2
         simp only[fD,D.tup.injEq,mv,D.bl.injEq,D.int.injEq] at j1;have VF:n2=n1:=z1;have VE:f2=f1:=z2;have z3:b2=b1:=j1.1;have z4:d2=d1:=by have:=j1.2.1;exact_mod_cast this
         rw[VF,VE,z3,z4]
      obtain⟨s,q1,q2⟩:=q;subst q2;have tt:∀(ws:Ws) (st aW:List Itm),eW ws st=aA aW->Iv st->(∀w∈ws,Wd w)->fV st+2*ws.length<=90000->fV aW<=fV st+2*ws.length:=by
       intro ws
       induction ws with
       |nil=>intro st aW e _ _ _;have e':aA st=aA aW:=e;cases e';omega
       |cons w ws ih=>
        intro st aW e hi hw hl;rw[ac] at hl ⊢;have e':(YN w st).bind (eW ws)=aA aW:=e;obtain⟨s1,e1,e2⟩:=aI e';obtain⟨i1,i2,_⟩:=(QP (L:=.aG) (x3:=.un) (x4:=.un) (st:=st) (hw w<|by simp) trivial trivial hi<|by omega).1 s1 e1
        have:=ih s1 aW e2 i1 (λq hq=>hw q<|by simp[hq]) (by omega)
        omega
      have:=tt (c::r).reverse [] [x] q1 (λx h=>by cases h) (λw hw=>jm w (by simp only[List.mem_reverse,av] at hw ⊢;exact .inr<|.inr hw)) (by simp only[du,ac,fV,ip,mi] at jl ⊢;omega)
      rw[hV] at this;simp only[du,ac,fV,ip,mi] at jl this;omega
     have s5:∀{g:MS} {z},g r3=z->yC (xF 5<|xI<|A' 1<|qG [1,3] 3 (eA<|zG aC (zG aC (zD 4)<|mC<|.int 0)<|mC<|.int 3) (y9 2) (aD<|zG (inD true) (zD 2)<|zG xC (zD 0)<|xI<|yB<|zC (zG aC (zD 1)<|mC<|.int 1) zN)<|zD 2) g r2=z:=λhz=>by
      refine yL (aE op) ?_ (yT (x:=x5) rfl h5) hz
      let EJ:En:=[.v A,.v<|aE k,.v<|.str t,.v<|aE W,.v<|lL (c::r),x5]
      have X':zG aC (zD 4) (mC<|.int 0) EJ=aA (fD x):=zT (x:=.lst [fD x]) (by show aA (lL (c::r))=_;rw[j1]) zH<|vI _ _;have q:qG [1,3] 3 (eA<|zG aC (zG aC (zD 4)<|mC<|.int 0)<|mC<|.int 3) (y9 2) (aD<|zG (inD true) (zD 2)<|zG xC (zD 0)<|xI<|yB<|zC (zG aC (zD 1)<|mC<|.int 1) zN) (zD 2) EJ=aA (op.map D.str):=by
       have it:eA (zG aC (zG aC (zD 4)<|mC<|.int 0)<|mC<|.int 3) EJ=aA (x.f.map D.str):=by
        unfold eA;rw[zT (d:=aE x.f) X' zH<|qD (j:=3) rfl];rfl
       unfold qG;rw[it,aa,if_pos (by rw[af];exact bj vk<|by decide)];exact LQ (W:=W) rfl hk x.f .un trivial
      have q2:A' 1 (qG [1,3] 3 (eA<|zG aC (zG aC (zD 4)<|mC<|.int 0)<|mC<|.int 3) (y9 2) (aD<|zG (inD true) (zD 2)<|zG xC (zD 0)<|xI<|yB<|zC (zG aC (zD 1)<|mC<|.int 1) zN)<|zD 2) r2=aA (op.map D.str):=by
       show((qG [1,3] 3 (eA<|zG aC (zG aC (zD 4)<|mC<|.int 0)<|mC<|.int 3) (y9 2) (aD<|zG (inD true) (zD 2)<|zG xC (zD 0)<|xI<|yB<|zC (zG aC (zD 1)<|mC<|.int 1) zN) (zD 2) EJ).bind λout=>if zq (k.map D.str) out=true then aA out else aB)=_;rw[q,aa,if_pos<|Mh _ _]
      exact mE q2
     have m1:Bx false (zG aC (zD 3)<|mC<|.int 1) (jP 1) r3=aA (decide (b∈k)):=by
      unfold Bx;have Ya:zG aC (zD 3) (mC<|.int 1) r3=aA (.str b):=i3 (j:=1) rfl rfl;rw[Ya,aa];show(inD false (.str b)<|.lst<|k.map D.str).bind AC=_;rw[DW];rfl
     have m2:aD (zG d_ (zD 5)<|xI<|yB zN) r3=aA (!op.isEmpty):=by
      refine kB<|zT (x:=aE op) (y:=.lst []) rfl rfl ?_;show(if (op.map D.str).all uJ=true/\[].all uJ=true then aA (D.bl<|!zy (op.map D.str) []) else aB)=_;rw[if_pos ⟨gY op,rfl⟩];cases op<;>rfl
     by_cases zn:b∈k
     .rw[if_pos zn];refine⟨r3,?_⟩;unfold tQ;exact pre<|yS n0<|yS (Fn.trans<|by rw[decide_eq_false wu])<|s5<|wT (AS<|m1.trans<|by rw[decide_eq_true zn])<|yO zH
     .rw[if_neg zn];have Yp:op.isEmpty=x.f.all λy=>decide (y∈k++[b]):=by
       show(x.f.filter λz=>decide (z∉k++[b])).isEmpty=_;rw[gn,List.isEmpty_iff,tm,eg];exact⟨λh y hy=>decide_eq_true<|Classical.byContradiction λz=>h y hy<|decide_eq_true z,λh y hy z=>absurd (of_decide_eq_true<|h y hy)<|of_decide_eq_true z⟩
      have m3:=AR (f:=Bx false (zG aC (zD 3)<|mC<|.int 1)<|jP 1) (m1.trans<|by rw[decide_eq_false zn]) m2;rw[Yp] at m3;by_cases ho:(x.f.all λy=>decide (y∈k++[b]))=true
      .rw[if_pos ho];rw[ho] at m3;refine⟨.v<|aE W,.v<|lL (c::r),.v<|aE op,trivial,trivial,trivial,?_⟩;unfold tQ;refine pre<|yS n0<|yS (Fn.trans<|by rw[decide_eq_false wu])<|s5<|yS m3 ?_;refine(ZA<|YO (i:=1) (S:=k.map D.str) rfl (i3 (r':=r3) (j:=1) (x:=b) rfl rfl) (by rw[af];exact bj hk<|by decide)).trans ?_;rw[aw];rfl
      .rw[if_neg ho];have iG:(x.f.all λy=>decide (y∈k++[b]))=false:=by simpa using ho
       rw[iG] at m3;refine⟨r3,?_⟩;unfold tQ;exact pre<|yS n0<|yS (Fn.trans<|by rw[decide_eq_false wu])<|s5<|wT m3<|yO zH
  .rw[if_neg hg];refine⟨r1,?_⟩;unfold tQ;refine s1<|wT (cc.trans ?_)<|yO zH;cases hn:qN b
   .simp
   .rw[decide_eq_false λz=>hg ⟨z,hn⟩];rfl
theorem M6(A:D):∀(L:Ws) (k:Ws) (x2 x3 x4 x5:Sl),aL x2->aL x3->aL x4->aL x5->(∀t∈L,Tx 40000 t)->k.length+L.length<=12 ->
  (∃r,gM (y9 2) tQ (L.map D.str) [.v A,.o<|k.map D.str,x2,x3,x4,x5]=aA (.rt (.str (fin L k).s) r))\/∃(k':Ws) (y2 y3 y4 y5:Sl),gM (y9 2) tQ (L.map D.str) [.v A,.o<|k.map D.str,x2,x3,x4,x5]=aA (.nx [.v A,.o<|k'.map D.str,y2,y3,y4,y5])/\fin L k=(if k'.getLast?=aA cP then .ok [] else .N)/\k'.length=k.length+L.length
 |[],k,x2,x3,x4,x5,_,_,_,_,_,_=>.inr ⟨k,x2,x3,x4,x5,rfl,rfl,rfl⟩
 |t::L,k,x2,x3,x4,x5,h2,h3,h4,h5,ht,hl=>by
  rw[ac] at hl;have u:y9 2 (.str t) [.v A,.o<|k.map D.str,x2,x3,x4,x5]=aA [.v A,.o<|k.map D.str,.v<|.str t,x3,x4,x5]:=yT (x:=x2) rfl h2;have b:=PF (A:=A) (t:=t) (k:=k) h3 h4 h5 (ht t<|by simp) (by omega);have ef:fin (t::L) k=match oc t k with | .ok x=>fin L (k++[x])|c=>c:=rfl
  cases ho:oc t k with
  |T=>rw[ho] at b ef;obtain⟨r,hr⟩:=b;rw[ef];exact .inl ⟨r,YG u hr⟩
  |L=>rw[ho] at b ef;obtain⟨r,hr⟩:=b;rw[ef];exact .inl ⟨r,YG u hr⟩
  |N=>rw[ho] at b ef;obtain⟨r,hr⟩:=b;rw[ef];exact .inl ⟨r,YG u hr⟩
  |ok x=>
   rw[ho] at b ef;obtain⟨y3,y4,y5,f3,f4,f5,g⟩:=b;rw[ef];show(∃r,gM _ _ (.str t::L.map D.str) _=aA (.rt (.str (fin L<|k++[x]).s) r))\/∃k' y2 y3 y4 y5,gM _ _ (.str t::L.map D.str) _=_/\fin L (k++[x])=_/\_;rw[cN u g];rcases M6 A L (k++[x]) (.v<|.str t) y3 y4 y5 trivial f3 f4 f5 (λq hq=>ht q<|by simp[hq]) (by simp;omega) with i|⟨k',z2,z3,z4,z5,i1,i2,i3⟩
   .exact .inl i
   .exact .inr ⟨k',z2,z3,z4,z5,i1,i2,by rw[i3];simp;omega⟩
def RB{L:Ws}(h:B9 L):∃as,hI [.v<|.lst<|L.map D.str]=aA (.v<|.str (gH L).s,as):=by
 let A:D:=.lst<|L.map D.str
 have c1:aD (zG a_ (aF kA<|zD 0)<|mC<|.int 12) [.v A,.un,.un,.un,.un,.un]=aA (decide (12<L.length)):=by
  refine(oA (i:=(((L.map D.str).length:Nat):Int)) (j:=12) (u8 (x:=A) rfl rfl) zH).trans ?_;rw[af];congr 1;rw[decide_eq_decide];omega
 have mk:∀{d:D} {r:En},uU [.v A,.un,.un,.un,.un,.un]=aA (.rt d r)->∃as,hI [.v A]=aA (.v d,as):=λh=>qR h
 unfold gH;by_cases sU:12<L.length
 .rw[if_pos sU];exact mk (by unfold uU;exact wT (c1.trans<|by rw[decide_eq_true sU])<|yO zH)
 .rw[if_neg sU];have c0:=c1.trans (show _=aA false by rw[decide_eq_false sU])
  let r0:En:=[.v A,.o<|([]:Ws).map D.str,.un,.un,.un,.un]
  have fo:∀{z},gM (y9 2) tQ (L.map D.str) r0=z->dQ (y9 2) (eA<|zD 0) tQ r0=z:=λq=>q
  rcases M6 A L [] .un .un .un .un trivial trivial trivial trivial h.tx (by simp;omega) with⟨r,hr⟩|⟨k',y2,y3,y4,y5,q1,q2,q3⟩
  .exact mk (by unfold uU;exact yS c0<|(xA (r':=r0) rfl).trans<|JL<|fo hr)
  .have hk:k'≠[]:=λz=>by
    rw[z] at q3;have q4:L.length=0:=by simpa using q3.symm
    exact h.ne<|ii.mp q4
   obtain⟨k0,x,rfl⟩:∃k0 x,k'=k0++[x]:=⟨k'.dropLast,k'.getLast hk,(qd hk).symm⟩;have e1:mM (jP 1) (aF nX<|mC<|.int 1) [.v A,.o<|(k0++[x]).map D.str,y2,y3,y4,y5]=aA (.str x):=by
    rw[aw];exact GY _ _
   have e2:zG aQ (mM (jP 1)<|aF nX<|mC<|.int 1) (mC<|.str [109,97,105,110]) [.v A,.o<|(k0++[x]).map D.str,y2,y3,y4,y5]=aA (.bl<|decide (x=cP)):=zT e1 zH rfl;have ex:(k0++[x]).getLast?=aA cP↔x=cP:=by simp
   refine mk (r:=[.v A,.o<|(k0++[x]).map D.str,y2,y3,y4,y5]) ?_;unfold uU;refine yS c0<|(xA (r':=r0) rfl).trans<|(xA<|fo q1).trans<|yO ?_;rw[q2];by_cases hx:x=cP
   .rw[if_pos<|ex.mpr hx];refine zT (wH (zE zH<|zE zH zO)<|by simp) (u8 e2 rfl) ?_;rw[decide_eq_true hx];rfl
   .rw[if_neg λz=>hx<|ex.mp z];refine zT (wH (zE zH<|zE zH zO)<|by simp) (u8 e2 rfl) ?_;rw[decide_eq_false hx];rfl
structure Ty(n:Nat)(s:List Nat):Prop where
 len:s.length<=n
 sm:∀c∈s,32<=c/\c<128
def Ty.le{n m:Nat}{s:List Nat}(h:Ty n s)(hm:n<=m):Ty m s:=⟨bf h.len hm,h.sm⟩
def Ty.app{n m:Nat}{s t:List Nat}(h:Ty n s)(h':Ty m t):Ty (n+m) (s++t):=⟨by rw[ae];have:=h.len;have:=h'.len;omega,λc hc=>(bi.mp hc).elim (h.sm c)<|h'.sm c⟩
def Ty.cut{n:Nat}{s:List Nat}(h:Ty n s)(lo hi:Option Int):Ty n (dS s lo hi):=⟨bf (Sn s lo hi) h.len,λc hc=>h.sm c<|LV hc⟩
abbrev Wk(s:List Nat):Prop:=Ty 10 s
def Sw(i:Int):∃c,(32<=c/\c<128)/\aC (.str Bo) (.int<|i % 26)=aA (.str [c]):=by
 obtain⟨c,hc,e⟩:=Qp (s:=Bo) (i:=i) (by decide) (by decide);exact⟨c,(by decide:∀c∈Bo,32<=c/\c<128) c hc,e⟩
def Cq{c:Nat}(h:32<=c/\c<128):Ty 1 [c]:=⟨by simp,λx hx=>by rw[cb.mp hx];exact h⟩
def DP:MS:=(xF 1<|zG xC (zD 1)<|zG aC (mC<|.str [97,98,99,100,101,102,103,104,105,106,107,108,109,110,111,112,113,114,115,116,117,118,119,120,121,122])<|zG jM (zW 2 yK<|zC (zD 0)<|zC (zG xC (mC<|.int 30)<|zD 2) zN)<|mC<|.int 26)
theorem WQ(n:Int):∀(L:List Int) (k:Nat) (s:List Nat) (x:Sl),Ty k s->k+L.length<=8->aL x->∃t x',Ty 8 t/\gM (y9 2) DP (L.map D.int) [.v<|.int n,.v<|.str s,x]=aA (.nx [.v<|.int n,.v<|.str t,x'])
 |[],k,s,x,h,hl,hx=>⟨s,x,h.le<|by simpa using hl,rfl⟩
 |i::L,k,s,x,h,hl,hx=>by
  rw[ac] at hl;obtain⟨m,m0,hm⟩:=vC n<|30+i;obtain⟨c,c1,hc⟩:=Sw m;obtain⟨t,x',q1,q4⟩:=WQ n L (k+1) (s++[c]) (.v<|.int i) (h.app<|Cq c1) (by omega) trivial;refine⟨t,x',q1,?_⟩;have b:DP [.v<|.int n,.v<|.str s,.v<|.int i]=aA (.nx [.v<|.int n,.v<|.str<|s++[c],.v<|.int i]):=by
   refine jI (d:=.str<|s++[c]) ?_ (by rfl);refine zT (x:=.str s) (y:=.str [c]) rfl ?_<|dB (by have:=h.len;show _+1<=_;omega);refine zT (x:=.str Bo) zH (wR ?_ zH<|by decide) hc;exact yG (p:=.v<|.int m) (zE rfl<|zE (qU zH rfl) zO) rfl hm
  rw[bg,cN (yT (x:=x) rfl hx) b,q4]
def Vl(n:Nat):xq 0 n=((db n).map λi=>(0:Int)+(i:Nat)).map D.int:=by
 unfold xq;rw[ia];rfl
def gV(n:Int):∃s,Ty 9 s/\∃as,uM [.v<|.int n]=aA (.v<|.str s,as):=by
 have m0:0<=n % 8:=dm _ (by decide);have m8:n % 8<8:=dh _ (by decide);obtain⟨t,x',q1,q4⟩:=WQ n ((db (1+n % 8).toNat).map λi=>(0:Int)+(i:Nat)) 0 [] .un ⟨by simp,λc hc=>by simp at hc⟩ (by simp;omega) trivial;have e:zG xC (mC<|.int 1) (zG jM (zD 0)<|mC<|.int 8) [.v<|.int n,.v<|.str [],.un]=aA (.int<|1+n % 8):=qU zH (wR rfl zH<|by decide);have it:mT (zG xC (mC<|.int 1)<|zG jM (zD 0)<|mC<|.int 8) [.v<|.int n,.v<|.str [],.un]=aA (xq 0 (1+n % 8).toNat):=by
  unfold mT;rw[e];show(if -(2 ^ 62)<=(1+n % 8)/\(1+n % 8)<2 ^ 62 then aA (xq 0 (1+n % 8).toNat) else aB)=_;rw[if_pos<|by omega]
 have fe:dQ (y9 2) (mT<|zG xC (mC<|.int 1)<|zG jM (zD 0)<|mC<|.int 8) DP [.v<|.int n,.v<|.str [],.un]=aA (.nx [.v<|.int n,.v<|.str t,x']):=by
  unfold dQ;rw[it,Vl];exact q4
 have start:∀{h:MS} {z},h [.v<|.int n,.v<|.str t,x']=z->yC (xF 1<|mC<|.str []) (yC (dQ (y9 2) (mT<|zG xC (mC<|.int 1)<|zG jM (zD 0)<|mC<|.int 8) DP) h) [.v<|.int n,.un,.un]=z:=λhz=>
  yL (r2:=[.v<|.int n,.v<|.str [],.un]) (.str []) zH rfl ((xA fe).trans hz)
 have hb:aD (zG (inD false) (zD 1)<|zW 0 dO zN) [.v<|.int n,.v<|.str t,x']=aA (decide (t∈kept)):=kB<|zT (x:=.str t) (y:=.lst<|kept.map D.str) rfl (yG (p:=.v<|.lst<|kept.map D.str) zO rfl SG) DW;by_cases hk:t∈kept
 .refine⟨[113]++dS t (aA 1) aB,((Cq<|by decide).app<|q1.cut (aA 1) aB).le<|by decide,qR (r':=[.v<|.int n,.v<|.str t,x'])<|start<|wT (hb.trans<|by rw[decide_eq_true hk])<|yO ?_⟩;exact zT zH (dP (x:=.str t) rfl (by rfl) (by rfl)<|pB (by have:=q1.len;omega))<|dB (by have:=(q1.cut (aA 1) aB).len;show 1+_<=_;omega)
 .exact⟨t,q1.le<|by decide,qR (r':=[.v<|.int n,.v<|.str t,x'])<|start<|yS (hb.trans<|by rw[decide_eq_false hk])<|yO rfl⟩
structure sY(ns:Ws):Prop where
 len:ns.length=6
 wd:∀x∈ns,Wk x
def pP(c:Int):∃l:Ws,sY l/\∃as,jZ [.v<|.int c]=aA (.v<|.lst<|l.map D.str,as):=by
 obtain⟨m3,z3,h3⟩:=vC c 3;obtain⟨m4,z4,h4⟩:=vC c 4;obtain⟨m5,z5,h5⟩:=vC c 5;obtain⟨s3,w3,e3⟩:=gV m3;obtain⟨s4,w4,e4⟩:=gV m4;obtain⟨s5,w5,e5⟩:=gV m5
 let nr:=dS s3 aB<|some 7
 have nw:Ty 9 nr:=w3.cut _ _;have t1:=nw.cut aB<|some<|-1;have t2:=nw.cut (aA 1) aB;have nl:=nw.len;have l1:=t1.len;have l2:=t2.len
 let W:Ws:=[nr,nr++[113],dS nr aB (aA<|-1)++[122],[122]++dS nr (aA 1) aB]
 refine⟨W++[s4,s5],⟨rfl,?_⟩,qR (r':=[.v<|.int c,.v<|.str nr,.v<|.lst<|W.map D.str]) ?_⟩
 .intro x hx;simp only[W,bi,av,ki,or_false] at hx;rcases hx with(rfl|rfl|rfl|rfl)|rfl|rfl
  .exact nw.le (by decide)
  .exact nw.app (Cq<|by decide)
  .exact t1.app (Cq<|by decide)
  .exact((Cq<|by decide).app t2).le (by decide)
  .exact w4.le (by decide)
  .exact w5.le (by decide)
 .show uS [.v<|.int c,.un,.un]=_;unfold uS;refine yL (.str nr) (dP (x:=.str s3) (yG (p:=.v<|.str s3) (zE (yG (p:=.v<|.int m3) (zE rfl<|zE zH zO) rfl h3) zO) rfl e3) (by rfl) (by rfl)<|pB (by have:=w3.len;omega)) (by rfl) ?_;refine yL (.lst<|W.map D.str) ?_ (by rfl) ?_
  rotate_left
  .refine yO<|zT (x:=.lst<|W.map D.str) rfl (wH (zE (yG (p:=.v<|.str s4) (zE (yG (p:=.v<|.int m4) (zE rfl<|zE zH zO) rfl h4) zO) rfl e4)<|zE (yG (p:=.v<|.str s5) (zE (yG (p:=.v<|.int m5) (zE rfl<|zE zH zO) rfl h5) zO) rfl e5) zO) (by show 2<=100;decide)) ?_;rw[aw];exact Mc (by show 4+2<=_;decide)
  .refine wH (zE rfl<|zE (zT (x:=.str nr) rfl zH<|dB (by show _+1<=_;omega))<|zE (zT (dP (x:=.str nr) rfl (by rfl) (by rfl)<|pB<|by omega) zH<|dB (by show _+1<=_;omega))<|zE (zT zH (dP (x:=.str nr) rfl (by rfl) (by rfl)<|pB<|by omega)<|dB (by show 1+_<=_;omega)) zO) (by show 4<=100;decide)
def El(ss:Ws){i:Int}(h0:0<=i)(h:i<ss.length):∃w∈ss,aC (.lst<|ss.map D.str) (.int i)=aA (.str w):=by
 obtain⟨j,rfl⟩:=im h0;have hj:j<ss.length:=by omega
 exact⟨ss[j],ij hj,qD<|by simp[hj]⟩
def sY.at{ns:Ws}(h:sY ns)(i:Int):∃x,(x∈ns/\Wk x)/\aC (.lst<|ns.map D.str) (.int<|i % 6)=aA (.str x):=by
 obtain⟨x,hx,e⟩:=El ns (i:=i % 6) (dm _<|by decide) (by rw[h.len];exact dh _<|by decide);exact⟨x,⟨hx,h.wd x hx⟩,e⟩
def SS{i j:Int}:aQ (.int i) (.int j)=aA (.bl<|decide (i=j)):=rfl
noncomputable def Ls:List Nat:=[101,109,112,116,121]
def bU{w:List Nat}(h:Wk w):∀x∈[w],Wk x:=λx hx=>by rw[cb.mp hx];exact h
def uF(i:Int)(k:Nat)(hk:0<k):∃n:Nat,n<k/\i % (k:Int)=(n:Int):=by
 obtain⟨j,hj⟩:=im (dm i (b:=(k:Int))<|by omega)
 have:=dh i (b:=(k:Int)) (by omega)
 exact⟨j,by omega,hj⟩
def Fr(ns:Nm)(n m:Nat)(d:D):Prop:=∀k,n<k->∀kn:Ws,kn.length+k<=2000->∃l:Nm,l.length<=m/\(∀x∈l,x∈ns)/\∃as,qY k [.v d,.v<|aE kn]=aA (.v<|aE l,as)
def Fr.le{ns:Nm}{n m n' m':Nat}{d:D}(h:Fr ns n m d)(hn:n<=n')(hm:m<=m'):Fr ns n' m' d:=λk hk kn hl=>by
 obtain⟨l,h1,h2⟩:=h k (by omega) kn hl;exact⟨l,by omega,h2⟩
inductive Ps (ns:Nm) (n:Nat):List D->Nat->Prop
 |nil:Ps ns n [] 0
 |at {d:D} {l:List D} {m:Nat}:plain d->eL d=false->Ps ns n l m->Ps ns n (d::l) m
 |ex {d:D} {l:List D} {a m:Nat}:Fr ns n a d->eL d=true->Ps ns n l m->Ps ns n (d::l) (a+m)
def Hf{kn:Ws}{x:List Nat}{f:ME}{r:En}(h1:zD 1 r=aA (aE kn))(h2:f r=aA (.str x))(hl:kn.length<=5000):zG xC (zD 1) (xI<|yB<|zC f zN) r=aA (aE<|kn++[x]):=JS h1 h2 hl
def Tb{d:D}(h:eL d=true):plain d:=by cases d<;>first|trivial|cases h
def BH(m:MF):MS:=(aJ (uG<|aF (pT "tuple")<|zD 3)
 (xF 2<|zG xC (zD 2)<|zW 2 m<|zC (zD 3)<|zC (zD 1) zN)
 yP)
theorem tF{ns:Nm}{n k:Nat}{d:D}{kn:Ws}(hk:n<k)(hl:kn.length+k<=2000):∀{ps:List D} {m:Nat},Ps ns n ps m->∀(acc:Nm) (x:Sl),aL x->acc.length+m<=50000->(∀y∈acc,y∈ns)->∃(l:Nm) (y:Sl),l.length<=acc.length+m/\(∀y∈l,y∈ns)/\gM (y9 3) (BH<|qY k) ps [.v d,.v<|aE kn,.v<|aE acc,x]=aA (.nx [.v d,.v<|aE kn,.v<|aE l,y])
 |_,_,.nil,acc,x,hx,hm,ha=>⟨acc,x,by omega,ha,rfl⟩
 |_,_,.at (d:=e) hp ht h,acc,x,hx,hm,ha=>by
  obtain⟨l,y,i1,i2,i3⟩:=tF (d:=d) hk hl h acc (.v e) trivial hm ha;refine⟨l,y,i1,i2,?_⟩;have c:uG (aF (pT "tuple")<|zD 3) [.v d,.v<|aE kn,.v<|aE acc,.v e]=aA false:=pA (u8 (x:=e) rfl<|by rw[F2 hp,ht]);have b:BH (qY k) [.v d,.v<|aE kn,.v<|aE acc,.v e]=aA (.nx [.v d,.v<|aE kn,.v<|aE acc,.v e]):=by
   unfold BH;rw[cC c];rfl
  rw[cN (yT (x:=x) rfl hx) b];exact i3
 |_,_,.ex (d:=e) (a:=a) (m:=m) hf ht h,acc,x,hx,hm,ha=>by
  obtain⟨f,f1,f2,f3⟩:=hf k hk kn hl;obtain⟨l,y,i1,i2,i3⟩:=tF (d:=d) hk hl h (acc++f) (.v e) trivial (by rw[ae];omega) λz hz=>(bi.mp hz).elim (ha z)<|f2 z
  refine⟨l,y,by rw[ae] at i1;omega,i2,?_⟩;have c:uG (aF (pT "tuple")<|zD 3) [.v d,.v<|aE kn,.v<|aE acc,.v e]=aA true:=pA (u8 (x:=e) rfl<|by rw[F2<|Tb ht,ht]);have b:BH (qY k) [.v d,.v<|aE kn,.v<|aE acc,.v e]=aA (.nx [.v d,.v<|aE kn,.v<|aE<|acc++f,.v e]):=by
   unfold BH;rw[o5 c];refine jI (d:=aE<|acc++f) ?_ rfl;exact(mO (l:=acc.map D.str) (m:=f.map D.str) rfl (yG (p:=.v<|aE f) (zE rfl<|zE rfl zO) rfl f3) (by simp;omega)).trans (by simp[aE])
  rw[cN (yT (x:=x) rfl hx) b];exact i3
section
variable{ns:Nm}{n:Nat}
def zp{w v:List Nat}{l:List D}{b c e:Sl}:aD (zG aQ (zG aC (zD 0)<|mC<|.int 0)<|mC<|.str v) [.v<|.tup (.str w::l),b,c,e]=aA (decide (w=v)):=kB<|zT (x:=.str w) (y:=.str v) (zT rfl zH<|vI _ _) zH rfl
def W0{k:Nat}{d K:D}{l:Nm}{r:En}(h:kM (qY k) [.v d,.v K,.un,.un]=aA (.rt (aE l) r)):∃as,qY (k+1) [.v d,.v K]=aA (.v<|aE l,as):=qR (n:=2) (N:=4) h
def zr{l:List D}{j:Nat}{d:D}{r:En}(e:r[0]?=aA (.v<|.tup l))(h:l[j]?=aA d):zG aC (zD 0) (mC<|.int j) r=aA d:=zT (mX e) zH<|qD h
def YF{w:List Nat}(h1:w≠iY)(h2:w≠fB)(h3:w≠eQ){ps:List D}{m:Nat}(h:Ps ns n ps m)(hm:m<=50000):Fr ns (n+1) m (.tup (.str w::ps)):=λk hk kn hl=>by
 obtain⟨k,rfl⟩:∃j,k=j+1:=⟨k-1,by omega⟩;obtain⟨l,y,i1,i2,i3⟩:=tF (d:=.tup (.str w::ps)) (kn:=kn) (show n<k by omega) (by omega) h [] .un trivial (by simpa using hm) (by simp);refine⟨l,by simpa using i1,i2,W0 (r:=[.v<|.tup (.str w::ps),.v<|aE kn,.v<|aE l,y]) ?_⟩;unfold kM;refine yS (zp.trans<|congrArg aA<|decide_eq_false h1)<|yS (zp.trans<|congrArg aA<|decide_eq_false h2)<|yS (zp.trans<|congrArg aA<|decide_eq_false h3) ?_;have it:eA (aT (zD 0) (xL<|mC<|.int 1) wG) [.v<|.tup (.str w::ps),.v<|aE kn,.v<|aE [],.un]=aA ps:=by
  have e:aT (zD 0) (xL<|mC<|.int 1) wG [.v<|.tup (.str w::ps),.v<|aE kn,.v<|aE [],.un]=aA (.tup ps):=by
   refine dP (x:=.tup (.str w::ps)) rfl (jL zH) rfl ?_;have z:HT.aO (D.str w::ps).length 0 (aA ((1:Nat):Int))=1:=by rw[HT.Cv];simp
   show(if HT.aO (D.str w::ps).length 0 (aA ((1:Nat):Int))=0/\HT.aO (D.str w::ps).length (D.str w::ps).length aB=(D.str w::ps).length then aB else aA<|D.tup<|dS (D.str w::ps) (aA ((1:Nat):Int)) aB)=_;rw[if_neg (λq=>by rw[z] at q;exact absurd q.1<|by decide),oW];rfl
  unfold eA;rw[e];rfl
 have fo:dQ (y9 3) (eA<|aT (zD 0) (xL<|mC<|.int 1) wG) (BH<|qY k) [.v<|.tup (.str w::ps),.v<|aE kn,.v<|aE [],.un]=aA (.nx [.v<|.tup (.str w::ps),.v<|aE kn,.v<|aE l,y]):=by
  unfold dQ;rw[it];exact i3
 exact yL (aE []) rfl rfl<|(xA fo).trans<|yO rfl
def Qq{x:List Nat}(hx:x∈ns):Fr ns 0 1 (.tup [.str iY,.str x]):=λk hk kn hl=>by
 obtain⟨k,rfl⟩:∃j,k=j+1:=⟨k-1,by omega⟩
 let r:En:=[.v<|.tup [.str iY,.str x],.v<|aE kn,.un,.un]
 have i1:zG aC (zD 0) (mC<|.int 1) r=aA (.str x):=zr (j:=1) rfl rfl;have e:aT (xI<|yB<|zC (zG aC (zD 0)<|mC<|.int 1) zN) wG (xL<|aF Q5<|zG (inD true) (zG aC (zD 0)<|mC<|.int 1)<|zD 1) r=aA (aE<|[x].take (if decide (x∉kn) then 1 else 0)):=by
  have b:aF Q5 (zG (inD true) (zG aC (zD 0)<|mC<|.int 1)<|zD 1) r=aA (.int ((if decide (x∉kn) then 1 else 0:Nat):Int)):=u8 (x:=.bl<|decide (x∉kn)) (zT (x:=.str x) (y:=aE kn) i1 rfl XB) (by show aA (D.int (if decide (x∉kn) then 1 else 0))=_;cases decide (x∉kn)<;>rfl);refine dP (wH (l:=[.str x]) (zE i1 zO)<|by simp) rfl (jL b) ?_;show aA (D.lst<|dS [D.str x] aB _)=_;rw[QH];simp[aE]
 refine⟨_,?_,?_,W0 (r:=r) (l:=[x].take (if decide (x∉kn) then 1 else 0)) (by unfold kM;exact wT (zp.trans rfl)<|yO e)⟩
 .rw[ck];simp;omega
 .intro y hy
  have:=fv hy
  rw[cb.mp this];exact hx
def PM{x:List Nat}{e:D}{m:Nat}(h:Fr ns n m e):Fr ns (n+1) m (.tup [.str fB,.str x,e]):=λk hk kn hl=>by
 obtain⟨k,rfl⟩:∃j,k=j+1:=⟨k-1,by omega⟩;obtain⟨l,l1,l2,l3⟩:=h k (by omega) (kn++[x]) (by simp;omega)
 let r:En:=[.v<|.tup [.str fB,.str x,e],.v<|aE kn,.un,.un]
 refine⟨l,l1,l2,W0 (r:=r) ?_⟩;unfold kM;refine yS (zp.trans rfl)<|wT (zp.trans rfl)<|yO ?_;exact yG (p:=.v<|aE l) (zE (zr (j:=2) rfl rfl)<|zE (Hf (r:=r) rfl (zr (j:=1) rfl rfl)<|by omega) zO) rfl l3
def PL{l x y:List Nat}{e1 e2 e3:D}{a b c:Nat}(h1:Fr ns n a e1)(h2:Fr ns n b e2)(h3:Fr ns n c e3)(hm:a+b+c<=50000):Fr ns (n+1) (a+b+c) (.tup [.str eQ,e1,.str l,.str x,e2,.str y,e3]):=λk hk kn hl=>by
 obtain⟨k,rfl⟩:∃j,k=j+1:=⟨k-1,by omega⟩;obtain⟨l1,p1,p2,p3⟩:=h1 k (by omega) kn (by omega);obtain⟨l2,q1,q2,q3⟩:=h2 k (by omega) (kn++[x]) (by simp;omega);obtain⟨l3,s1,s2,s3⟩:=h3 k (by omega) (kn++[y]) (by simp;omega)
 let d:D:=.tup [.str eQ,e1,.str l,.str x,e2,.str y,e3]
 let r:En:=[.v d,.v<|aE kn,.un,.un]
 let r2:En:=[.v d,.v<|aE kn,.v<|aE<|l1++l2,.un]
 refine⟨l1++l2++l3,by simp;omega,λz hz=>(bi.mp hz).elim (λhz=>(bi.mp hz).elim (p2 z)<|q2 z)<|s2 z,W0 (r:=r2) ?_⟩;unfold kM;refine yS (zp.trans rfl)<|yS (zp.trans rfl)<|wT (zp.trans rfl)<|yL (aE<|l1++l2) ?_ rfl<|yO ?_
 .exact(mO (l:=l1.map D.str) (m:=l2.map D.str) (r:=r) (yG (p:=.v<|aE l1) (zE (zr (j:=1) rfl rfl)<|zE rfl zO) rfl p3) (yG (p:=.v<|aE l2) (zE (zr (j:=4) rfl rfl)<|zE (Hf (r:=r) rfl (zr (j:=3) rfl rfl)<|by omega) zO) rfl q3) (by simp;omega)).trans (by simp[aE])
 .exact(mO (l:=(l1++l2).map D.str) (m:=l3.map D.str) (r:=r2) rfl (yG (p:=.v<|aE l3) (zE (zr (j:=6) rfl rfl)<|zE (Hf (r:=r2) rfl (zr (j:=5) rfl rfl)<|by omega) zO) rfl s3) (by simp;omega)).trans (by simp[aE])
end
structure Pi where
 x:D
 ws:Ws
 k:Nat
def pd(p:Pi):D:=.tup [p.x,.lst<|p.ws.map D.str,.int (p.k:Nat)]
structure Gd(ns:Nm)(p:Pi)(n:Nat):Prop where
 wk:∀w∈p.ws,Wk w
 len:p.ws.length<=n
 fr:Fr ns (p.k+1) p.ws.length p.x
 tp:eL p.x=true
def Gd.le{ns:Nm}{p:Pi}{n m:Nat}(h:Gd ns p n)(hm:n<=m):Gd ns p m:=⟨h.wk,bf h.len hm,h.fr,h.tp⟩
def l9{p:Pi}{g:ME}{r:En}(e:g r=aA (pd p)):zG aC g (mC<|.int 0) r=aA p.x:=zT e zH rfl
def l8{p:Pi}{g:ME}{r:En}(e:g r=aA (pd p)):zG aC g (mC<|.int 1) r=aA (.lst<|p.ws.map D.str):=zT e zH rfl
def vg{p:Pi}{g:ME}{r:En}(e:g r=aA (pd p)):zG aC g (mC<|.int 2) r=aA (.int (p.k:Nat)):=zT e zH rfl
def Ps.one{ns:Nm}{n a:Nat}{d:D}(h:Fr ns n a d)(ht:eL d=true):Ps ns n [d] a:=.ex (a:=a) (m:=0) h ht .nil
def KU{ns:Nm}{n m:Nat}{x:List Nat}{l:List D}(h:Ps ns n l m):Ps ns n (.str x::l) m:=.at trivial rfl h
def XA(n:Nat):iP (n:Int)=(Nat.toDigits 10 n).map Char.toNat:=by
 unfold iP;have e:toString (n:Int)=n.repr:=rfl;rw[e,Str.ofString_eq_toList];simp[Nat.repr_eq_ofList_toDigits]
def pS(n:Nat):∀c∈iP (n:Int),48<=c/\c<=57:=by
 rw[XA];intro c hc;obtain⟨d,hd,rfl⟩:=jp.mp hc;have q:=Nat.isDigit_of_mem_toDigits (by decide) (by decide) hd;simp only[Char.isDigit,bo,decide_eq_true_eq] at q;exact⟨sf.mp q.1,sf.mp q.2⟩
def WW{n:Nat}(h:n<1000000):(iP (n:Int)).length<=6:=by
 rw[XA,af];exact(Nat.length_toDigits_le_iff (by decide)<|by decide).mpr h
def Mr{n:Nat}(h:n<1000000):zc (.int (n:Int))=aA (.str<|iP (n:Int)):=by
 show(if ((n:Int).natAbs.log2<1920) then aA (D.str<|iP (n:Int)) else aB)=_;refine if_pos ?_;rw[Int.natAbs_natCast];by_cases N9:n=0
 .subst N9;decide
 .exact ba ((Nat.log2_lt N9).mpr<|sx h (by decide:1000000<2 ^ 24)) (by decide)
def Lo{n:Nat}(h:n<1000000):Wk (iP (n:Int)):=⟨bf (WW h)<|by decide,λc hc=>by have:=pS n c hc;omega⟩
def ZI{c n:Int}{ns:Ws}(hn:sY ns):∃p:Pi,Gd ns p 1/\p.k=0/\∃as,vK [.v<|.int c,.v<|.int n,.v<|.lst<|ns.map D.str]=aA (.v<|pd p,as):=by
 let N:D:=.lst<|ns.map D.str
 have c0:aD (zG aQ (zG jM (zD 1)<|mC<|.int 5)<|mC<|.int 0) [.v<|.int c,.v<|.int n,.v N,.un,.un]=aA (decide (n % 5=0)):=kB<|zT (wR rfl zH<|by decide) zH rfl;have c1:aD (zG f_ (zG jM (zD 1)<|mC<|.int 5)<|mC<|.int 3) [.v<|.int c,.v<|.int n,.v N,.un,.un]=aA (decide (n % 5<3)):=kB<|zT (wR rfl zH<|by decide) zH rfl;by_cases h0:n % 5=0
 .refine⟨⟨.tup [.str Ls],[Ls],0⟩,⟨bU ⟨by decide,by decide⟩,by simp,(YF (n:=0) (by decide) (by decide) (by decide) .nil<|by decide).le (by decide)<|by simp,rfl⟩,rfl,qR (r':=[.v<|.int c,.v<|.int n,.v N,.un,.un]) ?_⟩;show j4 [.v<|.int c,.v<|.int n,.v N,.un,.un]=_;unfold j4;exact wT (c0.trans<|by rw[decide_eq_true h0]) (yO<|by rfl)
 .by_cases h1:n % 5<3
  .obtain⟨x,wx,ex⟩:=hn.at<|n / 5;refine⟨⟨.tup [.str iY,.str x],[x],0⟩,⟨bU wx.2,by simp,(Qq wx.1).le (cz _)<|by simp,rfl⟩,rfl,qR (r':=[.v<|.int c,.v<|.int n,.v N,.v<|.str x,.un]) ?_⟩;show j4 [.v<|.int c,.v<|.int n,.v N,.un,.un]=_;unfold j4;refine yS (c0.trans<|by rw[decide_eq_false h0])<|wT (c1.trans<|by rw[decide_eq_true h1]) ?_;refine yL (.str x) (zT (x:=N) (y:=.int<|n / 5 % 6) rfl (wR (jJ rfl zH<|by decide) zH<|by decide) ex) (by rfl) ?_;exact yO (by rfl)
  .obtain⟨k,hk,ek⟩:=uF (c+n) 1000000 (by decide);obtain⟨j,hj,ej⟩:=uF (n / 10) 12 (by decide);have fin:∀m:Nat,m<1000000->(qE<|vD<|zC (vD<|zC (mC<|.str [110,117,109])<|zC (zD 4) zN)<|zC (xI<|yB<|zC (aF zc<|zD 4) zN)<|zC (mC<|.int 0) zN) [.v<|.int c,.v<|.int n,.v N,.un,.v<|.int (m:Int)]=aA (.rt (pd ⟨.tup [.str s_,.int (m:Int)],[iP (m:Int)],0⟩) [.v<|.int c,.v<|.int n,.v N,.un,.v<|.int (m:Int)]):=λm hm=>by
    refine yO<|qZ (l:=[.tup [.str s_,.int (m:Int)],.lst [.str<|iP (m:Int)],.int 0]) ?_ (by show 3<=100;decide);exact zE (qZ (zE zH<|zE rfl zO) (by show 2<=100;decide))<|zE (wH (zE (u8 rfl<|Mr hm) zO) (by show 1<=100;decide))<|zE zH zO
   have go:∀m:Nat,m<1000000->(aJ (aD<|zG aQ (zG jM (zG qX (zD 1)<|mC<|.int 5)<|mC<|.int 2)<|mC<|.int 0) (xF 4<|zG jM (zG qX (zD 1)<|mC<|.int 10)<|mC<|.int 12) yP) [.v<|.int c,.v<|.int n,.v N,.un,.v<|.int (k:Int)]=aA (.nx [.v<|.int c,.v<|.int n,.v N,.un,.v<|.int (m:Int)])->∃p:Pi,Gd ns p 1/\p.k=0/\∃as,vK [.v<|.int c,.v<|.int n,.v N]=aA (.v<|pd p,as):=λm hm hz=>by
    refine⟨⟨.tup [.str s_,.int (m:Int)],[iP (m:Int)],0⟩,⟨bU<|Lo hm,by simp,(YF (n:=0) (by decide) (by decide) (by decide) (Ps.at (d:=.int (m:Int)) trivial rfl .nil)<|by decide).le (ao _)<|by simp,rfl⟩,rfl,qR (r':=[.v<|.int c,.v<|.int n,.v N,.un,.v<|.int (m:Int)]) ?_⟩;show j4 [.v<|.int c,.v<|.int n,.v N,.un,.un]=_;unfold j4;refine yS (c0.trans<|by rw[decide_eq_false h0])<|yS (c1.trans<|by rw[decide_eq_false h1]) ?_;refine yL (r2:=[.v<|.int c,.v<|.int n,.v N,.un,.v<|.int (k:Int)]) (.int (k:Int)) ?_ rfl<|(xA hz).trans<|fin m hm;rw[<-ek];exact wR (qU rfl rfl) (zT zH zH<|by simp[AM]) (by decide)
   have c2:aD (zG aQ (zG jM (zG qX (zD 1)<|mC<|.int 5)<|mC<|.int 2)<|mC<|.int 0) [.v<|.int c,.v<|.int n,.v N,.un,.v<|.int (k:Int)]=aA (decide (n / 5 % 2=0)):=kB<|zT (wR (jJ rfl zH<|by decide) zH<|by decide) zH rfl;by_cases h2:n / 5 % 2=0
   .refine go j (by omega) ?_;rw[o5<|c2.trans<|by rw[decide_eq_true h2],<-ej];exact jI (wR (jJ rfl zH<|by decide) zH<|by decide) rfl
   .refine go k hk ?_;rw[cC<|c2.trans<|by rw[decide_eq_false h2]];rfl
def By:Ws:=[[102,110],[103,101,116],[108,101,115,115],[116,97,103],[119,105,100,101],[110,101,118,101,114]]
def Bz:Ws:=[[100,111],[43],[45],[42],[60],[119,105,116,104],[112,117,116]]
def Ma:(∀w∈By,Wk w)/\∀w∈Bz,Wk w:=⟨λw h=>⟨(by decide:∀w∈By,w.length<=10) w h,(by decide:∀w∈By,∀c∈w,32<=c/\c<128) w h⟩,λw h=>⟨(by decide:∀w∈Bz,w.length<=10) w h,(by decide:∀w∈Bz,∀c∈w,32<=c/\c<128) w h⟩⟩
def mF:(∀w∈By,w≠iY/\w≠eQ)/\∀w∈Bz,w≠iY/\w≠fB/\w≠eQ:=by decide
def ZU{w:List Nat}{l:Ws}(h:Wk w)(hl:∀x∈l,Wk x):∀x∈w::l,Wk x:=λx hx=>(av.mp hx).elim (λz=>z ▸ h)<|hl x
def uW{l m:Ws}(h:∀x∈l,Wk x)(hm:∀x∈m,Wk x):∀x∈l++m,Wk x:=λx hx=>(bi.mp hx).elim (h x)<|hm x
def Vz{n:Int}{ns:Ws}(hn:sY ns){p:Pi}{a:Nat}(hp:Gd ns p a)(ha:a<=5000):∃q:Pi,Gd ns q (a+2)/\q.k=p.k+1/\∃as,o2 [.v<|.int n,.v<|.lst<|ns.map D.str,.v<|pd p]=aA (.v<|pd q,as):=by
 let N:D:=.lst<|ns.map D.str
 obtain⟨w,mw,ew⟩:=El By (i:=n % 6) (dm _<|by decide) (dh _<|by decide);obtain⟨x,wx,ex⟩:=hn.at<|n / 6;have kw:=Ma.1 w mw;have pl:=hp.len
 let R:En:=[.v<|.int n,.v N,.v<|pd p,.v<|.str w,.v<|.str x]
 have s:∀{h:MS} {z},h R=z->yC (xF 3<|zG aC (xI<|yB<|lV By)<|zG jM (zD 0)<|mC<|.int 6) (yC (xF 4<|zG aC (zD 1)<|zG jM (zG qX (zD 0)<|mC<|.int 6)<|mC<|.int 6) h) [.v<|.int n,.v N,.v<|pd p,.un,.un]=z:=λhz=>
  yL (.str w) (zT (YD<|by decide) (wR rfl zH<|by decide) ew) rfl (yL (r2:=R) (.str x) (zT (x:=N) (y:=.int<|n / 6 % 6) rfl (wR (jJ rfl zH<|by decide) zH<|by decide) ex) rfl hz)
 have cc:aD (zG aQ (zD 3)<|mC<|.str [110,101,118,101,114]) R=aA (decide (w=[110,101,118,101,114])):=kB<|zT rfl zH rfl;by_cases c:w=[110,101,118,101,114]
 .refine⟨⟨.tup [.str [110,101,118,101,114],p.x],[[110,101,118,101,114]]++p.ws,p.k+1⟩,⟨uW (bU<|c ▸ kw) hp.wk,by simp only[ae,ac,am];omega,(YF (by decide) (by decide) (by decide) (Ps.one hp.fr hp.tp)<|by omega).le (ao _)<|by simp,rfl⟩,rfl,qR (r':=R) ?_⟩;show uR [.v<|.int n,.v N,.v<|pd p,.un,.un]=_;unfold uR;refine s<|wT (cc.trans<|by rw[decide_eq_true c])<|yO ?_;refine qZ (l:=[.tup [.str [110,101,118,101,114],p.x],.lst<|([[110,101,118,101,114]]++p.ws).map D.str,.int ((p.k+1:Nat):Int)]) ?_ (by show 3<=100;decide);refine zE (qZ (zE zH<|zE (l9 (p:=p) rfl) zO) (by show 2<=100;decide))<|zE ?_<|zE ((qU (vg (p:=p) rfl) zH).trans<|by simp) zO;rw[aw];exact mO (l:=[.str [110,101,118,101,114]]) (wH (zE zH zO) (by show 1<=100;decide)) (l8 (p:=p) rfl) (by simp only[ac,am,af];omega)
 .refine⟨⟨.tup [.str w,.str x,p.x],[w,x]++p.ws,p.k+1⟩,⟨uW (ZU kw<|bU wx.2) hp.wk,by simp only[ae,ac,am];omega,?_,rfl⟩,rfl,qR (r':=R) ?_⟩
  .by_cases hf:w=fB
   .rw[hf];exact(PM hp.fr).le (ao _) (by simp;omega)
   .exact(YF (mF.1 w mw).1 hf (mF.1 w mw).2 (KU<|Ps.one hp.fr hp.tp)<|by omega).le (ao _) (by simp;omega)
  show uR [.v<|.int n,.v N,.v<|pd p,.un,.un]=_;unfold uR;refine s<|yS (cc.trans<|by rw[decide_eq_false c])<|yO ?_;refine qZ (l:=[.tup [.str w,.str x,p.x],.lst<|([w,x]++p.ws).map D.str,.int ((p.k+1:Nat):Int)]) ?_ (by show 3<=100;decide);refine zE (qZ (zE rfl<|zE rfl<|zE (l9 (p:=p) rfl) zO) (by show 3<=100;decide))<|zE ?_<|zE ((qU (vg (p:=p) rfl) zH).trans<|by simp) zO;rw[aw];exact mO (l:=[.str w,.str x]) (wH (zE rfl<|zE rfl zO) (by show 2<=100;decide)) (l8 (p:=p) rfl) (by simp only[ac,am,af];omega)
def XZ{n:Int}{ns:Ws}(hn:sY ns){p p2:Pi}{a b:Nat}(hp:Gd ns p a)(iT:Gd ns p2 b)(ha:a+b<=5000):∃q:Pi,Gd ns q (a+b+2)/\q.k=1+max p.k p2.k/\∃as,cY [.v<|.int n,.v<|.lst<|ns.map D.str,.v<|pd p,.v<|pd p2]=aA (.v<|pd q,as):=by
 let N:D:=.lst<|ns.map D.str
 obtain⟨w,mw,ew⟩:=El Bz (i:=n % 7) (dm _<|by decide) (dh _<|by decide);obtain⟨x,wx,ex⟩:=hn.at<|n / 7;have kw:=Ma.2 w mw;have pl:=hp.len;have vf:=iT.len
 let dp:Nat:=1+max p.k p2.k
 let R:En:=[.v<|.int n,.v N,.v<|pd p,.v<|pd p2,.v<|.str w,.v<|.str x,.v<|.int (dp:Nat)]
 have s:∀{h:MS} {z},h R=z->yC (xF 4<|zG aC (xI<|yB<|lV Bz)<|zG jM (zD 0)<|mC<|.int 7) (yC (xF 5<|zG aC (zD 1)<|zG jM (zG qX (zD 0)<|mC<|.int 7)<|mC<|.int 6)<|yC (xF 6<|zG xC (mC<|.int 1)<|Q2<|zC (zG aC (zD 2)<|mC<|.int 2)<|zC (zG aC (zD 3)<|mC<|.int 2) zN) h) [.v<|.int n,.v N,.v<|pd p,.v<|pd p2,.un,.un,.un]=z:=λhz=>
  yL (.str w) (zT (YD<|by decide) (wR rfl zH<|by decide) ew) rfl (yL (.str x) (zT (x:=N) (y:=.int<|n / 7 % 6) rfl (wR (jJ rfl zH<|by decide) zH<|by decide) ex) rfl<|yL (r2:=R) (.int (dp:Nat)) ((qU zH<|ZG (vg (p:=p) rfl)<|vg (p:=p2) rfl).trans (by congr 2;simp only[dp];omega)) rfl hz)
 have cc:aD (zG f_ (zG jM (zD 0)<|mC<|.int 7)<|mC<|.int 5) R=aA (decide (n % 7<5)):=kB<|zT (wR rfl zH<|by decide) zH rfl;by_cases c:n % 7<5
 .refine⟨⟨.tup [.str w,p.x,p2.x],[w]++p.ws++p2.ws,dp⟩,⟨uW (uW (bU kw) hp.wk) iT.wk,by simp only[ae,ac,am];omega,(YF (mF.2 w mw).1 (mF.2 w mw).2.1 (mF.2 w mw).2.2 (Ps.ex (hp.fr.le (n':=max p.k p2.k+1) (by omega)<|ao _) hp.tp<|Ps.one (iT.fr.le (by omega)<|ao _) iT.tp)<|by omega).le (by simp only[dp];omega)<|by simp,rfl⟩,rfl,qR (r':=R) ?_⟩;show uQ [.v<|.int n,.v N,.v<|pd p,.v<|pd p2,.un,.un,.un]=_;unfold uQ;refine s<|wT (cc.trans<|by rw[decide_eq_true c])<|yO ?_;refine qZ (l:=[.tup [.str w,p.x,p2.x],.lst<|([w]++p.ws++p2.ws).map D.str,.int (dp:Nat)]) ?_ (by show 3<=100;decide);refine zE (qZ (zE rfl<|zE (l9 (p:=p) rfl)<|zE (l9 (p:=p2) rfl) zO) (by show 3<=100;decide))<|zE ?_<|zE rfl zO;rw[aw,aw];exact mO (mO (l:=[.str w]) (wH (zE rfl zO) (by show 1<=100;decide)) (l8 (p:=p) rfl) (by simp only[ac,am,af];omega)) (l8 (p:=p2) rfl) (by simp only[ae,ac,am,af];omega)
 .refine⟨⟨.tup [.str w,.str x,p.x,p2.x],[w,x]++p.ws++p2.ws,dp⟩,⟨uW (uW (ZU kw<|bU wx.2) hp.wk) iT.wk,by simp only[ae,ac,am];omega,(YF (mF.2 w mw).1 (mF.2 w mw).2.1 (mF.2 w mw).2.2 (KU<|Ps.ex (hp.fr.le (n':=max p.k p2.k+1) (by omega)<|ao _) hp.tp<|Ps.one (iT.fr.le (by omega)<|ao _) iT.tp)<|by omega).le (by simp only[dp];omega) (by simp;omega),rfl⟩,rfl,qR (r':=R) ?_⟩;show uQ [.v<|.int n,.v N,.v<|pd p,.v<|pd p2,.un,.un,.un]=_;unfold uQ;refine s<|yS (cc.trans<|by rw[decide_eq_false c])<|yO ?_;refine qZ (l:=[.tup [.str w,.str x,p.x,p2.x],.lst<|([w,x]++p.ws++p2.ws).map D.str,.int (dp:Nat)]) ?_ (by show 3<=100;decide);refine zE (qZ (zE rfl<|zE rfl<|zE (l9 (p:=p) rfl)<|zE (l9 (p:=p2) rfl) zO) (by show 4<=100;decide))<|zE ?_<|zE rfl zO;rw[aw,aw];exact mO (mO (l:=[.str w,.str x]) (wH (zE rfl<|zE rfl zO) (by show 2<=100;decide)) (l8 (p:=p) rfl) (by simp only[ac,am,af];omega)) (l8 (p:=p2) rfl) (by simp only[ae,ac,am,af];omega)
def SR{f g h:ME}{r:En}{i j k:Nat}(e1:f r=aA (.int (i:Nat)))(e2:g r=aA (.int (j:Nat)))(e3:h r=aA (.int (k:Nat))):Q2 (zC f<|zC g<|zC h zN) r=aA (.int ((max i (max j k):Nat):Int)):=by
 unfold Q2;rw[zE e1<|zE e2<|zE e3 zO];show aA (D.int (if (j:Int) > i then (if (k:Int) > j then (k:Int) else j) else (if (k:Int) > i then (k:Int) else i)))=_
 congr 2
 split<;>split<;>omega
noncomputable def Cf:List Nat:=[105,102]
def X1{n:Int}{ns:Ws}(hn:sY ns){p p2 p3:Pi}{a b c:Nat}(hp:Gd ns p a)(iT:Gd ns p2 b)(Db:Gd ns p3 c)(ha:a+b+c<=5000):∃q:Pi,Gd ns q (a+b+c+4)/\q.k=1+max p.k (max p2.k p3.k)/\∃as,gF [.v<|.int n,.v<|.lst<|ns.map D.str,.v<|.lst [pd p,pd p2,pd p3]]=aA (.v<|pd q,as):=by
 let N:D:=.lst<|ns.map D.str
 let L:D:=.lst [pd p,pd p2,pd p3]
 obtain⟨x,wx,ex⟩:=hn.at<|n / 2;obtain⟨y,wy,ey⟩:=hn.at<|n / 12;obtain⟨z,wz,ez⟩:=hn.at<|n / 72;have l1:=hp.len;have l2:=iT.len;have l3:=Db.len
 let m:Nat:=max p.k<|max p2.k p3.k
 have em:=SR (r:=[.v<|.int n,.v N,.v L,.v<|pd p,.v<|pd p2,.v<|pd p3,.un,.un,.un,.un,.un]) (vg (p:=p) (g:=zD 3) rfl) (vg (p:=p2) (g:=zD 4) rfl)<|vg (p:=p3) (g:=zD 5) rfl
 let R:En:=[.v<|.int n,.v N,.v L,.v<|pd p,.v<|pd p2,.v<|pd p3,.v<|.int ((1+m:Nat):Int),.v<|.str x,.v<|.str y,.v<|.str z,.un]
 have s:∀{h:MS} {q},h R=q->yC (FV (zD 2)<|cT 3<|wU (y9 3)<|wU (y9 4)<|wU (y9 5) dU) (yC (xF 6<|zG xC (mC<|.int 1)<|Q2<|zC (zG aC (zD 3)<|mC<|.int 2)<|zC (zG aC (zD 4)<|mC<|.int 2)<|zC (zG aC (zD 5)<|mC<|.int 2) zN)<|yC (xF 7<|zG aC (zD 1)<|zG jM (zG qX (zD 0)<|mC<|.int 2)<|mC<|.int 6)<|yC (xF 8<|zG aC (zD 1)<|zG jM (zG qX (zD 0)<|mC<|.int 12)<|mC<|.int 6)<|yC (xF 9<|zG aC (zD 1)<|zG jM (zG qX (zD 0)<|mC<|.int 72)<|mC<|.int 6) h) [.v<|.int n,.v N,.v L,.un,.un,.un,.un,.un,.un,.un,.un]=q:=λ{h q} e=>by
  rw[xA (r':=[.v<|.int n,.v N,.v L,.v<|pd p,.v<|pd p2,.v<|pd p3,.un,.un,.un,.un,.un])<|by rfl];refine yL (.int ((1+m:Nat):Int)) ((qU zH em).trans rfl) (by rfl) ?_;refine yL (.str x) (zT (x:=N) (y:=.int<|n / 2 % 6) rfl (wR (jJ rfl zH<|by decide) zH<|by decide) ex) (by rfl) ?_;refine yL (.str y) (zT (x:=N) (y:=.int<|n / 12 % 6) rfl (wR (jJ rfl zH<|by decide) zH<|by decide) ey) (by rfl) ?_;refine yL (.str z) (zT (x:=N) (y:=.int<|n / 72 % 6) rfl (wR (jJ rfl zH<|by decide) zH<|by decide) ez) (by rfl) e
 have cc:aD (zG aQ (zG jM (zD 0)<|mC<|.int 2)<|mC<|.int 0) R=aA (decide (n % 2=0)):=kB<|zT (wR rfl zH<|by decide) zH rfl;have len:∀l:Ws,(l.map D.str).length=l.length:=λl=>af ..
 have p1:=hp.fr.le (n':=m+1) (m':=p.ws.length) (by simp only[m];omega)<|ao _;have NI:=iT.fr.le (n':=m+1) (m':=p2.ws.length) (by simp only[m];omega)<|ao _;have NH:=Db.fr.le (n':=m+1) (m':=p3.ws.length) (by simp only[m];omega)<|ao _;by_cases h2:n % 2=0
 .refine⟨⟨.tup [.str Cf,p.x,p2.x,p3.x],[Cf]++p.ws++p2.ws++p3.ws,1+m⟩,⟨uW (uW (uW (bU ⟨by decide,by decide⟩) hp.wk) iT.wk) Db.wk,by simp only[ae,ac,am];omega,(YF (by decide) (by decide) (by decide) (Ps.ex p1 hp.tp<|Ps.ex NI iT.tp<|Ps.one NH Db.tp)<|by omega).le (by show m+1+1<=1+m+1;omega) (by simp only[ae,ac,am];omega),rfl⟩,rfl,qR (r':=R) ?_⟩;show kH [.v<|.int n,.v N,.v L,.un,.un,.un,.un,.un,.un,.un,.un]=_;unfold kH;refine s<|wT (cc.trans<|by rw[decide_eq_true h2])<|yO ?_;refine qZ (l:=[.tup [.str Cf,p.x,p2.x,p3.x],.lst<|([Cf]++p.ws++p2.ws++p3.ws).map D.str,.int ((1+m:Nat):Int)]) ?_ (by show 3<=100;decide);refine zE (qZ (zE zH<|zE (l9 (p:=p) rfl)<|zE (l9 (p:=p2) rfl)<|zE (l9 (p:=p3) rfl) zO) (by show 4<=100;decide))<|zE ?_<|zE rfl zO;rw[aw,aw,aw];exact mO (mO (mO (l:=[.str Cf]) (wH (zE zH zO) (by show 1<=100;decide)) (l8 (p:=p) rfl) (by simp only[ac,am,len];omega)) (l8 (p:=p2) rfl) (by simp only[ae,ac,am,len];omega)) (l8 (p:=p3) rfl) (by simp only[ae,ac,am,len];omega)
 .refine⟨⟨.tup [.str eQ,p.x,.str x,.str y,p2.x,.str z,p3.x],[eQ]++p.ws++[x,y]++p2.ws++[z]++p3.ws,1+m⟩,⟨uW (uW (uW (uW (uW (bU ⟨by decide,by decide⟩) hp.wk)<|ZU wx.2<|bU wy.2) iT.wk)<|bU wz.2) Db.wk,by simp only[ae,ac,am];omega,(PL p1 NI NH<|by omega).le (by show m+1+1<=1+m+1;omega) (by simp only[ae,ac,am];omega),rfl⟩,rfl,qR (r':=R.set 10<|.v<|.tup [.str eQ,p.x,.str x,.str y,p2.x,.str z,p3.x]) ?_⟩;show kH [.v<|.int n,.v N,.v L,.un,.un,.un,.un,.un,.un,.un,.un]=_;unfold kH;refine s<|yS (cc.trans<|by rw[decide_eq_false h2]) ?_;refine yL (.tup [.str eQ,p.x,.str x,.str y,p2.x,.str z,p3.x]) ?_ (by rfl)<|yO ?_
  .exact qZ (zE zH<|zE (l9 (p:=p) rfl)<|zE rfl<|zE rfl<|zE (l9 (p:=p2) rfl)<|zE rfl<|zE (l9 (p:=p3) rfl) zO) (by show 7<=100;decide)
  .refine qZ (l:=[.tup [.str eQ,p.x,.str x,.str y,p2.x,.str z,p3.x],.lst<|([eQ]++p.ws++[x,y]++p2.ws++[z]++p3.ws).map D.str,.int ((1+m:Nat):Int)]) (zE rfl<|zE ?_<|zE rfl zO) (by show 3<=100;decide);rw[aw,aw,aw,aw,aw];exact mO (mO (mO (mO (mO (wH (l:=[.str eQ]) (zE zH zO) (by show 1<=100;decide)) (l8 (p:=p) rfl) (by simp only[ae,ac,am,len];omega)) (wH (zE rfl<|zE rfl zO) (by show 2<=100;decide)) (by simp only[ae,ac,am,len];omega)) (l8 (p:=p2) rfl) (by simp only[ae,ac,am,len];omega)) (wH (zE rfl zO) (by show 1<=100;decide)) (by simp only[ae,ac,am,len];omega)) (l8 (p:=p3) rfl) (by simp only[ae,ac,am,len];omega)
def XH{α:Type}(a b:List α){k:Int}(hk:k=-(b.length:Int))(h0:0<b.length):dS (a++b) (aA k) aB=b/\dS (a++b) aB (aA k)=a:=by
 subst hk;have e:∀d,HT.aO (a++b).length d (aA<|-(b.length:Int))=a.length:=λd=>by
  show(if -(b.length:Int)<0 then (-(b.length:Int)+((a++b).length:Int)).toNat else _)=_;rw[if_pos<|by omega,ae];omega
 constructor
 .unfold dS;rw[e,HT.EH,List.drop_left,ae,Nat.add_sub_cancel_left,List.take_length]
 .unfold dS;rw[e,HT.EH,qm,Nat.sub_zero,List.take_left]
theorem KI:∀(hs:List Pi) (x:Sl),aL x->vQ (y9 0) mS (zG aC (zD 0)<|mC<|.int 2) (hs.map pd) [x]=aA ((hs.map λf=>((f.k:Nat):Int)).map D.int)
 |[],x,_=>rfl
 |f::hs,x,hx=>by
  have ih:=KI hs (.v<|pd f) trivial;rw[bg,bg,bg];have e1:y9 0 (pd f) [x]=aA [.v<|pd f]:=yT (r:=[x]) rfl hx;have e2:zG aC (zD 0) (mC<|.int 2) [.v<|pd f]=aA (.int (f.k:Nat)):=vg (p:=f) rfl;have e3:mS [.v<|pd f]=aA true:=rfl;unfold vQ;rw[e1,aa,e3,aa,if_pos rfl,e2,aa,ih];rfl
theorem L9:∀l:List Int,AV (l.map D.int)=aA l
 |[]=>rfl
 |i::l=>by simp[AV,L9 l]
def QI{gs hs:List Pi}{k:Int}{r:En}(hv:zD 0 r=aA (.lst<|(gs++hs).map pd))(hk : -k=-(hs.length:Int))(h0:0<hs.length)(hl:hs.length<100):∃b,aD (zG f_ (BF<|vY [] 1 (eA<|aT (zD 0) (xL<|aF nX<|mC<|.int k) wG) (y9 0)<|zG aC (zD 0)<|mC<|.int 2)<|mC<|.int 10) r=aA b:=by
 have sl:eA (aT (zD 0) (xL<|aF nX<|mC<|.int k) wG) r=aA (hs.map pd):=by
  have e:aT (zD 0) (xL<|aF nX<|mC<|.int k) wG r=aA (.lst<|hs.map pd):=by
   refine dP hv (jL<|JQ zH) (by rfl) ?_;show aA (D.lst<|dS _ _ _)=_;rw[aw,(XH (gs.map pd) (hs.map pd) (by rw[af];exact hk) (by rw[af];exact h0)).1]
  unfold eA;rw[e];rfl
 have cm:vY [] 1 (eA<|aT (zD 0) (xL<|aF nX<|mC<|.int k) wG) (y9 0) (zG aC (zD 0)<|mC<|.int 2) r=aA ((hs.map λf=>((f.k:Nat):Int)).map D.int):=by
  unfold vY qG;rw[sl,aa,if_pos (by rw[af];exact ba hl<|by decide)];show vQ _ _ _ _ [.un]=_;rw[KI hs .un trivial]
 obtain⟨f,t,rfl⟩:∃f t,hs=f::t:=by
  cases hs with
  |nil=>simp at h0
  |cons f t=>exact⟨f,t,rfl⟩
 have mx:BF (vY [] 1 (eA<|aT (zD 0) (xL<|aF nX<|mC<|.int k) wG) (y9 0)<|zG aC (zD 0)<|mC<|.int 2) r=aA (.int<|(t.map λf=>((f.k:Nat):Int)).foldl max (f.k:Int)):=by
  unfold BF;rw[cm,aa,L9];rfl
 exact⟨_,kB<|zT mx zH (d:=.bl<|decide ((t.map λf=>((f.k:Nat):Int)).foldl max (f.k:Int)<10)) rfl⟩
def KY{c1 c2:MB}{r:En}{a:Bool}(e1:c1 r=aA a)(e2:a=true->∃b,c2 r=aA b):∃b,bF c1 c2 r=aA b/\(b=true->a=true):=by
 cases a
 .exact⟨false,by unfold bF;rw[e1];rfl,λh=>by cases h⟩
 .obtain⟨b,h⟩:=e2 rfl;exact⟨b,by unfold bF;rw[e1,aa,if_pos rfl,h],λ_=>rfl⟩
def Rq{α:Type}(l:List α)(k:Nat)(h:k<=l.length):∃a b,l=a++b/\b.length=k:=⟨l.take<|l.length-k,l.drop<|l.length-k,(my _ _).symm,by rw[cw];omega⟩
def tw(fs:List Pi):Nat:=(fs.map λf=>f.ws.length).sum
def JE(a b:List Pi):tw (a++b)=tw a+tw b:=by simp[tw]
structure iU(ns:Nm)(fs:List Pi)(n m K:Nat):Prop where
 ok:∀f∈fs,Gd ns f f.ws.length
 tw:tw fs<=n
 len:fs.length<=m
 kk:∀f∈fs,f.k<=K
def iU.put{ns:Nm}{gs hs:List Pi}{n m a K:Nat}{q:Pi}(h:iU ns (gs++hs) n m K)(hq:Gd ns q (K06.tw hs+a))(hk:q.k<=K+1):iU ns (gs++[q]) (n+a) (m+1) (K+1):=
 ⟨λf hf=>(bi.mp hf).elim (λz=>h.ok f<|by simp[z]) λz=>by rw[cb.mp z];exact⟨hq.wk,ao _,hq.fr,hq.tp⟩,by
  have:=h.tw
  have:=hq.len
  rw[JE] at *;simp only[K06.tw,bg,ip,jc,mi] at *
  omega,by have:=h.len;rw[ae] at *;simp only[ac,am];omega,
  λf hf=>(bi.mp hf).elim (λz=>Nat.le_succ_of_le<|h.kk f<|by simp[z]) λz=>by rw[cb.mp z];exact hk⟩
def iU.gd{ns:Nm}{fs:List Pi}{n m K:Nat}(h:iU ns fs n m K){f:Pi}(hf:f∈fs):Gd ns f f.ws.length:=h.ok f hf
def WX{c k:Int}{ns:Ws}(hn:sY ns){fs:List Pi}{n0 m0 K:Nat}(hf:iU ns fs n0 m0 K)(h1:n0<=900)(h2:m0<=900):∃qs:List Pi,iU ns qs (n0+4) (m0+1) (K+1)/\qs≠[]/\∃as,uY [.v<|.lst<|fs.map pd,.v<|.int c,.v<|.int k,.v<|.lst<|ns.map D.str]=aA (.v<|.lst<|qs.map pd,as):=by
 let N:D:=.lst<|ns.map D.str
 let P:D:=.lst<|fs.map pd
 obtain⟨n,z1,hm⟩:=vC c<|50+k;obtain⟨m,z2,Dh⟩:=vC c<|250+k
 let R:En:=[.v P,.v<|.int c,.v<|.int k,.v N,.v<|.int n,.v<|.int<|m % 9]
 have hlen:=hf.len;have Į:=hf.tw;have ln:aF kA (zD 0) R=aA (.int (fs.length:Int)):=u8 (x:=P) rfl (by show aA (D.int ((fs.map pd).length:Int))=_;rw[af]);have start:∀{h:MS} {z},h R=z->yC (xF 4<|zW 2 yK<|zC (zD 1)<|zC (zG xC (mC<|.int 50)<|zD 2) zN) (yC (xF 5<|zG jM (zW 2 yK<|zC (zD 1)<|zC (zG xC (mC<|.int 250)<|zD 2) zN)<|mC<|.int 9) h) [.v P,.v<|.int c,.v<|.int k,.v N,.un,.un]=z:=λ{h z} e=>by
  refine yL (.int n) (yG (p:=.v<|.int n) (zE rfl<|zE (qU zH rfl) zO) rfl hm) (by rfl) ?_;exact yL (.int<|m % 9) (wR (yG (p:=.v<|.int m) (zE rfl<|zE (qU zH rfl) zO) rfl Dh) zH<|by decide) (by rfl) e
 have fin:∀(gs hs:List Pi) (q:Pi) (kk:Int) (e:ME),fs=gs++hs->0<hs.length->-kk=-(hs.length:Int)->e R=aA (pd q)->zG xC (aT (zD 0) wG<|xL<|aF nX<|mC<|.int kk) (xI<|yB<|zC e zN) R=aA (.lst<|(gs++[q]).map pd):=λgs hs q kk e e1 e2 e3 e5=>by
  have sl:aT (zD 0) wG (xL<|aF nX<|mC<|.int kk) R=aA (.lst<|gs.map pd):=by
   refine dP (x:=P) rfl (by rfl) (jL<|JQ zH) ?_;show aA (D.lst<|dS (fs.map pd) _ _)=_;rw[e1,aw,(XH (gs.map pd) (hs.map pd) (by rw[af];exact e3) (by rw[af];exact e2)).2]
  rw[aw]
  have:gs.length<=fs.length:=by rw[e1];simp
  exact mO sl (wH (l:=[pd q]) (zE e5 zO) (by show 1<=100;decide)) (by simp only[af,ac,am];omega)
 have last:∀gs f,fs=gs++[f]->zG aC (zD 0) (aF nX<|mC<|.int 1) R=aA (pd f):=λgs f e=>by
  refine zT (x:=P) (y:=.int<|-1) rfl (JQ zH) ?_;show eZ (fs.map pd) (-1)=_;rw[e,aw];exact GY _ _
 have cond:∀(j:Nat) (i:Int) (c3:MB),(j<fs.length->∃b,c3 R=aA b)->∃b,bF (aD<|zG a_ (zD 5)<|mC<|.int i) (bF (aD<|zG a_ (aF kA<|zD 0)<|mC<|.int (j:Int)) c3) R=aA b/\(b=true->j<fs.length):=λj i c3 h3=>by
  have g1:aD (zG a_ (aF kA<|zD 0)<|mC<|.int (j:Int)) R=aA (decide (j<fs.length)):=(oA ln zH).trans (by congr 1;rw[decide_eq_decide];omega);obtain⟨b,e1,e2⟩:=KY g1 (c2:=c3) λz=>h3<|of_decide_eq_true z;obtain⟨b',e3,e4⟩:=KY (c1:=aD<|zG a_ (zD 5)<|mC<|.int i) (r:=R) (oA rfl zH) λ_=>⟨b,e1⟩;refine⟨b',e3,λhb=>?_⟩;have hd:=e4 hb
  have:b=true:=by
   unfold bF at e3 e1;rw[oA (f:=zD 5) (r:=R) rfl zH,hd,aa,if_pos rfl] at e3;rw[e1] at e3;cases e3;exact hb
  exact of_decide_eq_true<|e2 this
 have back:∀(j:Nat),j<fs.length->∃gs hs,fs=gs++hs/\hs.length=j+1:=λj h=>Rq fs (j+1) h
 obtain⟨b1,k1,p1⟩:=cond 2 6 _ λh=>by
  obtain⟨gs,hs,e1,e2⟩:=back 2 h;exact QI (gs:=gs) (hs:=hs) (k:=3) (r:=R) (by rw[<-e1];rfl) (by rw[e2];rfl) (by omega) (by omega)
 cases b1
 rotate_left
 .obtain⟨gs,hs,e,e2⟩:=back 2<|p1 rfl;obtain⟨f1,f2,f3,rfl⟩:∃f1 f2 f3,hs=[f1,f2,f3]:=by
   match hs,e2 with
   |[f1,f2,f3],_=>exact⟨f1,f2,f3,rfl⟩
  have te:tw [f1,f2,f3]=f1.ws.length+f2.ws.length+f3.ws.length:=by simp[tw];omega
  have Ny:tw [f1,f2,f3]<=tw fs:=by rw[e,JE];omega
  obtain⟨q,gq,kq,eq⟩:=X1 (n:=n) hn (hf.gd (f:=f1) (by rw[e];simp)) (hf.gd (f:=f2) (by rw[e];simp)) (hf.gd (f:=f3) (by rw[e];simp)) (by omega);rw[<-te] at gq;refine⟨gs++[q],iU.put (e ▸ hf) gq (by have:=hf.kk f1 (by rw[e];simp);have:=hf.kk f2 (by rw[e];simp);have:=hf.kk f3 (by rw[e];simp);omega),by simp,qR (r':=R)<|start<|wT k1<|yO<|fin gs [f1,f2,f3] q 3 _ e (by simp) rfl ?_⟩;refine yG (p:=.v<|pd q) (zE rfl<|zE rfl<|zE (dP (x:=P) (d:=.lst [pd f1,pd f2,pd f3]) rfl (jL<|JQ zH) (by rfl) ?_) zO) rfl eq;show aA (D.lst<|dS (fs.map pd) _ _)=_;rw[e,aw,(XH (gs.map pd) ([f1,f2,f3].map pd) (k:=-3) rfl<|by simp).1];rfl
 obtain⟨b2,k2,p2⟩:=cond 1 4 _ λh=>by
  obtain⟨gs,hs,e1,e2⟩:=back 1 h;exact QI (gs:=gs) (hs:=hs) (k:=2) (r:=R) (by rw[<-e1];rfl) (by rw[e2];rfl) (by omega) (by omega)
 cases b2
 rotate_left
 .obtain⟨gs,hs,e,e2⟩:=back 1<|p2 rfl;obtain⟨f1,f2,rfl⟩:∃f1 f2,hs=[f1,f2]:=by
   match hs,e2 with
   |[f1,f2],_=>exact⟨f1,f2,rfl⟩
  have te:tw [f1,f2]=f1.ws.length+f2.ws.length:=by simp[tw]
  have Ny:tw [f1,f2]<=tw fs:=by rw[e,JE];omega
  obtain⟨q,gq,kq,eq⟩:=XZ (n:=n) hn (hf.gd (f:=f1) (by rw[e];simp)) (hf.gd (f:=f2) (by rw[e];simp)) (by omega);rw[<-te] at gq;refine⟨gs++[q],iU.put (e ▸ hf) (gq.le<|by omega) (by have:=hf.kk f1 (by rw[e];simp);have:=hf.kk f2 (by rw[e];simp);omega),by simp,qR (r':=R)<|start<|yS k1<|wT k2<|yO<|fin gs [f1,f2] q 2 _ e (by simp) rfl ?_⟩;refine yG (p:=.v<|pd q) (zE rfl<|zE rfl<|zE (x:=pd f1) (zT (x:=P) (y:=.int<|-2) rfl (JQ zH) ?_)<|zE (last (gs++[f1]) f2 (by rw[e];simp)) zO) rfl eq;show eZ (fs.map pd) (-2)=_;rw[e,aw];exact Mk (gs.map pd) [pd f2] (pd f1) rfl
 obtain⟨b3,k3,p3⟩:=cond 0 2 (aD<|zG f_ (zG aC (zG aC (zD 0)<|aF nX<|mC<|.int 1)<|mC<|.int 2)<|mC<|.int 10) λh=>by
  obtain⟨gs,hs,e1,e2⟩:=back 0 h;obtain⟨f1,rfl⟩:∃f1,hs=[f1]:=by
   match hs,e2 with
   |[f1],_=>exact⟨f1,rfl⟩
  exact⟨_,kB<|zT (vg<|last gs f1 e1) zH (d:=.bl<|decide (((f1.k:Nat):Int)<10)) rfl⟩
 cases b3
 rotate_left
 .obtain⟨gs,hs,e,e2⟩:=back 0<|p3 rfl;obtain⟨f1,rfl⟩:∃f1,hs=[f1]:=by
   match hs,e2 with
   |[f1],_=>exact⟨f1,rfl⟩
  have te:tw [f1]=f1.ws.length:=by simp[tw]
  have Ny:tw [f1]<=tw fs:=by rw[e,JE];omega
  obtain⟨q,gq,kq,eq⟩:=Vz (n:=n) hn (hf.gd (f:=f1) (by rw[e];simp)) (by omega);rw[<-te] at gq;refine⟨gs++[q],iU.put (e ▸ hf) (gq.le<|by omega) (by have:=hf.kk f1 (by rw[e];simp);omega),by simp,qR (r':=R)<|start<|yS k1<|yS k2<|wT k3<|yO<|fin gs [f1] q 1 _ e (by simp) rfl ?_⟩;exact yG (p:=.v<|pd q) (zE rfl<|zE rfl<|zE (last gs f1 e) zO) rfl eq
 .obtain⟨q,gq,kq,eq⟩:=ZI (c:=c) (n:=n) hn;refine⟨fs++[q],iU.put (hs:=[]) (a:=4) (by simpa using hf) (gq.le (by show 1<=0+4;decide))<|by omega,by simp,qR (r':=R)<|start<|yS k1<|yS k2<|yS k3<|yO ?_⟩;rw[aw];refine mO (l:=fs.map pd) rfl (wH (l:=[pd q]) (zE (x:=pd q) ?_ zO) (by show 1<=100;decide)) (by simp only[af,ac,am];omega);exact yG (p:=.v<|pd q) (zE rfl<|zE rfl<|zE rfl zO) rfl eq
def Go:MS:=(yC (xF 0<|zG xC (aT (zD 0) (xL<|mC<|.int 2) wG)<|xI<|yB<|zC (zW 4 cY<|zC (zW 2 yK<|zC (zD 1)<|zC (zG xC (mC<|.int 500)<|zD 3) zN)<|zC (zD 2)<|zC (zG aC (zD 0)<|mC<|.int 0)<|zC (zG aC (zD 0)<|mC<|.int 1) zN) zN)
 (xF 3<|zG xC (zD 3)<|mC<|.int 1))
theorem W5{c:Int}{ns:Ws}(hn:sY ns):∀(j:Nat) (fs:List Pi) (n m K:Nat) (k:Int),fs.length=j+1->iU ns fs n m K->n+2*j<=4000->m+j<=4000->∃(q:Pi) (k':Int),Gd ns q (n+2*j)/\q.k<=K+j/\∀w,j7 (j+(w+1)) (aD<|zG a_ (aF kA<|zD 0)<|mC<|.int 1) Go [.v<|.lst<|fs.map pd,.v<|.int c,.v<|.lst<|ns.map D.str,.v<|.int k]=aA (.nx [.v<|.lst [pd q],.v<|.int c,.v<|.lst<|ns.map D.str,.v<|.int k'])
 |0,fs,n,m,K,k,hl,h,_,_=>by
  obtain⟨q,rfl⟩:=ka.mp hl;refine⟨q,k,(h.ok q<|by simp).le (by have:=h.tw;simp[tw] at this;omega),h.kk q<|by simp,λw=>?_⟩;rw[Nat.zero_add];exact mW<|(oA (u8 (x:=.lst [pd q]) rfl rfl) zH).trans rfl
 |j+1,fs,n,m,K,k,hl,h,h1,h2=>by
  obtain⟨f1,f2,t,rfl⟩:∃f1 f2 t,fs=f1::f2::t:=by
   match fs,hl with
   |f1::f2::t,_=>exact⟨f1,f2,t,rfl⟩
  obtain⟨x,z1,hm⟩:=vC c<|500+k;have te:tw (f1::f2::t)=f1.ws.length+f2.ws.length+tw t:=by simp[tw];omega
  have Nx:=h.tw;obtain⟨q,gq,kq,eq⟩:=XZ (n:=x) hn (h.ok f1<|by simp) (h.ok f2<|by simp) (by omega);have hp:iU ns (t++[q]) (n+2) (m+1) (K+1):=iU.put (gs:=t) (hs:=[f1,f2]) (n:=n) (m:=m) ⟨λf hf=>h.ok f (by simp at hf ⊢;rcases hf with z|z|z<;>simp[z]),by rw[JE];rw[te] at Nx;simp[tw] at Nx ⊢;omega,by have:=h.len;simp at this ⊢;omega,λf hf=>h.kk f (by simp at hf ⊢;rcases hf with z|z|z<;>simp[z])⟩ (gq.le<|by simp[tw]) (by have:=h.kk f1 (by simp);have:=h.kk f2 (by simp);omega);obtain⟨q',k',i1,i2,i3⟩:=W5 hn j (t++[q]) (n+2) (m+1) (K+1) (k+1) (by simp at hl ⊢;omega) hp (by omega) (by omega);refine⟨q',k',i1.le<|by omega,by omega,λw=>?_⟩
  let P:D:=.lst<|(f1::f2::t).map pd
  let N:D:=.lst<|ns.map D.str
  let r:En:=[.v P,.v<|.int c,.v N,.v<|.int k]
  have cc:aD (zG a_ (aF kA<|zD 0)<|mC<|.int 1) r=aA true:=(oA (i:=(((f1::f2::t).map pd).length:Nat)) (j:=1) (u8 (x:=P) rfl rfl) zH).trans<|congrArg aA<|decide_eq_true (by simp;omega);have b:Go r=aA (.nx [.v<|.lst<|(t++[q]).map pd,.v<|.int c,.v N,.v<|.int<|k+1]):=by
   unfold Go;refine yL (.lst<|(t++[q]).map pd) ?_ rfl<|jI (qU rfl zH) rfl;rw[aw];refine mO (l:=t.map pd) (dP (x:=P) rfl (jL zH) rfl ?_) (wH (l:=[pd q]) (zE (yG (p:=.v<|pd q) (zE (yG (p:=.v<|.int x) (zE rfl<|zE (qU zH rfl) zO) rfl hm)<|zE rfl<|zE (zT (x:=P) rfl zH<|vI _ _)<|zE (zT (x:=P) rfl zH<|qD (j:=1) rfl) zO) rfl eq) zO) (by show 1<=100;decide)) (by have:=h.len;simp at this ⊢;omega);show aA (D.lst<|dS ((f1::f2::t).map pd) (aA ((2:Nat):Int)) aB)=_;rw[oW];rfl
  rw[show j+1+(w+1)=(j+(w+1))+1 by omega,p9 cc b];exact i3 w
def YH{c:Int}{ns:Ws}(hn:sY ns){fs:List Pi}{n m K:Nat}(h:iU ns fs n m K)(h0:fs≠[])(h1:n+2*m<=3000):∃q:Pi,Gd ns q (n+2*m)/\q.k<=K+m/\∃as,vS [.v<|.lst<|fs.map pd,.v<|.int c,.v<|.lst<|ns.map D.str]=aA (.v<|pd q,as):=by
 have hl:=h.len;obtain⟨j,hj⟩:∃j,fs.length=j+1:=⟨fs.length-1,by have:=gp.mpr h0;omega⟩;obtain⟨q,k',i1,i2,i3⟩:=W5 (c:=c) hn j fs n m K 0 hj h (by omega) (by omega);refine⟨q,i1.le<|by omega,by omega,qR (r':=[.v<|.lst [pd q],.v<|.int c,.v<|.lst<|ns.map D.str,.v<|.int k']) ?_⟩;have i4:=i3<|WF-j-1;rw[show j+(WF-j-1+1)=WF by unfold WF;omega] at i4;show vO [.v<|.lst<|fs.map pd,.v<|.int c,.v<|.lst<|ns.map D.str,.un]=_;unfold vO;exact yL (.int 0) zH rfl<|(xA i4).trans<|yO<|zT (x:=.lst [pd q]) rfl zH<|vI _ _
def JX{n:Nat}(h:n<1000000):∃d,rZ (.str<|iP (n:Int))=aA d:=by
 refine⟨_,if_pos ⟨λz=>?_,bf (WW h)<|by decide,eg.mpr λc hc=>?_⟩⟩
 .have:=congrArg cx z
  rw[XA,af] at this;have p:0<(Nat.toDigits 10 n).length:=gp.mpr<|Nat.toDigits_ne_nil;rw[this] at p;cases p
 .have:=pS n c hc
  simp only[bo,decide_eq_true_eq];exact this
def DM:MS:=(yC (xF 4<|zW 2 yK<|zC (zD 1)<|zC (zG xC (mC<|.int 600)<|zG aC (zD 0)<|mC<|.int 2) zN)
 (yC (xF 5<|zG aC (zD 3)<|zG jM (zD 4)<|aF kA<|zD 3)
 (yC (xF 0<|vD<|zC (vD<|zC (mC<|.str [102,110])<|zC (zD 5)<|zC (zG aC (zD 0)<|mC<|.int 0) zN)<|zC (zG xC (xI<|yB<|zC (mC<|.str [102,110])<|zC (zD 5) zN)<|zG aC (zD 0)<|mC<|.int 1)<|zC (zG xC (zG aC (zD 0)<|mC<|.int 2)<|mC<|.int 1) zN)
 (yC (aJ (aD<|zG a_ (zG jM (zG qX (zD 4)<|mC<|.int 7)<|mC<|.int 3)<|mC<|.int 0)
 (yC (xF 6<|aF zc<|zG jM (zG qX (zD 4)<|mC<|.int 21)<|zG AM (mC<|.int 10)<|mC<|.int 6)
 (xF 0<|vD<|zC (vD<|zC (mC<|.str [100,111])<|zC (zG aC (zD 0)<|mC<|.int 0)<|zC (vD<|zC (mC<|.str [110,117,109])<|zC (aF rZ<|zD 6) zN) zN)<|zC (zG xC (zG xC (xI<|yB<|zC (mC<|.str [100,111]) zN)<|zG aC (zD 0)<|mC<|.int 1)<|xI<|yB<|zC (zD 6) zN)<|zC (zG xC (zG aC (zD 0)<|mC<|.int 2)<|mC<|.int 1) zN))
 yP)
 (xF 3<|xI<|qG [5] 2 (eA<|zD 3) (y9 1) (aD<|zG d_ (zD 1)<|zD 0)<|zD 1)))))
def lP(l:Ws):Prop:=∀w∈l,Wk w
section
variable{c:Int}{kn:D}{p:Pi}{fr:Nm}{a b w:Sl}
def UW(hp:lP p.ws)(hl:p.ws.length<=4000)(Iz:lP fr)(vk:fr.length<=100000)(h0:fr≠[])(ha:aL a)(hb:aL b)(hw:aL w):∃(q:Pi) (x:List Nat) (a' b' w':Sl),x∈fr/\lP q.ws/\q.ws.length<=p.ws.length+4/\aL a'/\aL b'/\aL w'/\DM [.v<|pd p,.v<|.int c,.v kn,.v<|aE fr,a,b,w]=aA (.nx [.v<|pd q,.v<|.int c,.v kn,.v<|aE<|wo x fr,a',b',w']):=by
 obtain⟨n,z1,hm⟩:=vC c<|600+((p.k:Nat):Int);have fl:0<fr.length:=gp.mpr h0;obtain⟨i,hi,ei⟩:=uF n fr.length fl
 let x:=fr[i]
 have hx:x∈fr:=ij hi;obtain⟨j,hj,ej⟩:=uF (n / 21) 1000000 (by decide);obtain⟨dn,Z_⟩:=JX hj
 let p1:Pi:=⟨.tup [.str fB,.str x,p.x],[fB,x]++p.ws,p.k+1⟩
 have w1:lP p1.ws:=uW (ZU ⟨by decide,by decide⟩<|bU<|Iz x hx) hp;have l1:p1.ws.length=p.ws.length+2:=by simp[p1]
 let r1:En:=[.v<|pd p,.v<|.int c,.v kn,.v<|aE fr,.v<|.int n,.v<|.str x,w]
 let r2:En:=[.v<|pd p1,.v<|.int c,.v kn,.v<|aE fr,.v<|.int n,.v<|.str x,w]
 have st:∀{h:MS} {z},h r2=z->(yC (xF 4<|zW 2 yK<|zC (zD 1)<|zC (zG xC (mC<|.int 600)<|zG aC (zD 0)<|mC<|.int 2) zN)
 (yC (xF 5<|zG aC (zD 3)<|zG jM (zD 4)<|aF kA<|zD 3)
 (yC (xF 0<|vD<|zC (vD<|zC (mC<|.str [102,110])<|zC (zD 5)<|zC (zG aC (zD 0)<|mC<|.int 0) zN)<|zC (zG xC (xI<|yB<|zC (mC<|.str [102,110])<|zC (zD 5) zN)<|zG aC (zD 0)<|mC<|.int 1)<|zC (zG xC (zG aC (zD 0)<|mC<|.int 2)<|mC<|.int 1) zN) h))) [.v<|pd p,.v<|.int c,.v kn,.v<|aE fr,a,b,w]=z:=λhz=>by
  refine yL (.int n) (yG (p:=.v<|.int n) (zE rfl<|zE (qU zH<|vg (p:=p) rfl) zO) rfl hm) (yT (x:=a) rfl ha) ?_;refine yL (r2:=r1) (.str x) (zT (x:=aE fr) (y:=.int<|n % (fr.length:Nat)) rfl (wR rfl (u8 (x:=aE fr) rfl (by show aA (D.int ((fr.map D.str).length:Nat))=_;rw[af]))<|by omega) ?_) (yT (x:=b) rfl hb) ?_
  .rw[ei];exact qD (by simp[x,hi])
  .refine yL (pd p1) (qZ (l:=[.tup [.str fB,.str x,p.x],.lst<|([fB,x]++p.ws).map D.str,.int ((p.k+1:Nat):Int)]) ?_ (by show 3<=100;decide)) rfl hz;refine zE (qZ (zE zH<|zE rfl<|zE (l9 (p:=p) rfl) zO) (by show 3<=100;decide))<|zE ?_<|zE ((qU (vg (p:=p) rfl) zH).trans<|by simp) zO;rw[aw];exact mO (l:=[.str fB,.str x]) (wH (zE zH<|zE rfl zO) (by show 2<=100;decide)) (l8 (p:=p) rfl) (by simp only[ac,am,af];omega)
 have lst:∀(q:Pi) (w':Sl),xF 3 (xI<|qG [5] 2 (eA<|zD 3) (y9 1) (aD<|zG d_ (zD 1)<|zD 0)<|zD 1) [.v<|pd q,.v<|.int c,.v kn,.v<|aE fr,.v<|.int n,.v<|.str x,w']=aA (.nx [.v<|pd q,.v<|.int c,.v kn,.v<|aE<|wo x fr,.v<|.int n,.v<|.str x,w']):=λq w'=>by
  refine jI (d:=aE<|wo x fr) (mE ?_) rfl;show(if (fr.map D.str).length<ag then vQ (y9 1) (aD<|zG d_ (zD 1)<|zD 0) (zD 1) (fr.map D.str) [.v<|.str x,.un] else aB)=_;rw[if_pos (by rw[af];exact bj vk<|by decide)];exact GL x fr .un trivial
 have cc:aD (zG a_ (zG jM (zG qX (zD 4)<|mC<|.int 7)<|mC<|.int 3)<|mC<|.int 0) r2=aA (decide (0<n / 7 % 3)):=oA (wR (jJ rfl zH<|by decide) zH<|by decide) zH;by_cases h:0<n / 7 % 3
 .let p2:Pi:=⟨.tup [.str [100,111],p1.x,.tup [.str s_,dn]],[[100,111]]++p1.ws++[iP (j:Int)],p1.k+1⟩
  have w2:lP p2.ws:=uW (uW (bU ⟨by decide,by decide⟩) w1)<|bU<|Lo hj;refine⟨p2,x,.v<|.int n,.v<|.str x,.v<|.str<|iP (j:Int),hx,w2,by simp[p2,p1],trivial,trivial,trivial,?_⟩
  let r3:En:=[.v<|pd p1,.v<|.int c,.v kn,.v<|aE fr,.v<|.int n,.v<|.str x,.v<|.str<|iP (j:Int)]
  unfold DM;refine st<|(xA<|(o5<|cc.trans<|congrArg aA<|decide_eq_true h).trans<|yL (r2:=r3) (.str<|iP (j:Int)) (u8 (x:=.int (j:Int)) ?_<|Mr hj) (yT (x:=w) rfl hw)<|jI (d:=pd p2) (qZ (l:=[.tup [.str [100,111],p1.x,.tup [.str s_,dn]],.lst<|([[100,111]]++p1.ws++[iP (j:Int)]).map D.str,.int ((p1.k+1:Nat):Int)]) ?_ (by show 3<=100;decide)) rfl).trans<|lst p2 _
  .rw[<-ej];exact wR (jJ rfl zH<|by decide) (zT zH zH<|by simp[AM]) (by decide)
  .refine zE (qZ (zE zH<|zE (l9 (p:=p1) rfl)<|zE (qZ (zE zH<|zE (u8 rfl Z_) zO) (by show 2<=100;decide)) zO) (by show 3<=100;decide))<|zE ?_<|zE ((qU (vg (p:=p1) rfl) zH).trans<|by simp) zO;rw[aw,aw];exact mO (mO (l:=[.str [100,111]]) (wH (zE zH zO) (by show 1<=100;decide)) (l8 (p:=p1) rfl) (by simp only[ac,am,af];omega)) (wH (zE rfl zO) (by show 1<=100;decide)) (by simp only[ae,ac,am,af];omega)
 .refine⟨p1,x,.v<|.int n,.v<|.str x,w,hx,w1,by omega,trivial,trivial,hw,?_⟩;unfold DM;exact st<|(xA (r':=r2)<|(cC<|cc.trans<|congrArg aA<|decide_eq_false h).trans rfl).trans<|lst p1 w
end
def EC{x y:List Nat}{l:Nm}:y∈wo x l↔y∈l/\y≠x:=by simp[wo]
def P_{x:List Nat}{l:Nm}(h:x∈l):(wo x l).length<l.length:=by
 unfold wo;exact List.length_filter_lt_length_iff_exists.mpr ⟨x,h,by simp⟩
def Ln(fr:Nm){p c kn a b w:Sl}:aD (zG d_ (zD 3)<|xI<|yB zN) [p,c,kn,.v<|aE fr,a,b,w]=aA (!fr.isEmpty):=by
 refine kB<|zT (x:=aE fr) (y:=.lst []) rfl rfl ?_;show(if (fr.map D.str).all uJ=true/\[].all uJ=true then aA (D.bl<|!zy (fr.map D.str) []) else aB)=_;rw[if_pos ⟨gY fr,rfl⟩];cases fr<;>rfl
theorem ZW{c:Int}{kn:D}:∀(N:Nat) (S fr:Nm) (p:Pi) (a b w:Sl),(∀x∈fr,x∈S)->S.length<=N->lP S->lP p.ws->p.ws.length+4*N<=4000->fr.length<=100000->aL a->aL b->aL w ->
  ∃(q:Pi) (r:En),lP q.ws/\q.ws.length<=p.ws.length+4*N/\∀m,j7 (N+(m+1)) (aD<|zG d_ (zD 3)<|xI<|yB zN) DM [.v<|pd p,.v<|.int c,.v kn,.v<|aE fr,a,b,w]=aA (.nx (.v (pd q)::r))
 |N,S,[],p,a,b,w,_,_,_,hp,_,_,_,_,_=>⟨p,_,hp,by omega,λm=>mW<|Ln []⟩
 |0,S,x::fr,p,a,b,w,hs,hl,_,_,_,_,_,_,_=>by
  have:S=[]:=ii.mp (by omega)
  have:=hs x (by simp)
  simp_all
 |N+1,S,x::fr,p,a,b,w,hs,hl,hS,hp,h4,hf,ha,hb,hw=>by
  obtain⟨q,y,a',b',w',hy,q1,q2,fa,fb,fw,e⟩:=UW (c:=c) (kn:=kn) (fr:=x::fr) hp (by omega) (λz hz=>hS z<|hs z hz) hf (by simp) ha hb hw;have Yd:=hs y hy;have lt:=P_ Yd;have lf:=Eu y (x::fr);obtain⟨q',r,i1,i2,i3⟩:=ZW (c:=c) (kn:=kn) N (wo y S) (wo y (x::fr)) q a' b' w' (λz hz=>EC.mpr ⟨hs z (EC.mp hz).1,(EC.mp hz).2⟩) (by omega) (λz hz=>hS z (EC.mp hz).1) q1 (by omega) (by omega) fa fb fw;refine⟨q',r,i1,by omega,λm=>?_⟩;rw[show N+1+(m+1)=(N+(m+1))+1 by omega,p9 (Ln _) e];exact i3 m
def YL{ns:Ws}(hn:sY ns){c:Int}{p:Pi}{n:Nat}(hp:Gd ns p n)(hk:p.k<140)(hl:n<=3000){kn:Ws}(Ĵ:kn.length<=100):∃q:Pi,lP q.ws/\q.ws.length<=n+24/\∃as,vT [.v<|pd p,.v<|.int c,.v<|aE kn]=aA (.v<|pd q,as):=by
 obtain⟨l,l1,l2,l3⟩:=hp.fr cX (by unfold cX;omega) kn (by unfold cX;omega);have pl:=hp.len;obtain⟨q,r,i1,i2,i3⟩:=ZW (c:=c) (kn:=aE kn) 6 ns l p .un .un .un l2 (by rw[hn.len];decide) hn.wd hp.wk (by omega) (by omega) trivial trivial trivial;have i4:=i3<|WF-7;rw[show 6+(WF-7+1)=WF by decide] at i4;refine⟨q,i1,by omega,qR (r':=.v (pd q)::r) ?_⟩;show vP [.v<|pd p,.v<|.int c,.v<|aE kn,.un,.un,.un,.un]=_;unfold vP;exact yL (aE l) (yG (p:=.v<|aE l) (zE (l9 (p:=p) rfl)<|zE rfl zO) rfl l3) rfl<|(xA i4).trans<|yO rfl
noncomputable def x_(b:List Nat)(t k:Nat):List Nat:=b.take t++(97+k)::b.drop t
noncomputable def AE:List Nat:=[97,98,99,100,101,102,103,104,105,106,107,108,109]
def KW{k:Nat}(h:k<13):aC (.str AE) (.int<|(0:Int)+(k:Nat))=aA (.str [97+k]):=by
 have a:∀j:Nat,j<13->AE[j]?=aA (97+j):=by decide
 show(if AE.length<=ag then (eZ AE<|(0:Int)+(k:Nat)).map λc=>D.str [c] else aB)=_;rw[if_pos<|by decide,show((0:Int)+(k:Nat))=(k:Nat) by lia,qD<|a k h];rfl
def DN:MS:=(sX<|oM 4<|zG xC (zG xC (aT (zD 2) wG<|xL<|zD 3)<|zG aC (mC<|.str [97,98,99,100,101,102,103,104,105,106,107,108,109])<|zD 5)<|aT (zD 2) (xL<|zD 3) wG)
theorem L4{c m:D}{b:List Nat}{t:Nat}(hb:b.length<=20):∀(ks:List Nat) (A:List (List Nat)) (x:Sl),(∀k∈ks,k<13)->A.length+ks.length<=1000->aL x ->
  ∃x',aL x'/\gM (y9 5) DN (ks.map λk=>.int<|(0:Int)+(k:Nat)) [.v c,.v m,.v<|.str b,.v<|.int t,.o<|A.map D.str,x]=aA (.nx [.v c,.v m,.v<|.str b,.v<|.int t,.o<|(A++ks.map (x_ b t)).map D.str,x'])
 |[],A,x,_,_,hx=>⟨x,hx,by simp[gM]⟩
 |k::ks,A,x,h,hl,hx=>by
  rw[ac] at hl;obtain⟨x',q1,q2⟩:=L4 (c:=c) (m:=m) (t:=t) hb ks (A++[x_ b t k]) (.v<|.int<|(0:Int)+(k:Nat)) (λj hj=>h j<|by simp[hj]) (by simp;lia) trivial;refine⟨x',q1,?_⟩;have l1:(b.take t).length<=20:=by rw[ck];lia
  have l2:(b.drop t).length<=20:=by rw[cw];lia
  have bd:DN [.v c,.v m,.v<|.str b,.v<|.int t,.o<|A.map D.str,.v<|.int<|(0:Int)+(k:Nat)]=aA (.nx [.v c,.v m,.v<|.str b,.v<|.int t,.o<|(A++[x_ b t k]).map D.str,.v<|.int<|(0:Int)+(k:Nat)]):=by
   refine ZA (d:=.aG) ?_;have e1:aT (zD 2) wG (xL<|zD 3) [.v c,.v m,.v<|.str b,.v<|.int t,.o<|A.map D.str,.v<|.int<|(0:Int)+(k:Nat)]=aA (.str<|b.take t):=dP (x:=.str b) rfl (by rfl) (by rfl) (by rw[pB<|by lia,QH]);have e2:aT (zD 2) (xL<|zD 3) wG [.v c,.v m,.v<|.str b,.v<|.int t,.o<|A.map D.str,.v<|.int<|(0:Int)+(k:Nat)]=aA (.str<|b.drop t):=dP (x:=.str b) rfl (by rfl) (by rfl) (by rw[pB<|by lia,oW]);have e3:zG aC (mC<|.str [97,98,99,100,101,102,103,104,105,106,107,108,109]) (zD 5) [.v c,.v m,.v<|.str b,.v<|.int t,.o<|A.map D.str,.v<|.int<|(0:Int)+(k:Nat)]=aA (.str [97+k]):=zT (x:=.str AE) zH rfl (KW<|h k<|by simp);have e4:=zT e1 e3<|dB (by show _+1<=_;lia);have e5:=zT e4 e2<|dB (by rw[ae];show _+1+_<=_;lia);rw[YO (S:=A.map D.str) rfl e5 (by rw[af];exact bj (by lia:A.length<=1000)<|by decide),aw];unfold x_;simp
  rw[bg,cN (yT (x:=x) rfl hx) bd,q2];simp
def Ri{b:List Nat}{t k:Nat}(hb:Ty 8 b)(hk:k<13):Wk (x_ b t k):=by
 have l:=hb.len;refine⟨by unfold x_;rw[ae,ac,ck,cw];omega,λc hc=>?_⟩;rcases bi.mp hc with h|h
 .exact hb.sm c<|fv h
 .rcases av.mp h with rfl|h
  .omega
  .exact hb.sm c<|gz h
def YJ(c:Int){n:Nat}(Fe:n<=13):∃ns:Ws,ns.length=n/\lP ns/\∃as,kU [.v<|.int c,.v<|.int<|(n:Int)+1]=aA (.v<|.lst<|(ns++[cP]).map D.str,as):=by
 obtain⟨s,w,e⟩:=gV c;have wl:=w.len
 let b:List Nat:=[113]++dS s aB (aA 6)
 have c6:dS s aB (aA 6)=s.take 6:=QH s 6;have bl:b.length<=7:=by show([113]++dS s aB (aA 6)).length<=7;rw[c6];simp;omega
 have b1:1<=b.length:=by show 1<=([113]++dS s aB (aA 6)).length;simp
 have bw:Ty 8 b:=⟨by omega,λq hq=>(bi.mp hq).elim (λz=>by rw[cb.mp z];decide) λz=>w.sm q<|LV z⟩;have m0:0<=c / 3 % (b.length:Int):=dm _ (by lia);obtain⟨t,ht⟩:=im m0;obtain⟨x',q1,q2⟩:=L4 (c:=.int c) (m:=.int<|(n:Int)+1) (b:=b) (t:=t) (by lia) (db n) [] .un (λk hk=>by have:=jz.mp hk;lia) (by simp;lia) trivial;refine⟨(db n).map<|x_ b t,by simp,λx hx=>?_,qR (r':=[.v<|.int c,.v<|.int<|(n:Int)+1,.v<|.str b,.v<|.int t,.v<|.lst<|((db n).map<|x_ b t).map D.str,x']) ?_⟩
 .obtain⟨k,hk,rfl⟩:=jp.mp hx
  have:=jz.mp hk
  exact Ri bw (by lia)
 .show jQ [.v<|.int c,.v<|.int<|(n:Int)+1,.un,.un,.un,.un]=_;unfold jQ;refine yL (.str b) (zT zH (dP (x:=.str s) (yG (p:=.v<|.str s) (zE rfl zO) rfl e) (by rfl) (by rfl)<|pB<|by lia)<|dB (by rw[c6,ck];show 1+_<=_;lia)) (r2:=[.v<|.int c,.v<|.int<|(n:Int)+1,.v<|.str b,.un,.un,.un]) (by rfl) ?_;have ln:aF kA (zD 2) [.v<|.int c,.v<|.int<|(n:Int)+1,.v<|.str b,.un,.un,.un]=aA (.int (b.length:Int)):=u8 (x:=.str b) rfl (if_pos<|bf bl<|by decide);have md:zG jM (zG qX (zD 0)<|mC<|.int 3) (aF kA<|zD 2) [.v<|.int c,.v<|.int<|(n:Int)+1,.v<|.str b,.un,.un,.un]=aA (.int (t:Int)):=by
   rw[wR (jJ (i:=c) rfl zH<|by decide) ln<|by lia,ht]
  refine yL (.int t) md (r2:=[.v<|.int c,.v<|.int<|(n:Int)+1,.v<|.str b,.v<|.int t,.un,.un]) (by rfl) ?_;rw[xA (r':=[.v<|.int c,.v<|.int<|(n:Int)+1,.v<|.str b,.v<|.int t,.o [],.un])<|by rfl];have sb:zG Z3 (zD 1) (mC<|.int 1) [.v<|.int c,.v<|.int<|(n:Int)+1,.v<|.str b,.v<|.int t,.o [],.un]=aA (.int (n:Int)):=by
   rw[zT (x:=.int<|(n:Int)+1) (y:=.int 1) (d:=.int<|(n:Int)+1-1) rfl zH rfl,Int.add_sub_cancel]
  have fe:dQ (y9 5) (mT<|zG Z3 (zD 1)<|mC<|.int 1) DN [.v<|.int c,.v<|.int<|(n:Int)+1,.v<|.str b,.v<|.int t,.o [],.un]=aA (.nx [.v<|.int c,.v<|.int<|(n:Int)+1,.v<|.str b,.v<|.int t,.o<|((db n).map<|x_ b t).map D.str,x']):=by
   unfold dQ;rw[Er sb<|by lia];exact q2
  unfold DN at fe;rw[xA fe];show qE (zG xC (zD 4)<|xI<|yB<|zC (mC<|.str [109,97,105,110]) zN) [.v<|.int c,.v<|.int<|(n:Int)+1,.v<|.str b,.v<|.int t,.v<|.lst<|((db n).map<|x_ b t).map D.str,x']=_;refine yO ?_;rw[aw];exact mO (m:=[.str cP]) rfl rfl (by simp;lia)
noncomputable def mn(m k:Nat)(l:List (Int×Nat)):List (Int×Nat):=l.filter λp=>decide (p.2 % m=k)
noncomputable def vn(p:Int×Nat):D:=.tup [.int (p.2:Nat),.int p.1]
theorem QJ{m k:Nat}(hm:0<m):∀(l:List (Int×Nat)) (x y:Sl),aL x->aL y->vQ (cT 2<|wU (y9 2)<|wU (y9 3) dU) (aD<|zG aQ (zG jM (zD 2)<|zD 0)<|zD 1) (vD<|zC (zD 2)<|zC (zD 3) zN) (l.map vn) [.v<|.int (m:Int),.v<|.int (k:Int),x,y]=aA ((mn m k l).map vn)
 |[],x,y,_,_=>rfl
 |p::l,x,y,hx,hy=>by
  have ih:=QJ (k:=k) hm l (.v<|.int (p.2:Nat)) (.v<|.int p.1) trivial trivial;have e1:cT 2 (wU (y9 2)<|wU (y9 3) dU) (vn p) [.v<|.int (m:Int),.v<|.int (k:Int),x,y]=aA [.v<|.int (m:Int),.v<|.int (k:Int),.v<|.int (p.2:Nat),.v<|.int p.1]:=by
   show((y9 2 (.int (p.2:Nat)) [.v<|.int (m:Int),.v<|.int (k:Int),x,y]).bind λr1=>(y9 3 (.int p.1) r1).bind λr2=>aA r2)=_;rw[yT (x:=x) rfl hx];show((y9 3 (.int p.1) [.v<|.int (m:Int),.v<|.int (k:Int),.v<|.int (p.2:Nat),y]).bind λr2=>aA r2)=_;rw[yT (x:=y) rfl hy];rfl
  let R:En:=[.v<|.int (m:Int),.v<|.int (k:Int),.v<|.int (p.2:Nat),.v<|.int p.1]
  have e2:aD (zG aQ (zG jM (zD 2)<|zD 0)<|zD 1) R=aA (decide (p.2 % m=k)):=by
   have a:zG jM (zD 2) (zD 0) R=aA (.int<|(p.2:Int) % (m:Int)):=wR rfl rfl (by lia);rw[kB<|zT a (y:=.int (k:Int)) rfl SS]
   congr 1
   rw[decide_eq_decide];lia
  have e3:vD (zC (zD 2)<|zC (zD 3) zN) R=aA (vn p):=qZ (zE rfl<|zE rfl zO) (by show 2<=100;decide);rw[bg];unfold vQ;rw[e1,aa,e2,aa,e3,aa,ih];unfold mn;rw[pj];by_cases h:p.2 % m=k
  .simp[h]
  .simp[h]
def PY(m k:Nat)(l:List (Int×Nat)):(mn m k l).length<=l.length:=kg _ _
def Eg:MS:=(xF 10<|zW 4 uY<|zC (zD 10)<|zC (zD 12)<|zC (zD 11)<|zC (zD 8) zN)
theorem WY{ns:Ws}(hn:sY ns){a0 a1 a2 a3 a4 a5 a6 a7 a9 a13:Sl}:∀(L:List (Int×Nat)) (fs:List Pi) (n m K:Nat) (x y:Sl),iU ns fs n m K->fs≠[]->n+4*L.length<=800->m+L.length<=800->aL x->aL y ->
  ∃(qs:List Pi) (x' y':Sl),iU ns qs (n+4*L.length) (m+L.length) (K+L.length)/\qs≠[]/\aL x'/\aL y' /\
   gM (cT 2<|wU (y9 11)<|wU (y9 12) dU) Eg (L.map vn) [a0,a1,a2,a3,a4,a5,a6,a7,.v<|.lst<|ns.map D.str,a9,.v<|.lst<|fs.map pd,x,y,a13]=aA (.nx [a0,a1,a2,a3,a4,a5,a6,a7,.v<|.lst<|ns.map D.str,a9,.v<|.lst<|qs.map pd,x',y',a13])
 |[],fs,n,m,K,x,y,hf,h0,_,_,hx,hy=>⟨fs,x,y,hf,h0,hx,hy,rfl⟩
 |p::L,fs,n,m,K,x,y,hf,h0,h1,h2,hx,hy=>by
  rw[ac] at h1 h2;obtain⟨gs,g1,g2,as,ge⟩:=WX (c:=p.1) (k:=(p.2:Nat)) hn hf (by omega) (by omega);obtain⟨qs,x',y',q1,q2,q5,q6,q7⟩:=WY hn (a0:=a0) (a1:=a1) (a2:=a2) (a3:=a3) (a4:=a4) (a5:=a5) (a6:=a6) (a7:=a7) (a9:=a9) (a13:=a13) L gs (n+4) (m+1) (K+1) (.v<|.int (p.2:Nat)) (.v<|.int p.1) g1 g2 (by omega) (by omega) trivial trivial;refine⟨qs,x',y',by rw[ac,show n+4*(L.length+1)=n+4+4*L.length by omega,show m+(L.length+1)=m+1+L.length by omega,show K+(L.length+1)=K+1+L.length by omega];exact q1,q2,q5,q6,?_⟩;have e1:cT 2 (wU (y9 11)<|wU (y9 12) dU) (vn p) [a0,a1,a2,a3,a4,a5,a6,a7,.v<|.lst<|ns.map D.str,a9,.v<|.lst<|fs.map pd,x,y,a13]=aA [a0,a1,a2,a3,a4,a5,a6,a7,.v<|.lst<|ns.map D.str,a9,.v<|.lst<|fs.map pd,.v<|.int (p.2:Nat),.v<|.int p.1,a13]:=by
   show((y9 11 (.int (p.2:Nat)) [a0,a1,a2,a3,a4,a5,a6,a7,.v<|.lst<|ns.map D.str,a9,.v<|.lst<|fs.map pd,x,y,a13]).bind λr1=>(y9 12 (.int p.1) r1).bind λr2=>aA r2)=_;rw[yT (x:=x) rfl hx];show((y9 12 (.int p.1) [a0,a1,a2,a3,a4,a5,a6,a7,.v<|.lst<|ns.map D.str,a9,.v<|.lst<|fs.map pd,.v<|.int (p.2:Nat),y,a13]).bind λr2=>aA r2)=_;rw[yT (x:=y) rfl hy];rfl
  have e2:Eg [a0,a1,a2,a3,a4,a5,a6,a7,.v<|.lst<|ns.map D.str,a9,.v<|.lst<|fs.map pd,.v<|.int (p.2:Nat),.v<|.int p.1,a13]=aA (.nx [a0,a1,a2,a3,a4,a5,a6,a7,.v<|.lst<|ns.map D.str,a9,.v<|.lst<|gs.map pd,.v<|.int (p.2:Nat),.v<|.int p.1,a13]):=by
   refine jI (d:=.lst<|gs.map pd) ?_ (by rfl);exact yG (p:=.v<|.lst<|gs.map pd) (zE rfl<|zE rfl<|zE rfl<|zE rfl zO) rfl ⟨as,ge⟩
  rw[bg,cN e1 e2,q7]
noncomputable abbrev Df:=List Nat×Pi
def dd(q:Df):D:=.tup [.str q.1,pd q.2]
def QQ:MS:=(yC (xF 7<|aT (zD 4) (xL<|Q2<|zC (mC<|.int 0)<|zC (zG Z3 (zD 6)<|mC<|.int 2) zN)<|xL<|zG xC (zD 6)<|mC<|.int 1)
 (yC (xF 8<|zG xC (aT (zW 1 jZ<|zC (zW 2 yK<|zC (zD 2)<|zC (zD 6) zN) zN) wG<|xL<|zG Z3 (mC<|.int 6)<|aF kA<|zD 7)<|zD 7)
 (yC (xF 9<|xI<|qG [3,6] 4 (D_<|zD 0) (cT 2<|wU (y9 2)<|wU (y9 3) dU) (aD<|zG aQ (zG jM (zD 2)<|zD 0)<|zD 1)<|vD<|zC (zD 2)<|zC (zD 3) zN)
 (yC (xF 10<|xI<|yB<|zC (zW 3 vK<|zC (zD 2)<|zC (zW 2 yK<|zC (zD 2)<|zC (zG xC (mC<|.int 20)<|zD 6) zN)<|zC (zD 8) zN) zN)
 (yC (dQ (cT 2<|wU (y9 11)<|wU (y9 12) dU) (eA<|zD 9)
 (xF 10<|zW 4 uY<|zC (zD 10)<|zC (zD 12)<|zC (zD 11)<|zC (zD 8) zN))
 (yC (xF 13<|zW 3 vT<|zC (zW 3 vS<|zC (zD 10)<|zC (zD 2)<|zC (zD 8) zN)<|zC (zD 2)<|zC (aT (zD 4) wG<|xL<|zG xC (zD 6)<|mC<|.int 1) zN)
 (sX<|oM 5<|vD<|zC (zG aC (zD 4)<|zD 6)<|zC (zD 13) zN)))))))
def Z6{l:List D}{lo hi:Option Int}:ze (.lst l) lo hi=aA (.lst<|dS l lo hi):=rfl
def Md(l:List (List Nat))(i k:Nat):((l.map D.str).take k).drop i=((l.take k).drop i).map D.str:=by rw[nt,lj]
def Pc(k:Nat):max (0:Int) ((k:Int)-2)=((k-2:Nat):Int):=by lia
def Bt(cs:List Int)(f s:Int)(m:Nat)(cl:List (List Nat))(L:List D)(r:List Sl):En:=[.v<|.lst<|cs.map D.int,.v<|.int f,.v<|.int s,.v<|.int (m:Int),.v<|.lst<|cl.map D.str,.o L]++r
def SV{cl:Ws}(h:lP cl){k:Nat}(kc:k<cl.length):Wk (cl.getD k []):=by
 have e:cl.getD k []=cl[k]:=by simp[kc]
 rw[e];exact h _<|ij kc
def SY{cs:List Int}{f s:Int}{m:Nat}{cl:Ws}{L:List D}{k:Nat}(hk:k<m)(hm:m<7)(Bi:cl.length=m)(aP:lP cl)(lM:cs.length<=60)(hL:L.length<=100){b7 b8 b9 iA fS fM eY:Sl}(h7:aL b7)(h8:aL b8)(h9:aL b9)(B3:aL iA)(IN:aL fS)(sU:aL fM)(Fe:aL eY):∃(q:Df) (c7 c8 c9 Ft Fs Fq Fp:Sl),(Wk q.1/\lP q.2.ws/\q.2.ws.length<=500)/\(aL c7/\aL c8/\aL c9/\aL Ft/\aL Fs/\aL Fq/\aL Fp) /\
   QQ (Bt cs f s m cl L [.v<|.int<|(0:Int)+(k:Nat),b7,b8,b9,iA,fS,fM,eY])=aA (.nx<|Bt cs f s m cl (L++[dd q]) [.v<|.int<|(0:Int)+(k:Nat),c7,c8,c9,Ft,Fs,Fq,Fp]):=by
 have k0:((0:Int)+(k:Nat))=(k:Int):=by lia
 rw[k0]
 let ab:List (List Nat):=(cl.take<|k+1).drop<|k-2
 have ľ:ab.length<=3:=by show((cl.take<|k+1).drop<|k-2).length<=3;rw[cw,ck];lia
 have AE:∀x∈ab,x∈cl:=λx hx=>fv<|gz hx
 obtain⟨mx,Ĩ,Dg⟩:=vC s (k:Int);obtain⟨nl,⟨ħ,Wu⟩,Yw⟩:=pP mx
 let ns:List (List Nat):=nl.take (6-ab.length)++ab
 have hn:sY ns:=⟨by show(nl.take (6-ab.length)++ab).length=6;rw[ae,ck];lia,λx hx=>by
  rcases bi.mp hx with h|h
  .exact Wu x (fv h)
  .exact aP x<|AE x h⟩
 let C:D:=.lst<|cs.map D.int
 let S0:List Sl:=[.v C,.v<|.int f,.v<|.int s,.v<|.int (m:Int),.v<|.lst<|cl.map D.str,.o L]
 let A_:=mn m k cs.zipIdx
 have ĩ:A_.length<=60:=bf (PY m k _) (by rw[List.length_zipIdx];exact lM);obtain⟨m2,_,Dh⟩:=vC s<|20+(k:Int);obtain⟨lf,f1,f2,Zc⟩:=ZI (c:=s) (n:=m2) hn;have pk:iU ns [lf] 1 1 0:=⟨λz hz=>by rw[cb.mp hz];exact⟨f1.wk,ao _,f1.fr,f1.tp⟩,by have:=f1.len;simpa [tw] using this,by simp,λz hz=>by rw[cb.mp hz,f2];exact ao _⟩;obtain⟨qs,x',y',q1,q2,q5,q6,q7⟩:=WY hn (a0:=.v C) (a1:=.v<|.int f) (a2:=.v<|.int s) (a3:=.v<|.int (m:Int)) (a4:=.v<|.lst<|cl.map D.str) (a5:=.o L) (a6:=.v<|.int (k:Int)) (a7:=.v<|.lst<|ab.map D.str) (a9:=.v<|.lst<|A_.map vn) (a13:=eY) A_ [lf] 1 1 0 fS fM pk (by simp) (by omega) (by omega) IN sU;obtain⟨fo,Ò,ĺ,Zs⟩:=YH (c:=s) hn q1 q2 (by omega);obtain⟨g,g1,g2,hg⟩:=YL (kn:=cl.take<|k+1) hn (c:=s) Ò (by omega) (by omega) (by rw[ck];omega);have kc:k<cl.length:=by omega
 refine⟨(cl.getD k [],g),.v<|.lst<|ab.map D.str,.v<|.lst<|ns.map D.str,.v<|.lst<|A_.map vn,.v<|.lst<|qs.map pd,x',y',.v<|pd g,⟨SV aP kc,g1,by show g.ws.length<=500;omega⟩,⟨trivial,trivial,trivial,trivial,q5,q6,trivial⟩,?_⟩
 let Z:List Sl->En:=λr=>.v C::.v (.int f)::.v (.int s)::.v (.int (m:Int))::.v (.lst<|cl.map D.str)::.o L::.v (.int (k:Int))::r
 let Z':List Sl->En:=λr=>.v C::.v (.int f)::.v (.int s)::.v (.int (m:Int))::.v (.lst<|cl.map D.str)::.o (L++[dd (cl.getD k [],g)])::.v (.int (k:Int))::r
 let A7:Sl:=.v<|.lst<|ab.map D.str
 let A8:Sl:=.v<|.lst<|ns.map D.str
 let A9:Sl:=.v<|.lst<|A_.map vn
 let Bu:Sl:=.v<|.lst<|qs.map pd
 show QQ (Z [b7,b8,b9,iA,fS,fM,eY])=aA (.nx<|Z' [A7,A8,A9,Bu,x',y',.v<|pd g]);unfold QQ;have e7:aT (zD 4) (xL<|Q2<|zC (mC<|.int 0)<|zC (zG Z3 (zD 6)<|mC<|.int 2) zN) (xL<|zG xC (zD 6)<|mC<|.int 1) (Z [b7,b8,b9,iA,fS,fM,eY])=aA (.lst<|ab.map D.str):=by
  have a1:Q2 (zC (mC<|.int 0)<|zC (zG Z3 (zD 6)<|mC<|.int 2) zN) (Z [b7,b8,b9,iA,fS,fM,eY])=aA (.int ((k-2:Nat):Int)):=by
   rw[ZG (i:=0) (j:=(k:Int)-2) zH<|zT (x:=.int (k:Int)) rfl zH rfl,Pc]
  have a2:zG xC (zD 6) (mC<|.int 1) (Z [b7,b8,b9,iA,fS,fM,eY])=aA (.int ((k+1:Nat):Int)):=by
   rw[qU (i:=(k:Int)) rfl zH];rfl
  refine dP (x:=.lst<|cl.map D.str) rfl (jL a1) (jL a2) ?_;rw[Z6,GO,Md]
 refine yL (.lst<|ab.map D.str) e7 (yT (x:=b7) rfl h7) ?_;show yC _ _ (Z [A7,b8,b9,iA,fS,fM,eY])=_;have e8:zG xC (aT (zW 1 jZ<|zC (zW 2 yK<|zC (zD 2)<|zC (zD 6) zN) zN) wG<|xL<|zG Z3 (mC<|.int 6)<|aF kA<|zD 7) (zD 7) (Z [A7,b8,b9,iA,fS,fM,eY])=aA (.lst<|ns.map D.str):=by
  have a1:zW 1 jZ (zC (zW 2 yK<|zC (zD 2)<|zC (zD 6) zN) zN) (Z [A7,b8,b9,iA,fS,fM,eY])=aA (.lst<|nl.map D.str):=yG (p:=.v<|.lst<|nl.map D.str) (zE (yG (p:=.v<|.int mx) (zE rfl<|zE rfl zO) rfl Dg) zO) rfl Yw;have a2:zG Z3 (mC<|.int 6) (aF kA<|zD 7) (Z [A7,b8,b9,iA,fS,fM,eY])=aA (.int ((6-ab.length:Nat):Int)):=by
   rw[zT (x:=.int 6) (y:=.int ((ab.map D.str).length:Int)) (d:=.int<|6-((ab.map D.str).length:Int)) zH (u8 (x:=.lst<|ab.map D.str) rfl rfl) rfl,af,show(6:Int)-(ab.length:Int)=((6-ab.length:Nat):Int) by lia]
  have a3:=dP (lo:=wG) (a:=aB) a1 rfl (jL a2) Z6;rw[QH,<-lj] at a3;have a4:=mO (g:=zD 7) (m:=ab.map D.str) a3 rfl (by simp;lia);rw[a4,<-aw]
 refine yL (.lst<|ns.map D.str) e8 (yT (x:=b8) rfl h8) ?_;show yC _ _ (Z [A7,A8,b9,iA,fS,fM,eY])=_;have en:W8 (cs.map D.int)=cs.zipIdx.map vn:=by
  unfold W8;rw[List.zipIdx_map,ia];rfl
 have e9:xI (qG [3,6] 4 (D_<|zD 0) (cT 2<|wU (y9 2)<|wU (y9 3) dU) (aD<|zG aQ (zG jM (zD 2)<|zD 0)<|zD 1)<|vD<|zC (zD 2)<|zC (zD 3) zN) (Z [A7,A8,b9,iA,fS,fM,eY])=aA (.lst<|A_.map vn):=by
  unfold xI qG;show((if (W8<|cs.map D.int).length<ag then vQ _ _ _ (W8<|cs.map D.int) [.v<|.int (m:Int),.v<|.int (k:Int),.un,.un] else aB).map D.lst)=_;rw[if_pos (by unfold W8;simp only[af,List.length_zipIdx];exact bj lM<|by decide),en,QJ (by lia) _ .un .un trivial trivial];rfl
 refine yL (.lst<|A_.map vn) e9 (yT (x:=b9) rfl h9) ?_;show yC _ _ (Z [A7,A8,A9,iA,fS,fM,eY])=_;have IV:xI (yB<|zC (zW 3 vK<|zC (zD 2)<|zC (zW 2 yK<|zC (zD 2)<|zC (zG xC (mC<|.int 20)<|zD 6) zN)<|zC (zD 8) zN) zN) (Z [A7,A8,A9,iA,fS,fM,eY])=aA (.lst<|[lf].map pd):=
  wH (zE (yG (p:=.v<|pd lf) (zE rfl<|zE (yG (p:=.v<|.int m2) (zE rfl<|zE (qU zH rfl) zO) rfl Dh)<|zE rfl zO) rfl Zc) zO) (by show 1<=100;decide)
 refine yL (.lst<|[lf].map pd) IV (yT (x:=iA) rfl B3) ?_;show yC _ _ (Z [A7,A8,A9,.v<|.lst<|[lf].map pd,fS,fM,eY])=_;have fe:dQ (cT 2<|wU (y9 11)<|wU (y9 12) dU) (eA<|zD 9) Eg (Z [A7,A8,A9,.v<|.lst<|[lf].map pd,fS,fM,eY])=aA (.nx<|Z [A7,A8,A9,Bu,x',y',eY]):=by
  unfold dQ;exact q7
 unfold Eg at fe;rw[xA fe];have Ü:zW 3 vT (zC (zW 3 vS<|zC (zD 10)<|zC (zD 2)<|zC (zD 8) zN)<|zC (zD 2)<|zC (aT (zD 4) wG<|xL<|zG xC (zD 6)<|mC<|.int 1) zN) (Z [A7,A8,A9,Bu,x',y',eY])=aA (pd g):=by
  have a2:zG xC (zD 6) (mC<|.int 1) (Z [A7,A8,A9,Bu,x',y',eY])=aA (.int ((k+1:Nat):Int)):=by
   rw[qU (i:=(k:Int)) rfl zH];rfl
  have a3:=dP (f:=zD 4) (lo:=wG) (a:=aB) (x:=.lst<|cl.map D.str) rfl rfl (jL a2) Z6;rw[QH,<-lj] at a3;exact yG (p:=.v<|pd g) (zE (yG (p:=.v<|pd fo) (zE rfl<|zE rfl<|zE rfl zO) rfl Zs)<|zE rfl<|zE a3 zO) rfl hg
 refine yL (pd g) Ü (yT (x:=eY) rfl Fe) ?_;show sX _ (Z [A7,A8,A9,Bu,x',y',.v<|pd g])=_;have e6:zG aC (zD 4) (zD 6) (Z [A7,A8,A9,Bu,x',y',.v<|pd g])=aA (.str<|cl.getD k []):=
  zT (x:=.lst<|cl.map D.str) (y:=.int (k:Int)) rfl rfl (qD<|by simp[kc])
 have e5:vD (zC (zG aC (zD 4)<|zD 6)<|zC (zD 13) zN) (Z [A7,A8,A9,Bu,x',y',.v<|pd g])=aA (dd (cl.getD k [],g)):=qZ (zE e6<|zE rfl zO) (by show 2<=100;decide);exact ZA (d:=.aG) (YO (S:=L) rfl e5<|bj hL<|by decide)
def FE(q:Df):Prop:=Wk q.1/\lP q.2.ws/\q.2.ws.length<=500
theorem QC{cs:List Int}{f s:Int}{m:Nat}{cl:Ws}(hm:m<7)(Bi:cl.length=m)(aP:lP cl)(lM:cs.length<=60):∀(n k:Nat) (Ds:List Df) (b6 b7 b8 b9 iA fS fM eY:Sl),k+n=m->Ds.length=k->(∀q∈Ds,FE q)->aL b6->aL b7->aL b8->aL b9->aL iA->aL fS->aL fM->aL eY ->
  ∃(Es:List Df) (r:List Sl),Es.length=m/\(∀q∈Es,FE q)/\gM (y9 6) QQ ((jx k n).map λj=>.int<|(0:Int)+(j:Nat)) (Bt cs f s m cl (Ds.map dd) [b6,b7,b8,b9,iA,fS,fM,eY])=aA (.nx<|Bt cs f s m cl (Es.map dd) r)
 |0,k,Ds,b6,b7,b8,b9,iA,fS,fM,eY,h,hl,ha,_,_,_,_,_,_,_,_=>⟨Ds,_,by lia,ha,rfl⟩
 |n+1,k,Ds,b6,b7,b8,b9,iA,fS,fM,eY,h,hl,ha,h6,h7,h8,h9,B3,IN,sU,Fe=>by
  obtain⟨q,c7,c8,c9,Ft,Fs,Fq,Fp,q1,⟨d7,d8,d9,ä,ã,â,á⟩,e⟩:=SY (cs:=cs) (f:=f) (s:=s) (L:=Ds.map dd) (k:=k) (by lia) hm Bi aP lM (by rw[af];lia) h7 h8 h9 B3 IN sU Fe;obtain⟨Es,r,e1,e2,e3⟩:=QC (f:=f) (s:=s) hm Bi aP lM n (k+1) (Ds++[q]) (.v<|.int<|(0:Int)+(k:Nat)) c7 c8 c9 Ft Fs Fq Fp (by lia) (by simp;lia) (λp hp=>(bi.mp hp).elim (ha p) λz=>by rw[cb.mp z];exact q1) trivial d7 d8 d9 ä ã â á;refine⟨Es,r,e1,e2,?_⟩;have e0:y9 6 (.int<|(0:Int)+(k:Nat)) (Bt cs f s m cl (Ds.map dd) [b6,b7,b8,b9,iA,fS,fM,eY])=aA (Bt cs f s m cl (Ds.map dd) [.v<|.int<|(0:Int)+(k:Nat),b7,b8,b9,iA,fS,fM,eY]):=yT (x:=b6) rfl h6;rw[List.range'_succ,bg,cN e0 e];rw[aw] at e3;exact e3
def J5{cs:List Int}{f s:Int}(lM:cs.length<=60):∃Ds:List Df,(∀q∈Ds,FE q)/\1<=Ds.length/\Ds.length<=7/\∃as,uN [.v<|.lst<|cs.map D.int,.v<|.int f,.v<|.int s]=aA (.f<|Ds.map dd,as):=by
 have f5:0<=f % 5:=dm _ (by decide);have Ļ:f % 5<5:=dh _ (by decide);have f4:0<=f / 5 % 4:=dm _ (by decide);have Ľ:f / 5 % 4<4:=dh _ (by decide)
 let M:Int:=max ((cs.length:Int)-1)<|f % 5
 have M0:0<=M:=tq f5<|Int.le_max_right _ _;have M1:(cs.length:Int)-1<=M:=Int.le_max_left _ _;have M2:M<=59:=Int.max_le.mpr ⟨by lia,by lia⟩;obtain⟨n,hn⟩:=im (a:=M / 26+f / 5 % 4) (by lia);have n6:n<6:=by lia
 obtain⟨ns,nl,Wm,sT⟩:=YJ s (n:=n) (by lia);have mo:Wk cP:=⟨by decide,by decide⟩;obtain⟨Es,r,e1,e2,e3⟩:=QC (cs:=cs) (f:=f) (s:=s) (m:=n+1) (cl:=ns++[cP]) (by lia) (by simp[nl]) (uW Wm<|bU mo) lM (n+1) 0 [] .un .un .un .un .un .un .un .un (by lia) rfl (λq h=>by cases h) trivial trivial trivial trivial trivial trivial trivial trivial;refine⟨Es,e2,by lia,by lia,?_⟩
 let C:D:=.lst<|cs.map D.int
 unfold uN aY;show ∃as,(bL [.v C,.v<|.int f,.v<|.int s,.un,.un,.un,.un,.un,.un,.un,.un,.un,.un,.un]).bind _=_;unfold bL;have a1:zG xC (zG xC (mC<|.int 1)<|zG qX (Q2<|zC (zG Z3 (aF kA<|zD 0)<|mC<|.int 1)<|zC (zG jM (zD 1)<|mC<|.int 5) zN)<|mC<|.int 26) (zG jM (zG qX (zD 1)<|mC<|.int 5)<|mC<|.int 4) [.v C,.v<|.int f,.v<|.int s,.un,.un,.un,.un,.un,.un,.un,.un,.un,.un,.un]=aA (.int ((n+1:Nat):Int)):=by
  have b1:Q2 (zC (zG Z3 (aF kA<|zD 0)<|mC<|.int 1)<|zC (zG jM (zD 1)<|mC<|.int 5) zN) [.v C,.v<|.int f,.v<|.int s,.un,.un,.un,.un,.un,.un,.un,.un,.un,.un,.un]=aA (.int M):=by
   have b2:zG Z3 (aF kA<|zD 0) (mC<|.int 1) [.v C,.v<|.int f,.v<|.int s,.un,.un,.un,.un,.un,.un,.un,.un,.un,.un,.un]=aA (.int<|((cs.map D.int).length:Int)-1):=zT (x:=.int ((cs.map D.int).length:Int)) (u8 (x:=C) rfl rfl) zH rfl;have b3:zG jM (zD 1) (mC<|.int 5) [.v C,.v<|.int f,.v<|.int s,.un,.un,.un,.un,.un,.un,.un,.un,.un,.un,.un]=aA (.int<|f % 5):=wR rfl zH (by decide);rw[ZG b2 b3,af]
  rw[qU (qU zH<|jJ b1 zH<|by decide)<|wR (jJ (i:=f) rfl zH<|by decide) zH<|by decide,show 1+M / 26+f / 5 % 4=((n+1:Nat):Int) by lia]
 rw[xA (r':=[.v C,.v<|.int f,.v<|.int s,.v<|.int ((n+1:Nat):Int),.un,.un,.un,.un,.un,.un,.un,.un,.un,.un])<|jI a1<|by rfl];have a2:zW 2 kU (zC (zD 2)<|zC (zD 3) zN) [.v C,.v<|.int f,.v<|.int s,.v<|.int ((n+1:Nat):Int),.un,.un,.un,.un,.un,.un,.un,.un,.un,.un]=aA (.lst<|(ns++[cP]).map D.str):=yG (p:=.v<|.lst<|(ns++[cP]).map D.str) (zE rfl<|zE rfl zO) rfl sT;rw[xA (r':=[.v C,.v<|.int f,.v<|.int s,.v<|.int ((n+1:Nat):Int),.v<|.lst<|(ns++[cP]).map D.str,.un,.un,.un,.un,.un,.un,.un,.un,.un])<|jI a2<|by rfl];rw[xA (r':=[.v C,.v<|.int f,.v<|.int s,.v<|.int ((n+1:Nat):Int),.v<|.lst<|(ns++[cP]).map D.str,.o [],.un,.un,.un,.un,.un,.un,.un,.un])<|by rfl];have rg:mT (zD 3) [.v C,.v<|.int f,.v<|.int s,.v<|.int ((n+1:Nat):Int),.v<|.lst<|(ns++[cP]).map D.str,.o [],.un,.un,.un,.un,.un,.un,.un,.un]=aA ((db<|n+1).map λk=>.int<|(0:Int)+(k:Nat)):=Er rfl (by lia);have fe:dQ (y9 6) (mT<|zD 3) QQ [.v C,.v<|.int f,.v<|.int s,.v<|.int ((n+1:Nat):Int),.v<|.lst<|(ns++[cP]).map D.str,.o [],.un,.un,.un,.un,.un,.un,.un,.un]=aA (.nx<|Bt cs f s (n+1) (ns++[cP]) (Es.map dd) r):=by
  unfold dQ;rw[rg,List.range_eq_range'];exact e3
 unfold QQ at fe;rw[xA fe];exact⟨_,rfl⟩
def GU{f:ME}{fl:ML}{r:En}{sep:List Nat}{l:List (List Nat)}(e1:f r=aA (.str sep))(e2:fl r=aA (l.map D.str))(h:(l.map cx).sum+l.length*sep.length<=16777216):WS f fl r=aA (.str<|wS sep l):=by
 unfold WS;rw[e1,aa];show((fl r).bind λl=>(X2 l).bind λss=>if (ss.map cx).sum+ss.length*sep.length<=16777216 then aA (D.str<|wS sep ss) else aB)=_;rw[e2,aa,G7,aa,if_pos h]
def ë{a b:D}{x y:Sl}(hx:aL x)(hy:aL y):cT 2 (wU (y9 0)<|wU (y9 1) dU) (.tup [a,b]) [x,y]=aA [.v a,.v b]:=by
 show((y9 0 a [x,y]).bind λr1=>(y9 1 b r1).bind λr2=>aA r2)=_;rw[yT (x:=x) rfl hx];show((y9 1 b [.v a,y]).bind λr2=>aA r2)=_;rw[yT (x:=y) rfl hy];rfl
theorem Ke{α:Type}{g:ME}{a b u:α->D}:∀(l:List α) (x y:Sl),aL x->aL y->(∀q∈l,g [.v<|a q,.v<|b q]=aA (u q))->vQ (cT 2<|wU (y9 0)<|wU (y9 1) dU) mS g (l.map λq=>.tup [a q,b q]) [x,y]=aA (l.map u)
 |[],_,_,_,_,_=>rfl
 |q::l,x,y,hx,hy,h=>by
  have ih:=Ke (g:=g) (a:=a) (b:=b) (u:=u) l (.v<|a q) (.v<|b q) trivial trivial λz hz=>h z (by simp[hz])
  rw[bg];unfold vQ;have e3:mS [.v<|a q,.v<|b q]=aA true:=rfl;rw[ë hx hy,aa,e3,aa,if_pos rfl,h q<|by simp,aa,ih];rfl
def MW{α:Type}{it:ML}{g:ME}{r:En}{l:List α}{a b u:α->D}(e:it r=aA (l.map λq=>.tup [a q,b q]))(hl:l.length<=1000)(h:∀q∈l,g [.v<|a q,.v<|b q]=aA (u q)):vY [] 2 it (cT 2<|wU (y9 0)<|wU (y9 1) dU) g r=aA (l.map u):=by
 unfold vY qG;rw[e,aa];rw[if_pos (by rw[af];exact bj hl<|by decide)];exact Ke l .un .un trivial trivial h
def G0(ns:List Int)(k:Nat):∃i:Int,∃as,uO [.v<|.lst<|ns.map D.int,.v<|.int (k:Int)]=aA (.v<|.int i,as):=by
 have c:aD (zG f_ (zD 1)<|aF kA<|zD 0) [.v<|.lst<|ns.map D.int,.v<|.int (k:Int)]=aA (decide ((k:Int)<(ns.length:Int))):=by
  rw[kB (b:=decide ((k:Int)<((ns.map D.int).length:Int)))<|zT (x:=.int (k:Int)) (y:=.int ((ns.map D.int).length:Int)) rfl (u8 (x:=.lst<|ns.map D.int) rfl rfl) rfl,af]
 by_cases h:k<ns.length
 .refine⟨ns[k],qR (r':=[.v<|.lst<|ns.map D.int,.v<|.int (k:Int)]) ?_⟩;show vH [.v<|.lst<|ns.map D.int,.v<|.int (k:Int)]=_;unfold vH;refine wT (by rw[c,decide_eq_true<|by lia]) (yO<|zT (x:=.lst<|ns.map D.int) (y:=.int (k:Int)) rfl rfl<|qD<|by simp[h])
 .refine⟨0,qR (r':=[.v<|.lst<|ns.map D.int,.v<|.int (k:Int)]) ?_⟩;show vH [.v<|.lst<|ns.map D.int,.v<|.int (k:Int)]=_;unfold vH;exact yS (by rw[c,decide_eq_false<|by lia])<|yO zH
structure Lc(n:Nat)(s:List Nat):Prop where
 len:s.length<=n
 sm:∀c∈s,c<128/\c≠10
def Lc.le{n m:Nat}{s:List Nat}(h:Lc n s)(hm:n<=m):Lc m s:=⟨bf h.len hm,h.sm⟩
def Ty.lc{n:Nat}{s:List Nat}(h:Ty n s):Lc n s:=⟨h.len,λc hc=>by have:=h.sm c hc;omega⟩
def Lc.tx{n:Nat}{s:List Nat}(h:Lc n s):Tx n s:=⟨h.len,λc hc=>(h.sm c hc).1⟩
theorem oQ(c:Nat):∀(L:Ws) (q:Nat),q∈wS [c] L->q=c\/∃s∈L,q∈s
 |[],q,h=>by cases h
 |[a],q,h=>.inr ⟨a,by simp,h⟩
 |a::b::L,q,h=>by
  have h':q∈a++[c]++wS [c] (b::L):=h;rw[bi,bi] at h';rcases h' with(h'|h')|h'
  .exact .inr ⟨a,by simp,h'⟩
  .exact .inl<|cb.mp h'
  .rcases oQ c (b::L) q h' with z|⟨s,hs,z⟩
   .exact .inl z
   .exact .inr ⟨s,by simp only[av] at hs ⊢;exact .inr hs,z⟩
theorem oP(c:Nat):∀(L:Ws),L≠[]->(wS [c] L).length+1=(L.map cx).sum+L.length
 |[],h=>absurd rfl h
 |[a],_=>by simp[wS]
 |a::b::L,_=>by
  have ih:=oP c (b::L) (by simp);have e:wS [c] (a::b::L)=a++[c]++wS [c] (b::L):=rfl;rw[e,ae,ae];simp only[bg,jc,ac,am] at ih ⊢;omega
def eU(L:Ws):Nat:=(L.map cx).sum
def rE(a b:Ws):eU (a++b)=eU a+eU b:=by simp[eU]
def GI(W:Ws){a b:Nat}(h:a<=b):eU (W.take a)+eU (W.drop b)<=eU W/\(W.take a).length+(W.drop b).length<=W.length:=by
 have e:W=W.take a++W.drop a:=(my a W).symm;have e2:W.drop a=(W.drop a).take (b-a)++W.drop b:=by
  conv=>lhs;rw[<-my (b-a)<|W.drop a]
  rw[List.drop_drop,show a+(b-a)=b by omega]
 have s1:eU W=eU (W.take a)+eU (W.drop a):=by conv=>lhs;rw[e,rE]
 have s2:eU (W.drop a)=eU ((W.drop a).take<|b-a)+eU (W.drop b):=by conv=>lhs;rw[e2,rE]
 refine⟨by omega,?_⟩;rw[ck,cw];omega
def MY{t:List Nat}{n:Nat}(ht:Lc n t){a b:Nat}(h:a<=b){m:Ws}(hm:∀x∈m,Lc 10 x)(h1:m.length<=1):Lc (n+12) (wS [32]<|(xP 32 t).take a++m++(xP 32 t).drop b):=by
 let W:=xP 32 t
 have hb:=uC 32 t;have vj:W≠[]:=λz=>by have:=kW 32 t;rw[show xP 32 t=[] from z] at this;cases this
 have ex:=oP 32 W vj;rw[show wS [32] W=t from hb] at ex;obtain⟨c1,c2⟩:=GI W h;have ml:eU m<=10:=by
  match m,hm,h1 with
  |[],_,_=>simp[eU]
  |[x],hm,_=>simpa [eU] using (hm x<|by simp).len
 refine⟨?_,λc hc=>?_⟩
 .have j:=n4 32<|W.take a++m++W.drop b;have s1:((W.take a++m++W.drop b).map cx).sum=eU (W.take a)+eU m+eU (W.drop b):=by rw[<-rE,<-rE];rfl
  rw[s1,ae,ae] at j
  have:=ht.len
  have sw:(W.map cx).sum=eU W:=rfl;rw[sw] at ex;show(wS [32]<|W.take a++m++W.drop b).length<=n+12;omega
 .have hW:∀s∈W,c∈s->c<128/\c≠10:=λs hs lM=>ht.sm c (by
   have:=(rY 32 W s hs).2 c lM
   rwa [show wS [32] W=t from hb] at this)
  rcases oQ 32 _ c hc with rfl|⟨s,hs,lM⟩
  .decide
  .rw[bi,bi] at hs;rcases hs with(hs|hs)|hs
   .exact hW s (fv hs) lM
   .exact(hm s hs).sm c lM
   .exact hW s (gz hs) lM
def xz:Ws:=[[100,101,102],[102,110],[100,111],[101,109,112,116,121],[103,101,116],[119,105,116,104],[112,117,116],[108,101,115,115],[116,97,103],[119,105,100,101],[99,97,115,101],[110,101,118,101,114],[105,102],[43],[42]]
def zv:Ws:=[[60],[],[48],[48,55],[45,49],[57,57,57,57,57,57],[49,48,48,48,48,48,48],[97],[97,98,99,100,101,102,103,104,105],[65],[97,49],[109,97,105,110],[9],[61]]
def Rm:∀w∈xz++zv,Lc 10 w:=λw h=>⟨(by decide:∀w∈xz++zv,w.length<=10) w h,(by decide:∀w∈xz++zv,∀c∈w,c<128/\c≠10) w h⟩
def Vx{n:Int}{ns:Ws}(h:∀x∈ns,Lc 10 x)(hl:ns.length<=100):∃x,Lc 10 x/\∃as,hG [.v<|.int n,.v<|aE ns]=aA (.v<|.str x,as):=by
 let o:=xz++zv
 let A:=o++ns++ns
 have al:A.length=29+2*ns.length:=by simp[A,o,xz,zv];omega
 obtain⟨i,hi,ei⟩:=uF n A.length (by omega);refine⟨A[i],?_,qR (r':=[.v<|.int n,.v<|aE ns,.v<|aE o]) ?_⟩
 .have:=ij hi
  simp only[A,bi] at this;rcases this with(z|z)|z
  .exact Rm _ (by simp only[o,bi] at z ⊢;exact z)
  .exact h _ z
  .exact h _ z
 .show cV [.v<|.int n,.v<|aE ns,.un]=_;unfold cV;refine yL (aE xz) (YD (ss:=xz)<|by decide) rfl<|yL (aE o) ?_ rfl<|yO<|zT (x:=aE A) (y:=.int<|n % (A.length:Nat)) ?_ ?_ ?_
  .exact(mO (l:=xz.map D.str) rfl (YD (ss:=zv)<|by decide)<|by decide).trans (by simp[aE,o])
  .exact(mO (l:=(o++ns).map D.str) (m:=ns.map D.str) ((mO (l:=o.map D.str) (m:=ns.map D.str) rfl rfl (by simp[o,xz,zv];omega)).trans<|by simp) rfl (by simp[o,xz,zv];omega)).trans (by simp[aE,A])
  .refine wR rfl ?_ (by omega);refine(qU (i:=29) (j:=2*(ns.length:Nat)) (u8 (x:=aE o) rfl rfl)<|Ez zH (u8 (x:=aE ns) rfl (by show aA (D.int ((ns.map D.str).length:Nat))=_;rw[af]))<|by decide).trans ?_;rw[al];congr 2
  .rw[ei];exact qD (by simp[hi])
def G4{l:List D}{k:Nat}{f g:ME}{r:En}(e1:f r=aA (.lst l))(e2:g r=aA (.int (k:Nat))):aT f wG (xL g) r=aA (.lst<|l.take k):=dP e1 rfl (jL e2) (by rw[Z6,QH])
def X5{l:List D}{k:Nat}{f g:ME}{r:En}(e1:f r=aA (.lst l))(e2:g r=aA (.int (k:Nat))):aT f (xL g) wG r=aA (.lst<|l.drop k):=dP e1 (jL e2) rfl (by rw[Z6,oW])
def QV{f:ME}{r:En}{l:List D}(e:f r=aA (.lst l)):xj f r=aA l:=by unfold xj;rw[e];rfl
def Gp{f g:ML}{r:En}{l m:List D}(e1:f r=aA l)(e2:g r=aA m)(h:l.length+m.length<=1000000):xk f g r=aA (l++m):=by
 unfold xk;rw[e1,aa,e2,aa,if_pos<|bf h<|by decide]
def tB{t:List Nat}{c:Nat}(ht:Lc c t)(hc:c<=30000)(n:Int){ns:Ws}(h:∀x∈ns,Lc 10 x)(hl:ns.length<=100):∃u,Lc (c+12) u/\∃as,bP [.v<|.str t,.v<|.int n,.v<|aE ns]=aA (.v<|.str u,as):=by
 let W:=xP 32 t
 obtain⟨jm,jl⟩:=Kr (W:=W) (ht.le (by omega:c<=40000)).tx rfl;obtain⟨o,ho,eo⟩:=Vx (n:=n / 300) h hl;obtain⟨a1,Ĺ,Ù⟩:=uF (n / 3) (W.length+1) (by omega);obtain⟨a2,ĸ,Ø⟩:=uF (n / 3) 3 (by decide);obtain⟨b,hb,eb⟩:=uF n 3 (by decide)
 let a:Nat:=if n / 5000 % 4=0 then a2 else a1
 let r1:En:=[.v<|.str t,.v<|.int n,.v<|aE ns,.v<|aE W,.v<|.int a1,.v<|.str o]
 let r2:En:=[.v<|.str t,.v<|.int n,.v<|aE ns,.v<|aE W,.v<|.int a,.v<|.str o]
 have tl:=ht.len;have s:∀{g:MS} {z},g r2=z->(yC (xF 3<|xI<|v5 (zD 0)<|mC<|.str [32])
 (yC (xF 4<|zG jM (zG qX (zD 1)<|mC<|.int 3)<|zG xC (aF kA<|zD 3)<|mC<|.int 1)
 (yC (xF 5<|zW 2 hG<|zC (zG qX (zD 1)<|mC<|.int 300)<|zC (zD 2) zN)
 (yC (aJ (aD<|zG aQ (zG jM (zG qX (zD 1)<|mC<|.int 5000)<|mC<|.int 4)<|mC<|.int 0)
 (xF 4<|zG jM (zG qX (zD 1)<|mC<|.int 3)<|mC<|.int 3)
 yP) g)))) [.v<|.str t,.v<|.int n,.v<|aE ns,.un,.un,.un]=z:=λ{g z} hz=>by
  refine yL (aE W) (mE ?_) rfl<|yL (.int a1) ?_ rfl<|yL (r2:=r1) (.str o) (yG (p:=.v<|.str o) (zE (jJ rfl zH<|by decide)<|zE rfl zO) rfl eo) rfl ?_
  .show(if ([32]:List Nat).length≠0/\t.length<ag then aA ((vU t [32]).map D.str) else aB)=_;rw[if_pos ⟨by decide,bj (by omega:t.length<=40000)<|by decide⟩,Nn]
  .rw[<-Ù];refine wR (jJ rfl zH<|by decide) ((qU (i:=(W.length:Nat)) (u8 (x:=aE W) rfl (by show aA (D.int ((W.map D.str).length:Nat))=_;rw[af])) zH).trans<|by simp) (by omega)
  .have cc:aD (zG aQ (zG jM (zG qX (zD 1)<|mC<|.int 5000)<|mC<|.int 4)<|mC<|.int 0) r1=aA (decide (n / 5000 % 4=0)):=kB<|zT (wR (jJ rfl zH<|by decide) zH<|by decide) zH rfl;by_cases h4:n / 5000 % 4=0
   .have ea:a=a2:=if_pos h4;refine(xA (r':=r2)<|(o5<|cc.trans<|congrArg aA<|decide_eq_true h4).trans ?_).trans hz;refine jI (d:=.int (a:Nat)) ?_ rfl;rw[ea,<-Ø];exact wR (jJ rfl zH<|by decide) zH (by decide)
   .have ea:a=a1:=if_neg h4;refine(xA (r':=r2)<|(cC<|cc.trans<|congrArg aA<|decide_eq_false h4).trans ?_).trans hz;show aA (Fl.nx r1)=_;show aA (Fl.nx [_,_,_,_,.v<|.int (a1:Nat),_])=aA (Fl.nx [_,_,_,_,.v<|.int (a:Nat),_]);rw[ea]
 have c3:aD (zG aQ (zG jM (zD 1)<|mC<|.int 3)<|mC<|.int 0) r2=aA (decide (n % 3=0)):=kB<|zT (wR rfl zH<|by decide) zH rfl;have jo:∀{fl:ML} {X:Ws} (k:Nat),Lc (c+12) (wS [32] X)->fl r2=aA (X.map D.str)->eU X+X.length<=1000000->WS (mC<|.str [32]) fl r2=aA (.str<|wS [32] X):=λ{fl X} k hx e hs=>GU zH e (by show eU X+X.length*1<=_;omega)
 have vj:W≠[]:=λz=>by have:=kW 32 t;rw[show xP 32 t=[] from z] at this;cases this
 have ex:t.length+1=eU (xP 32 t)+(xP 32 t).length:=by
  have:=oP 32 W vj
  rwa [show wS [32] W=t from uC 32 t] at this
 have v3:zD 3 r2=aA (.lst<|W.map D.str):=rfl;have v4:zD 4 r2=aA (.int (a:Nat)):=rfl;by_cases h3:n % 3=0
 .have lc:=MY ht (show a<=a+1 by omega) (m:=[]) (by simp) (by simp);obtain⟨q1,q2⟩:=GI (xP 32 t) (show a<=a+1 by omega);refine⟨_,lc,qR (r':=r2) ?_⟩;show jF [.v<|.str t,.v<|.int n,.v<|aE ns,.un,.un,.un]=_;unfold jF;refine s<|wT (c3.trans<|congrArg aA<|decide_eq_true h3)<|yO<|jo 0 lc (QV ?_) ?_
  .refine(mO (G4 v3 v4) (X5 v3<|(qU (i:=(a:Nat)) v4 zH).trans rfl) (by simp;omega)).trans ?_;simp[W]
  .rw[rE,rE];simp only[ae,show eU []=0 from rfl,am];omega
 .have fM:b=1\/b=2:=by omega
  have lc:=MY ht (show a<=a+b-1 by omega) (m:=[o]) (λx hx=>by rw[cb.mp hx];exact ho) (by simp);obtain⟨q1,q2⟩:=GI (xP 32 t) (show a<=a+b-1 by omega);refine⟨_,lc,qR (r':=r2) ?_⟩;show jF [.v<|.str t,.v<|.int n,.v<|aE ns,.un,.un,.un]=_;unfold jF;have ab:zG Z3 (zG xC (zD 4)<|zG jM (zD 1)<|mC<|.int 3) (mC<|.int 1) r2=aA (.int ((a+b-1:Nat):Int)):=by
   refine(zT (x:=.int (a+b:Int)) (y:=.int 1) (d:=.int<|(a+b:Int)-1) (qU v4 (by rw[<-eb];exact wR rfl zH<|by decide)) zH rfl).trans ?_
   congr 2;omega
  refine s<|yS (c3.trans<|congrArg aA<|decide_eq_false h3)<|yO<|jo 0 lc ?_ ?_
  .refine(Gp (Gp (QV<|G4 v3 v4) (rV (l:=[.str o]) (zE rfl zO)<|by simp) (by simp;omega)) (QV<|X5 v3 ab) (by simp;omega)).trans ?_;simp[W]
  .have:=ho.len
   rw[rE,rE];simp only[ae,show eU [o]=o.length by simp[eU],ac,am];omega
def BJ(nm:List Nat)(n:Int):Bool:=match jR [.v<|.str nm,.v<|.int n] with
 |some (.v<|.str x,_)=>decide (x.length<=400) && x.all λc=>decide (c<128) && decide (c≠10)
 |_=>false
def UF:(BJ [119,113] 80 && BJ [119,113] 81 && BJ [113,119] 80 && BJ [113,119] 81)=true:=by decide +kernel
def XW{nm:List Nat}{n:Int}(h:BJ nm n=true):∃x,Lc 400 x/\∃as,jR [.v<|.str nm,.v<|.int n]=aA (.v<|.str x,as):=by
 unfold BJ at h;split at h
 .rename_i x as e;simp only[bo,decide_eq_true_eq,eg] at h;exact⟨x,⟨h.1,λc hc=>h.2 c hc⟩,as,e⟩
 .cases h
def JD{a b:Nat}(ha:a<2)(hb:b<2):∃x,Lc 400 x/\∃as,jR [.v<|.str (if a=0 then [119,113] else [113,119]),.v<|.int (80+b:Nat)]=aA (.v<|.str x,as):=by
 have w:=UF;simp only[bo] at w;obtain⟨⟨⟨w1,w2⟩,w3⟩,w4⟩:=w
 match a,ha,b,hb with
 |0,_,0,_=>exact XW w1
 |0,_,1,_=>exact XW w2
 |1,_,0,_=>exact XW w3
 |1,_,1,_=>exact XW w4
structure LI(c:Nat)(L:Ws):Prop where
 ln:∀t∈L,Lc (8000+20*c) t
 ne:L≠[]
 Az:L.length<=13+c
def Cd:Ws:=[[],[100,101,102],[100,101,102,32,109,97,105,110],[100,101,102,32,97,32,48,32]]
def Th:∀w∈Cd,Lc 10 w:=λw h=>⟨(by decide:∀w∈Cd,w.length<=10) w h,(by decide:∀w∈Cd,∀c∈w,c<128/\c≠10) w h⟩
noncomputable def AX(k:Nat):List Nat:=[100,101,102,32,120]++[97+k]++[113,113,32,48]
def RW{k:Nat}(h:k<13):Lc 10 (AX k):=⟨by simp[AX],λc hc=>by
 simp only[AX,bi,av,ki,or_false] at hc
 omega⟩
theorem KJ:∀(ks:List Nat) (x:Sl),aL x->(∀k∈ks,k<13)->vQ (y9 0) mS (zG xC (zG xC (mC<|.str [100,101,102,32,120])<|zG aC (mC<|.str [97,98,99,100,101,102,103,104,105,106,107,108,109])<|zD 0)<|mC<|.str [113,113,32,48]) (ks.map λk=>.int<|(0:Int)+(k:Nat)) [x]=aA ((ks.map AX).map D.str)
 |[],x,_,_=>rfl
 |k::ks,x,hx,h=>by
  have ih:=KJ ks (.v<|.int<|(0:Int)+(k:Nat)) trivial λj hj=>h j (by simp[hj])
  have e:zG xC (zG xC (mC<|.str [100,101,102,32,120])<|zG aC (mC<|.str [97,98,99,100,101,102,103,104,105,106,107,108,109])<|zD 0) (mC<|.str [113,113,32,48]) [.v<|.int<|(0:Int)+(k:Nat)]=aA (.str<|AX k):=zT (zT zH (zT (x:=.str AE) zH rfl<|KW<|h k<|by simp)<|dB<|by simp) zH (dB<|by simp);have e3:mS [.v<|.int<|(0:Int)+(k:Nat)]=aA true:=rfl;rw[bg,bg,bg];unfold vQ;rw[yT (r:=[x]) (x:=x) rfl hx,aa];show((mS [.v<|.int<|(0:Int)+(k:Nat)]).bind _)=_;rw[e3,aa,if_pos rfl];show((zG xC _ _ [.v<|.int<|(0:Int)+(k:Nat)]).bind λy=>(vQ _ _ _ _ [.v<|.int<|(0:Int)+(k:Nat)]).map (y::·))=_;rw[e,aa,ih];rfl
def Cn{f g h:ME}{r:En}{a b c:Ws}(e1:f r=aA (.lst<|a.map D.str))(e2:g r=aA (.lst<|b.map D.str))(e3:h r=aA (.lst<|c.map D.str))(hl:a.length+b.length+c.length<=1000):zG xC (zG xC f g) h r=aA (aE<|a++b++c):=
 (mO (l:=(a++b).map D.str) ((mO e1 e2 (by simp;omega)).trans<|by simp) e3 (by simp;omega)).trans (by simp[aE])
def tM{c:Nat}{L:Ws}(hL:LI c L)(hc:c<=10)(n:Int){ns:Ws}(sT:∀x∈ns,Lc 10 x)(hl:ns.length<=100):∃L',LI (c+1) L'/\∃as,k7 [.v<|aE L,.v<|.int n,.v<|aE ns]=aA (.v<|aE L',as):=by
 have Az:=hL.Az;have l0:0<L.length:=gp.mpr hL.ne;obtain⟨a,ha,ea⟩:=uF (n / 12) L.length l0;obtain⟨w,hw,ew⟩:=uF n 12 (by decide)
 let m:=n / 100
 let R (x6 x7 x8:Sl):En:=[.v<|aE L,.v<|.int n,.v<|aE ns,.v<|.int (a:Nat),.v<|.int (w:Nat),.v<|.int m,x6,x7,x8]
 let r:En:=R .un .un .un
 have ln:∀{r:En},r[0]?=aA (.v<|aE L)->aF kA (zD 0) r=aA (.int (L.length:Nat)):=λe=>u8 (mX e) (by show aA (D.int ((L.map D.str).length:Nat))=_;rw[af])
 have mk:∀{L':Ws} {x6 x7 x8:Sl},wI [.v<|aE L,.v<|.int n,.v<|aE ns,.un,.un,.un,.un,.un,.un]=aA (.rt (aE L')<|R x6 x7 x8)->∃as,k7 [.v<|aE L,.v<|.int n,.v<|aE ns]=aA (.v<|aE L',as):=λh=>qR h
 have start:∀{g:MS} {z},g r=z->(yC (xF 3<|zG jM (zG qX (zD 1)<|mC<|.int 12)<|aF kA<|zD 0)
 (yC (xF 4<|zG jM (zD 1)<|mC<|.int 12)
 (yC (xF 5<|zG qX (zD 1)<|mC<|.int 100) g))) [.v<|aE L,.v<|.int n,.v<|aE ns,.un,.un,.un,.un,.un,.un]=z:=λhz=>
  yL (.int (a:Nat)) (by rw[<-ea];exact wR (jJ rfl zH<|by decide) (ln rfl)<|by omega) rfl (yL (.int (w:Nat)) (by rw[<-ew];exact wR rfl zH<|by decide) rfl<|yL (.int m) (jJ rfl zH<|by decide) rfl hz)
 have v0:∀{x6 x7 x8:Sl},zD 0 (R x6 x7 x8)=aA (.lst<|L.map D.str):=rfl;have v3:∀{x6 x7 x8:Sl},zD 3 (R x6 x7 x8)=aA (.int (a:Nat)):=rfl;have tk:∀{x6 x7 x8:Sl},aT (zD 0) wG (xL<|zD 3) (R x6 x7 x8)=aA (.lst<|(L.take a).map D.str):=(G4 v0 v3).trans (by rw[lj]);have dr:∀{x6 x7 x8:Sl},aT (zD 0) (xL<|zD 3) wG (R x6 x7 x8)=aA (.lst<|(L.drop a).map D.str):=(X5 v0 v3).trans (by rw[nt]);have IW:∀{x6 x7 x8:Sl} (j:Nat),aT (zD 0) (xL<|zG xC (zD 3)<|mC<|.int (j:Nat)) wG (R x6 x7 x8)=aA (.lst<|(L.drop<|a+j).map D.str):=λj=>(X5 v0<|(qU (i:=(a:Nat)) v3 zH).trans rfl).trans (by rw[nt])
 have at':∀{x6 x7 x8:Sl},zG aC (zD 0) (zD 3) (R x6 x7 x8)=aA (.str L[a]):=zT (x:=aE L) (y:=.int (a:Nat)) rfl rfl (qD<|by simp[ha]);have lt:(L.take a).length<=L.length:=by rw[ck];omega
 have ld:∀j,(L.drop j).length<=L.length:=λj=>by rw[cw];omega
 have up:∀t∈L,Lc (8000+20*(c+1)) t:=λt ht=>(hL.ln t ht).le (by omega)
 have three:∀{b:Ws} {j:Nat},(∀t∈b,Lc (8000+20*(c+1)) t)->(L.take a++b++L.drop j).length<=13+(c+1)->0<(L.take a++b++L.drop j).length->LI (c+1) (L.take a++b++L.drop j):=λ{b j} hb h1 h2=>⟨λt ht=>by
  rw[bi,bi] at ht;rcases ht with(z|z)|z
  .exact up t (fv z)
  .exact hb t z
  .exact up t<|gz z,gp.mp h2,h1⟩
 have one:∀{x:List Nat},Lc (8000+20*(c+1)) x->∀t∈[x],Lc (8000+20*(c+1)) t:=λh t ht=>by rw[cb.mp ht];exact h
 have c6:aD (zG f_ (zD 4)<|mC<|.int 6) r=aA (decide ((w:Int)<6)):=kB<|zT (x:=.int (w:Nat)) (y:=.int 6) rfl zH rfl;have ce:∀(i:Nat),aD (zG aQ (zD 4)<|mC<|.int (i:Nat)) r=aA (decide (w=i)):=λi=>(kB<|zT (x:=.int (w:Nat)) (y:=.int (i:Nat)) rfl zH rfl).trans (by congr 1;rw[decide_eq_decide];omega)
 have cg:aD (zG a_ (aF kA<|zD 0)<|mC<|.int 1) r=aA (decide (1<L.length)):=(oA (ln rfl) zH).trans (by congr 1;rw[decide_eq_decide];omega);have a6:bF (aD<|zG aQ (zD 4)<|mC<|.int 6) (aD<|zG a_ (aF kA<|zD 0)<|mC<|.int 1) r=aA (decide (w=6) && decide (1<L.length)):=by
  unfold bF;rw[show aD (zG aQ (zD 4)<|mC<|.int 6) r=aA (decide (w=6)) from ce 6,aa];cases decide (w=6)
  .rfl
  .rw[if_pos rfl,cg];rfl
 by_cases h6:w<6
 .obtain⟨u,hu,eu⟩:=tB (hL.ln L[a]<|ij ha) (by omega) m sT hl;refine⟨L.take a++[u]++L.drop (a+1),three (one<|hu.le<|by omega) (by simp;omega) (by simp;omega),mk (x6:=.un) (x7:=.un) (x8:=.un) ?_⟩;unfold wI;refine start<|wT (c6.trans<|congrArg aA<|decide_eq_true<|by omega)<|yO<|Cn tk (wH (l:=[.str u]) (zE (yG (p:=.v<|.str u) (zE at'<|zE rfl<|zE rfl zO) rfl eu) zO)<|by simp) (IW 1) (by have:=ld<|a+1;simp only[ac,am];omega)
 .have f6:=c6.trans (show _=aA false from congrArg aA<|decide_eq_false<|by omega);by_cases IL:w=6/\1<L.length
  .refine⟨L.take a++[]++L.drop (a+1),three (by simp) (by simp;omega) (by simp;omega),mk (x6:=.un) (x7:=.un) (x8:=.un) ?_⟩;unfold wI;refine start (yS f6<|wT (a6.trans (by rw[decide_eq_true IL.1,decide_eq_true IL.2];rfl))<|yO<|(mO tk (IW 1) (by have:=ld<|a+1;simp only[af];omega)).trans<|by simp[aE])
  .have Dp:=a6.trans (show _=aA false by by_cases z:w=6;(rw[decide_eq_true z,decide_eq_false λq=>IL ⟨z,q⟩];rfl);(rw[decide_eq_false z];rfl));by_cases h7:w=7
   .refine⟨L.take a++[L[a]]++L.drop a,three (one<|up _<|ij ha) (by simp;omega) (by simp;omega),mk (x6:=.un) (x7:=.un) (x8:=.un) ?_⟩;unfold wI;refine start<|yS f6<|yS Dp<|wT ((ce 7).trans<|congrArg aA<|decide_eq_true h7)<|yO<|Cn tk (wH (l:=[.str L[a]]) (zE at' zO)<|by simp) dr (by have:=ld a;simp only[ac,am];omega)
   .have f7:=(ce 7).trans<|congrArg aA<|decide_eq_false h7;by_cases h8:w=8
    .have md:aT (zD 0) (xL<|zD 3) (xL<|zG xC (zD 3)<|mC<|.int 2) r=aA (.lst<|((L.take<|a+2).drop a).map D.str):=dP (x:=aE L) rfl (jL v3) (jL<|(qU (i:=(a:Nat)) v3 zH).trans rfl) (by show ze (.lst<|L.map D.str) (aA ((a:Nat):Int)) (aA ((a+2:Nat):Int))=_;rw[Z6,GO,Md]);have ml:((L.take<|a+2).drop a).length<=2:=by rw[cw,ck];omega
     refine⟨L.take a++((L.take<|a+2).drop a).reverse++L.drop (a+2),three (λt ht=>up t<|fv<|gz<|List.mem_reverse.mp ht) (by simp;omega) (by simp;omega),mk (x6:=.un) (x7:=.un) (x8:=.un) ?_⟩;unfold wI;refine start<|yS f6<|yS Dp<|yS f7<|wT ((ce 8).trans<|congrArg aA<|decide_eq_true h8)<|yO<|Cn tk (mE ?_) (IW 2) (by have:=ld<|a+2;rw[du];omega);unfold F4;rw[QV md,List.map_reverse];rfl
    .have f8:=(ce 8).trans<|congrArg aA<|decide_eq_false h8;by_cases h9:w=9
     .obtain⟨x,hx,ex⟩:=El Cd (i:=m % 4) (dm _<|by decide) (dh _<|by decide);refine⟨L.take a++[x]++L.drop a,three (one<|(Th x hx).le<|by omega) (by simp;omega) (by simp;omega),mk (x6:=.v<|.str x) (x7:=.un) (x8:=.un) ?_⟩;unfold wI;refine start<|yS f6<|yS Dp<|yS f7<|yS f8<|wT ((ce 9).trans<|congrArg aA<|decide_eq_true h9)<|yL (.str x) (zT (YD (ss:=Cd)<|by decide) (wR rfl zH<|by decide) ex) rfl<|yO<|Cn tk (wH (l:=[.str x]) (zE rfl zO)<|by simp) dr (by have:=ld a;simp only[ac,am];omega)
     .have f9:=(ce 9).trans<|congrArg aA<|decide_eq_false h9;by_cases B3:w=10
      .obtain⟨p,hp,ep⟩:=uF m 2 (by decide);obtain⟨q,hq,eq⟩:=uF (m / 2) 2 (by decide);obtain⟨x,hx,ex⟩:=JD hp hq;refine⟨L.take a++[x]++L.drop a,three (one<|hx.le<|by omega) (by simp;omega) (by simp;omega),mk (x6:=.un) (x7:=.v<|.str x) (x8:=.un) ?_⟩;unfold wI;refine start<|yS f6<|yS Dp<|yS f7<|yS f8<|yS f9<|wT ((ce 10).trans<|congrArg aA<|decide_eq_true B3)<|yL (.str x) (yG (p:=.v<|.str x) (zE (x:=.str (if p=0 then [119,113] else [113,119])) (zT (wH (l:=[.str [119,113],.str [113,119]]) (zE zH<|zE zH zO)<|by simp) (y:=.int (p:Nat)) (by rw[<-ep];exact wR rfl zH<|by decide) ?_)<|zE (x:=.int ((80+q:Nat):Int)) ?_ zO) rfl ex) rfl<|yO<|Cn tk (wH (l:=[.str x]) (zE rfl zO)<|by simp) dr (by have:=ld a;simp only[ac,am];omega)
       .match p,hp with
        |0,_=>rfl
        |1,_=>rfl
       .refine(qU zH (j:=(q:Nat)) (by rw[<-eq];exact wR (jJ rfl zH<|by decide) zH<|by decide)).trans (by simp)
      .have Ó:=(ce 10).trans<|congrArg aA<|decide_eq_false B3;obtain⟨p,hp,ep⟩:=uF m 3 (by decide)
       let k:Nat:=11+p-L.length
       have mx:Q2 (zC (mC<|.int 0)<|zC (zG Z3 (zG xC (mC<|.int 11)<|zG jM (zD 5)<|mC<|.int 3)<|aF kA<|zD 0) zN) r=aA (.int (k:Nat)):=by
        refine(ZG (i:=0) (j:=(11+p:Int)-(L.length:Nat)) zH<|zT (x:=.int (11+p:Int)) (y:=.int (L.length:Nat)) (qU zH (by rw[<-ep];exact wR rfl zH<|by decide)) (ln rfl) rfl).trans ?_
        congr 2;simp only[k];omega
       have hk:k<13:=by simp only[k];omega
       refine⟨(db k).map AX++L,⟨λt ht=>?_,by simp[hL.ne],by simp;simp only[k];omega⟩,mk (x6:=.un) (x7:=.un) (x8:=.v<|.int (k:Nat)) ?_⟩
       .rcases bi.mp ht with z|z
        .obtain⟨j,hj,rfl⟩:=jp.mp z;exact(RW (by have:=jz.mp hj;omega)).le (by omega)
        .exact up t z
       .unfold wI;refine start<|yS f6<|yS Dp<|yS f7<|yS f8<|yS f9<|yS Ó<|yL (.int (k:Nat)) mx rfl<|yO ?_;refine(mO (l:=((db k).map AX).map D.str) (m:=L.map D.str) (mE ?_) rfl (by simp;omega)).trans (by simp[aE]);unfold vY qG;rw[Er (n:=k) rfl<|by omega,aa,if_pos (by rw[af,pb];exact ba hk<|by decide)];exact KJ (db k) .un trivial λj hj=>by have:=jz.mp hj;omega
def HP(q:Df):List Nat:=wS [32]<|[p5,q.1]++q.2.ws
def K6{q:Df}(h:FE q):Lc 8000 (HP q)/\eU ([p5,q.1]++q.2.ws)+([p5,q.1]++q.2.ws).length<=8000:=by
 obtain⟨h1,h2,h3⟩:=h;have wk:lP ([p5,q.1]++q.2.ws):=uW (ZU ⟨by decide,by decide⟩<|bU h1) h2;have s:=Et (n:=10) ([p5,q.1]++q.2.ws) λt ht=>(wk t ht).len
 have l:([p5,q.1]++q.2.ws).length=q.2.ws.length+2:=by simp
 have j:=n4 32<|[p5,q.1]++q.2.ws;have s':eU ([p5,q.1]++q.2.ws)<=10*([p5,q.1]++q.2.ws).length:=s;have sw:(([p5,q.1]++q.2.ws).map cx).sum=eU ([p5,q.1]++q.2.ws):=rfl;rw[sw] at j;rw[l] at s' j;refine⟨⟨by show(wS [32]<|[p5,q.1]++q.2.ws).length<=_;omega,λc hc=>?_⟩,by rw[l];omega⟩;rcases oQ 32 _ c hc with rfl|⟨t,ht,Ä⟩
 .decide
 .exact((wk t ht).lc).sm c Ä
def Gh:MS:=(xF 4<|zW 3 k7<|zC (zD 4)<|zC (zW 2 yK<|zC (zW 2 uO<|zC (zD 0)<|zC (mC<|.int 2) zN)<|zC (zG xC (mC<|.int 910)<|zD 6) zN)<|zC (zD 5) zN)
theorem pW{S:List Int}{a1 a2 a3:Sl}{ns:Ws}(sT:∀x∈ns,Lc 10 x)(hl:ns.length<=100):∀(ks:List Nat) (c:Nat) (L:Ws) (x:Sl),LI c L->c+ks.length<=10->aL x->∃(L':Ws) (x':Sl),LI (c+ks.length) L'/\gM (y9 6) Gh (ks.map λk=>.int<|(0:Int)+(k:Nat)) [.v<|.lst<|S.map D.int,a1,a2,a3,.v<|aE L,.v<|aE ns,x,.un,.un]=aA (.nx [.v<|.lst<|S.map D.int,a1,a2,a3,.v<|aE L',.v<|aE ns,x',.un,.un])
 |[],c,L,x,h,_,_=>⟨L,x,h,rfl⟩
 |k::ks,c,L,x,h,hc,hx=>by
  rw[ac] at hc;obtain⟨i2,e2⟩:=G0 S 2;obtain⟨n,_,hn⟩:=vC i2<|910+((0:Int)+(k:Nat));obtain⟨L1,h1,e1⟩:=tM h (by omega) n sT hl;obtain⟨L',x',q1,q2⟩:=pW (S:=S) (a1:=a1) (a2:=a2) (a3:=a3) sT hl ks (c+1) L1 (.v<|.int<|(0:Int)+(k:Nat)) h1 (by omega) trivial;refine⟨L',x',by rw[ac,show c+(ks.length+1)=c+1+ks.length by omega];exact q1,?_⟩;have b:Gh [.v<|.lst<|S.map D.int,a1,a2,a3,.v<|aE L,.v<|aE ns,.v<|.int<|(0:Int)+(k:Nat),.un,.un]=aA (.nx [.v<|.lst<|S.map D.int,a1,a2,a3,.v<|aE L1,.v<|aE ns,.v<|.int<|(0:Int)+(k:Nat),.un,.un]):=by
   refine jI (d:=aE L1) ?_ rfl;exact yG (p:=.v<|aE L1) (zE rfl<|zE (yG (p:=.v<|.int n) (zE (yG (p:=.v<|.int i2) (zE rfl<|zE zH zO) rfl e2)<|zE (qU zH rfl) zO) rfl hn)<|zE rfl zO) rfl e1
  rw[bg,cN (yT (x:=x) rfl hx) b];exact q2
def law_math:∀ns:List Int,ns.length<=63->∃as,zz [.v<|.lst<|ns.map .int]=aA (.v<|.bl true,as):=by
 intro S hl;obtain⟨i0,c0⟩:=G0 S 0;obtain⟨i1,c1⟩:=G0 S 1;obtain⟨f,hf,mf⟩:=vC i0 900;obtain⟨s,hs,ms⟩:=vC i1 901
 let cs:List Int:=(S.take 103).drop 3
 have å:cs.length<=60:=by show((S.take 103).drop 3).length<=60;rw[cw,ck];omega
 obtain⟨Ds,d1,d2,d3,ñ,ed⟩:=J5 (f:=f) (s:=s) å;obtain⟨nm,Aw,em⟩:=pP s
 let NS:Ws:=Ds.map eh++nm
 have nl:NS.length<=100:=by have:=Aw.len;simp only[NS,ae,af];omega
 have Wv:∀x∈NS,Lc 10 x:=λx hx=>by
  rcases bi.mp hx with z|z
  .obtain⟨q,hq,rfl⟩:=jp.mp z;exact(d1 q hq).1.lc
  .exact(Aw.wd x z).lc
 let L0:Ws:=Ds.map HP
 have li:LI 0 L0:=⟨λt ht=>by obtain⟨q,hq,rfl⟩:=jp.mp ht;exact(K6<|d1 q hq).1,λz=>by have:=congrArg cx z;simp only[L0,af,am] at this;omega,by simp only[L0,af];omega⟩;obtain⟨k,hk,ek⟩:=uF (f / 20) 4 (by decide)
 let SD:D:=.lst<|S.map D.int
 let p_:D:=.lst<|Ds.map dd
 obtain⟨L,x',q1,q2⟩:=pW (S:=S) (a1:=.v<|.int f) (a2:=.v<|.int s) (a3:=.v p_) Wv nl (db k) 0 L0 .un li (by simp;omega) trivial;have ok:B9 L:=by
  have Az:=q1.Az;rw[pb] at Az;refine⟨λt ht=>?_,λt ht z=>((q1.ln t ht).sm 10 z).2 rfl,q1.ne,by omega⟩
  have:=(q1.ln t ht).tx
  exact this.le (by rw[pb];omega)
 obtain⟨ð,e1⟩:=Ts ok;have e2:=RB ok
 let W:D:=.str (gH L).s
 refine qR (r':=[.v SD,.v<|.int f,.v<|.int s,.v p_,.v<|aE L,.v<|aE NS,x',.v W,.v<|rT L]) ?_;show Ck [.v SD,.un,.un,.un,.un,.un,.un,.un,.un]=_;unfold Ck;refine yL (.int f) (yG (p:=.v<|.int f) (zE (yG (p:=.v<|.int i0) (zE rfl<|zE zH zO) rfl c0)<|zE zH zO) rfl mf) rfl ?_;refine yL (r2:=[.v SD,.v<|.int f,.v<|.int s,.un,.un,.un,.un,.un,.un]) (.int s) (yG (p:=.v<|.int s) (zE (yG (p:=.v<|.int i1) (zE rfl<|zE zH zO) rfl c1)<|zE zH zO) rfl ms) rfl ?_;have e3:xI (dL 3 uN<|zC (aT (zD 0) (xL<|mC<|.int 3)<|xL<|mC<|.int 103)<|zC (zD 1)<|zC (zD 2) zN) [.v SD,.v<|.int f,.v<|.int s,.un,.un,.un,.un,.un,.un]=aA p_:=by
  have a1:aT (zD 0) (xL<|mC<|.int 3) (xL<|mC<|.int 103) [.v SD,.v<|.int f,.v<|.int s,.un,.un,.un,.un,.un,.un]=aA (.lst<|cs.map D.int):=by
   refine dP (x:=SD) rfl (jL zH) (jL zH) ?_;rw[Z6,show(aA (3:Int))=aA ((3:Nat):Int) from rfl,show(aA (103:Int))=aA ((103:Nat):Int) from rfl,GO];show aA (D.lst<|((S.map D.int).take 103).drop 3)=aA (D.lst<|((S.take 103).drop 3).map D.int);rw[nt,lj]
  refine mE ?_;unfold dL;rw[zE a1<|zE (f:=zD 1) (x:=.int f) rfl<|zE (f:=zD 2) (x:=.int s) rfl zO,aa];show((uN [.v<|.lst<|cs.map D.int,.v<|.int f,.v<|.int s]).bind _)=_;rw[ed];rfl
 refine yL (r2:=[.v SD,.v<|.int f,.v<|.int s,.v p_,.un,.un,.un,.un,.un]) p_ e3 rfl ?_;have e4:xI (vY [] 2 (eA<|zD 3) (cT 2<|wU (y9 0)<|wU (y9 1) dU)<|WS (mC<|.str [32])<|xk (yB<|zC (mC<|.str [100,101,102])<|zC (zD 0) zN)<|xj<|zG aC (zD 1)<|mC<|.int 1) [.v SD,.v<|.int f,.v<|.int s,.v p_,.un,.un,.un,.un,.un]=aA (aE L0):=by
  refine(mE<|MW (l:=Ds) (a:=λq=>.str q.1) (b:=λq=>pd q.2) (u:=λq=>.str<|HP q) rfl (by omega) λq hq=>?_).trans (by simp[aE,L0]);obtain⟨p1,p2⟩:=K6<|d1 q hq;have p3:=(d1 q hq).2.2;refine GU (l:=[p5,q.1]++q.2.ws) zH ((Gp (l:=[.str p5,.str q.1]) (m:=q.2.ws.map D.str) (rV (zE zH<|zE rfl zO)<|by simp) (QV<|l8 (p:=q.2) rfl) (by simp;omega)).trans<|by simp) ?_;show eU ([p5,q.1]++q.2.ws)+([p5,q.1]++q.2.ws).length*1<=_;omega
 refine yL (r2:=[.v SD,.v<|.int f,.v<|.int s,.v p_,.v<|aE L0,.un,.un,.un,.un]) (aE L0) e4 rfl ?_;have e5:zG xC (xI<|vY [] 2 (eA<|zD 3) (cT 2<|wU (y9 0)<|wU (y9 1) dU)<|zD 0) (zW 1 jZ<|zC (zD 2) zN) [.v SD,.v<|.int f,.v<|.int s,.v p_,.v<|aE L0,.un,.un,.un,.un]=aA (aE NS):=by
  refine(mO (l:=(Ds.map eh).map D.str) (m:=nm.map D.str) ((mE<|MW (l:=Ds) (a:=λq=>.str q.1) (b:=λq=>pd q.2) (u:=λq=>.str q.1) rfl (by omega) λq hq=>rfl).trans<|by simp) (yG (p:=.v<|.lst<|nm.map D.str) (zE rfl zO) rfl em) (by have:=Aw.len;simp;omega)).trans (by simp[aE,NS])
 refine yL (r2:=[.v SD,.v<|.int f,.v<|.int s,.v p_,.v<|aE L0,.v<|aE NS,.un,.un,.un]) (aE NS) e5 rfl ?_;have rg:mT (zG jM (zG qX (zD 1)<|mC<|.int 20)<|mC<|.int 4) [.v SD,.v<|.int f,.v<|.int s,.v p_,.v<|aE L0,.v<|aE NS,.un,.un,.un]=aA ((db k).map λk=>.int<|(0:Int)+(k:Nat)):=Er (by rw[<-ek];exact wR (jJ rfl zH<|by decide) zH<|by decide) (by omega);have fe:dQ (y9 6) (mT<|zG jM (zG qX (zD 1)<|mC<|.int 20)<|mC<|.int 4) Gh [.v SD,.v<|.int f,.v<|.int s,.v p_,.v<|aE L0,.v<|aE NS,.un,.un,.un]=aA (.nx [.v SD,.v<|.int f,.v<|.int s,.v p_,.v<|aE L,.v<|aE NS,x',.un,.un]):=by
  unfold dQ;rw[rg];exact q2
 refine(xA fe).trans ?_;refine yL (r2:=[.v SD,.v<|.int f,.v<|.int s,.v p_,.v<|aE L,.v<|aE NS,x',.v W,.un]) W (yG (p:=.v W) (zE rfl zO) rfl e2) rfl ?_;refine yL (r2:=[.v SD,.v<|.int f,.v<|.int s,.v p_,.v<|aE L,.v<|aE NS,x',.v W,.v<|rT L]) (rT L) (GU (l:=L) zH (QV rfl) ?_) rfl ?_
 .have h2:=Et L λt ht=>(ok.tx t ht).len
  have h3:=ok.Az
  have:40000*L.length<=40000*60:=uy _ h3
  show(L.map cx).sum+L.length*1<=_;omega
 .have t1:zG aQ (zW 1 uL<|zC (zD 8) zN) (zD 7) [.v SD,.v<|.int f,.v<|.int s,.v p_,.v<|aE L,.v<|aE NS,x',.v W,.v<|rT L]=aA (.bl true):=zT (x:=W) (y:=W) (yG (p:=.v W) (zE rfl zO) rfl ⟨ð,e1⟩) rfl (by show aA (D.bl<|decide ((gH L).s=(gH L).s))=_;rw[decide_eq_true rfl]);exact yO<|Gm t1 λ_=>t1
def Pb{α:Type}{l:List α}(h:l.length=0):l=[]:=ii.mp h
def Q4{α:Type}{l:List α}(h:l.length=1):∃a0,l=[a0]:=ka.mp h
def iR{α:Type}{l:List α}(h:l.length=2):∃a0 a1,l=[a0,a1]:=by
 cases l with
 |nil=>cases h
 |cons a0 l=>obtain⟨a1,rfl⟩:=Q4<|sv h;exact⟨a0,a1,rfl⟩
def vw{α:Type}{l:List α}(h:l.length=3):∃a0 a1 a2,l=[a0,a1,a2]:=by
 cases l with
 |nil=>cases h
 |cons a0 l=>obtain⟨a1,a2,rfl⟩:=iR<|sv h;exact⟨a0,a1,a2,rfl⟩
def Jh{α:Type}{l:List α}(h:l.length=4):∃a0 a1 a2 a3,l=[a0,a1,a2,a3]:=by
 cases l with
 |nil=>cases h
 |cons a0 l=>obtain⟨a1,a2,a3,rfl⟩:=vw<|sv h;exact⟨a0,a1,a2,a3,rfl⟩
def cZ(K:Fg)(n:Str)(st:Stmt):Prop:=∃(f:Addr) (od an:Option Addr) (sl:Array (Option Value)) (oc kV dc pm cd ct:Value),bu K bh n=aA (aA<|.ref f)/\K.lookup f=aA ⟨oc,od,.func<|jk n n (pU st) (cF st) (zZ st) .none kV dc pm an cd ct,sl⟩/\kv K cd n=true/\dj K (.ref f)=true
def dfo{K:Fg}{n:Str}{st:Stmt}{f:Addr}{od an:Option Addr}{sl:Array (Option Value)}{oc kV dc pm cd ct:Value}(a:bu K bh n=aA (aA<|.ref f))(l:K.lookup f=aA ⟨oc,od,.func<|jk n n (pU st) (cF st) (zZ st) .none kV dc pm an cd ct,sl⟩)(c:kv K cd n=true)(k:dj K (.ref f)=true):cZ K n st:=⟨f,od,an,sl,oc,kV,dc,pm,cd,ct,a,l,c,k⟩
def eF{K:Fg}{h:Heap}{mg:Str->Option Value}{n:Str}{i:Nat}{ps:List Str}(X:K.In h)(G:h.Ns bh mg)(D:cZ K n (top i))(hb:∀{f:Addr} {d:FuncData},xb K n n (top i) f d->Binds K d ps []):Nonempty (De K mg n i ps):=by
 obtain⟨f,_,_,_,_,_,_,_,_,_,a,l,c,k⟩:=D;have F:=La (st:=top i) l c k;exact⟨⟨f,_,F,dq X G a,hb F⟩⟩
def Rb{K:Fg}(hm:∀ns:List Int,ns.length<=63->∃as,zz [.v<|.lst<|ns.map .int]=aA (.v<|.bl true,as))(H:Hp)(a:Addr)(ns:List Int)(hl:ns.length<=63)(hS:aV K H a (ns.map V.int)):l5 K 1 zz [.ref a] H (λv _=>v=.bl true) (λ_ _ _=>False):=by
 have il:∀l:List Int,IsL K (λ_=>False) H (l.map D.int) (l.map V.int):=λl=>by
  induction l with
  |nil=>exact IsL.nil
  |cons x l ih=>exact .cons (by rw[zY]) ih
 obtain⟨as,e⟩:=hm ns hl;refine⟨λ_=>False,[.v<|.lst<|ns.map .int],_,as,rfl,Ec (ds:=[.lst<|ns.map .int]) Wr<|.cons (by rw[yV];exact⟨a,_,rfl,hS.imp (λz=>⟨id,z⟩) id,il ns⟩) .nil,λi l=>?_,e,λv H' _ iv=>by rw[yY] at iv;exact iv⟩;cases i with
 |zero=>exact⟨(λz=>by cases z),(λz=>by cases z),(λ_ z=>by cases z)⟩
 |succ i=>exact⟨(λz=>by cases z),(λz=>by cases z),(λ_ z=>by cases z)⟩
def all_mk{l:PySem.W.OpenLaw}{w:World}{K:Fg}{h:Heap}{mg:Str->Option Value}{fa:Addr}(X:K.In h)(G:h.Ns bh mg)(Zu:mg "law" = aA (.ref fa))(D0:cZ K "inner" (top 8))(D1:cZ K "places" (top 7))(D2:cZ K "all_between" (top 15))(D3:cZ K "is_name" (top 16))(D4:cZ K "is_number" (top 17))(D5:cZ K "read_number" (top 18))(D6:cZ K "take_word" (top 20))(D7:cZ K "take_name" (top 21))(D8:cZ K "read_leaf" (top 23))(D9:cZ K "take_expression" (top 22))(ě:cZ K "read_expression" (top 19))(Ě:cZ K "refuse_open_name" (top 30))(ę:cZ K "scopes_in" (top 31))(Ę:cZ K "refuse_open_names" (top 29))(ė:cZ K "read_def" (top 28))(Ė:cZ K "read" (top 27))(ĕ:cZ K "_law_cell" (top 33))(Ĕ:cZ K "_law_mixed" (top 34))(ē:cZ K "_law_kept" (top 35))(Ē:cZ K "_law_name" (top 36))(đ:cZ K "_law_names" (top 37))(Đ:cZ K "_law_leaf" (top 38))(ď:cZ K "_law_one" (top 39))(Ď:cZ K "_law_two" (top 40))(č:cZ K "_law_three" (top 41))(Č:cZ K "_law_grown" (top 42))(ċ:cZ K "_law_folded" (top 43))(Ċ:cZ K "_law_free" (top 44))(ĉ:cZ K "_law_closed" (top 45))(Ĉ:cZ K "_law_def_names" (top 46))(ć:cZ K "_law_defs" (top 47))(Ć:cZ K "_law_shape" (top 48))(ą:cZ K "_law_all_in" (top 49))(Ą:cZ K "_law_is_name" (top 50))(ă:cZ K "_law_is_number" (top 51))(Ă:cZ K "_law_without" (top 52))(ā:cZ K "_law_taken" (top 53))(Ā:cZ K "_law_judged" (top 54))(ÿ:cZ K "_law_due" (top 55))(þ:cZ K "_law_wide_line" (top 56))(ý:cZ K "_law_odd" (top 57))(ü:cZ K "_law_in_line" (top 58))(û:cZ K "_law_changed" (top 59))(ú:cZ K "_law_told" (top 60))(ù:cZ K "law" (top 61))(CS:bu K bh "ValueError" = aA aB)(HR:bu K bh "all" = aA aB)(HY:bu K bh "enumerate" = aA aB)(Ba:bu K bh "int" = aA aB)(iL:bu K bh "isinstance" = aA aB)(eK:bu K bh "len" = aA aB)(HS:bu K bh "list" = aA aB)(yb:bu K bh "max" = aA aB)(Bc:bu K bh "range" = aA aB)(ER:bu K bh "reversed" = aA aB)(EO:bu K bh "str" = aA aB)(CG:bu K bh "tuple" = aA aB){xw:Addr}(CQ:bu K bh "FieldError" = aA (aA<|.ref xw)){ve:Addr}(Ap:bu K bh "TooMuch" = aA (aA<|.ref ve)){vd:Addr}(u_:bu K bh "NoLine" = aA (aA<|.ref vd)){t_:Addr}(zk:bu K bh "NoName" = aA (aA<|.ref t_)){yg:Addr}(CH:bu K bh "NoKind" = aA (aA<|.ref yg))(l6:Ca K xw ve [.ref ve,.type "ValueError"] [.ref vd,.ref t_,.ref yg]=true)(iK:Ca K xw vd [.ref vd,.type "ValueError"] [.ref ve,.ref t_,.ref yg]=true)(lC:Ca K xw t_ [.ref t_,.type "ValueError"] [.ref ve,.ref vd,.ref yg]=true){Xv:Tok}(Ih:bu K bh "LONGEST_NAME" = aA (aA<|.int 8 Xv)){Xu:Tok}(Ig:bu K bh "MOST_FIGURES" = aA (aA<|.int 6 Xu)){Xp:Tok}(CI:bu K bh "DEEPEST" = aA (aA<|.int 30 Xp)){N2:Addr}{à:Option Addr}{Ii:Array Value}{Xs:Nat}{VY:Array (Option Value)}(H_:bu K bh "KEPT_WORDS" = aA (aA<|.ref N2))(Xr:K.lookup N2=aA ⟨.type "tuple",à,.seq Ii Xs,VY⟩)(V5:Ii.size<=ag)(VI:Vals (B_.map λs=>V.str ⟨s.toArray⟩) Ii.toList){HU:Addr}{HV:Array DictEntry}{Xo:Nat}(Bb:bu K bh "FORMS" = aA (aA<|.ref HU))(Xn:K.lookup HU=aA ⟨.type "dict",aB,.dict HV Xo,#[]⟩)(Xm:(HU == ly)=false)(Xl:km w.params HV.toList)(Xk:yu HV.toList yN){Xq:Tok}(Bd:bu K bh "MOST_LINES" = aA (aA<|.int 12 Xq)){Xt:Tok}(CW:bu K bh "MOST_PLACES" = aA (aA<|.int 80 Xt)):∃fd:FuncData,(∀(s:Shared) (v:Value),BindsTo s fd ⟨[v],[]⟩ [("_law_script",v)])/\∀base:Heap,K.In base->base.Ns bh mg->eG l.prog w K mg base iW 153 fa fd ["_law_script"] (l5 K 1 zz):=by
 obtain⟨ļ,_,_,_,_,_,_,_,_,_,OS,Xg,ê,Xi⟩:=ù;have e:=Zu.symm.trans<|dq X G OS;cases e;have OZ:=La (st:=top 61) Xg ê Xi;have ì:=OZ.binds (ps:=["_law_script"]) λ_ _ _ _ _ _ us hl=>by obtain⟨_,rfl⟩:=Q4 hl;rfl
 exact⟨_,λs v=>.of_eq rfl,λbase _ _=>Rn ⟨Classical.choice (eF (ps:=["expression"]) X G D0 λF=>F.binds (ps:=["expression"]) λ_ _ _ _ _ _ us hl=>by obtain⟨_,rfl⟩:=Q4 hl;rfl),
  Classical.choice (eF (ps:=["E"]) X G D1 λF=>F.binds (ps:=["E"]) λ_ _ _ _ _ _ us hl=>by obtain⟨_,rfl⟩:=Q4 hl;rfl),
  Classical.choice (eF (ps:=["text", "least", "greatest"]) X G D2 λF=>F.binds (ps:=["text", "least", "greatest"]) λ_ _ _ _ _ _ us hl=>by obtain⟨_,_,_,rfl⟩:=vw hl;rfl),
  Classical.choice (eF (ps:=["text"]) X G D3 λF=>F.binds (ps:=["text"]) λ_ _ _ _ _ _ us hl=>by obtain⟨_,rfl⟩:=Q4 hl;rfl),
  Classical.choice (eF (ps:=["text"]) X G D4 λF=>F.binds (ps:=["text"]) λ_ _ _ _ _ _ us hl=>by obtain⟨_,rfl⟩:=Q4 hl;rfl),
  Classical.choice (eF (ps:=["text"]) X G D5 λF=>F.binds (ps:=["text"]) λ_ _ _ _ _ _ us hl=>by obtain⟨_,rfl⟩:=Q4 hl;rfl),
  Classical.choice (eF (ps:=["waiting"]) X G D6 λF=>F.binds (ps:=["waiting"]) λ_ _ _ _ _ _ us hl=>by obtain⟨_,rfl⟩:=Q4 hl;rfl),
  Classical.choice (eF (ps:=["waiting"]) X G D7 λF=>F.binds (ps:=["waiting"]) λ_ _ _ _ _ _ us hl=>by obtain⟨_,rfl⟩:=Q4 hl;rfl),
  Classical.choice (eF (ps:=["word"]) X G D8 λF=>F.binds (ps:=["word"]) λ_ _ _ _ _ _ us hl=>by obtain⟨_,rfl⟩:=Q4 hl;rfl),
  Classical.choice (eF (ps:=["waiting", "around"]) X G D9 λF=>F.binds (ps:=["waiting", "around"]) λ_ _ _ _ _ _ us hl=>by obtain⟨_,_,rfl⟩:=iR hl;rfl),
  Classical.choice (eF (ps:=["text"]) X G ě λF=>F.binds (ps:=["text"]) λ_ _ _ _ _ _ us hl=>by obtain⟨_,rfl⟩:=Q4 hl;rfl),
  Classical.choice (eF (ps:=["expression", "known"]) X G Ě λF=>F.binds (ps:=["expression", "known"]) λ_ _ _ _ _ _ us hl=>by obtain⟨_,_,rfl⟩:=iR hl;rfl),
  Classical.choice (eF (ps:=["expression", "known"]) X G ę λF=>F.binds (ps:=["expression", "known"]) λ_ _ _ _ _ _ us hl=>by obtain⟨_,_,rfl⟩:=iR hl;rfl),
  Classical.choice (eF (ps:=["expression", "known"]) X G Ę λF=>F.binds (ps:=["expression", "known"]) λ_ _ _ _ _ _ us hl=>by obtain⟨_,_,rfl⟩:=iR hl;rfl),
  Classical.choice (eF (ps:=["line", "above"]) X G ė λF=>F.binds (ps:=["line", "above"]) λ_ _ _ _ _ _ us hl=>by obtain⟨_,_,rfl⟩:=iR hl;rfl),
  Classical.choice (eF (ps:=["text"]) X G Ė λF=>F.binds (ps:=["text"]) λ_ _ _ _ _ _ us hl=>by obtain⟨_,rfl⟩:=Q4 hl;rfl),
  Classical.choice (eF (ps:=["_law_script", "_law_k"]) X G ĕ λF=>F.binds (ps:=["_law_script", "_law_k"]) λ_ _ _ _ _ _ us hl=>by obtain⟨_,_,rfl⟩:=iR hl;rfl),
  Classical.choice (eF (ps:=["_law_cell_here", "_law_k"]) X G Ĕ λF=>F.binds (ps:=["_law_cell_here", "_law_k"]) λ_ _ _ _ _ _ us hl=>by obtain⟨_,_,rfl⟩:=iR hl;rfl),
  Classical.choice (eF (ps:=[]) X G ē λF=>F.binds (ps:=[]) λ_ _ _ _ _ _ us hl=>by obtain rfl:=Pb hl;rfl),
  Classical.choice (eF (ps:=["_law_number"]) X G Ē λF=>F.binds (ps:=["_law_number"]) λ_ _ _ _ _ _ us hl=>by obtain⟨_,rfl⟩:=Q4 hl;rfl),
  Classical.choice (eF (ps:=["_law_cell_here"]) X G đ λF=>F.binds (ps:=["_law_cell_here"]) λ_ _ _ _ _ _ us hl=>by obtain⟨_,rfl⟩:=Q4 hl;rfl),
  Classical.choice (eF (ps:=["_law_cell_here", "_law_number", "_law_names_here"]) X G Đ λF=>F.binds (ps:=["_law_cell_here", "_law_number", "_law_names_here"]) λ_ _ _ _ _ _ us hl=>by obtain⟨_,_,_,rfl⟩:=vw hl;rfl),
  Classical.choice (eF (ps:=["_law_number", "_law_names_here", "_law_one_here"]) X G ď λF=>F.binds (ps:=["_law_number", "_law_names_here", "_law_one_here"]) λ_ _ _ _ _ _ us hl=>by obtain⟨_,_,_,rfl⟩:=vw hl;rfl),
  Classical.choice (eF (ps:=["_law_number", "_law_names_here", "_law_one_here", "_law_other"]) X G Ď λF=>F.binds (ps:=["_law_number", "_law_names_here", "_law_one_here", "_law_other"]) λ_ _ _ _ _ _ us hl=>by obtain⟨_,_,_,_,rfl⟩:=Jh hl;rfl),
  Classical.choice (eF (ps:=["_law_number", "_law_names_here", "_law_parts_here"]) X G č λF=>F.binds (ps:=["_law_number", "_law_names_here", "_law_parts_here"]) λ_ _ _ _ _ _ us hl=>by obtain⟨_,_,_,rfl⟩:=vw hl;rfl),
  Classical.choice (eF (ps:=["_law_pile", "_law_cell_here", "_law_k", "_law_names_here"]) X G Č λF=>F.binds (ps:=["_law_pile", "_law_cell_here", "_law_k", "_law_names_here"]) λ_ _ _ _ _ _ us hl=>by obtain⟨_,_,_,_,rfl⟩:=Jh hl;rfl),
  Classical.choice (eF (ps:=["_law_pile", "_law_cell_here", "_law_names_here"]) X G ċ λF=>F.binds (ps:=["_law_pile", "_law_cell_here", "_law_names_here"]) λ_ _ _ _ _ _ us hl=>by obtain⟨_,_,_,rfl⟩:=vw hl;rfl),
  Classical.choice (eF (ps:=["_law_told_here", "_law_known"]) X G Ċ λF=>F.binds (ps:=["_law_told_here", "_law_known"]) λ_ _ _ _ _ _ us hl=>by obtain⟨_,_,rfl⟩:=iR hl;rfl),
  Classical.choice (eF (ps:=["_law_item", "_law_cell_here", "_law_known"]) X G ĉ λF=>F.binds (ps:=["_law_item", "_law_cell_here", "_law_known"]) λ_ _ _ _ _ _ us hl=>by obtain⟨_,_,_,rfl⟩:=vw hl;rfl),
  Classical.choice (eF (ps:=["_law_cell_here", "_law_many"]) X G Ĉ λF=>F.binds (ps:=["_law_cell_here", "_law_many"]) λ_ _ _ _ _ _ us hl=>by obtain⟨_,_,rfl⟩:=iR hl;rfl),
  Classical.choice (eF (ps:=["_law_cells", "_law_first", "_law_second"]) X G ć λF=>F.binds (ps:=["_law_cells", "_law_first", "_law_second"]) λ_ _ _ _ _ _ us hl=>by obtain⟨_,_,_,rfl⟩:=vw hl;rfl),
  Classical.choice (eF (ps:=["_law_word"]) X G Ć λF=>F.binds (ps:=["_law_word"]) λ_ _ _ _ _ _ us hl=>by obtain⟨_,rfl⟩:=Q4 hl;rfl),
  Classical.choice (eF (ps:=["_law_word", "_law_signs"]) X G ą λF=>F.binds (ps:=["_law_word", "_law_signs"]) λ_ _ _ _ _ _ us hl=>by obtain⟨_,_,rfl⟩:=iR hl;rfl),
  Classical.choice (eF (ps:=["_law_word"]) X G Ą λF=>F.binds (ps:=["_law_word"]) λ_ _ _ _ _ _ us hl=>by obtain⟨_,rfl⟩:=Q4 hl;rfl),
  Classical.choice (eF (ps:=["_law_word"]) X G ă λF=>F.binds (ps:=["_law_word"]) λ_ _ _ _ _ _ us hl=>by obtain⟨_,rfl⟩:=Q4 hl;rfl),
  Classical.choice (eF (ps:=["_law_free_here", "_law_name_here"]) X G Ă λF=>F.binds (ps:=["_law_free_here", "_law_name_here"]) λ_ _ _ _ _ _ us hl=>by obtain⟨_,_,rfl⟩:=iR hl;rfl),
  Classical.choice (eF (ps:=["_law_pile", "_law_word", "_law_shape_here"]) X G ā λF=>F.binds (ps:=["_law_pile", "_law_word", "_law_shape_here"]) λ_ _ _ _ _ _ us hl=>by obtain⟨_,_,_,rfl⟩:=vw hl;rfl),
  Classical.choice (eF (ps:=["_law_words"]) X G Ā λF=>F.binds (ps:=["_law_words"]) λ_ _ _ _ _ _ us hl=>by obtain⟨_,rfl⟩:=Q4 hl;rfl),
  Classical.choice (eF (ps:=["_law_lines"]) X G ÿ λF=>F.binds (ps:=["_law_lines"]) λ_ _ _ _ _ _ us hl=>by obtain⟨_,rfl⟩:=Q4 hl;rfl),
  Classical.choice (eF (ps:=["_law_name_here", "_law_size"]) X G þ λF=>F.binds (ps:=["_law_name_here", "_law_size"]) λ_ _ _ _ _ _ us hl=>by obtain⟨_,_,rfl⟩:=iR hl;rfl),
  Classical.choice (eF (ps:=["_law_number", "_law_names_here"]) X G ý λF=>F.binds (ps:=["_law_number", "_law_names_here"]) λ_ _ _ _ _ _ us hl=>by obtain⟨_,_,rfl⟩:=iR hl;rfl),
  Classical.choice (eF (ps:=["_law_line", "_law_number", "_law_names_here"]) X G ü λF=>F.binds (ps:=["_law_line", "_law_number", "_law_names_here"]) λ_ _ _ _ _ _ us hl=>by obtain⟨_,_,_,rfl⟩:=vw hl;rfl),
  Classical.choice (eF (ps:=["_law_lines", "_law_number", "_law_names_here"]) X G û λF=>F.binds (ps:=["_law_lines", "_law_number", "_law_names_here"]) λ_ _ _ _ _ _ us hl=>by obtain⟨_,_,_,rfl⟩:=vw hl;rfl),
  Classical.choice (eF (ps:=["_law_text"]) X G ú λF=>F.binds (ps:=["_law_text"]) λ_ _ _ _ _ _ us hl=>by obtain⟨_,rfl⟩:=Q4 hl;rfl),
  ⟨_,_,OZ,dq X G OS,ì⟩,cy X G CS,cy X G HR,cy X G HY,cy X G Ba,cy X G iL,cy X G eK,cy X G HS,cy X G yb,cy X G Bc,cy X G ER,cy X G EO,cy X G CG,xw,dq X G CQ,ve,dq X G Ap,vd,dq X G u_,t_,dq X G zk,yg,dq X G CH,GR l6,GR iK,GR lC,⟨_,dq X G Ih⟩,⟨_,dq X G Ig⟩,⟨_,dq X G CI⟩,⟨_,_,_,_,dq X G H_,Xr,rfl,rfl,V5,VI⟩,⟨_,_,_,dq X G Bb,Xm,Xn,Xl,Xk⟩,⟨_,dq X G Bd⟩,⟨_,dq X G CW⟩⟩⟩
def walk{l:PySem.W.OpenLaw}{q:Program}{loose:List Str}{XP:(Str->Option Value)->Heap->Prop}{YP:World->Heap->Prop}{d:DefRec}{K:Params->Fg}(hm:∀ns:List Int,ns.length<=63->∃as,zz [.v<|.lst<|ns.map .int]=aA (.v<|.bl true,as))(hn:l.most=aA 63)(Bh:d.params.defaults=[])(hY:∀(w:World) (h:Heap),YP w h->(K w.params).In h)(F:∀(w:World) (mg:Str->Option Value) (fa:Addr) (h:Heap),(K w.params).In h->h.Ns bh mg->mg d.name=aA (.ref fa) ->
   ∃fd:FuncData,(∀(s:Shared) (u:Value),BindsTo s fd ⟨[u],[]⟩ [("_law_script",u)])/\∀base:Heap,(K w.params).In base->base.Ns bh mg->eG l.prog w (K w.params) mg base iW 153 fa fd ["_law_script"] (l5 (K w.params) 1 zz)):qy q loose XP YP l.row.toRowW d [] (λf vs=>qg f vs):=
 L2.VH (n:=63) (k:=153) (x:="_law_script") (CX:=iW) (sp:=λK=>l5 K 1 zz) hn (by decide) Bh ⟨rfl,by decide,by decide,rfl⟩ hY F (λK H a ns hl _ hS=>Rb hm H a ns hl hS) λ_ _ _ _ z=>z
end K06
end
/-! twins that no proof needs: where a constant of such a name stands, the head lays none -/
namespace PySem.W.Fast
def tw8490069725432879606:=0
def tw2172523723200981432:=0
noncomputable def tw10222931965882461396 : PySem.Program := PySem.Challenge.pw_fieldrows_k06_refused_in_order
theorem te10222931965882461396 : PySem.Challenge.pw_fieldrows_k06_refused_in_order = tw10222931965882461396 := rfl
def tw18376282916266833821:=0
def tw17974814628240236708:=0
def tw15333799865818444020:=0
def tw16238313692654956452:=0
def tw7138139288151171426:=0
def tw13902253727590541708:=0
def tw8393597297571996424:=0
def tw16648923591732471151:=0
def tw4345368320069599703:=0
def tw1400657610421216829:=0
def tw17025820391653649225:=0
def tw9282802383427033433:=0
def tw8833629152494803777:=0
def tw7150033558289392027:=0
def tw8816755701363023535:=0
def tw14534897731043675958:=0
def tw2203073399687544155:=0
def tw12764750502050924685:=0
def tw14178739674200655957:=0
def tw9218687578677637952:=0
def tw9721431812499772117:=0
def tw11351828217027731034:=0
def tw13718282153225244216:=0
def tw10128277291743487666:=0
def tw9388855299630987312:=0
def tw9766595126417240085:=0
def tw11171625505927245792:=0
def tw9978548293076410980:=0
def tw4923697936095875003:=0
def tw11205875415484422603:=0
def tw4423623809814383526:=0
def tw5270885579899309979:=0
def tw15606764814444762918:=0
def tw1692609816463035170:=0
def tw14487976062053692513:=0
def tw13499811184068784891:=0
def tw8997911589696180033:=0
def tw11273311160319131691:=0
def tw16467221042256151030:=0
def tw15683301110487158843:=0
def tw12368547842012374898:=0
def tw12754810012200895906:=0
def tw14752678787410713925:=0
def tw2701862508224357948:=0
def tw15445807992338393805:=0
def tw16668832163233644096:=0
def tw10311658704158056804:=0
def tw14830542593365778518:=0
def tw18065327041712007751:=0
def tw10439146432576299617:=0
def tw1501239240790335465:=0
def tw10052050221713108743:=0
def tw39182827357035165:=0
def tw3034168700286831487:=0
def tw5731169343339117978:=0
def tw2023989898479582331:=0
def tw1925888967001345616:=0
def tw10715662352539833780:=0
def tw1992722353658482529:=0
def tw7958187572447284406:=0
def tw6015991455626250465:=0
def tw8651877389650049528:=0
def tw7180794223986873485:=0
def tw5464935607760162750:=0
def tw15018934335051608783:=0
def tw8544333729031337051:=0
def tw5874564294593271399:=0
def tw16084252021512735356:=0
def tw5154814701421013424:=0
def tw10486634305516396603:=0
def tw17925558364431815643:=0
def tw8009251796581018861:=0
def tw13775548030479818957:=0
def tw3019567418231137573:=0
def tw16401144901006109074:=0
def tw2596168414198102931:=0
def tw10048975208050494527:=0
def tw5904339528641120813:=0
def tw9369354036619403778:=0
def tw13148173001742386338:=0
def tw13344349714289783117:=0
def tw15801504975347054258:=0
def tw15256916687905218202:=0
def tw6061451202324312031:=0
def tw8790553912794370235:=0
def tw16962268137245076012:=0
def tw5830951094216318862:=0
def tw11472776689023801261:=0
def tw2594953470116207517:=0
def tw5585268466841794231:=0
def tw11433817565335846502:=0
def tw7495935061143739408:=0
def tw10778640965056368776:=0
def tw1782195482581171516:=0
def tw7882808243155740554:=0
def tw14070708191526615296:=0
def tw15467312396335824503:=0
def tw17313186181040105214:=0
def tw14791177910577899509:=0
def tw10368849004139120648:=0
def tw16253038296754108196:=0
def tw677571459322628299:=0
def tw7284524672633754628:=0
def tw6069686397098041740:=0
def tw8295422441164178419:=0
def tw2291210786329355314:=0
def tw2142632925420435854:=0
def tw8690533751681397199:=0
def tw16408468006867125236:=0
def tw11727494850211519728:=0
def tw13414784317498217269:=0
def tw9232673591118299430:=0
def tw17808045896651719297:=0
def tw17308913092059319982:=0
def tw10086809894697199012:=0
def tw120682445340700913:=0
def tw13986029477742687858:=0
def tw13313536208822144191:=0
def tw10705810231260493660:=0
end PySem.W.Fast
open PyProof.Rows PySem PySem.W
set_option maxRecDepth 100000 in
set_option maxHeartbeats 0 in
theorem PySem.Challenge.cw_fieldrows_k06_refused_in_order_holds : PySem.Challenge.rw_fieldrows_k06_refused_in_order.Holds := by
  w_on; o_law; k_head; (case hw => w_witness2)
  k_fill
  refine K06.walk (l := PySem.Challenge.rw_fieldrows_k06_refused_in_order) K06.law_math rfl rfl (fun w h Y => PySem.W.kIn_of Y) ?F
  case F =>
    intro w mg fa h KX G hmg
    refine' K06.all_mk KX G hmg (K06.dfo ?q0a ?q0b ?q0c ?q0d) (K06.dfo ?q0e ?q0f ?q0g ?q0h) (K06.dfo ?q0i ?q0j ?q0k ?q0l) (K06.dfo ?q0m ?q0n ?q0o ?q0p) (K06.dfo ?q0q ?q0r ?q0s ?q0t) (K06.dfo ?q0u ?q0v ?q0w ?q0x) (K06.dfo ?q0y ?q0z ?q1a ?q1b) (K06.dfo ?q1c ?q1d ?q1e ?q1f) (K06.dfo ?q1g ?q1h ?q1i ?q1j) (K06.dfo ?q1k ?q1l ?q1m ?q1n) (K06.dfo ?q1o ?q1p ?q1q ?q1r) (K06.dfo ?q1s ?q1t ?q1u ?q1v) (K06.dfo ?q1w ?q1x ?q1y ?q1z) (K06.dfo ?q2a ?q2b ?q2c ?q2d) (K06.dfo ?q2e ?q2f ?q2g ?q2h) (K06.dfo ?q2i ?q2j ?q2k ?q2l) (K06.dfo ?q2m ?q2n ?q2o ?q2p) (K06.dfo ?q2q ?q2r ?q2s ?q2t) (K06.dfo ?q2u ?q2v ?q2w ?q2x) (K06.dfo ?q2y ?q2z ?q3a ?q3b) (K06.dfo ?q3c ?q3d ?q3e ?q3f) (K06.dfo ?q3g ?q3h ?q3i ?q3j) (K06.dfo ?q3k ?q3l ?q3m ?q3n) (K06.dfo ?q3o ?q3p ?q3q ?q3r) (K06.dfo ?q3s ?q3t ?q3u ?q3v) (K06.dfo ?q3w ?q3x ?q3y ?q3z) (K06.dfo ?q4a ?q4b ?q4c ?q4d) (K06.dfo ?q4e ?q4f ?q4g ?q4h) (K06.dfo ?q4i ?q4j ?q4k ?q4l) (K06.dfo ?q4m ?q4n ?q4o ?q4p) (K06.dfo ?q4q ?q4r ?q4s ?q4t) (K06.dfo ?q4u ?q4v ?q4w ?q4x) (K06.dfo ?q4y ?q4z ?q5a ?q5b) (K06.dfo ?q5c ?q5d ?q5e ?q5f) (K06.dfo ?q5g ?q5h ?q5i ?q5j) (K06.dfo ?q5k ?q5l ?q5m ?q5n) (K06.dfo ?q5o ?q5p ?q5q ?q5r) (K06.dfo ?q5s ?q5t ?q5u ?q5v) (K06.dfo ?q5w ?q5x ?q5y ?q5z) (K06.dfo ?q6a ?q6b ?q6c ?q6d) (K06.dfo ?q6e ?q6f ?q6g ?q6h) (K06.dfo ?q6i ?q6j ?q6k ?q6l) (K06.dfo ?q6m ?q6n ?q6o ?q6p) (K06.dfo ?q6q ?q6r ?q6s ?q6t) (K06.dfo ?q6u ?q6v ?q6w ?q6x)  ?q6y ?q6z ?q7a ?q7b ?q7c ?q7d ?q7e ?q7f ?q7g ?q7h ?q7i ?q7j ?q7k ?q7l ?q7m ?q7n ?q7o ?q7p ?q7q ?q7r ?q7s ?q7t ?q7u ?q7v ?q7w ?q7x ?q7y ?q7z ?q8a ?q8b ?q8c ?q8d ?q8e ?q8f
    (case q0a|q0b|q0c|q0d|q0e|q0f|q0g|q0h|q0i|q0j|q0k|q0l|q0m|q0n|q0o|q0p|q0q|q0r|q0s|q0t|q0u|q0v|q0w|q0x|q0y|q0z|q1a|q1b|q1c|q1d|q1e|q1f|q1g|q1h|q1i|q1j|q1k|q1l|q1m|q1n|q1o|q1p|q1q|q1r|q1s|q1t|q1u|q1v|q1w|q1x|q1y|q1z|q2a|q2b|q2c|q2d|q2e|q2f|q2g|q2h|q2i|q2j|q2k|q2l|q2m|q2n|q2o|q2p|q2q|q2r|q2s|q2t|q2u|q2v|q2w|q2x|q2y|q2z|q3a|q3b|q3c|q3d|q3e|q3f|q3g|q3h|q3i|q3j|q3k|q3l|q3m|q3n|q3o|q3p|q3q|q3r|q3s|q3t|q3u|q3v|q3w|q3x|q3y|q3z|q4a|q4b|q4c|q4d|q4e|q4f|q4g|q4h|q4i|q4j|q4k|q4l|q4m|q4n|q4o|q4p|q4q|q4r|q4s|q4t|q4u|q4v|q4w|q4x|q4y|q4z|q5a|q5b|q5c|q5d|q5e|q5f|q5g|q5h|q5i|q5j|q5k|q5l|q5m|q5n|q5o|q5p|q5q|q5r|q5s|q5t|q5u|q5v|q5w|q5x|q5y|q5z|q6a|q6b|q6c|q6d|q6e|q6f|q6g|q6h|q6i|q6j|q6k|q6l|q6m|q6n|q6o|q6p|q6q|q6r|q6s|q6t|q6u|q6v|q6w|q6x|q6y|q6z|q7a|q7b|q7c|q7d|q7e|q7f|q7g|q7h|q7i|q7j|q7k|q7l|q7m|q7n|q7o|q7s|q7t|q7u|q7v|q7w|q7z|q8a|q8e|q8f => k_is)
    (case q7x|q8b => decide)
    (case q7p|q7q|q7r => kernel_rfl)
    (case q7y => repeat (first | exact .nil | refine .cons ⟨_, rfl⟩ ?_))
    (case q8d => repeat (first | exact rfl | refine ⟨_, _, rfl, ⟨_, _, rfl, rfl⟩, ?_⟩))
    (case q8c => repeat (first | exact trivial | refine ⟨⟨_, _, rfl, rfl⟩, ?_⟩))
