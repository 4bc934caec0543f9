import PyProof.Rows.All
import Wide.All
import OpenK.AllK
import Wide.FinOn
import Lean
import PyProof.EqAt
import PyProof.EqKinds
import PyProof.TupleCall
import PySem.Challenge.RW_redquill_k51_deeds_by_numbers
set_option Elab.async false
set_option linter.all false
set_option maxRecDepth 100000
set_option maxHeartbeats 4000000
open PySem renaming wpAny_bind->LA,Addr->LB,Value->LC,wpAny_pure->LD,Shared->LF,wpAny->LJ,sizeLine->LL,model->LN,FuncData->LO,starEach->LR,Program->LS,mainGlobals->LX,Around->LY,Heap->L5,World->L6,Expr->L7,wpAny_newObj_type->Ma,wpAny_setField_rec->Mc,Stmt->Md,sizeLine_eq->Mh,wpAny_holding->Mi,compareOp->Mj,cLine->Mp,wpAny_call_entry->Mq,wpAny_callSpecial?_slot->Mr,wpAny_mono->MC,tupleKind_room_in1->MD,sysModules->ME,wpAny_passesOwn->MG,wpAny_field->MJ,behindInMarks->MK,attributeBase->ML,foldedSetIterable->MM,tupleKind->MO,backTo->MQ,wpAny_dictEntries->MS,pyNext->MT,binaryOp->MZ,wpAny_dictEpoch->M3,wpAny_truthy_bool->M4,wpAny_attempt->M6,assignEach->M7,wpAny_typeNameOfWhole_itemiter->M9,wpAny_typeNameOfWhole_valiter->Nb,wpAny_typeNameOfWhole_keyiter->Nc,sliceBounds->Nd,keywordEach->Nf,wpAny_Call_Name_kw->Nh,rawInt->Ni,bootBuiltins->Nl,wpAny_seqItems->Nu,IsPair->Nz,swapsWith->NA,wpAny_typeNameOf_itemiter->NB,wpAny_typeNameOf_valiter->NG,wpAny_typeNameOf_keyiter->NH,letOwnedTupleGo->NK,codeAny_builtin->NM,codeAny->NN,wpAny_fieldsOf->NS,firstArgMember->NU,Scope->NV,wpAny_isInstance->NY,plainId_quiet->N0,backToKw->N9,atKey->N_,wpAny_execs_nil->Oa,standAt->Ob,codeAny_mono->Od,getMethod->Oe,wpAny_setField->Of,wpAny_newTuple->Og,pyIter->Oh,getattributeRaised->Oi,Paired->Oj,NameKind->Om,wpAny_pyIter_list->Oo,strIterType->Op,wpAny_Call_method0_late->Ov,wpAny_typeOf->Ox,wpAny_rule->Oy,wpAny_isOneOf_itemiter->Oz,getItem->OC,call_meetsIn->OE,CmpOp->OH,wpAny_notOrdered_dict->OI,wpAny_isOneOf_valiter->OJ,builtinLookup_eq_fast->OK,wpAny_updateSeq_pair->OL,wpAny_letGo->OM,isSubtype_stop->ON,storedH->OR,callerA->OT,PassesOwn->OU,Keyword->OV,wpAny_standAt->OX,wpAny_onRaise->OY,wpAny_newList->OZ,typeLookup->O1,IsPart->O5,wpAny_pyIter_slot->O6,valueAt->O7,setField->O8,getAttr?->O9,callWith->O_,subscripted->Pl,loadIfAlive->Pq,wpAny_updateSeq->Ps,wpAny_ite_split->Pt,typeLookup_type->Pu,relabel->Pw,BindsTo->PB,call_meets->PJ,Result->PL,wpAny_handled->PP,wpAny_comprehension_free->PQ,swapsWithSole->PR,swappedStores->PU,meetsH_dict_get_default->P4,bindL->P7,bindC->P8,wpAny_pyNext_list_item->Qc,newExc->Qe,isTrue->Qh,concat_meets->Qi,wpAny_pyNext_list_end->Qo,wpAny_isTrue_Compare1->Qp,wpAny_isOneOf_keyiter->Qq,wpAny_throw->Qs,wpAny_of_eq->Qt,seqIndex_of->Qu,codeAny_forLoop_any->QB,wpAny_setItem_heap->QD,wpAny_load->QE,wpAny_getItem_heap->QF,wpAny_dictSet_heap->QG,wpAny_call->QH,wpAny_Name->QI,typeIs_str->QJ,sub_AttributeError->QK,sliceRange->QL,closureFor->QP,builtinsNs->QQ,wpAny_assign_Name->QT,setItem->QX,field->QY,Draws->Q2
open List renaming length_map->LG,size_toArray->LM,getElem?_eq_getElem->LP,mem_cons_of_mem->LU,mem_cons_self->LV,getD_eq_getElem?_getD->LW,mem_of_getElem?->LZ,length_cons->L0,map_cons->L1,getElem?_map->L4,not_mem_nil->L8,mem_cons->L_,set_cons_zero->Mb,find?_cons->Mf,length_take->Mm,map_map->Mn,take_length->Mo,mem_append_right->Ms,length_nil->Mv,getElem?_cons_zero->Mw,set_cons_succ->My,length_append->Mz,map_append->MB,getElem?_cons_succ->MF,take_add_one->MH,length_filter_le->MP,map_congr_left->MR,lookup_cons->MX,append_nil->M8,getElem?_eq_none->M_,mem_of_mem_take->No,getElem?_set_ne->Np,nodup_cons->Nv,getElem_mem->Nx,zip_cons_cons->NF,filter_append->NI,forIn_cons->NO,cons_append->NR,nil_append->NZ,map_nil->N3,length_drop->N8,pairwise_map->Oc,getElem_map->Oq,forIn_nil->Ow,foldl_cons->OD,countP_cons->OO,any_cons->OP,length_zip->O2,nodup_nil->Ph,drop_zero->Pi,mem_singleton->PX,mem_append->QM
open PySem.Heap renaming get?_push_of_some->LH,get?_push_size->LK,lt_size->LQ,get?_update_other->MI,size_push->MN,SameBut->MV,get?_update_self->M1,get?_push_ne->Pa,ExtBut->Qy
open PySem.Str renaming ofString->LI,length->Ny,append->PK
open Nat renaming ne_of_lt->L9,lt_of_lt_of_le->Me,zero_le->Mg,lt_succ_self->Nk,lt_or_ge->Nw,ne_of_gt->N7,le_succ->Qg
open PySem.PassesOwn renaming never->Ml
open PySem.Obj renaming mapSeq->Mt,data_mapFields->Ol,mapFields->Ou,isFreed_of_fields->Qr,cls_mapFields->QZ
open PySem.Builtin.SmallTypes renaming nextOf->Mu,ownedTupleIsFree->MY,ownedTupleHandOut->OW
open PySem.Builtin.Dict_items renaming ownsTuple->Mx,ownedTupleIsFree->O0,pairFromOwner->Pe
open PyProof.Rows renaming seqObj->MA,get?_update_seq->NL,listUpdate_at->N4,AllBare->Os,boot_isinstance->OF,envOfC->O3,seqEpoch_at->Pm,mirror_perm->Po,failedOf->PH,subscriptTail->PV,subscriptTail_builtinR->Qd,listItems_at->Qf,IntsAre->Qk,bubble_size->Qw,Subscript_->QR,tuples'->QU,Call_->Q4
open PySem.W renaming kitOne->MU,mg_none_of->Nj,kas_rev->Nr,kas_tail3->NP,emptyDict->NQ,kas_desc->NT,kia_one->N5,methodCall_KW->Ot,kas_descPart->OA,instObj->OB,kas_place->OS,callWith_K->O4,plainGet_of->Pn,kas_bin->Px,plainGet->PD,keepIn->PF,mroIn->P0,methodObj->P3,kas_count->P5,hasDictIn->P6,codeIn->Qj,kas_sort->Qv,Frag->Qz,lookIn->QN,fnOf->QO,KasT->QS,takesIn->QV,takerIn->QW
open PySem.Builtin.Str renaming strSliceIndices->MW
open PySem.Calls renaming spliced_cons->M0,callWith_builtin->Nn,spliced_nil->Nt,Name_function_global->PM,evalArgs_plain->QA
open PySem.Around renaming under_plainId->M5,under->Qn
open PySem.F renaming slot_dict_valueiterator_next->Na,slot_dict_itemiterator_next->Ng,slot_dict_keyiterator_next->Nq,plain_extend_loop->NE,slot_zip_next->OG,args_dict_valueiterator_next_1->Pd,entry_dict_valueiterator_next->Pf,args_dict_itemiterator_next_1->Pg,entry_dict_itemiterator_next->Pj,args_dict_keyiterator_next_1->Pk,entry_dict_keyiterator_next->Pr,slot_dict_values_iter->P_,entry_extend_loop->QC,plain_list_iadd->Q0,args_zip_next_1->Q1
open PySem.Builtin.Slice renaming slicePlaces->NC,sliceAdjust->On,sliceApplied->PN
open PySem.Heap.SameBut renaming update->ND,refl->Pc
open PySem.Builtin.Tuple renaming tupleExact->NJ
open PySem.Builtin.Dict renaming showsAll->NW,updateFrom->Qb,pairItems->Qm
open PySem.Paired renaming length->N6,snoc->OQ
open PySem.Builtin.List renaming listLengthHint->Py,listExtendWith->Pz,listSameRef->PZ,listUpdate->Qa
open PySem.Shared renaming TypeIs->PY
open PySem.Heap.IsItemsView renaming typeIs->P9
open PySem.Code renaming isFrame->Ql
open PySem.Txt renaming join->Qx
noncomputable section
open PySem.W (binds_K)
open List (mem_filter mem_range length_eq_zero_iff mem_map)
open Nat (le_trans le_of_lt le_refl not_lt)
local macro_rules | `(tactic| walk_at "j") => `(tactic| exact ⟨rfl, rfl, rfl, by decide +kernel, rfl, by decide +kernel, by decide +kernel⟩)
local macro_rules | `(tactic| walk_at "o") => `(tactic| first | assumption | exact le_trans (by decide) $(Lean.mkIdent `hs) | exact le_of_lt (by assumption) | exact le_trans (by assumption) (by assumption) | exact Me (by assumption) (by assumption) | exact Nat.lt_of_le_of_lt (by assumption) (by assumption) | exact le_trans (by assumption) (le_trans (by decide) $(Lean.mkIdent `hs)) | omega)
namespace L2
open PySem PySem.Spec PyProof.Rows
abbrev aH:=Sum Int Str
def tY:aH->LC->Bool
 | .inl k,v=>Value.isInt k v
 | .inr x,v=>Value.isStrOf x v
def KM(w:L6):aH->Int
 | .inl k=>hashInt k
 | .inr x=>hashStr w x
theorem cQ:∀ {k:aH} {v:LC},tY k v=true->(∃ i t,k=Sum.inl i/\v=Value.int i t)\/(∃ x t,k=Sum.inr x/\v=Value.str x t)
 | .inl i,v,h=>by
  obtain⟨t,e⟩:=Value.isInt_shape (k:=i) (v:=v) h;exact .inl ⟨i,t,rfl,e⟩
 | .inr x,v,h=>by
  obtain⟨t,e⟩:=Value.isStrOf_shape (x:=x) (v:=v) h;exact .inr ⟨x,t,rfl,e⟩
theorem Ca(i:Int)(t:Tok):tY (.inl i) (.int i t)=true:=by simp[tY,Value.isInt]
theorem B_(x:Str)(t:Tok):tY (.inr x) (.str x t)=true:=by simp[tY,Value.isStrOf]
theorem HN(a b:Int):decide ((Sum.inl a:aH)=Sum.inl b)=(a == b):=by
 by_cases e:a=b
 ·subst e;simp
 ·have h:¬ (Sum.inl a:aH)=Sum.inl b:=fun q=>e (Sum.inl.inj q);rw[decide_eq_false h];exact (beq_eq_false_iff_ne.mpr e).symm
theorem HJ(a b:Str):decide ((Sum.inr a:aH)=Sum.inr b)=decide (a=b):=by
 by_cases e:a=b
 ·subst e;simp
 ·have h:¬ (Sum.inr a:aH)=Sum.inr b:=fun q=>e (Sum.inr.inj q);rw[decide_eq_false h,decide_eq_false e]
theorem HM(a:Int)(b:Str):decide ((Sum.inl a:aH)=Sum.inr b)=false:=decide_eq_false (fun q=>nomatch q)
theorem HK(a:Str)(b:Int):decide ((Sum.inr a:aH)=Sum.inl b)=false:=decide_eq_false (fun q=>nomatch q)
def aO(prog:LS)(w:L6):PySem.KeyKind prog w aH where
 is:=tY
 hash:=KM w
 inj:=fun v a b ha hb=>by
  rcases cQ ha with ⟨i,t,rfl,rfl⟩|⟨x,t,rfl,rfl⟩
  ·rcases cQ hb with ⟨j,u,rfl,e⟩|⟨y,u,rfl,e⟩
   ·injection e with e1 _;rw[e1]
   ·exact nomatch e
  ·rcases cQ hb with ⟨j,u,rfl,e⟩|⟨y,u,rfl,e⟩
   ·exact nomatch e
   ·injection e with e1 _;rw[e1]
 byValue:=fun k v h=>by
  rcases cQ h with ⟨i,t,rfl,rfl⟩|⟨x,t,rfl,rfl⟩<;>rfl
 pyHash:=fun hv h=>by
  rcases cQ hv with ⟨i,t,rfl,rfl⟩|⟨x,t,rfl,rfl⟩
  ·exact wpAny_pyHash_int h
  ·exact wpAny_pyHash_str h
 eqBool:=fun hu hv h=>by
  rcases cQ hu with ⟨i,t,rfl,rfl⟩|⟨x,t,rfl,rfl⟩
  ·rcases cQ hv with ⟨j,u,rfl,rfl⟩|⟨y,u,rfl,rfl⟩
   ·rw[HN]at h;exact wpAny_eqBool_int h
   ·rw[HM]at h;exact SeqAt.EqAt.int_str i t y u _ _ _ _ h
  ·rcases cQ hv with ⟨j,u,rfl,rfl⟩|⟨y,u,rfl,rfl⟩
   ·rw[HK]at h;exact SeqAt.EqAt.str_int x t j u _ _ _ _ h
   ·rw[HJ]at h;exact wpAny_eqBool_str h
 «strs»:=fun k x t v h=>by
  rcases cQ h with ⟨i,u,rfl,e⟩|⟨y,u,rfl,e⟩
  ·exact nomatch e
  ·injection e with e1 _
   subst e1;cases v<;>rfl
theorem yZ(prog:LS)(w:L6)(i:Int)(t:Tok):(aO prog w).is (.inl i) (.int i t)=true:=Ca i t
theorem yY(prog:LS)(w:L6)(x:Str)(t:Tok):(aO prog w).is (.inr x) (.str x t)=true:=B_ x t
set_option genInjectivity false in
inductive V where
 | non|bl (b:Bool)|int (i:Int)|str (x:Str)|byt (b:Array UInt8)|flt (b:UInt64)|ref (a:LB)|ty (n:String)
 deriving DecidableEq
def aJ:V->LC->Prop
 | .non,u=>u=Value.none
 | .bl b,u=>u=Value.bool b
 | .int i,u=>∃ t,u=Value.int i t
 | .str x,u=>∃ t,u=Value.str x t
 | .byt b,u=>∃ t,u=Value.bytes b t
 | .flt b,u=>∃ t,u=Value.float b t
 | .ref a,u=>u=Value.ref a
 | .ty n,u=>u=Value.type n
abbrev Vals:List V->List LC->Prop:=Oj aJ
theorem Vals.length{xs:List V}{us:List LC}(r:Vals xs us):xs.length=us.length:=N6 r
theorem Vals.get:∀ {xs:List V} {us:List LC} {i:Nat} {x:V},Vals xs us->xs[i]?=some x->∃ u,us[i]?=some u/\aJ x u
 | _,_,_,_,.nil,e=>by simp at e
 | _,_,0,_,.cons r _,e=>by simp at e;subst e;exact⟨_,rfl,r⟩
 | _,_,i+1,x,.cons _ t,e=>by
  obtain⟨u,h1,h2⟩:=Vals.get (i:=i) (x:=x) t (by simpa using e)
  exact⟨u,by simpa using h1,h2⟩
theorem Vals.set{x:V}{u:LC}(r:aJ x u):∀ {xs:List V} {us:List LC} (i:Nat),Vals xs us->Vals (xs.set i x) (us.set i u)
 | _,_,_,.nil=>.nil
 | _,_,0,.cons _ t=>.cons r t
 | _,_,i+1,.cons q t=>.cons q (Vals.set r i t)
theorem Vals.append:∀ {xs ys:List V} {us ws:List LC},Vals xs us->Vals ys ws->Vals (xs ++ ys) (us ++ ws)
 | _,_,_,_,.nil,s=>s
 | _,_,_,_,.cons r t,s=>.cons r (Vals.append t s)
theorem Vals.take:∀ {xs:List V} {us:List LC} (n:Nat),Vals xs us->Vals (xs.take n) (us.take n)
 | _,_,0,_=>.nil
 | _,_,_+1,.nil=>.nil
 | _,_,n+1,.cons r t=>.cons r (Vals.take n t)
theorem Vals.drop:∀ {xs:List V} {us:List LC} (n:Nat),Vals xs us->Vals (xs.drop n) (us.drop n)
 | _,_,0,r=>r
 | _,_,_+1,.nil=>.nil
 | _,_,n+1,.cons _ t=>Vals.drop n t
def lh:Option V->Option LC->Prop
 | some v,some u=>aJ v u
 | none,none=>True
 | _,_=>False
def KV{κ:Type}:List (κ×V)->List (κ×LC)->Prop:=Oj fun (p:κ×V) (q:κ×LC)=>p.1=q.1/\aJ p.2 q.2
def kV:aH->V
 | .inl i=>.int i
 | .inr x=>.str x
set_option genInjectivity false in
inductive HO where
 | lst (xs:List V)
 | tup (xs:List V)
 | dK (kvs:List (aH×V))|dT (kvs:List (List aH×V))
 | set (S:Int->Bool) (n:Nat)
 | ins (C dx:LB) (fs:List (Str×V))
 | own (x:LB)
 | xd (fs:List (Str×V))
 | met (f x:LB)
 | rng (lo hi:Int)
 | frz (o:Obj) (u:HO)
 | tbl (ps:Array LC)
 | ext (φ:L5->Prop)
abbrev Hp:=LB->Option HO
def bv(H:Hp)(a:LB)(o:HO):Hp:=fun b=>if b=a then some o else H b
theorem aM{H:Hp}{a:LB}{o:HO}:bv H a o a=some o:=by unfold bv;rw[if_pos rfl]
theorem aA{H:Hp}{a b:LB}{o:HO}(h:b≠a):bv H a o b=H b:=by unfold bv;rw[if_neg h]
theorem Jr{H:Hp}{a b:LB}{o u:HO}(h:H a=some o)(h':H b=some u)(d:o≠u):a≠b:=by
 intro e;subst e;rw[h]at h';exact d (Option.some.inj h')
theorem bZ{H:Hp}{a b:LB}{o:HO}(h:H a=some o)(h':H b=none):a≠b:=by
 intro e;subst e;rw[h]at h';cases h'
section
variable(P:LS)(w:L6)
def ut(h:L5)(a:LB)(items:Array LC):Prop:=∃ o,h.get? a=some o/\(o.cls=.type "tuple"/\o.dict=none)/\∃ n,o.data=.seq items n
def cg(H:Hp)(h:L5)(a:LB):HO->Prop
 | .lst xs=>xs.length<=LL/\∃ (its:List LC) (n:Nat),Vals xs its/\h.get? a=some { cls:=.type "list",data:=.seq its.toArray n }
 | .tup xs=>xs.length<=LL/\∃ its:List LC,Vals xs its/\ut h a its.toArray
 | .dK kvs=>kvs.length<=LL/\(a == ME)=false/\∃ vs,KV kvs vs/\h.DictOf (aO P w) a vs
 | .dT kvs=>kvs.length<=LL/\(a == ME)=false/\∃ xs:List (List aH×LB×LC),
   Oj (fun (p:List aH×V) (q:List aH×LB×LC)=>p.1=q.1/\H q.2.1=some (.tup (p.1.map kV))/\aJ p.2 q.2.2) kvs xs/\
   ∃ o es ep,h.get? a=some o/\o.ExactDict/\o.data=.dict es ep/\es.toList=xs.map (entryOfKey (MO (aO P w)))/\(xs.map (·.1)).Nodup
 | .set S n=>h.SetOf (intKind P w) a S n
 | .ins C dx fs=>H dx=some (.own a)/\fs.length<=1000/\dx≠a/\h.get? a=some (OB C dx)/\
   ∃ mA,h.Ns1 dx mA/\(∀ f,lh (fs.lookup f) (mA f))/\PySem.Within mA (fs.map (·.1))
 | .own _=>∃ o,h.get? a=some o
 | .xd fs=>∃ mA,h.Ns1 a mA/\∀ f,lh (fs.lookup f) (mA f)
 | .rng lo hi=>∃ t u v,h.get? a=some { cls:=.type "range",data:=.fields #[.int lo t,.int hi u,.int 1 v] }
 | .frz o u=>h.get? a=some o/\cg H h a u
 | .tbl ps=>h.get? a=some { cls:=.none,data:=.fields ps }
 | .met f x=>h.get? a=some (P3 (.ref f) (.ref x))
 | .ext φ=>φ h/\(∃ o,h.get? a=some o)/\∀ h1 h2:L5,φ h1->(∀ o,h1.get? a=some o->h2.get? a=some o)->φ h2
theorem ut.new(h:L5)(items:Array LC):ut (h.push { cls:=.type "tuple",data:=.seq items }) h.objs.size items:=⟨_,LK _ rfl,⟨rfl,rfl⟩,_,rfl⟩
theorem ut.tup{h:L5}{a:LB}{items:Array LC}(x:ut h a items):IsTup h a items:=let ⟨o,e,c,d⟩:=x;⟨o,e,c.1,d⟩
def oa(H:Hp)(h:L5):Prop:=∀ a o,H a=some o->cg P w H h a o
end
section
variable{P:LS}{w:L6}{H H':Hp}{h h':L5}{a:LB}{o:HO}
theorem cg.lt(x:cg P w H h a o):a < h.objs.size:=by
 cases o with
 | lst xs=>obtain⟨_,_,_,_,e⟩:=x;exact LQ e
 | tup xs=>obtain⟨_,_,_,p⟩:=x;exact p.tup.lt
 | dK kvs=>obtain⟨_,_,_,_,o,_,_,e,_⟩:=x;exact LQ e
 | dT kvs=>obtain⟨_,_,_,_,o,_,_,e,_⟩:=x;exact LQ e
 | set S n=>obtain⟨o,_,_,_,e,_⟩:=x;exact LQ e
 | ins C dx fs=>obtain⟨_,_,_,e,_⟩:=x;exact LQ e
 | own y=>obtain⟨_,e⟩:=x;exact LQ e
 | xd fs=>obtain⟨_,⟨_,_,_,e,_⟩,_⟩:=x;exact LQ e
 | rng lo hi=>obtain⟨_,_,_,e⟩:=x;exact LQ e
 | frz ob u=>obtain⟨e,_⟩:=x;exact LQ e
 | tbl ps=>exact LQ (show h.get? a=some _ from x)
 | met f y=>exact LQ (show h.get? a=some _ from x)
 | ext φ=>obtain⟨_,⟨_,e⟩,_⟩:=x;exact LQ e
theorem Paired.mapP{α β:Type}{F G:α->β->Prop}:∀ {l₁:List α} {l₂:List β},Oj F l₁ l₂->(∀ a b,F a b->G a b)->Oj G l₁ l₂
 | _,_,.nil,_=>.nil
 | _,_,.cons r t,f=>.cons (f _ _ r) (Paired.mapP t f)
theorem cg.stay(x:cg P w H h a o)(k:∀ b u,(b=a\/H b=some (.own a))->h.get? b=some u->h'.get? b=some u)
  (ho:∀ b,H b=some (.own a)->H' b=some (.own a)) (ht:∀ b xs,H b=some (.tup xs)->H' b=some (.tup xs)):cg P w H' h' a o:=by
 induction o with
 | lst xs=>obtain⟨z,its,n,r,e⟩:=x;exact⟨z,its,n,r,k _ _ (.inl rfl) e⟩
 | tup xs=>obtain⟨z,its,r,ob,e,c⟩:=x;exact⟨z,its,r,ob,k _ _ (.inl rfl) e,c⟩
 | dK kvs=>obtain⟨z,y,vs,r,ob,es,ep,e,c⟩:=x;exact⟨z,y,vs,r,ob,es,ep,k _ _ (.inl rfl) e,c⟩
 | dT kvs=>
  obtain⟨z,y,xs,r,ob,es,ep,e,c⟩:=x;exact⟨z,y,xs,Paired.mapP r fun p q z=>⟨z.1,ht _ _ z.2.1,z.2.2⟩,ob,es,ep,k _ _ (.inl rfl) e,c⟩
 | set S n=>obtain⟨ob,es,ep,t,e,c⟩:=x;exact⟨ob,es,ep,t,k _ _ (.inl rfl) e,c⟩
 | ins C dx fs=>
  obtain⟨d,z,ne,e,mA,⟨od,es,ep,e2,c⟩,r⟩:=x;exact⟨ho _ d,z,ne,k _ _ (.inl rfl) e,mA,⟨od,es,ep,k _ _ (.inr d) e2,c⟩,r⟩
 | own y=>obtain⟨ob,e⟩:=x;exact⟨ob,k _ _ (.inl rfl) e⟩
 | xd fs=>obtain⟨mA,⟨od,es,ep,e,c⟩,r⟩:=x;exact⟨mA,⟨od,es,ep,k _ _ (.inl rfl) e,c⟩,r⟩
 | rng lo hi=>obtain⟨t,u,v,e⟩:=x;exact⟨t,u,v,k _ _ (.inl rfl) e⟩
 | frz ob u ih=>obtain⟨e,q⟩:=x;exact⟨k _ _ (.inl rfl) e,ih q⟩
 | tbl ps=>
  have e:h.get? a=some { cls:=.none,data:=.fields ps }:=x;show h'.get? a=some { cls:=.none,data:=.fields ps }
  exact k a _ (.inl rfl) e
 | met f y=>
  have e:h.get? a=some (P3 (.ref f) (.ref y)):=x;show h'.get? a=some (P3 (.ref f) (.ref y))
  exact k a _ (.inl rfl) e
 | ext φ=>obtain⟨p,⟨o,e⟩,st⟩:=x;exact⟨st _ _ p fun o q=>k _ _ (.inl rfl) q,⟨o,k _ _ (.inl rfl) e⟩,st⟩
theorem oa.lt(x:oa P w H h)(e:H a=some o):a < h.objs.size:=(x a o e).lt
theorem oa.fresh(x:oa P w H h)(e:h.objs.size<=a):H a=none:=by
 cases q:H a with
 | none=>rfl
 | some u=>exact absurd (Me (x.lt q) e) (Nat.lt_irrefl _)
theorem oa.kept(x:oa P w H h)(k:∀ b u,h.get? b=some u->h'.get? b=some u):oa P w H h':=fun a o e=>
 (x a o e).stay (fun b u _ q=>k b u q) (fun _ q=>q) fun _ _ q=>q
theorem oa.laid(x:oa P w H h)(k:∀ b u,h.get? b=some u->h'.get? b=some u)(hp:h.objs.size<=a)(new:cg P w (bv H a o) h' a o):oa P w (bv H a o) h':=fun b u e=>by
 have hn:=x.fresh hp
 by_cases hb:b=a
 ·subst hb;rw[aM]at e;cases e;exact new
 ·rw[aA hb]at e;exact (x b u e).stay (fun c v _ q=>k c v q) (fun c q=>by rw[aA (bZ q hn)];exact q) fun c xs q=>by rw[aA (bZ q hn)];exact q
end
def Rd(H:Hp)(a:LB)(u:HO):Prop:=H a=some u\/∃ o,H a=some (.frz o u)
theorem Rd.ok{P:LS}{w:L6}{H:Hp}{h:L5}{a:LB}{u:HO}(r:Rd H a u)(x:oa P w H h):cg P w H h a u:=by
 rcases r with r|⟨o,r⟩
 ·exact x a u r
 ·obtain⟨_,q⟩:=x a _ r;exact q
def CD:Option HO->Prop
 | some (.lst _)=>True
 | some (.dK _)=>True
 | some (.dT _)=>True
 | some (.set _ _)=>True
 | some (.ins _ _ _)=>True
 | some (.ext _)=>True
 | _=>False
section
variable{P:LS}{w:L6}{H:Hp}{h h':L5}{x e:LB}{o':HO}
theorem oa.write(ok:oa P w H h)(mu:CD (H x))(he:e=x\/H e=some (.own x))(k:∀ b u,b≠e->h.get? b=some u->h'.get? b=some u)(heo:∃ u,h'.get? e=some u)
  (new:cg P w (bv H x o') h' x o'):oa P w (bv H x o') h':=fun b u q=>by
 have UP:∀ c y,H c=some (.own y)->c≠x:=fun c y r z=>by subst z;rw[r]at mu;exact mu
 have U5:∀ c xs,H c=some (.tup xs)->c≠x:=fun c xs r z=>by subst z;rw[r]at mu;exact mu
 by_cases hb:b=x
 ·subst hb;rw[aM]at q;cases q;exact new
 ·rw[aA hb]at q
  by_cases hbe:b=e
  ·have q':H b=some (.own x):=by
    rcases he with z|z
    ·exact absurd (hbe.trans z) hb
    ·rw[hbe];exact z
   rw[q]at q';cases q';obtain⟨v,hv⟩:=heo;exact⟨v,by rw[hbe];exact hv⟩
  ·refine (ok b u q).stay (fun c v hc r=>k c v ?_ r) (fun c r=>by rw[aA (UP c b r)];exact r) fun c xs r=>by rw[aA (U5 c xs r)];exact r
   rcases hc with rfl|hc
   ·exact hbe
   ·rintro rfl
    rcases he with z|z
    ·exact UP c b hc z
    ·rw[hc]at z;cases z;exact hb rfl
end
structure Un(fs ex:List LB)(H H':Hp)(h h':L5):Prop where
 keep:∀ b o,h.get? b=some o->H b=none->b∉fs->b∉ex->h'.get? b=some o
 slot:∀ b o,h.get? b=some o->H b=none->b∈fs->b∉ex->∃ sl,h'.get? b=some { o with slots:=sl }
 free:∀ b o,h.get? b=some o->H b=none->b∉ex->H' b=none
 there:∀ b o,h.get? b=some o->b∉ex->∃ o',h'.get? b=some o'
 tups:∀ b xs,H b=some (.tup xs)->H' b=some (.tup xs)
 frzs:∀ b o u,H b=some (.frz o u)->H' b=some (.frz o u)
 tbls:∀ b ps,H b=some (.tbl ps)->∃ more,H' b=some (.tbl (ps ++ more))
section
variable{fs fs' ex ex':List LB}{H H1 H2:Hp}{h h1 h2 h':L5}{a x e:LB}{o:HO}
theorem Un.any(u:Un fs ex H H1 h h1){b:LB}{ob:Obj}(q:h.get? b=some ob)(n:H b=none)(hx:b∉ex):∃ sl,h1.get? b=some { ob with slots:=sl }:=by
 by_cases hb:b∈fs
 ·exact u.slot b ob q n hb hx
 ·exact⟨ob.slots,u.keep b ob q n hb hx⟩
theorem Un.kept(k:∀ b u,h.get? b=some u->h'.get? b=some u):Un fs ex H H h h':=
 ⟨fun b ob q _ _ _=>k b ob q,fun b ob q _ _ _=>⟨ob.slots,k b ob q⟩,fun _ _ _ n _=>n,fun b ob q _=>⟨ob,k b ob q⟩,fun _ _ q=>q,fun _ _ _ q=>q,fun _ ps q=>⟨#[],by rw[q];simp⟩⟩
theorem Un.refl:Un fs ex H H h h:=Un.kept fun _ _ q=>q
theorem Un.laid(k:∀ b u,h.get? b=some u->h'.get? b=some u)(hp:h.objs.size<=a)(hn:H a=none):Un fs ex H (bv H a o) h h' where
 keep:=fun b u q _ _ _=>k b u q
 slot:=fun b u q _ _ _=>⟨u.slots,k b u q⟩
 free:=fun b u q n _=>by rw[aA (L9 (Me (LQ q) hp))];exact n
 there:=fun b u q _=>⟨u,k b u q⟩
 tups:=fun b xs q=>by rw[aA (bZ q hn)];exact q
 frzs:=fun b u xs q=>by rw[aA (bZ q hn)];exact q
 tbls:=fun b ps q=>⟨#[],by rw[aA (bZ q hn),q];simp⟩
theorem Un.write(mu:CD (H x))(he:e=x\/H e=some (.own x))(k:∀ b u,b≠e->h.get? b=some u->h'.get? b=some u)(heo:∃ u,h'.get? e=some u):Un fs ex H (bv H x o) h h':=by
 have hx:∀ b,H b=none->b≠x:=fun b n z=>by subst z;rw[n]at mu;exact mu
 have hb:∀ b,H b=none->b≠e:=fun b n z=>by
  subst z;rcases he with r|r
  ·exact hx b n r
  ·rw[n]at r;cases r
 have hm:∀ b u,H b=some u->¬ CD (some u)->b≠x:=fun b u q nm z=>by subst z;rw[q]at mu;exact nm mu
 refine⟨fun b u q n _ _=>k b u (hb b n) q,fun b u q n _ _=>⟨u.slots,k b u (hb b n) q⟩,fun b u q n _=>by rw[aA (hx b n)];exact n,fun b u q _=>?_,
  fun b xs q=>by rw[aA (hm b _ q fun z=>z)];exact q,fun b u xs q=>by rw[aA (hm b _ q fun z=>z)];exact q,fun b ps q=>⟨#[],by rw[aA (hm b _ q fun z=>z),q];simp⟩⟩
 by_cases hbe:b=e
 ·subst hbe;exact heo
 ·exact⟨u,k b u hbe q⟩
end
def Kb(h:L5)(H:Hp):List LB:=(List.range h.objs.size).filter fun a=>(H a).isSome
def xI(h:L5)(H:Hp):L5:=PySem.W.hideAll h (Kb h H)
theorem Ci(h:L5)(H:Hp):(xI h H).objs.size=h.objs.size:=PySem.W.hideAll_size _ _
theorem Eg{h:L5}{H:Hp}{b:LB}{o:Obj}(e:h.get? b=some o)(n:H b=none):(xI h H).get? b=some o:=
 PySem.W.hideAll_get _ e fun hm=>by
  have q:(H b).isSome=true:=(mem_filter.mp hm).2;rw[n]at q;simp at q
theorem Fz{h:L5}{H:Hp}{b:LB}{o:Obj}(e:(xI h H).get? b=some o):h.get? b=some o/\H b=none:=by
 have e':h.get? b=some o:=PySem.W.of_hideAll (Kb h H) e;refine⟨e',?_⟩;cases q:H b with
 | none=>rfl
 | some x=>
  have hm:b∈Kb h H:=mem_filter.mpr ⟨mem_range.mpr (LQ e'),by simp[q]⟩
  have z:(xI h H).get? b=none:=PySem.W.hideAll_none (Kb h H) hm;rw[z]at e;cases e
def Gb(g h:L5)(L:LB):List (LB×Obj):=(List.range h.objs.size).filterMap fun a=>if a=L\/(g.get? a).isSome=true then none else (h.get? a).map fun o=>(a,o)
def mR(g h:L5)(L d:LB):List (LB×Obj):=(Gb g h L).filter fun p=>decide (p.1≠d)
structure Mod(K:PySem.W.Frag)(mg:Str->Option LC)(base:L5):Prop where
 kin:K.In base
 glob:base.Ns LX mg
 blt:∃ mb,base.Ns QQ mb/\∀ x:Str,x≠"__name__"->mb x=Nl x
 nolimit:base.NoLimit
set_option genInjectivity false in
structure Cx where
 prog:LS
 w:L6
 K:PySem.W.Frag
 mg:Str->Option LC
 base:L5
 A:LY
 N:List Str
 s₀:LF
 H₀:Hp
 env:Env
 outer:List Env
 stack:List Env
 ex:List LB
 fn:Str->Bool
 calm:Bool
 pn:List (LB×Obj)
 xe:LC->LF->Prop
def CJ(l:List Env):List LB:=l.filterMap (·.frame)
abbrev Cx.fs(X:Cx):List LB:=CJ X.outer
def J0(sc:NV)(x:Str):Prop:=sc.names.lookup x=some .local\/sc.names.lookup x=some .cell\/sc.names.lookup x=some .free
def Iz(sc:NV)(x:Str):Prop:=sc.names.lookup x=some .local\/sc.names.lookup x=some .cell
def K5(env:Env)(h:L5)(m:Str->Option LC)(x:Str)(u:LC):Prop:=
 (env.kindOf x=some .local/\m x=some u)\/((env.kindOf x=some .cell\/env.kindOf x=some .free)/\∃ c,env.cells.lookup x=some c/\h.IsCell c (some u))
structure Cx.Ok(X:Cx):Prop where
 mod:Mod X.K X.mg X.base
 kind:X.env.scope.kind=.function
 glob:X.env.globals=LX
 blt:X.env.builtins=QQ
 above:X.s₀.heap.objs.size<=X.env.locals
 inj:∀ x y c,X.env.cells.lookup x=some c->X.env.cells.lookup y=some c->x=y
 has:∀ x,(X.env.kindOf x=some .cell\/X.env.kindOf x=some .free)->∃ c,X.env.cells.lookup x=some c
 cab:∀ x c,X.fn x=true->X.env.cells.lookup x=some c->X.s₀.heap.objs.size<=c
 hd:X.calm=true->X.A.handled=none
 frames:X.A.frames=some X.stack
 stk:X.stack=X.outer\/(X.stack=X.env::X.outer/\X.env.frame=some X.env.locals)
 exf:∀ b∈X.ex,b≠X.env.locals/\∀ x c,X.env.cells.lookup x=some c->c≠b
 bs:∀ b o,X.base.get? b=some o->X.s₀.heap.get? b=some o/\X.H₀ b=none
 bsz:X.base.objs.size<=X.s₀.heap.objs.size
 noex:∀ b o,X.base.get? b=some o->b∉X.ex
 exfs:∀ b∈X.ex,b∉X.fs
 funs:X.s₀.heap.FunFrames X.base X.outer
 frf:∀ b∈X.fs,X.H₀ b=none
structure Inv(X:Cx)(pins:List (LB×Obj))(σ:List (Option V))(H:Hp)(s:LF):Prop where
 ok:X.Ok
 os:s.os=X.s₀.os
 bare:Os s.gens
 base:Un X.fs X.ex X.H₀ H X.s₀.heap s.heap
 loc:∃ m,s.heap.Ns X.env.locals m/\∀ (i:Nat) (x:Str) (v:V),X.N[i]?=some x->σ[i]?=some (some v)->J0 X.env.scope x->∃ u,aJ v u/\K5 X.env s.heap m x u
 cell:∀ x c,X.env.cells.lookup x=some c->∃ v,s.heap.IsCell c v
 free:H X.env.locals=none
 freeC:∀ x c,X.env.cells.lookup x=some c->H c=none
 pin:∀ p∈X.pn ++ pins,s.heap.get? p.1=some p.2/\H p.1=none/\p.1≠X.env.locals/\p.1∉X.fs/\∀ v,p.2.data≠.cell v
 hok:oa X.prog X.w H s.heap
 len:σ.length=X.N.length
section
variable{X:Cx}{pins:List (LB×Obj)}{σ:List (Option V)}{H H':Hp}{s:LF}{h':L5}
theorem Cx.Ok.nofr(ok:X.Ok){b:LB}{o:Obj}(e:X.base.get? b=some o):b∉X.fs:=fun hb=>by
 have:=(ok.funs.mem hb).1;rw[e]at this;cases this
theorem Inv.bs(I:Inv X pins σ H s):∀ b o,X.base.get? b=some o->s.heap.get? b=some o/\H b=none:=fun b o e=>
 ⟨I.base.keep b o (I.ok.bs b o e).1 (I.ok.bs b o e).2 (I.ok.nofr e) (I.ok.noex b o e),I.base.free b o (I.ok.bs b o e).1 (I.ok.bs b o e).2 (I.ok.noex b o e)⟩
theorem Inv.bk(I:Inv X pins σ H s):∀ b o,X.base.get? b=some o->s.heap.get? b=some o:=fun b o e=>(I.bs b o e).1
theorem Inv.mod(I:Inv X pins σ H s):Mod X.K X.mg X.base:=I.ok.mod
theorem Inv.kIn(I:Inv X pins σ H s):X.K.In s.heap:=I.ok.mod.kin.keeps I.bk
theorem Inv.lt(I:Inv X pins σ H s):X.env.locals < s.heap.objs.size:=let ⟨_,hn,_⟩:=I.loc;hn.lt
theorem Inv.sz(I:Inv X pins σ H s):X.s₀.heap.objs.size<=s.heap.objs.size:=le_trans I.ok.above (le_of_lt I.lt)
theorem Inv.nofs(I:Inv X pins σ H s){a:LB}(h:s.heap.objs.size<=a):a∉X.fs:=fun hb=>by
 obtain⟨_,o,ho,_⟩:=I.ok.funs.mem hb;exact absurd (Me (LQ ho) (le_trans I.sz h)) (Nat.lt_irrefl _)
theorem Inv.cne(I:Inv X pins σ H s):∀ x c,X.env.cells.lookup x=some c->c≠X.env.locals:=fun x c e z=>by
 obtain⟨v,o,ho,hd⟩:=I.cell x c e;obtain⟨m,⟨o',es,ep,ho',hd',_⟩,_⟩:=I.loc;rw[z,ho']at ho;cases ho;rw[hd']at hd;cases hd
theorem Inv.funs(I:Inv X pins σ H s):s.heap.FunFrames X.base X.outer:=by
 have all:∀ (l:List Env),(∀ b∈CJ l,b∈X.fs)->X.s₀.heap.FunFrames X.base l->s.heap.FunFrames X.base l:=by
  intro l
  induction l with
  | nil=>intro _ _;trivial
  | cons env r ih=>
   intro hs hl;obtain⟨hk,⟨L,o,hf,hn,ho,hd⟩,hr⟩:=hl;have hL:L∈X.fs:=hs L (by unfold CJ;rw[List.filterMap_cons,hf];exact LV)
   obtain⟨sl,e⟩:=I.base.slot L o ho (I.ok.frf L hL) hL fun z=>I.ok.exfs L z hL;exact⟨hk,⟨L,_,hf,hn,e,hd⟩,ih (fun b hb=>hs b (by unfold CJ;rw[List.filterMap_cons,hf];exact LU _ hb)) hr⟩
 exact all X.outer (fun _ hb=>hb) I.ok.funs
theorem Inv.stack(I:Inv X pins σ H s):s.heap.FunFrames X.base X.stack:=by
 rcases I.ok.stk with e|⟨e,hf⟩
 ·rw[e];exact I.funs
 ·rw[e];obtain⟨m,hn,_⟩:=I.loc;refine .cons (by rw[I.ok.kind];decide) hf hn ?_ I.funs
  exact Heap.get?_none_of_le (le_trans I.ok.bsz I.ok.above)
theorem Inv.stkSub(I:Inv X pins σ H s):∀ b∈CJ X.stack,b∈X.env.locals::X.fs:=fun b hb=>by
 rcases I.ok.stk with e|⟨e,hf⟩
 ·rw[e]at hb;exact LU _ hb
 ·rw[e]at hb;unfold CJ at hb;rw[List.filterMap_cons,hf]at hb;exact hb
theorem Inv.stkFree(I:Inv X pins σ H s):∀ b∈CJ X.stack,H b=none:=fun b hb=>by
 rcases L_.mp (I.stkSub b hb)with e|hb
 ·rw[e];exact I.free
 ·obtain⟨_,o,ho,_⟩:=I.ok.funs.mem hb;exact I.base.free b o ho (I.ok.frf b hb) fun z=>I.ok.exfs b z hb
theorem Inv.step{g':Array GenState}{t':Nat}{d':Drawn}{ch:List LB}(I:Inv X pins σ H s)
  (hch:∀ b∈ch,(b∈X.ex\/X.s₀.heap.objs.size<=b)/\b≠X.env.locals/\(∀ x c,X.env.cells.lookup x=some c->c≠b)/\∀ p∈X.pn ++ pins,p.1≠b)
  (keep:∀ b o,b≠X.env.locals->b∉X.fs->b∉ch->s.heap.get? b=some o->H b=none->h'.get? b=some o)
  (slot:∀ b o,b≠X.env.locals->b∈X.fs->b∉ch->s.heap.get? b=some o->H b=none->∃ sl,h'.get? b=some { o with slots:=sl }) (free:∀ b o,b∉ch->s.heap.get? b=some o->H b=none->H' b=none)
  (there:∀ b o,b∉ch->s.heap.get? b=some o->∃ o',h'.get? b=some o')
  (tups:∀ b xs,H b=some (.tup xs)->H' b=some (.tup xs)) (frzs:∀ b o u,H b=some (.frz o u)->H' b=some (.frz o u)) (tbls:∀ b ps,H b=some (.tbl ps)->∃ more,H' b=some (.tbl (ps ++ more)))
  (ns:∀ m,s.heap.Ns X.env.locals m->h'.Ns X.env.locals m) (hok:oa X.prog X.w H' h') (hg:Os g'):
  Inv X pins σ H' { s with heap:=h',gens:=g',drawn:=d',toks:=t' }:=by
 have neL:∀ b o,X.s₀.heap.get? b=some o->b≠X.env.locals:=fun b o e=>L9 (Me (LQ e) I.ok.above);have neC:∀ b o,X.s₀.heap.get? b=some o->b∉X.ex->b∉ch:=fun b o e hx hb=>by
  rcases (hch b hb).1 with z|z
  ·exact hx z
  ·exact absurd (Me (LQ e) z) (Nat.lt_irrefl _)
 have cellK:∀ x c,X.env.cells.lookup x=some c->∀ v,s.heap.IsCell c v->h'.IsCell c v:=fun x c e v zz=>by
  obtain⟨o,ho,hd⟩:=zz;have nch:c∉ch:=fun z=>(hch c z).2.2.1 x c e rfl
  by_cases hc:c∈X.fs
  ·obtain⟨sl,q⟩:=slot c o (I.cne x c e) hc nch ho (I.freeC x c e);exact⟨_,q,hd⟩
  ·exact⟨o,keep c o (I.cne x c e) hc nch ho (I.freeC x c e),hd⟩
 refine⟨I.ok,I.os,hg,⟨fun b o e n hb hx=>?_,fun b o e n hb hx=>?_,fun b o e n hx=>?_,fun b o e hx=>?_,fun b xs e=>tups b xs (I.base.tups b xs e),fun b o xs e=>frzs b o xs (I.base.frzs b o xs e),fun b ps e=>?_⟩,?_,fun x c e=>?_,?_,fun x c e=>?_,fun p hp=>?_,hok,I.len⟩
 ·exact keep b o (neL b o e) hb (neC b o e hx) (I.base.keep b o e n hb hx) (I.base.free b o e n hx)
 ·obtain⟨sl,e1⟩:=I.base.slot b o e n hb hx;obtain⟨sl',e2⟩:=slot b _ (neL b o e) hb (neC b o e hx) e1 (I.base.free b o e n hx);exact⟨sl',e2⟩
 ·obtain⟨o',e1⟩:=I.base.there b o e hx;exact free b o' (neC b o e hx) e1 (I.base.free b o e n hx)
 ·obtain⟨o',e1⟩:=I.base.there b o e hx;exact there b o' (neC b o e hx) e1
 ·obtain⟨m1,e1⟩:=I.base.tbls b ps e;obtain⟨m2,e2⟩:=tbls b _ e1;exact⟨m1 ++ m2,by rw[e2,Array.append_assoc]⟩
 ·obtain⟨m,hn,hl⟩:=I.loc;refine⟨m,ns m hn,fun i x v e1 e2 e3=>?_⟩;obtain⟨u,r,l⟩:=hl i x v e1 e2 e3;refine⟨u,r,?_⟩;rcases l with l|⟨k,c,e,z⟩
  ·exact .inl l
  ·exact .inr ⟨k,c,e,cellK x c e _ z⟩
 ·obtain⟨v,z⟩:=I.cell x c e;exact⟨v,cellK x c e v z⟩
 ·obtain⟨m,⟨o,_,_,ho,_⟩,_⟩:=I.loc;exact free _ o (fun z=>(hch _ z).2.1 rfl) ho I.free
 ·obtain⟨v,o,ho,hd⟩:=I.cell x c e;exact free c o (fun z=>(hch c z).2.2.1 x c e rfl) ho (I.freeC x c e)
 ·obtain⟨e,n,ne,nf,d⟩:=I.pin p hp;have nch:p.1∉ch:=fun z=>(hch p.1 z).2.2.2 p hp rfl;exact⟨keep p.1 p.2 ne nf nch e n,free p.1 p.2 nch e n,ne,nf,d⟩
theorem Inv.un{t':Nat}(I:Inv X pins σ H s)(u:Un X.fs [] H H' s.heap h')(hok:oa X.prog X.w H' h'):Inv X pins σ H' { s with heap:=h',toks:=t' }:=by
 obtain⟨m,⟨o,es,ep,ho,r⟩,_⟩:=id I.loc;obtain⟨sl,hL⟩:=u.any ho I.free (by simp)
 exact I.step (g':=s.gens) (d':=s.drawn) (ch:=[]) (fun _ z=>nomatch z) (fun b o _ hb _ e n=>u.keep b o e n hb (by simp)) (fun b o _ hb _ e n=>u.slot b o e n hb (by simp)) (fun b o _ e n=>u.free b o e n (by simp)) (fun b o _ e=>u.there b o e (by simp)) u.tups u.frzs u.tbls (fun m' hm=>by
  obtain⟨o',es',ep',ho',r'⟩:=hm;rw[ho]at ho';cases ho';exact⟨_,es',ep',hL,r'⟩) hok I.bare
theorem Inv.call{g':Array GenState}{t':Nat}{d':Drawn}{ch:List LB}(I:Inv X pins σ H s)(u:Un (CJ X.stack) ch H H' s.heap h')(hok:oa X.prog X.w H' h')(hg:Os g')
  (hch:∀ b∈ch,(b∈X.ex\/X.s₀.heap.objs.size<=b)/\b≠X.env.locals/\(∀ x c,X.env.cells.lookup x=some c->c≠b)/\∀ p∈X.pn ++ pins,p.1≠b):
  Inv X pins σ H' { s with heap:=h',gens:=g',drawn:=d',toks:=t' }:=by
 obtain⟨m,⟨o,es,ep,ho,r⟩,_⟩:=id I.loc;obtain⟨sl,hL⟩:=u.any ho I.free fun z=>(hch _ z).2.1 rfl;exact I.step (ch:=ch) hch (fun b o hL hb hc e n=>u.keep b o e n (fun z=>(L_.mp (I.stkSub b z)).elim hL hb) hc) (fun b o _ _ hc e n=>u.any e n hc) (fun b o hc e n=>u.free b o e n hc) (fun b o hc e=>u.there b o e hc) u.tups u.frzs u.tbls (fun m' hm=>by
  obtain⟨o',es',ep',ho',r'⟩:=hm;rw[ho]at ho';cases ho';exact⟨_,es',ep',hL,r'⟩) hok hg
theorem Inv.turned{t':Nat}{it:LB}(I:Inv X pins σ H s)(k:∀ b o,b≠it->s.heap.get? b=some o->h'.get? b=some o)(hn:H it=none)(hL:it≠X.env.locals)
  (h1:it∈X.ex\/X.s₀.heap.objs.size<=it) (h2:∀ x c,X.env.cells.lookup x=some c->c≠it) (h3:∀ p∈X.pn ++ pins,p.1≠it):Inv X pins σ H { s with heap:=h',toks:=t' }:=by
 have nit:∀ b u,H b=some u->b≠it:=fun b u e z=>by rw[z,hn]at e;cases e
 refine I.step (g':=s.gens) (d':=s.drawn) (ch:=[it]) (fun b hb=>?_) (fun b o _ _ hc e _=>k b o (fun z=>hc (by simp[z])) e) (fun b o _ _ hc e _=>⟨o.slots,k b o (fun z=>hc (by simp[z])) e⟩) (fun _ _ _ _ n=>n)
  (fun b o hc e=>⟨o,k b o (fun z=>hc (by simp[z])) e⟩) (fun _ _ e=>e) (fun _ _ _ e=>e) (fun b ps e=>⟨#[],by rw[e];simp⟩) (fun m hm=>?_) (fun b u e=>?_) I.bare
 ·have e:b=it:=by simpa using hb
  subst e;exact⟨h1,hL,h2,h3⟩
 ·obtain⟨o,es,ep,ho,r⟩:=hm;exact⟨o,es,ep,k _ o (Ne.symm hL) ho,r⟩
 ·refine (I.hok b u e).stay (fun c v hc q=>k c v ?_ q) (fun _ q=>q) fun _ _ q=>q;rcases hc with z|z
  ·rw[z];exact nit b u e
  ·exact nit c _ z
theorem Inv.tok(I:Inv X pins σ H s)(t:Nat):Inv X pins σ H { s with toks:=t }:=I.un (h':=s.heap) (t':=t) Un.refl I.hok
theorem Inv.kept{t':Nat}(I:Inv X pins σ H s)(k:∀ b u,s.heap.get? b=some u->h'.get? b=some u):Inv X pins σ H { s with heap:=h',toks:=t' }:=I.un (Un.kept k) (I.hok.kept k)
theorem Inv.laid{a:LB}{o:HO}{t':Nat}(I:Inv X pins σ H s)(k:∀ b u,s.heap.get? b=some u->h'.get? b=some u)(hp:s.heap.objs.size<=a)(new:cg X.prog X.w (bv H a o) h' a o):
  Inv X pins σ (bv H a o) { s with heap:=h',toks:=t' }:=I.un (Un.laid k hp (I.hok.fresh hp)) (I.hok.laid k hp new)
theorem Inv.write{x e:LB}{o:HO}{t':Nat}(I:Inv X pins σ H s)(mu:CD (H x))(he:e=x\/H e=some (.own x))(k:∀ b u,b≠e->s.heap.get? b=some u->h'.get? b=some u)(heo:∃ u,h'.get? e=some u)
  (new:cg X.prog X.w (bv H x o) h' x o):Inv X pins σ (bv H x o) { s with heap:=h',toks:=t' }:=I.un (Un.write mu he k heo) (I.hok.write mu he k heo new)
theorem Inv.pins_of{SK:List (LB×Obj)}(I:Inv X pins σ H s)(h:∀ p∈SK,s.heap.get? p.1=some p.2/\H p.1=none/\p.1≠X.env.locals/\p.1∉X.fs/\∀ v,p.2.data≠.cell v):Inv X SK σ H s:=
 ⟨I.ok,I.os,I.bare,I.base,I.loc,I.cell,I.free,I.freeC,fun p hp=>(QM.mp hp).elim (fun z=>I.pin p (List.mem_append_left _ z)) (h p),I.hok,I.len⟩
theorem yU{N:List Str}(hN:N.Nodup){i j:Nat}{x:Str}(a:N[i]?=some x)(b:N[j]?=some x):i=j:=by
 obtain⟨h1,e1⟩:=List.getElem?_eq_some_iff.mp a;obtain⟨h2,e2⟩:=List.getElem?_eq_some_iff.mp b;exact (List.getElem_inj hN).mp (e1.trans e2.symm)
theorem vK{M:Model}{A:LY}{E:LC->LF->Prop}{i:Nat}{x:Str}{v:V}{u:LC}{Q:Unit->LF->Prop}(I:Inv X pins σ H s)(hN:X.N.Nodup)(hi:X.N[i]?=some x)(hx:Iz X.env.scope x)(r:aJ v u)
  (h:∀ s',Inv X pins (σ.set i (some v)) H s'->(∃ a,MV a s.heap s'.heap/\(a=X.env.locals\/X.env.cells.lookup x=some a))->Q () s') (hf:X.fn x=true\/X.env.scope.names.lookup x=some .local:=by first|exact .inl rfl|exact .inr rfl|assumption):LJ M A (storeName X.env x u) Q E s:=by
 obtain⟨m,hn,hl⟩:=id I.loc;have Vb:(X.env.scope.kind == .class || (X.env.scope.kind == .module && X.env.locals != X.env.globals))=false:=by rw[I.ok.kind];rfl
 have hiσ:i < σ.length:=by rw[I.len];exact (List.getElem?_eq_some_iff.mp hi).1
 have cne:=I.cne;have tracked:∀ {a:LB} {h':L5},(∃ o,s.heap.get? a=some o/\H a=none)->MV a s.heap h'->oa X.prog X.w H h':=fun {a h'} ha hs b ob e=>by
  obtain⟨_,_,T_⟩:=ha;refine (I.hok b ob e).stay (fun c w' hc q=>(hs.2 c ?_).trans q) (fun _ q=>q) fun _ _ q=>q
  rintro rfl
  rcases hc with rfl|hc
  ·rw[T_]at e;cases e
  ·rw[T_]at hc;cases hc
 rcases hx with hk|hk
 ·refine wpAny_storeName_local hk hn (fun h' hn' hs=>?_) Vb;obtain⟨oL,_,_,hoL,_⟩:=id hn;refine h _ ⟨I.ok,I.os,I.bare,⟨fun b o e n hb hx=>?_,fun b o e n hb hx=>?_,I.base.free,fun b o e hx=>?_,I.base.tups,I.base.frzs,I.base.tbls⟩,⟨_,hn',fun j y v' e1 e2 e3=>?_⟩,fun y c e=>?_,I.free,I.freeC,fun p hp=>?_,tracked ⟨oL,hoL,I.free⟩ hs,by simpa using I.len⟩ ⟨_,hs,.inl rfl⟩
  ·exact (hs.2 b (L9 (Me (LQ e) I.ok.above))).trans (I.base.keep b o e n hb hx)
  ·obtain⟨sl,e1⟩:=I.base.slot b o e n hb hx;exact⟨sl,(hs.2 b (L9 (Me (LQ e) I.ok.above))).trans e1⟩
  ·obtain⟨o',e1⟩:=I.base.there b o e hx;exact⟨o',(hs.2 b (L9 (Me (LQ e) I.ok.above))).trans e1⟩
  ·by_cases hj:j=i
   ·subst hj;rw[hi]at e1;cases e1;rw[List.getElem?_set_self hiσ]at e2;cases e2;exact⟨u,r,.inl ⟨hk,by simp⟩⟩
   ·rw[Np (Ne.symm hj)]at e2;obtain⟨u',r',q⟩:=hl j y v' e1 e2 e3;refine⟨u',r',?_⟩;rcases q with ⟨k,e⟩|⟨k,c,e,z⟩
    ·refine .inl ⟨k,?_⟩;have:y≠x:=fun e=>hj (yU hN e1 (e ▸ hi));simp[this,e]
    ·exact .inr ⟨k,c,e,z.sameBut hs (cne y c e)⟩
  ·obtain⟨w',z⟩:=I.cell y c e;exact⟨w',z.sameBut hs (cne y c e)⟩
  ·obtain⟨e,n,ne,nf,d⟩:=I.pin p hp;exact⟨(hs.2 p.1 ne).trans e,n,ne,nf,d⟩
 ·have hfn:X.fn x=true:=by
   rcases hf with z|z
   ·exact z
   ·rw[z]at hk;cases hk
  obtain⟨c,hc⟩:=I.ok.has x (.inl hk);obtain⟨w',z⟩:=I.cell x c hc;refine wpAny_storeName_cell I.ok.kind hk hc z (fun h' hc' hs=>?_);obtain⟨oc,hoc,hocd⟩:=id z;refine h { s with heap:=h' } ⟨I.ok,I.os,I.bare,⟨fun b o e n hb hx=>?_,fun b o e n hb hx=>?_,I.base.free,fun b o e hx=>?_,I.base.tups,I.base.frzs,I.base.tbls⟩,⟨m,hn.sameBut hs (Ne.symm (cne x c hc)),fun j y v' e1 e2 e3=>?_⟩,fun y c' e=>?_,I.free,I.freeC,fun p hp=>?_,tracked ⟨oc,hoc,I.freeC x c hc⟩ hs,by simpa using I.len⟩ ⟨c,hs,.inr hc⟩
  ·exact (hs.2 b (L9 (Me (LQ e) (I.ok.cab x c hfn hc)))).trans (I.base.keep b o e n hb hx)
  ·obtain⟨sl,e1⟩:=I.base.slot b o e n hb hx;exact⟨sl,(hs.2 b (L9 (Me (LQ e) (I.ok.cab x c hfn hc)))).trans e1⟩
  ·obtain⟨o',e1⟩:=I.base.there b o e hx;exact⟨o',(hs.2 b (L9 (Me (LQ e) (I.ok.cab x c hfn hc)))).trans e1⟩
  ·by_cases hj:j=i
   ·subst hj;rw[hi]at e1;cases e1;rw[List.getElem?_set_self hiσ]at e2;cases e2;exact⟨u,r,.inr ⟨.inl hk,c,hc,hc'⟩⟩
   ·rw[Np (Ne.symm hj)]at e2;obtain⟨u',r',q⟩:=hl j y v' e1 e2 e3;refine⟨u',r',?_⟩;rcases q with q|⟨k,c',e,z'⟩
    ·exact .inl q
    ·refine .inr ⟨k,c',e,z'.sameBut hs ?_⟩
     rintro rfl
     exact hj (yU hN e1 (I.ok.inj _ _ _ e hc ▸ hi))
  ·by_cases hcc:c'=c
   ·subst hcc;exact⟨_,hc'⟩
   ·obtain⟨w2,z2⟩:=I.cell y c' e;exact⟨w2,z2.sameBut hs hcc⟩
  ·obtain⟨e,n,ne,nf,d⟩:=I.pin p hp;refine⟨(hs.2 p.1 ?_).trans e,n,ne,nf,d⟩;intro q;rw[q,hoc]at e;have q':oc=p.2:=Option.some.inj e;exact d w' (by rw[<- q'];exact hocd)
theorem yu{M:Model}{A:LY}{E:LC->LF->Prop}{i:Nat}{x:Str}{v:V}{u:LC}{Q:Unit->LF->Prop}(I:Inv X pins σ H s)(hN:X.N.Nodup)(hi:X.N[i]?=some x)(hx:Iz X.env.scope x)(r:aJ v u)
  (h:∀ s',Inv X pins (σ.set i (some v)) H s'->Q () s') (hf:X.fn x=true\/X.env.scope.names.lookup x=some .local:=by first|exact .inl rfl|exact .inr rfl|assumption):LJ M A (storeName X.env x u) Q E s:=
 vK I hN hi hx r (fun s' I' _=>h s' I') hf
theorem Inv.call'{s':LF}{ch:List LB}(I:Inv X pins σ H s)(ho:s'.os=s.os)(u:Un (CJ X.stack) ch H H' s.heap s'.heap)(hok:oa X.prog X.w H' s'.heap)(hg:Os s'.gens)
  (hch:∀ b∈ch,(b∈X.ex\/X.s₀.heap.objs.size<=b)/\b≠X.env.locals/\(∀ x c,X.env.cells.lookup x=some c->c≠b)/\∀ p∈X.pn ++ pins,p.1≠b):Inv X pins σ H' s':=by
 obtain⟨h',g',d',t',o'⟩:=s';have e:o'=s.os:=ho;subst e;exact I.call (g':=g') (t':=t') (d':=d') u hok hg hch
end
abbrev XK:=LC->Option LB->Hp->Prop
abbrev St:=List (Option V)
abbrev VK:=V->Hp->Prop
abbrev TE:=St->Hp->VK->Prop
abbrev TT:=St->Hp->(Bool->Hp->Prop)->Prop
abbrev TA:=St->Hp->(List V->Hp->Prop)->Prop
set_option genInjectivity false in
structure Ends where
 nx:St->Hp->Prop
 rt:VK
 bk:St->Hp->Prop:=fun _ _=>False
 ct:St->Hp->Prop:=fun _ _=>False
abbrev TS:=Ends->St->Hp->Prop
def EP(X:Cx)(pins:List (LB×Obj))(σ:St)(Q:VK)(u:LC)(s':LF):Prop:=∃ v H',Inv X pins σ H' s'/\aJ v u/\Q v H'
def TP(X:Cx)(pins:List (LB×Obj))(σ:St)(Q:Bool->Hp->Prop)(b:Bool)(s':LF):Prop:=∃ H',Inv X pins σ H' s'/\Q b H'
def AP(X:Cx)(pins:List (LB×Obj))(σ:St)(Q:List V->Hp->Prop)(us:List LC)(s':LF):Prop:=∃ vs H',Inv X pins σ H' s'/\Vals vs us/\Q vs H'
def SP(X:Cx)(pins:List (LB×Obj))(D:Ends)(f:Flow)(s':LF):Prop:=
 match f with
 | .next=>∃ σ' H',Inv X pins σ' H' s'/\D.nx σ' H'
 | .brk=>∃ σ' H',Inv X pins σ' H' s'/\D.bk σ' H'
 | .cont=>∃ σ' H',Inv X pins σ' H' s'/\D.ct σ' H'
 | .ret u=>∃ v σ' H',Inv X pins σ' H' s'/\aJ v u/\D.rt v H'
def PE(X:Cx)(e:L7)(t:TE):Prop:=
 ∀ (pins:List (LB×Obj)) (s:LF) (σ:St) (H:Hp) (Q:VK),Inv X pins σ H s->t σ H Q->LJ (LN X.prog X.w) X.A (eval e X.env) (EP X pins σ Q) X.xe s
def PT(X:Cx)(e:L7)(t:TT):Prop:=
 ∀ (pins:List (LB×Obj)) (s:LF) (σ:St) (H:Hp) (Q:Bool->Hp->Prop),Inv X pins σ H s->t σ H Q->LJ (LN X.prog X.w) X.A (Qh e X.env (eval e X.env)) (TP X pins σ Q) X.xe s
def PW(X:Cx)(e:L7)(t:TT):Prop:=
 ∀ (whole:Sem LC) (pins:List (LB×Obj)) (s:LF) (σ:St) (H:Hp) (Q:Bool->Hp->Prop),Inv X pins σ H s->t σ H Q->LJ (LN X.prog X.w) X.A (Qh e X.env whole) (TP X pins σ Q) X.xe s
theorem PW.pt{X:Cx}{e:L7}{t:TT}(h:PW X e t):PT X e t:=h _
def PA(X:Cx)(es:List L7)(t:TA):Prop:=
 ∀ (pos:Pos) (pins:List (LB×Obj)) (s:LF) (σ:St) (H:Hp) (Q:List V->Hp->Prop),Inv X pins σ H s->t σ H Q->LJ (LN X.prog X.w) X.A (spliced (MQ pos (LR es X.env))) (AP X pins σ Q) X.xe s
def PS(X:Cx)(st:Md)(t:TS):Prop:=
 ∀ (pins:List (LB×Obj)) (s:LF) (σ:St) (H:Hp) (D:Ends),Inv X pins σ H s->t D σ H->LJ (LN X.prog X.w) X.A (exec st X.env) (SP X pins D) X.xe s
def rm(X:Cx)(st:List Md)(t:TS):Prop:=
 ∀ (pins:List (LB×Obj)) (s:LF) (σ:St) (H:Hp) (D:Ends),Inv X pins σ H s->t D σ H->LJ (LN X.prog X.w) X.A (execs st X.env) (SP X pins D) X.xe s
theorem cI{α:Type}{t:Sem α}{Q Q':α->LF->Prop}{M:Model}{A:LY}{E:LC->LF->Prop}{s:LF}(h:LJ M A t Q E s)(hQ:∀ a s,Q a s->Q' a s):LJ M A t Q' E s:=MC h hQ fun _ _ x=>x
section
variable{X:Cx}
def Kl(i:Nat):TE:=fun σ H Q=>∃ v,σ[i]?=some (some v)/\Q v H
def tC(v:V):TE:=fun _ H Q=>Q v H
theorem DH{i:Nat}{x:Str}{pos:Pos}(hN:X.N[i]?=some x)(hv:J0 X.env.scope x)(hd:(x == ("__debug__":Str))=false:=by decide)(hcd:(x == ("__classdict__":Str))=false:=by decide):PE X (.Name x pos) (Kl i):=by
 intro pins s σ H Q I h;obtain⟨v,e,h⟩:=h;obtain⟨m,hn,hl⟩:=I.loc;obtain⟨u,r,l⟩:=hl i x v hN e hv;have fin:EP X pins σ Q u s:=⟨v,H,I,r,h⟩;rcases l with ⟨hk,hm⟩|⟨hk,c,hc,Ua⟩
 ·exact QI (wpAny_loadName_local I.ok.kind hk hn hm fin) hd
 ·rcases hk with hk|hk
  ·exact QI (wpAny_loadName_cell I.ok.kind hk hc Ua fin) hd
  ·exact QI (wpAny_loadName_free I.ok.kind hk hc Ua fin hcd) hd
theorem Ho{i j pos}:PE X (.Constant (.int i) j pos) (tC (.int i)):=fun _ _ _ H _ I h=>wpAny_Constant_int ⟨.int i,H,I.tok _,⟨_,rfl⟩,h⟩
theorem Ji{b j pos}:PE X (.Constant (.bool b) j pos) (tC (.bl b)):=fun _ _ _ H _ I h=>Constant_bool ⟨.bl b,H,I,rfl,h⟩
theorem Hm{j pos}:PE X (.Constant .none j pos) (tC .non):=fun _ _ _ H _ I h=>Constant_none ⟨.non,H,I,rfl,h⟩
theorem Hk{x j pos}:PE X (.Constant (.str x) j pos) (tC (.str x)):=fun _ _ _ H _ I h=>Calls.Constant_str ⟨.str x,H,I.tok _,⟨_,rfl⟩,h⟩
def Gl(X:Cx)(x:Str):Prop:=X.env.kindOf x=some .globalImplicit
theorem se{E:LC->LF->Prop}{pins:List (LB×Obj)}{s:LF}{σ:St}{H:Hp}{x:Str}{u:LC}{pos:Pos}{Q:LC->LF->Prop}(I:Inv X pins σ H s)(hg:Gl X x)(hm:X.mg x=some u)(h:Q u s)
  (hd:(x == ("__debug__":Str))=false:=by decide):LJ (LN X.prog X.w) X.A (eval (.Name x pos) X.env) Q E s:=
 PM I.ok.kind hg (Calls.loadGlobal_global (by rw[I.ok.glob];exact I.mod.glob.keeps I.bk) hm h) hd
theorem jG{E:LC->LF->Prop}{pins:List (LB×Obj)}{s:LF}{σ:St}{H:Hp}{x:Str}{u:LC}{pos:Pos}{Q:LC->LF->Prop}(I:Inv X pins σ H s)(hg:Gl X x)(hm:X.mg x=none)(hv:Nl x=some u)(h:Q u s)
  (hn:x≠"__name__":=by decide) (hd:(x == ("__debug__":Str))=false:=by decide):LJ (LN X.prog X.w) X.A (eval (.Name x pos) X.env) Q E s:=by
 obtain⟨mb,h1,h2⟩:=I.mod.blt;exact PM I.ok.kind hg (Calls.loadGlobal_builtin (by rw[I.ok.glob];exact I.mod.glob.keeps I.bk) hm (by rw[I.ok.blt];exact h1.keeps I.bk) ((h2 x hn).trans hv) h) hd
theorem A8{x:Str}{v:V}{u:LC}{pos:Pos}(hg:Gl X x)(hm:X.mg x=some u)(r:aJ v u)(hd:(x == ("__debug__":Str))=false:=by decide):PE X (.Name x pos) (tC v):=
 fun _ _ _ H _ I h=>se I hg hm ⟨v,H,I,r,h⟩ hd
variable{a b:L7}{ta tb:TE}{pos:Pos}
def PC(X:Cx)(op:OH)(a b:L7)(t:TE):Prop:=
 ∀ (pins:List (LB×Obj)) (s:LF) (σ:St) (H:Hp) (Q:VK),Inv X pins σ H s->t σ H Q->
  LJ (LN X.prog X.w) X.A (eval a X.env) (fun v s₁=>LJ (LN X.prog X.w) X.A (eval b X.env) (fun u s₂=>LJ (LN X.prog X.w) X.A (Mj op v u) (EP X pins σ Q) X.xe s₂) X.xe s₁) X.xe s
def tB(t:TE):TT:=fun σ H Q=>t σ H fun x H1=>∃ c,x=.bl c/\Q c H1
theorem Hq{op:OH}{t:TE}(h:PC X op a b t)(h1:MK op b=false:=by first|exact nobehind _ (by decide) (by decide)|rfl):PE X (.Compare a [op] [b] pos) t:=fun pins s σ H Q I hw=>wpAny_Compare1 (h pins s σ H Q I hw) h1
theorem Du{op:OH}{t:TE}(h:PC X op a b t)(h1:MK op b=false:=by first|exact nobehind _ (by decide) (by decide)|rfl):PT X (.Compare a [op] [b] pos) (tB t):=by
 intro pins s σ H Q I hw;refine Qp (cI (h pins s σ H _ I hw) fun v s1 h1=>cI h1 fun u s2 h2=>cI h2 fun c s3 zz=>?_) h1;obtain⟨x,H1,I1,r1,q1⟩:=zz;obtain⟨d,rfl,q⟩:=q1;cases r1;exact M4 ⟨H1,I1,q⟩
variable{tA tB':TT}{mR:List L7}
def Kx(t u:TT):TT:=fun σ H Q=>t σ H fun c H1=>if c=true then u σ H1 Q else Q false H1
def Lh(t u:TT):TT:=fun σ H Q=>t σ H fun c H1=>if c=true then Q true H1 else u σ H1 Q
def Kq(t:TT):TT:=fun σ H Q=>t σ H fun c H1=>Q (!c) H1
theorem E_(ha:PT X a tA):PW X (.BoolOp .And [a] pos) tA:=by
 intro wh pins s σ H Q I h;refine isTrue_and (cI (ha pins s σ H Q I h) fun c s1 e=>?_);cases c with
 | true=>exact isTrue_and_nil e
 | false=>exact e
theorem Hc(ha:PT X a tA):PW X (.BoolOp .Or [a] pos) tA:=by
 intro wh pins s σ H Q I h;refine isTrue_or (cI (ha pins s σ H Q I h) fun c s1 e=>?_);cases c with
 | false=>exact isTrue_or_nil e
 | true=>exact e
theorem Hd(ha:PT X a tA)(hb:PW X (.BoolOp .And (b::mR) pos) tB'):PW X (.BoolOp .And (a::b::mR) pos) (Kx tA tB'):=by
 intro wh pins s σ H Q I h;refine isTrue_and (cI (ha pins s σ H _ I h) fun c s1 zz=>?_);obtain⟨H1,I1,q1⟩:=zz;cases c with
 | true=>exact hb wh pins s1 σ H1 Q I1 q1
 | false=>exact⟨H1,I1,q1⟩
theorem I_(ha:PT X a tA)(hb:PW X (.BoolOp .Or (b::mR) pos) tB'):PW X (.BoolOp .Or (a::b::mR) pos) (Lh tA tB'):=by
 intro wh pins s σ H Q I h;refine isTrue_or (cI (ha pins s σ H _ I h) fun c s1 zz=>?_);obtain⟨H1,I1,q1⟩:=zz;cases c with
 | true=>exact⟨H1,I1,q1⟩
 | false=>exact hb wh pins s1 σ H1 Q I1 q1
theorem Hf(ha:PT X a tA):PT X (.UnaryOp .Not a pos) (Kq tA):=by
 intro pins s σ H Q I h;exact isTrue_not (ha pins s σ H (fun c H1=>Q (!c) H1) I h)
def IN(ta tb:TE):TE:=fun σ H Q=>ta σ H fun x H1=>∃ c,x=.bl c/\if c=true then tb σ H1 Q else Q (.bl false) H1
theorem Hl{op}{t:TE}(h:PE X a t):PE X (.BoolOp op [a] pos) t:=fun pins s σ H Q I hw=>BoolOp_one (h pins s σ H Q I hw)
theorem Hs(ha:PE X a ta)(hb:PE X (.BoolOp .And (b::mR) pos) tb):PE X (.BoolOp .And (a::b::mR) pos) (IN ta tb):=by
 intro pins s σ H Q I h;refine BoolOp_and (cI (ha pins s σ H _ I h) fun v s1 zz=>?_);obtain⟨x,H1,I1,r1,q1⟩:=zz;obtain⟨c,rfl,q1⟩:=q1;cases r1;refine M4 ?_;cases c with
 | true=>exact hb pins s1 σ H1 Q I1 q1
 | false=>exact⟨.bl false,H1,I1,rfl,q1⟩
end
def jT(K:PySem.W.Frag)(H:Hp)(a:LB)(xs:List V):Prop:=
 Rd H a (.lst xs)\/
  ∃ (o:Obj) (its:Array LC) (n:Nat),K.lookup a=some o/\o.cls=.type "list"/\o.dict=none/\o.data=.seq its n/\its.size<=LL/\Vals xs its.toList
def kP(K:PySem.W.Frag)(H:Hp)(a:LB)(xs:List V):Prop:=
 Rd H a (.tup xs)\/
  ∃ (o:Obj) (its:Array LC) (n:Nat),K.lookup a=some o/\(o.cls=.type "tuple"/\o.dict=none)/\o.data=.seq its n/\its.size<=LL/\Vals xs its.toList
def K2:LC->Option V
 | .none=>some .non
 | .bool b=>some (.bl b)
 | .int i _=>some (.int i)
 | .str x _=>some (.str x)
 | .bytes b _=>some (.byt b)
 | .float b _=>some (.flt b)
 | .ref a=>some (.ref a)
 | .type n=>some (.ty n)
 | _=>none
theorem aJ.abs{x:V}{u:LC}(r:aJ x u):K2 u=some x:=by
 cases x with
 | non=>cases r;rfl
 | bl _=>cases r;rfl
 | int _=>obtain⟨t,rfl⟩:=r;rfl
 | str _=>obtain⟨t,rfl⟩:=r;rfl
 | byt _=>obtain⟨t,rfl⟩:=r;rfl
 | flt _=>obtain⟨t,rfl⟩:=r;rfl
 | ref _=>cases r;rfl
 | ty _=>cases r;rfl
theorem aJ.inj{x y:V}{u:LC}(r:aJ x u)(q:aJ y u):x=y:=Option.some.inj (r.abs.symm.trans q.abs)
theorem Vals.inj:∀ {xs ys:List V} {us:List LC},Vals xs us->Vals ys us->xs=ys
 | _,_,_,.nil,.nil=>rfl
 | _,_,_,.cons r t,.cons r' t'=>by rw[r.inj r',Vals.inj t t']
section
variable{X:Cx}{pins:List (LB×Obj)}{σ:St}{H:Hp}{s:LF}{a:LB}{xs ys:List V}
theorem jT.of{K:PySem.W.Frag}(h:H a=some (.lst xs)):jT K H a xs:=.inl (.inl h)
theorem kP.of{K:PySem.W.Frag}(h:H a=some (.tup xs)):kP K H a xs:=.inl (.inl h)
theorem Inv.list(I:Inv X pins σ H s)(h:jT X.K H a xs):∃ its:List LC,Vals xs its/\PlainL s.heap a its.toArray/\xs.length<=LL:=by
 rcases h with h|⟨o,its,n,hk,hc,hd,hs,hz,r⟩
 ·obtain⟨z,its,n,r,e⟩:=h.ok I.hok;exact⟨its,r,⟨_,n,e,rfl,rfl,rfl⟩,z⟩
 ·refine⟨its.toList,r,⟨o,n,I.kIn a o hk,hc,hd,by simpa using hs⟩,?_⟩
  have e:=r.length;simp only[Array.length_toList]at e;omega
theorem Inv.tuple(I:Inv X pins σ H s)(h:kP X.K H a xs):∃ its:List LC,Vals xs its/\IsTup s.heap a its.toArray/\xs.length<=LL:=by
 rcases h with h|⟨o,its,n,hk,hc,hs,hz,r⟩
 ·obtain⟨z,its,r,p⟩:=h.ok I.hok;exact⟨its,r,p.tup,z⟩
 ·refine⟨its.toList,r,⟨o,I.kIn a o hk,hc.1,n,by simpa using hs⟩,?_⟩
  have e:=r.length;simp only[Array.length_toList]at e;omega
theorem Inv.list_inj(I:Inv X pins σ H s)(h:jT X.K H a xs)(h':jT X.K H a ys):xs=ys:=by
 obtain⟨its,r,⟨o,n,e,_,_,d⟩,_⟩:=I.list h;obtain⟨its',r',⟨o',n',e',_,_,d'⟩,_⟩:=I.list h';rw[e]at e';cases e';rw[d]at d';injection d' with d1 _
 have:its=its':=by simpa using congrArg Array.toList d1
 subst this;exact r.inj r'
theorem Inv.tuple_inj(I:Inv X pins σ H s)(h:kP X.K H a xs)(h':kP X.K H a ys):xs=ys:=by
 obtain⟨its,r,⟨o,e,_,n,d⟩,_⟩:=I.tuple h;obtain⟨its',r',⟨o',e',_,n',d'⟩,_⟩:=I.tuple h';rw[e]at e';cases e';rw[d]at d';injection d' with d1 _
 have:its=its':=by simpa using congrArg Array.toList d1
 subst this;exact r.inj r'
end
abbrev Cx.wish(X:Cx)(E:LC->LF->Prop):Cx:={ X with xe:=E }
abbrev Cx.nox(X:Cx):Cx:=X.wish fun _ _=>False
theorem Cx.Ok.wish{X:Cx}(ok:X.Ok)(E:LC->LF->Prop):(X.wish E).Ok:=
 ⟨ok.mod,ok.kind,ok.glob,ok.blt,ok.above,ok.inj,ok.has,ok.cab,ok.hd,ok.frames,ok.stk,ok.exf,ok.bs,ok.bsz,ok.noex,ok.exfs,ok.funs,ok.frf⟩
theorem Cx.Ok.unwish{X:Cx}{E:LC->LF->Prop}(ok:(X.wish E).Ok):X.Ok:=
 ⟨ok.mod,ok.kind,ok.glob,ok.blt,ok.above,ok.inj,ok.has,ok.cab,ok.hd,ok.frames,ok.stk,ok.exf,ok.bs,ok.bsz,ok.noex,ok.exfs,ok.funs,ok.frf⟩
section
variable{X:Cx}{pins:List (LB×Obj)}{σ:St}{H:Hp}{s:LF}{E:LC->LF->Prop}
theorem Inv.wish(I:Inv X pins σ H s)(E:LC->LF->Prop):Inv (X.wish E) pins σ H s:=⟨I.ok.wish E,I.os,I.bare,I.base,I.loc,I.cell,I.free,I.freeC,I.pin,I.hok,I.len⟩
theorem Inv.unwish(I:Inv (X.wish E) pins σ H s):Inv X pins σ H s:=⟨I.ok.unwish,I.os,I.bare,I.base,I.loc,I.cell,I.free,I.freeC,I.pin,I.hok,I.len⟩
theorem SP.unwish{D:Ends}{f:Flow}{s':LF}(h:SP (X.wish E) pins D f s'):SP X pins D f s':=by
 cases f with
 | next=>obtain⟨σ',H',I,q⟩:=h;exact⟨σ',H',I.unwish,q⟩
 | brk=>obtain⟨σ',H',I,q⟩:=h;exact⟨σ',H',I.unwish,q⟩
 | cont=>obtain⟨σ',H',I,q⟩:=h;exact⟨σ',H',I.unwish,q⟩
 | ret u=>obtain⟨v,σ',H',I,r,q⟩:=h;exact⟨v,σ',H',I.unwish,r,q⟩
theorem rm.nox{st:List Md}{t:TS}(h:rm X.nox st t):rm X st t:=fun pins s σ H D I hw=>
 MC (h pins s σ H D (I.wish _) hw) (fun _ _ q=>q.unwish) fun _ _ z=>False.elim z
end
section
variable{X:Cx}{st:Md}{mR:List Md}{t u:TS}{e:L7}{te:TE}{pos:Pos}
def IJ:TS:=fun D σ H=>D.nx σ H
def Kn(t u:TS):TS:=fun D σ H=>t { D with nx:=u D } σ H
theorem Fe:rm X [] IJ:=fun _ _ σ H _ I h=>Oa ⟨σ,H,I,h⟩
theorem Dw(h1:PS X st t)(h2:rm X mR u):rm X (st::mR) (Kn t u):=by
 intro pins s σ H D I h;refine wpAny_execs_cons (cI (h1 pins s σ H { D with nx:=u D } I h) fun f s1 q=>?_)
 cases f with
 | next=>
  obtain⟨σ',H',I',q⟩:=q;exact h2 pins s1 σ' H' D I' q
 | ret v=>exact q
 | brk=>exact q
 | cont=>exact q
theorem Fd(h1:PS X st t):rm X [st] t:=by
 intro pins s σ H D I h;refine wpAny_execs_cons (cI (h1 pins s σ H D I h) fun f s1 q=>?_);cases f with
 | next=>exact Oa q
 | ret v=>exact q
 | brk=>exact q
 | cont=>exact q
theorem Inv.quiet{pins:List (LB×Obj)}{σ:St}{H:Hp}{s:LF}(I:Inv X pins σ H s):interactive X.env=false:=by simp[interactive,I.ok.kind]
def IK(te:TE):TS:=fun D σ H=>te σ H fun _ H1=>D.nx σ H1
theorem Ff(he:PE X e te)(hs:NA e none pos.line X.env=pure false:=by rfl):PS X (.Expr e pos) (IK te):=by
 intro pins s σ H D I h;exact wpAny_Expr_any (cI (he pins s σ H _ I h) fun v s1 ⟨x,H1,I1,r1,q1⟩=>⟨σ,H1,I1,q1⟩) I.quiet hs
def Ko(te:TE):TS:=fun D σ H=>te σ H D.rt
theorem Dz(he:PE X e te):PS X (.Return (some e) pos) (Ko te):=by
 intro pins s σ H D I h;exact wpAny_Return_some (cI (he pins s σ H _ I h) fun v s1 ⟨x,H1,I1,r1,q1⟩=>⟨x,σ,H1,I1,r1,q1⟩)
def Ks(c:TT)(t u:TS):TS:=fun D σ H=>c σ H fun b H1=>if b=true then t D σ H1 else u D σ H1
theorem Ja{c:L7}{a b:List Md}{tc:TT}(hc:PT X c tc)(ha:rm X a t)(hb:rm X b u):PS X (.If c a b pos) (Ks tc t u):=by
 intro pins s σ H D I h;refine wpAny_If (cI (hc pins s σ H _ I h) fun d s1 zz=>?_);obtain⟨H1,I1,q1⟩:=zz;cases d with
 | true=>exact ha pins s1 σ H1 D I1 q1
 | false=>exact hb pins s1 σ H1 D I1 q1
def GQ:TS:=fun _ _ _=>False
theorem DA:PS X st GQ:=fun _ _ _ _ _ _ h=>h.elim
end
abbrev TG:=V->St->Hp->(St->Hp->Prop)->Prop
abbrev Gd:=List V->St->Hp->(St->Hp->Prop)->Prop
def PG(X:Cx)(target:L7)(t:TG):Prop:=
 ∀ (pins:List (LB×Obj)) (s:LF) (σ:St) (H:Hp) (v:V) (u:LC) (Q:St->Hp->Prop),Inv X pins σ H s->aJ v u->t v σ H Q->
  LJ (LN X.prog X.w) X.A (assign target X.env u) (fun _ s'=>∃ σ' H',Inv X pins σ' H' s'/\Q σ' H') X.xe s
def ED(X:Cx)(ts:List L7)(t:Gd):Prop:=
 ∀ (pins:List (LB×Obj)) (s:LF) (σ:St) (H:Hp) (vs:List V) (us:List LC) (Q:St->Hp->Prop),Inv X pins σ H s->Vals vs us->t vs σ H Q->
  LJ (LN X.prog X.w) X.A (assignInOrder ((M7 ts X.env).map (·.2)) us) (fun _ s'=>∃ σ' H',Inv X pins σ' H' s'/\Q σ' H') X.xe s
abbrev Gc:=V->V->V->Hp->(Hp->Prop)->Prop
def Iy(X:Cx)(t:Gc):Prop:=
 ∀ (pins:List (LB×Obj)) (s:LF) (σ:St) (H:Hp) (o i v:V) (ov iv u:LC) (Q:Hp->Prop),Inv X pins σ H s->aJ o ov->aJ i iv->aJ v u->t o i v H Q->
  LJ (LN X.prog X.w) X.A (QX ov iv u) (fun _ s'=>∃ H',Inv X pins σ H' s'/\Q H') X.xe s
section
variable{X:Cx}{pos:Pos}
def zm(i:Nat):TG:=fun v σ H Q=>Q (σ.set i (some v)) H
theorem Fl{i:Nat}{x:Str}(hN:X.N.Nodup)(hi:X.N[i]?=some x)(hx:Iz X.env.scope x)(hf:X.fn x=true\/X.env.scope.names.lookup x=some .local:=by first|exact .inl rfl|exact .inr rfl|assumption):PG X (.Name x pos) (zm i):=by
 intro pins s σ H v u Q I r h;exact QT (yu I hN hi hx r (fun s' I'=>⟨_,H,I',h⟩) hf)
def KR:Gd:=fun vs σ H Q=>vs=[]/\Q σ H
def Jx(t:TG)(u:Gd):Gd:=fun vs σ H Q=>∃ v r,vs=v::r/\t v σ H fun σ' H'=>u r σ' H' Q
theorem Fk:ED X [] KR:=by
 intro pins s σ H vs us Q I r h;obtain⟨e,h⟩:=h;subst e;cases r;exact assignInOrder_nil ⟨σ,H,I,h⟩
theorem DG{e:L7}{es:List L7}{t:TG}{u:Gd}(h1:PG X e t)(h2:ED X es u)
  (hs:(M7 (e::es) X.env).map (·.2)=assign e X.env::(M7 es X.env).map (·.2):=by rfl):ED X (e::es) (Jx t u):=by
 intro pins s σ H vs us Q I r h;obtain⟨v,vr,e1,h⟩:=h;subst e1;cases r with
 | cons r rr=>
  rw[hs];refine assignInOrder_cons (cI (h1 pins s σ H _ _ _ I r h) fun _ s1 zz=>?_);obtain⟨σ1,H1,I1,q1⟩:=zz;exact h2 pins s1 σ1 H1 _ _ Q I1 rr q1
def KP(K:PySem.W.Frag)(n:Nat)(t:Gd):TG:=fun v σ H Q=>∃ a xs,v=.ref a/\kP K H a xs/\xs.length=n/\t xs σ H Q
theorem Hh{es:List L7}{k:Nat}{t:Gd}{n:Nat}(hc:X.calm=true)(h:ED X es t)
  (hn:(M7 es X.env).length=n:=by rfl) (hst:(M7 es X.env).findIdx? (·.1)=none:=by rfl):PG X (.Tuple es k pos) (KP X.K n t):=by
 intro pins s σ H v u Q I r hw;obtain⟨a,xs,e1,hq,hl,hw⟩:=hw;subst e1;cases r;obtain⟨its,rv,ht,hz⟩:=I.tuple hq;refine assign_Tuple_tuple (I.ok.hd hc) ht (by simp[hn,<- hl,rv.length]) hst fun h' hx=>?_
 have I1:Inv X pins σ H { s with heap:=h' }:=I.kept (t':=s.toks) fun b o e=>hx b o (L9 (LQ e)) e
 exact h pins _ σ H xs _ Q I1 (by simpa using rv) hw
def KQ(to ti:TE)(t:Gc):TG:=fun v σ H Q=>to σ H fun o H1=>ti σ H1 fun i H2=>t o i v H2 fun H3=>Q σ H3
theorem Hi{o i:L7}{to ti:TE}{t:Gc}(ho:PE X o to)(hi:PE X i ti)(hs:Iy X t)
  (ha:∀ v,assign (.Subscript o i pos) X.env v=(do
   let ov <- holding [v] (eval o X.env)
   let iv <- holding [v,ov] (eval i X.env)
   Ob pos
   holding [v,ov,iv] (QX ov iv v)
   release [v,ov,iv] []):=by intro _;rfl):PG X (.Subscript o i pos) (KQ to ti t):=by
 intro pins s σ H v u Q I r h;rw[ha];refine LA (Mi (cI (ho pins s σ H _ I h) fun ov s1 zz=>?_));obtain⟨x,H1,I1,r1,q1⟩:=zz;refine LA (Mi (cI (hi pins s1 σ H1 _ I1 q1) fun iv s2 zz=>?_));obtain⟨y,H2,I2,r2,q2⟩:=zz;refine LA (OX (LA (Mi (cI (hs pins s2 σ H2 x y v ov iv u _ I2 r1 r2 r q2) fun _ s3 zz=>?_))));obtain⟨H3,I3,q3⟩:=zz;exact wpAny_release ⟨σ,H3,I3,q3⟩
def GS(te:TE)(g:TG):TS:=fun D σ H=>te σ H fun x H1=>g x σ H1 D.nx
theorem DC{tg e:L7}{te:TE}{g:TG}(he:PE X e te)(hg:PG X tg g)(hs:PR [tg] e pos.line X.env=pure false:=by rfl)(hw:PU [tg] e X.env=pure none:=by rfl)
  (h1:(M7 [tg] X.env).map (·.2)=[assign tg X.env]:=by rfl):PS X (.Assign [tg] e pos) (GS te g):=by
 intro pins s σ H D I h;refine wpAny_Assign_stores (cI (he pins s σ H _ I h) fun v s1 zz=>?_) hs hw;obtain⟨x,H1,I1,r1,q1⟩:=zz;rw[h1];exact cI (hg pins s1 σ H1 x v _ I1 r1 q1) fun _ s2 q=>q
theorem Dy{i:Nat}{x:Str}{e:L7}{te:TE}{pos':Pos}(hN:X.N.Nodup)(hi:X.N[i]?=some x)(hx:Iz X.env.scope x)(he:PE X e te)(hs:NA e (some (.Name x pos')) pos.line X.env=pure false:=by rfl)(hf:X.fn x=true\/X.env.scope.names.lookup x=some .local:=by first|exact .inl rfl|exact .inr rfl|assumption):
  PS X (.Assign [.Name x pos'] e pos) (GS te (zm i)):=by
 intro pins s σ H D I h;refine wpAny_Assign_Name (cI (he pins s σ H _ I h) fun v s1 zz=>?_) hs;obtain⟨y,H1,I1,r1,q1⟩:=zz;exact yu I1 hN hi hx r1 (fun s2 I2=>⟨_,H1,I2,q1⟩) hf
def GP(c:TT)(tb:TS):TS:=fun D σ H=>∃ W:Nat->St->Hp->Prop,(∃ m,W m σ H)/\∀ m σ H,W m σ H->
 c σ H fun b H1=>if b=true then ∃ N:St->Hp->Prop,(∀ σ' H',N σ' H'->∃ m',m' < m/\W m' σ' H')/\tb { D with nx:=N,ct:=N,bk:=D.nx } σ H1 else D.nx σ H1
theorem Dx{c:L7}{body:List Md}{tc:TT}{tb:TS}(hp:OU (LN X.prog X.w) X.A X.env X.xe)(hc:PT X c tc)(hb:rm X body tb):PS X (.While c body [] pos) (GP tc tb):=by
 intro pins s σ H D I h;obtain⟨W,⟨m0,w0⟩,turn⟩:=h;refine wpAny_While (codeAny_whileLoop (fun n s'=>∃ σ' H',Inv X pins σ' H' s'/\W n σ' H') ?_ m0 ⟨σ,H,I,w0⟩)
 rintro n s1 ⟨σ1,H1,I1,w1⟩
 refine MG hp (cI (hc pins s1 σ1 H1 _ I1 (turn n σ1 H1 w1)) fun b s2 zz=>?_);obtain⟨H2,I2,q2⟩:=zz;cases b with
 | true=>
  obtain⟨N,hN,q2⟩:=q2;rw[if_pos rfl];refine MG hp (cI (hb pins s2 σ1 H2 _ I2 q2) fun f s3 q3=>?_);cases f with
  | next=>
   obtain⟨σ3,H3,I3,n3⟩:=q3;obtain⟨m',hm,w3⟩:=hN σ3 H3 n3;exact⟨m',hm,σ3,H3,I3,w3⟩
  | cont=>
   obtain⟨σ3,H3,I3,n3⟩:=q3;obtain⟨m',hm,w3⟩:=hN σ3 H3 n3;exact⟨m',hm,σ3,H3,I3,w3⟩
  | brk=>exact q3
  | ret v=>exact q3
 | false=>
  rw[if_neg Bool.false_ne_true];exact Oa ⟨σ1,H2,I2,q2⟩
end
set_option genInjectivity false in
structure It where
 go:Nat->Hp->Prop
 yld:Nat->Hp->V->Hp->Prop
 stop:Nat->Hp->Prop
def mx(X:Cx)(pins:List (LB×Obj))(H:Hp)(b:LB):Prop:=
 H b=none/\b≠X.env.locals/\b∉X.fs/\(b∈X.ex\/X.s₀.heap.objs.size<=b)/\(∀ x c,X.env.cells.lookup x=some c->c≠b)/\∀ p∈X.pn ++ pins,p.1≠b
theorem Inv.fpOk{X:Cx}{pins:List (LB×Obj)}{σ:St}{H H':Hp}{s:LF}{b:LB}(I:Inv X pins σ H s)(hb:s.heap.objs.size<=b)(hn:H' b=none):mx X pins H' b:=by
 refine⟨hn,N7 (Me I.lt hb),I.nofs hb,.inr (le_trans I.sz hb),fun x c e z=>?_,fun p hp z=>?_⟩
 ·obtain⟨v,q⟩:=I.cell x c e;exact absurd (Me q.lt (by rw[z];exact hb)) (Nat.lt_irrefl _)
 ·exact absurd (Me (LQ (I.pin p hp).1) (by rw[z];exact hb)) (Nat.lt_irrefl _)
structure Turn(P:LS)(w:L6)(K:PySem.W.Frag)(tg:L7)(J:It)(fp:List LB)(it:LB)(tn:Nat->L5->Prop):Prop where
 mem:it∈fp
 obj:∀ i h,tn i h->∀ b∈fp,∃ o,h.get? b=some o/\∀ v,o.data≠.cell v
 keep:∀ i h h',tn i h->(∀ b∈fp,∀ o,h.get? b=some o->h'.get? b=some o)->tn i h'
 item:∀ (X:Cx),X.prog=P->X.w=w->X.K=K->X.calm=true->∀ (i:Nat) (pins:List (LB×Obj)) (s:LF) (σ:St) (H:Hp) (E:LC->LF->Prop),Inv X pins σ H s->(∀ b∈fp,mx X pins H b)->tn i s.heap->J.go i H->
  LJ (LN P w) X.A (MT (.ref it)) (fun r s1=>∃ u,r=some u/\
   LJ (LN P w) X.A (NK tg (.ref it) u) (fun _ s2=>∃ x H',Inv X pins σ H' s2/\aJ x u/\J.yld i H x H'/\tn (i+1) s2.heap/\∀ b∈fp,H' b=none) E s1) E s
 done:∀ (X:Cx),X.prog=P->X.w=w->X.K=K->X.calm=true->∀ (i:Nat) (pins:List (LB×Obj)) (s:LF) (σ:St) (H:Hp) (E:LC->LF->Prop),Inv X pins σ H s->(∀ b∈fp,mx X pins H b)->tn i s.heap->J.stop i H->
  LJ (LN P w) X.A (MT (.ref it)) (fun r s1=>r=none/\Inv X pins σ H s1) E s
 self:∀ (A:LY) (i:Nat) (s:LF) (Q:LC->LF->Prop) (E:LC->LF->Prop),tn i s.heap->Q (.ref it) s->LJ (LN P w) A (Oh (.ref it)) Q E s
abbrev TI:=St->Hp->(It->Hp->Prop)->Prop
def GC(X:Cx)(pins:List (LB×Obj))(σ:St)(tg:L7)(R:It->Hp->Prop)(itv:LC)(s2:LF):Prop:=
 ∃ (it:LB) (fp:List LB) (tn:Nat->L5->Prop) (J:It) (H':Hp),itv=.ref it/\Inv X pins σ H' s2/\Turn X.prog X.w X.K tg J fp it tn/\tn 0 s2.heap/\(∀ b∈fp,mx X pins H' b)/\R J H'
def PI(X:Cx)(tg iter:L7)(wi:TI):Prop:=
 ∀ (pins:List (LB×Obj)) (s:LF) (σ:St) (H:Hp) (R:It->Hp->Prop),Inv X pins σ H s->wi σ H R->
  LJ (LN X.prog X.w) X.A (eval iter X.env) (fun v s1=>LJ (LN X.prog X.w) X.A (Oh v) (GC X pins σ tg R) X.xe s1) X.xe s
theorem zk{M:Model}{A:LY}{E:LC->LF->Prop}{s:LF}{tg:L7}{it:LB}{u:LC}{o:Obj}{n:String}{vs:Array LC}{Q:Unit->LF->Prop}(ho:s.heap.get? it=some o)(hc:o.cls=.type n)(hd:o.data=.fields vs)
  (hn:["enumerate","zip","dict_itemiterator","dict_reverseitemiterator","odict_iterator","itertools.zip_longest","itertools.pairwise"].contains n=false) (hQ:Q () s):LJ M A (NK tg (.ref it) u) Q E s:=by
 unfold NK;cases tg<;>first
  | exact LD hQ
  | (cases u<;>first
    | exact LD hQ
    | (refine LA (QE ho ?_)
       rw[hc,hd];show LJ M A (if (["enumerate","zip","dict_itemiterator","dict_reverseitemiterator","odict_iterator","itertools.zip_longest","itertools.pairwise"].contains n && vs[0]? == some (Ni _))=true then _ else _) Q E s
       rw[if_neg (by intro h;rw[hn,Bool.false_and]at h;cases h)]
       exact LD hQ))
def J7(K:PySem.W.Frag)(a:LB):It:=
 ⟨fun i H=>∃ xs x,jT K H a xs/\xs[i]?=some x,fun i H x H'=>H'=H/\∀ xs,jT K H a xs->xs[i]?=some x,fun i H=>∃ xs,jT K H a xs/\xs.length<=i⟩
def K6(K:PySem.W.Frag)(a:LB):It:=
 ⟨fun i H=>∃ xs x,kP K H a xs/\xs[i]?=some x,fun i H x H'=>H'=H/\∀ xs,kP K H a xs->xs[i]?=some x,fun i H=>∃ xs,kP K H a xs/\xs.length<=i⟩
def J6(lo:Int)(n:Nat):It:=⟨fun i _=>i < n,fun i H x H'=>H'=H/\x=.int (lo+i),fun i _=>n<=i⟩
theorem BD{P:LS}{w:L6}{K:PySem.W.Frag}{tg:L7}(a it:LB):Turn P w K tg (J7 K a) [it] it (fun i h=>h.IsListIter it a i) where
 mem:=by simp
 obj:=fun i h st b hb=>by
  have e:b=it:=by simpa using hb
  subst e;obtain⟨o,e,c,d⟩:=st;exact⟨o,e,fun v z=>by rw[d]at z;cases z⟩
 keep:=fun i h h' st k=>st.at fun o e=>k it (by simp) o e
 item:=by
  intro X hP hw hK hc i pins s σ H E I hf st hg;subst hP hw hK;obtain⟨xs,x,hq,hx⟩:=hg;obtain⟨its,rv,p,hz⟩:=I.list hq;obtain⟨u,hu,ru⟩:=rv.get hx;obtain⟨f0,f1,f2,f3,f4,f5⟩:=hf it (by simp)
  refine Qc st p.isList (x:=u) (by simpa using hu) fun h' st' sb=>?_
  have I1:Inv X pins σ H { s with heap:=h' }:=I.turned (t':=s.toks) (fun b o hb e=>(sb.2 b hb).trans e) f0 f1 f3 f4 f5
  obtain⟨o,e,c,d⟩:=id st';exact⟨u,rfl,zk (s:={ s with heap:=h' }) e c d (by decide) ⟨x,H,I1,ru,⟨rfl,fun ys hy=>by rw[I.list_inj hy hq];exact hx⟩,st',fun b hb=>(hf b hb).1⟩⟩
 done:=by
  intro X hP hw hK hc i pins s σ H E I hf st hg;subst hP hw hK;obtain⟨xs,hq,hx⟩:=hg;obtain⟨its,rv,p,hz⟩:=I.list hq;obtain⟨f0,f1,f2,f3,f4,f5⟩:=hf it (by simp)
  have hl:=rv.length;exact Qo (I.ok.hd hc) st p.isList (by simp;omega) fun h' eb=>⟨rfl,I.turned (t':=s.toks) (fun b o hb e=>eb b o hb e) f0 f1 f3 f4 f5⟩
 self:=fun _ _ _ _ _ st h=>wpAny_pyIter_listiter st h
theorem zN{P:LS}{w:L6}{K:PySem.W.Frag}{tg:L7}(a it:LB):Turn P w K tg (K6 K a) [it] it (fun i h=>h.IsTupleIter it a i) where
 mem:=by simp
 obj:=fun i h st b hb=>by
  have e:b=it:=by simpa using hb
  subst e;obtain⟨o,e,c,d⟩:=st;exact⟨o,e,fun v z=>by rw[d]at z;cases z⟩
 keep:=fun i h h' st k=>st.at fun o e=>k it (by simp) o e
 item:=by
  intro X hP hw hK hc i pins s σ H E I hf st hg;subst hP hw hK;obtain⟨xs,x,hq,hx⟩:=hg;obtain⟨its,rv,p,hz⟩:=I.tuple hq;obtain⟨u,hu,ru⟩:=rv.get hx;obtain⟨f0,f1,f2,f3,f4,f5⟩:=hf it (by simp)
  refine wpAny_pyNext_tuple_item st (show s.heap.IsTuple a its.toArray from p) (x:=u) (by simpa using hu) fun h' st' sb=>?_
  have I1:Inv X pins σ H { s with heap:=h' }:=I.turned (t':=s.toks) (fun b o hb e=>(sb.2 b hb).trans e) f0 f1 f3 f4 f5
  obtain⟨o,e,c,d⟩:=id st';exact⟨u,rfl,zk (s:={ s with heap:=h' }) e c d (by decide) ⟨x,H,I1,ru,⟨rfl,fun ys hy=>by rw[I.tuple_inj hy hq];exact hx⟩,st',fun b hb=>(hf b hb).1⟩⟩
 done:=by
  intro X hP hw hK hc i pins s σ H E I hf st hg;subst hP hw hK;obtain⟨xs,hq,hx⟩:=hg;obtain⟨its,rv,p,hz⟩:=I.tuple hq;obtain⟨f0,f1,f2,f3,f4,f5⟩:=hf it (by simp)
  have hl:=rv.length;exact wpAny_pyNext_tuple_end (I.ok.hd hc) st (show s.heap.IsTuple a its.toArray from p) (by simp;omega) fun h' eb=>⟨rfl,I.turned (t':=s.toks) (fun b o hb e=>eb b o hb e) f0 f1 f3 f4 f5⟩
 self:=fun _ _ _ _ _ st h=>wpAny_pyIter_tupleiter st h
theorem zO{P:LS}{w:L6}{K:PySem.W.Frag}{tg:L7}(it:LB)(lo:Int)(n:Nat):Turn P w K tg (J6 lo n) [it] it (fun i h=>IsRangeIter h it (lo+(i:Nat)*1) ((n:Int) - (i:Nat)) 1) where
 mem:=by simp
 obj:=fun i h st b hb=>by
  have e:b=it:=by simpa using hb
  subst e;exact⟨_,st,fun v z=>by
   have z':Data.fields _=Data.cell v:=z;cases z'⟩
 keep:=fun i h h' st k=>k it (by simp) _ st
 item:=by
  intro X hP hw hK hc i pins s σ H E I hf st hg;subst hP hw hK;obtain⟨f0,f1,f2,f3,f4,f5⟩:=hf it (by simp)
  have W:=Walks.range (prog:=X.prog) (w:=X.w) (I.ok.hd hc) it lo 1 n;refine W.item i s _ _ hg st fun v h' tk hv st' kk=>?_;obtain⟨t,rfl⟩:=hv;have I1:Inv X pins σ H { s with heap:=h',toks:=tk }:=I.turned (fun b o hb e=>kk b o (by simpa using hb) e) f0 f1 f3 f4 f5
  refine⟨_,rfl,zk (s:={ s with heap:=h',toks:=tk }) (n:="range_iterator") st' rfl rfl (by decide) ⟨.int (lo+i),H,I1,⟨t,?_⟩,⟨rfl,rfl⟩,st',fun b hb=>(hf b hb).1⟩⟩
  rw[Int.mul_one]
 done:=by
  intro X hP hw hK hc i pins s σ H E I hf st hg;subst hP hw hK;obtain⟨f0,f1,f2,f3,f4,f5⟩:=hf it (by simp)
  exact wpAny_pyNext_range_end (I.ok.hd hc) st (by have:n<=i:=hg;omega) fun h' eb=>⟨rfl,I.turned (t':=s.toks) (fun b o hb e=>eb b o hb e) f0 f1 f3 f4 f5⟩
 self:=fun _ _ _ _ _ st h=>wpAny_pyIter_rangeiter st h
section
variable{X:Cx}{tg:L7}
theorem yF{pins:List (LB×Obj)}{σ:St}{H:Hp}{s:LF}{R:It->Hp->Prop}{E:LC->LF->Prop}{lo hi:Int}{t u v:Tok}{tk:Nat}(I:Inv X pins σ H s)(h1:-(2 ^ 62)<=lo)(h2:lo < 2 ^ 62)(h3:-(2 ^ 62)<=hi)(h4:hi < 2 ^ 62)
  (q:R (J6 lo (hi - lo).toNat) H):LJ (LN X.prog X.w) X.A (Oh (.ref s.heap.objs.size)) (GC X pins σ tg R) E { s with heap:=s.heap.push { cls:=.type "range",data:=.fields #[.int lo t,.int hi u,.int 1 v] },toks:=tk }:=by
 refine wpAny_pyIter_range (IsRange.new ..) (small_one h1 h2 h3 h4) ?_;have I1:Inv X pins σ H { s with heap:=s.heap.push { cls:=.type "range",data:=.fields #[.int lo t,.int hi u,.int 1 v] },toks:=tk }:=I.kept fun b o e=>LH _ e
 refine⟨(s.heap.push { cls:=.type "range",data:=.fields #[.int lo t,.int hi u,.int 1 v] }).objs.size,[(s.heap.push { cls:=.type "range",data:=.fields #[.int lo t,.int hi u,.int 1 v] }).objs.size],_,_,H,rfl,
  I1.kept (t':=tk) fun b o e=>LH _ e,zO _ lo (hi - lo).toNat,?_,fun b hb=>?_,q⟩
 ·have e1:lo+((0:Nat):Int)*1=lo:=by simp
  have e2:(((hi - lo).toNat:Nat):Int) - ((0:Nat):Int)=Builtin.Range.rangeSize lo hi 1:=by rw[rangeSize_one];split<;>omega
  show IsRangeIter _ _ (lo+((0:Nat):Int)*1) ((((hi - lo).toNat:Nat):Int) - ((0:Nat):Int)) 1
  rw[e1,e2];exact LK _ rfl
 ·have e:b=(s.heap.push { cls:=.type "range",data:=.fields #[.int lo t,.int hi u,.int 1 v] }).objs.size:=by simpa using hb
  subst e;exact I1.fpOk (le_refl _) (I1.hok.fresh (le_refl _))
def Jv(ta:TA):TI:=fun σ H R=>ta σ H fun vs H1=>∃ j:Int,vs=[.int j]/\-(2 ^ 62)<=j/\j < 2 ^ 62/\R (J6 0 j.toNat) H1
def Ju(ta:TA):TI:=fun σ H R=>ta σ H fun vs H1=>∃ i j:Int,vs=[.int i,.int j]/\(-(2 ^ 62)<=i/\i < 2 ^ 62/\-(2 ^ 62)<=j/\j < 2 ^ 62)/\R (J6 i (j - i).toNat) H1
theorem BU{a:L7}{ta:TA}{p pos:Pos}(hg:Gl X "range")(hm:X.mg "range"=none)(ha:PA X [a] ta)(hs:LR [a] X.env=[(false,eval a X.env)]:=by rfl):PI X tg (.Call (.Name "range" p) [a] [] pos) (Jv ta):=by
 intro pins s σ H R I h;refine Q4 (jG I hg hm boot_range (PyProof.Rows.callWith_type1 (cI (ha pos pins s σ H _ I h) fun us s1 ⟨vs,H1,I1,r1,q1⟩=>?_) hs rfl));obtain⟨j,e,q1,q2,q⟩:=q1;subst e;cases r1 with
 | cons r rr=>
  cases rr;obtain⟨t,rfl⟩:=r;exact call_range_1 (yF I1 (by walk_at "o") (by walk_at "o") q1 q2 (by simpa using q))
theorem BS{a b:L7}{ta:TA}{p pos:Pos}(hg:Gl X "range")(hm:X.mg "range"=none)(ha:PA X [a,b] ta)(hs:LR [a,b] X.env=[(false,eval a X.env),(false,eval b X.env)]:=by rfl)(hs2:LR [b] X.env=[(false,eval b X.env)]:=by rfl):
  PI X tg (.Call (.Name "range" p) [a,b] [] pos) (Ju ta):=by
 intro pins s σ H R I h;refine Q4 (jG I hg hm boot_range (PyProof.Rows.callWith_type1 (cI (ha pos pins s σ H _ I h) fun us s1 ⟨vs,H1,I1,r1,q1⟩=>?_) (by rw[hs,hs2]) (by rw[hs2];rfl)))
 obtain⟨i,j,e,⟨q1,q2,q3,q4⟩,q⟩:=q1;subst e;cases r1 with
 | cons r rr=>
  cases rr with
  | cons r' rr=>
   cases rr;obtain⟨t,rfl⟩:=r;obtain⟨t',rfl⟩:=r';exact call_range_2 (yF I1 q1 q2 q3 q4 q)
def Kt(wi:TI)(g:TG)(tb:TS):TS:=fun D σ H=>wi σ H fun J H1=>∃ W:Nat->Nat->St->Hp->Prop,(∃ m,W 0 m σ H1)/\∀ i m σ H,W i m σ H->
 (J.stop i H/\D.nx σ H)\/(J.go i H/\∃ N:St->Hp->Prop,(∀ σ' H',N σ' H'->∃ m',m' < m/\W (i+1) m' σ' H')/\∀ x H',J.yld i H x H'->g x σ H' fun σ2 H2=>tb { D with nx:=N,ct:=N,bk:=D.nx } σ2 H2)
def qe(fp:List LB)(h:L5):List (LB×Obj):=fp.filterMap fun b=>(h.get? b).map fun o=>(b,o)
theorem je{fp:List LB}{h:L5}{b:LB}{o:Obj}(hb:b∈fp)(e:h.get? b=some o):(b,o)∈qe fp h:=List.mem_filterMap.mpr ⟨b,hb,by rw[e];rfl⟩
theorem B2{fp:List LB}{h:L5}{p:LB×Obj}(hp:p∈qe fp h):p.1∈fp/\h.get? p.1=some p.2:=by
 obtain⟨b,hb,e⟩:=List.mem_filterMap.mp hp;cases q:h.get? b with
 | none=>rw[q]at e;cases e
 | some o=>
  rw[q]at e;have e':(b,o)=p:=Option.some.inj e;subst e';exact⟨hb,q⟩
theorem Inv.pinned{pins:List (LB×Obj)}{σ:St}{H:Hp}{s:LF}{fp:List LB}(I:Inv X pins σ H s)(hf:∀ b∈fp,mx X pins H b)(ho:∀ b∈fp,∃ o,s.heap.get? b=some o/\∀ v,o.data≠.cell v):Inv X (pins ++ qe fp s.heap) σ H s:=
 I.pins_of fun p hp=>(QM.mp hp).elim (fun z=>I.pin p (Ms _ z)) fun z=>by
  obtain⟨hb,e⟩:=B2 z;obtain⟨f0,f1,f2,_⟩:=hf p.1 hb;obtain⟨o,e',d⟩:=ho p.1 hb;rw[e]at e';cases e';exact⟨e,f0,f1,f2,d⟩
theorem Inv.unpinned{pins pl:List (LB×Obj)}{σ:St}{H:Hp}{s:LF}(I:Inv X (pins ++ pl) σ H s):Inv X pins σ H s:=I.pins_of fun p hp=>I.pin p (Ms _ (List.mem_append_left _ hp))
theorem DB{iter:L7}{body:List Md}{wi:TI}{g:TG}{tb:TS}{pos:Pos}(hp:OU (LN X.prog X.w) X.A X.env X.xe)(hc:X.calm=true)(hi:PI X tg iter wi)(hg:PG X tg g)(hb:rm X body tb)
  (hs:∀ x,MM iter X.env x=pure x:=by intro _;rfl):PS X (.For tg iter body [] pos) (Kt wi g tb):=by
 intro pins s σ H D I h;refine wpAny_For (cI (hi pins s σ H _ I h) fun v s1 h1=>cI h1 fun itv s2 h2=>?_) hs;obtain⟨it,fp,tn,J,H2,e,I2,T,st2,f2,W,⟨m0,w0⟩,turn⟩:=h2;subst e;have UH:∀ {H':Hp},(∀ b∈fp,H' b=none)->∀ b∈fp,mx X pins H' b:=fun hn b hb=>⟨hn b hb,(f2 b hb).2⟩;refine QB (fun n s'=>∃ i σ' H',Inv X pins σ' H' s'/\tn i s'.heap/\(∀ b∈fp,H' b=none)/\W i n σ' H') ?_ m0 ⟨0,σ,H2,I2,st2,fun b hb=>(f2 b hb).1,w0⟩
 rintro n s3 ⟨i,σ3,H3,I3,st3,fr3,w3⟩
 rcases turn i n σ3 H3 w3 with ⟨stop,qn⟩|⟨go,N,hN,step⟩
 ·refine MG hp (cI (T.done X rfl rfl rfl hc i pins s3 σ3 H3 X.xe I3 (UH fr3) st3 stop) fun r s4 zz=>?_);obtain⟨hr,I4⟩:=zz;subst hr;exact Oa ⟨σ3,H3,I4,qn⟩
 ·refine MG hp (cI (T.item X rfl rfl rfl hc i pins s3 σ3 H3 X.xe I3 (UH fr3) st3 go) fun r s4 zz=>?_);obtain⟨u,hr,h4⟩:=zz;subst hr;refine MG hp (cI h4 fun _ s5 zz=>?_);obtain⟨x,H5,I5,r5,y5,st5,fr5⟩:=zz;have I5':=I5.pinned (UH fr5) (T.obj _ _ st5);refine MG hp (cI (hg _ s5 σ3 H5 x u _ I5' r5 (step x H5 y5)) fun _ s6 zz=>?_);obtain⟨σ6,H6,I6,q6⟩:=zz;refine MG hp (cI (hb _ s6 σ6 H6 _ I6 q6) fun f s7 q7=>?_);have again:∀ {σ7:St} {H7:Hp},Inv X (pins ++ qe fp s5.heap) σ7 H7 s7->N σ7 H7->∃ m,m < n/\∃ i σ' H',Inv X pins σ' H' s7/\tn i s7.heap/\(∀ b∈fp,H' b=none)/\W i m σ' H':=fun {σ7 H7} I7 n7=>by
   obtain⟨m',hm,w7⟩:=hN σ7 H7 n7;refine⟨m',hm,i+1,σ7,H7,I7.unpinned,T.keep _ _ _ st5 fun b hb o e=>(I7.pin (b,o) (Ms _ (Ms _ (je hb e)))).1,fun b hb=>?_,w7⟩;obtain⟨o,e,d⟩:=T.obj _ _ st5 b hb;exact (I7.pin (b,o) (Ms _ (Ms _ (je hb e)))).2.1
  cases f with
  | next=>obtain⟨σ7,H7,I7,n7⟩:=q7;exact again I7 n7
  | cont=>obtain⟨σ7,H7,I7,n7⟩:=q7;exact again I7 n7
  | brk=>obtain⟨σ7,H7,I7,q7⟩:=q7;exact⟨σ7,H7,I7.unpinned,q7⟩
  | ret v=>obtain⟨x7,σ7,H7,I7,r7,q7⟩:=q7;exact⟨x7,σ7,H7,I7.unpinned,r7,q7⟩
end
abbrev R2:=V->V->Hp->VK->Prop
def iW(X:Cx)(f:LC->LC->Sem LC)(r:R2):Prop:=
 ∀ (pins:List (LB×Obj)) (s:LF) (σ:St) (H:Hp) (x y:V) (v u:LC) (Q:VK),Inv X pins σ H s->aJ x v->aJ y u->r x y H Q->
  LJ (LN X.prog X.w) X.A (f v u) (EP X pins σ Q) X.xe s
def fb(X:Cx)(f:LC)(r:List V->Hp->VK->Prop):Prop:=
 ∀ (pins:List (LB×Obj)) (s:LF) (σ:St) (H:Hp) (xs:List V) (us:List LC) (Q:VK),Inv X pins σ H s->Vals xs us->r xs H Q->
  LJ (LN X.prog X.w) X.A (call f us) (EP X pins σ Q) X.xe s
def K3(X:Cx)(r:V->Hp->(Bool->Hp->Prop)->Prop):Prop:=
 ∀ (pins:List (LB×Obj)) (s:LF) (σ:St) (H:Hp) (x:V) (v:LC) (Q:Bool->Hp->Prop),Inv X pins σ H s->aJ x v->r x H Q->
  LJ (LN X.prog X.w) X.A (truthy v) (TP X pins σ Q) X.xe s
def IB(r:R2)(ta tb:TE):TE:=fun σ H Q=>ta σ H fun x H1=>tb σ H1 fun y H2=>r x y H2 Q
def rI(C:Int->Int->Prop)(g:Int->Int->V):R2:=fun x y H Q=>∃ i j,x=.int i/\y=.int j/\C i j/\Q (g i j) H
def G_(g:Int->Int->V):R2:=fun x y H Q=>∃ i j,x=.int i/\y=.int j/\Q (g i j) H
section
variable{X:Cx}{a b c:L7}{ta tb tc:TE}{pos:Pos}
theorem Is(ha:PE X a ta)(hb:PE X b tb){pins:List (LB×Obj)}{s:LF}{σ:St}{H:Hp}{R:V->V->Hp->Prop}(I:Inv X pins σ H s)
  (h:ta σ H fun x H1=>tb σ H1 fun y H2=>R x y H2) {Q:LC->LF->Prop} {f:LC->LC->Sem LC}
  (hf:∀ v u s2 x y H2,Inv X pins σ H2 s2->aJ x v->aJ y u->R x y H2->LJ (LN X.prog X.w) X.A (f v u) Q X.xe s2):
  LJ (LN X.prog X.w) X.A (eval a X.env) (fun v s₁=>LJ (LN X.prog X.w) X.A (eval b X.env) (fun u s₂=>LJ (LN X.prog X.w) X.A (f v u) Q X.xe s₂) X.xe s₁) X.xe s:=by
 refine cI (ha pins s σ H _ I h) fun v s1 zz=>?_;obtain⟨x,H1,I1,r1,q1⟩:=zz;refine cI (hb pins s1 σ H1 _ I1 q1) fun u s2 zz=>?_;obtain⟨y,H2,I2,r2,q2⟩:=zz;exact hf v u s2 x y H2 I2 r1 r2 q2
theorem Jf{op:Operator}{r:R2}(ho:iW X (MZ op) r)(ha:PE X a ta)(hb:PE X b tb):PE X (.BinOp a op b pos) (IB r ta tb):=by
 intro pins s σ H Q I h;exact wpAny_BinOp (Is ha hb I h fun v u s2 x y H2 I2 rx ry q=>ho pins s2 σ H2 x y v u Q I2 rx ry q)
theorem KC{f:LC->LC->Sem LC}{C:Int->Int->Prop}{g:Int->Int->Int}
  (rule:∀ (i j:Int) (t u:Tok) (s:LF) (Q:LC->LF->Prop) (E:LC->LF->Prop),C i j->Q (.int (g i j) s.toks) { s with toks:=s.toks+1 }->LJ (LN X.prog X.w) X.A (f (.int i t) (.int j u)) Q E s):
  iW X f (rI C fun i j=>.int (g i j)):=by
 intro pins s σ H x y v u Q I rx ry h;obtain⟨i,j,rfl,rfl,hc,q⟩:=h;obtain⟨t,rfl⟩:=rx;obtain⟨t',rfl⟩:=ry;exact rule i j t t' s _ _ hc ⟨.int (g i j),H,I.tok _,⟨_,rfl⟩,q⟩
theorem Jo{f:LC->LC->Sem LC}{g:Int->Int->Int}
  (rule:∀ (i j:Int) (t u:Tok) (s:LF) (Q:LC->LF->Prop) (E:LC->LF->Prop),Q (.int (g i j) s.toks) { s with toks:=s.toks+1 }->LJ (LN X.prog X.w) X.A (f (.int i t) (.int j u)) Q E s):
  iW X f (G_ fun i j=>.int (g i j)):=by
 intro pins s σ H x y v u Q I rx ry h;obtain⟨i,j,rfl,rfl,q⟩:=h;obtain⟨t,rfl⟩:=rx;obtain⟨t',rfl⟩:=ry;exact rule i j t t' s _ _ ⟨.int (g i j),H,I.tok _,⟨_,rfl⟩,q⟩
theorem Jp{f:LC->LC->Sem LC}{g:Int->Int->Bool}
  (rule:∀ (i j:Int) (t u:Tok) (s:LF) (Q:LC->LF->Prop) (E:LC->LF->Prop),Q (.bool (g i j)) s->LJ (LN X.prog X.w) X.A (f (.int i t) (.int j u)) Q E s):
  iW X f (G_ fun i j=>.bl (g i j)):=by
 intro pins s σ H x y v u Q I rx ry h;obtain⟨i,j,rfl,rfl,q⟩:=h;obtain⟨t,rfl⟩:=rx;obtain⟨t',rfl⟩:=ry;exact rule i j t t' s _ _ ⟨.bl (g i j),H,I,rfl,q⟩
def Ka(i j:Int):Prop:=0 < j/\j < 1073741824
def K9(i j:Int):Prop:=0<=j/\j<=1000000/\i.natAbs < 2 ^ 64
def Gh(i j:Int):Prop:=(-(2 ^ 64) < i/\i < 2 ^ 64)\/(-(2 ^ 64) < j/\j < 2 ^ 64)
theorem Gh.ok{i j:Int}(h:Gh i j):IntMulOk i j:=by
 rcases h with ⟨h1,h2⟩|⟨h1,h2⟩
 ·exact .of_left (intBits_le_64 h1 h2)
 ·exact .of_right (intBits_le_64 h1 h2)
theorem Hz:iW X (MZ .Add) (G_ fun i j=>.int (i+j)):=Jo fun _ _ _ _ _ _ _ q=>add_int q
theorem Hw:iW X (MZ .Sub) (G_ fun i j=>.int (i - j)):=Jo fun _ _ _ _ _ _ _ q=>sub_int q
theorem Hx:iW X (MZ .Mult) (rI Gh fun i j=>.int (i*j)):=KC fun _ _ _ _ _ _ _ hc q=>mul_int q hc.ok
theorem Fw:iW X (MZ .FloorDiv) (rI Ka fun i j=>.int (i / j)):=KC fun i j _ _ _ _ _ hc q=>by
 have h1:(0:Int) < j:=hc.1;have h2:j < 1073741824:=hc.2;exact floordiv_int (by walk_at "o") (by rw[Int.fdiv_eq_ediv_of_nonneg i (by walk_at "o")];exact q) (.inl (PyProof.noPylong_small (by walk_at "o")))
theorem Hy:iW X (MZ .Mod) (rI (fun _ j=>0 < j) fun i j=>.int (i % j)):=KC fun i j _ _ _ _ _ hc q=>by
 have h1:(0:Int) < j:=hc;exact mod_int' (by walk_at "o") (by rw[Int.fmod_eq_emod_of_nonneg i (by walk_at "o")];exact q)
theorem Jm:iW X (Mj .Lt) (G_ fun i j=>.bl (decide (i < j))):=Jp fun _ _ _ _ _ _ _ q=>lt_int q
theorem Jn:iW X (Mj .LtE) (G_ fun i j=>.bl (decide (i<=j))):=Jp fun _ _ _ _ _ _ _ q=>le_int q
theorem iW.or{f:LC->LC->Sem LC}{r r':R2}(h:iW X f r)(h':iW X f r'):iW X f (fun x y H Q=>r x y H Q\/r' x y H Q):=by
 intro pins s σ H x y v u Q I rx ry q;rcases q with q|q
 ·exact h pins s σ H x y v u Q I rx ry q
 ·exact h' pins s σ H x y v u Q I rx ry q
theorem bz(b:L7){op:OH}(h:op≠.In:=by decide)(h2:op≠.NotIn:=by decide):MK op b=false:=by
 have e1:(op == CmpOp.In)=false:=by cases op<;>first|rfl|exact absurd rfl h
 have e2:(op == CmpOp.NotIn)=false:=by cases op<;>first|rfl|exact absurd rfl h2
 cases b<;>simp[MK,e1,e2]
theorem Fo{op:OH}{r:R2}(ho:iW X (Mj op) r)(ha:PE X a ta)(hb:PE X b tb)(hm:MK op b=false):PE X (.Compare a [op] [b] pos) (IB r ta tb):=by
 intro pins s σ H Q I h;exact wpAny_Compare1 (Is ha hb I h fun v u s2 x y H2 I2 rx ry q=>ho pins s2 σ H2 x y v u Q I2 rx ry q) hm
def CT(t:TE):TT:=fun σ H Q=>t σ H fun x H'=>∃ k,x=.bl k/\Q k H'
theorem A6{op:OH}{r:R2}(ho:iW X (Mj op) r)(ha:PE X a ta)(hb:PE X b tb)(hm:MK op b=false):PT X (.Compare a [op] [b] pos) (CT (IB r ta tb)):=by
 intro pins s σ H Q I h;refine Qp (cI (ha pins s σ H _ I h) fun v s1 zz=>?_) hm;obtain⟨x,H1,I1,r1,q1⟩:=zz;refine cI (hb pins s1 σ H1 _ I1 q1) fun u s2 zz=>?_;obtain⟨y,H2,I2,r2,q2⟩:=zz;refine cI (ho pins s2 σ H2 x y v u _ I2 r1 r2 q2) fun c s3 zz=>?_;obtain⟨z,H3,I3,r3,k,e,q3⟩:=zz;subst e;cases r3;exact M4 ⟨H3,I3,q3⟩
def CV(r r':R2)(ta tb tc:TE):TE:=fun σ H Q=>ta σ H fun x H1=>tb σ H1 fun y H2=>r x y H2 fun z H3=>∃ k,z=.bl k/\
 (if k=true then tc σ H3 fun w' H4=>r' y w' H4 Q else Q (.bl false) H3)
theorem Dv{op op':OH}{r r':R2}(ho:iW X (Mj op) r)(ho':iW X (Mj op') r')(ha:PE X a ta)(hb:PE X b tb)(hc:PE X c tc)
  (hm:lastMarks [op,op'] [b,c]=false:=by with_unfolding_all rfl):PT X (.Compare a [op,op'] [b,c] pos) (CT (CV r r' ta tb tc)):=by
 intro pins s σ H Q I h;refine isTrue_chain (cI (ha pins s σ H _ I h) fun v s1 ⟨x,H1,I1,r1,q1⟩=>test_link (cI (hb pins s1 σ H1 _ I1 q1) fun u s2 zz=>?_)) hm;obtain⟨y,H2,I2,r2,q2⟩:=zz;refine cI (ho pins s2 σ H2 x y v u _ I2 r1 r2 q2) fun d s3 zz=>?_;obtain⟨z,H3,I3,r3,k,e,q3⟩:=zz;subst e;cases r3;refine M4 ?_;cases k with
 | false=>
  obtain⟨k',e',q'⟩:=q3;cases e';exact ite_ff ⟨H3,I3,q'⟩
 | true=>
  refine ite_tt (test_last (cI (hc pins s3 σ H3 _ I3 q3) fun w' s4 zz=>?_));obtain⟨z',H4,I4,r4,q4⟩:=zz;refine cI (ho' pins s4 σ H4 y z' u w' _ I4 r2 r4 q4) fun d' s5 zz=>?_;obtain⟨z2,H5,I5,r5,k2,e2,q5⟩:=zz;subst e2;cases r5;exact M4 ⟨H5,I5,q5⟩
def J1(K:PySem.W.Frag)(x:V)(H:Hp)(k:Bool):Prop:=
 match x with
 | .non=>k=false
 | .bl b=>k=b
 | .int i=>k=(i != 0)
 | .str y=>y.length<=LL/\k=((y.length:Int) != 0)
 | .byt y=>y.size<=LL/\k=((y.size:Int) != 0)
 | .ref p=>(∃ xs,jT K H p xs/\k=!xs.isEmpty)\/(∃ xs,kP K H p xs/\k=!xs.isEmpty)\/∃ kvs,H p=some (.dK kvs)/\k=!kvs.isEmpty
 | _=>False
theorem Ax{κ:Type}{kvs:List (κ×V)}{vs:List (κ×LC)}(r:KV kvs vs):(!vs.isEmpty)=!kvs.isEmpty:=by
 cases r<;>rfl
theorem t9{xs:List V}{its:List LC}(r:Vals xs its):(!its.toArray.isEmpty)=!xs.isEmpty:=by
 cases r<;>simp
theorem mh:(LL:Nat) < 2 ^ 63:=by rw[Mh];decide
theorem GL:K3 X (fun x H Q=>∃ k,J1 X.K x H k/\Q k H):=by
 intro pins s σ H x v Q I rx h;obtain⟨k,e,q⟩:=h;have hl:=mh;have hs:LL=16777216:=Mh;cases x with
 | non=>
  cases rx;have e':k=false:=e;subst e';exact truthy_none ⟨H,I,q⟩
 | bl b=>
  cases rx;have e':k=b:=e;subst e';exact M4 ⟨H,I,q⟩
 | int i=>
  obtain⟨t,rfl⟩:=rx;have e':k=(i != 0):=e;subst e';exact PySem.P.truthy_int ⟨H,I,q⟩
 | str y=>
  obtain⟨t,rfl⟩:=rx;obtain⟨hy,e'⟩:y.length<=LL/\k=((y.length:Int) != 0):=e;subst e';exact PySem.P.truthy_str (by walk_at "o") ⟨H,I.tok _,q⟩
 | byt y=>
  obtain⟨t,rfl⟩:=rx;obtain⟨hy,e'⟩:y.size<=LL/\k=((y.size:Int) != 0):=e;subst e';exact PySem.W.truthy_bytes (by walk_at "o") ⟨H,I.tok _,q⟩
 | ref p=>
  cases rx;have e':(∃ xs,jT X.K H p xs/\k=!xs.isEmpty)\/(∃ xs,kP X.K H p xs/\k=!xs.isEmpty)\/∃ kvs,H p=some (.dK kvs)/\k=!kvs.isEmpty:=e;rcases e' with ⟨xs,hx,e'⟩|⟨xs,hx,e'⟩|⟨kvs,hx,e'⟩
  ·subst e';obtain⟨its,r,pl,hz⟩:=I.list hx;have hlen:=r.length;exact wpAny_truthy_list pl.isList (by simp only[LM];omega) ⟨H,I.tok _,by rw[t9 r];exact q⟩
  ·subst e';obtain⟨its,r,pl,hz⟩:=I.tuple hx;have hlen:=r.length;exact truthy_tuple pl (by simp only[LM];omega) ⟨H,I.tok _,by rw[t9 r];exact q⟩
  ·subst e';obtain⟨hz,hS,vs,r,m⟩:kvs.length<=LL/\(p == ME)=false/\∃ vs,KV kvs vs/\s.heap.DictOf (aO X.prog X.w) p vs:=I.hok p _ hx;have hlen:kvs.length=vs.length:=N6 r;exact wpAny_truthy_dict hS m (by walk_at "o") ⟨H,I.tok _,by rw[Ax r];exact q⟩
 | _=>exact (show False from e).elim
theorem Dt(ha:PE X a ta)(he:∀ whole,Qh a X.env whole=(do let v <- whole;Ob a.pos;holding [v] (truthy v))):
  PT X a (fun σ H Q=>ta σ H fun x H'=>∃ k,J1 X.K x H' k/\Q k H'):=by
 intro pins s σ H Q I h;exact isTrue_plain (cI (ha pins s σ H _ I h) fun v s1 ⟨x,H1,I1,r1,q1⟩=>GL pins s1 σ H1 x v Q I1 r1 q1) (he _)
theorem Aj:iW X (MZ .Add) (fun x y H Q=>∃ i j,x=.str i/\y=.str j/\i.length+j.length<=LL/\Q (.str (i ++ j)) H):=by
 intro pins s σ H x y v u Q I rx ry h;obtain⟨i,j,rfl,rfl,hz,q⟩:=h;obtain⟨t,rfl⟩:=rx;obtain⟨t',rfl⟩:=ry;exact add_str (fun t' tk=>⟨.str (i ++ j),H,I.tok _,⟨_,rfl⟩,q⟩) hz
theorem vI{x:V}{us:List LC}(r:Vals [x] us):∃ u,us=[u]/\aJ x u:=by
 cases r with
 | cons r1 r2=>cases r2;exact⟨_,rfl,r1⟩
theorem Gj{x y:V}{us:List LC}(r:Vals [x,y] us):∃ u w',us=[u,w']/\aJ x u/\aJ y w':=by
 cases r with
 | cons r1 r2=>
  cases r2 with
  | cons r3 r4=>cases r4;exact⟨_,_,rfl,r1,r3⟩
theorem Cy(hc:X.calm=true):fb X (.builtin "min") (fun xs H Q=>∃ i j,xs=[.int i,.int j]/\Q (.int (if j < i then j else i)) H):=by
 intro pins s σ H xs us Q I r h;obtain⟨i,j,rfl,q⟩:=h;obtain⟨u,w',rfl,⟨t,rfl⟩,⟨t',rfl⟩⟩:=Gj r;refine min_two_ints (I.ok.hd hc) fun h' tk k=>⟨_,H,I.kept k,?_,q⟩
 by_cases hj:j < i
 ·rw[if_pos hj,if_pos hj];exact⟨_,rfl⟩
 ·rw[if_neg hj,if_neg hj];exact⟨_,rfl⟩
end
structure ObjM(h:L5)(x dx C:LB)(mA:Str->Option LC):Prop where
 obj:h.get? x=some (OB C dx)
 ns:h.Ns1 dx mA
 ne:dx≠x
theorem B7{h:L5}{dx:LB}{mA:Str->Option LC}(n:h.Ns1 dx mA):∃ od,h.get? dx=some od/\∀ name,QN name od=some (mA name):=by
 obtain⟨o,es,ep,ho,hd,hk,_,hm⟩:=n;refine⟨o,ho,fun name=>?_⟩;have e:=hm name;unfold nsFind findBy at e;rw[<- Array.find?_toList]at e;unfold QN;rw[hd];dsimp only;split
 ·rename_i y q;rw[q]at e;exact congrArg some e
 ·rename_i q;rw[q]at e;have a:es.toList.any (·.refKey)=false:=by
   rw[List.any_eq_false];intro y hy;obtain⟨z,t,UB⟩:=hk y (Array.mem_toList_iff.mp hy);simp[DictEntry.refKey,UB]
  have a':¬ es.toList.any (·.refKey)=true:=by rw[a];exact Bool.false_ne_true
  rw[if_neg a'];exact congrArg some e
theorem ObjM.look{h:L5}{x dx C:LB}{mA:Str->Option LC}(I:ObjM h x dx C mA):∃ od,PySem.W.InstAt h x (OB C dx) C (some od)/\∀ name,QN name od=some (mA name):=
 let ⟨od,ho,hl⟩:=B7 I.ns
 ⟨od,⟨I.obj,rfl,rfl,ho⟩,hl⟩
section
variable{prog:LS}{w:L6}{A:LY}{E:LC->LF->Prop}{s:LF}{K:PySem.W.Frag}{x dx C f:LB}{mA:Str->Option LC}{name:Str}{v:LC}
theorem FU{expr:Bool}{Q:LC->LF->Prop}(X:K.In s.heap)(I:ObjM s.heap x dx C mA)(hg:PD K C name=true)(hh:P6 K C=true)
  (ha:PySem.W.findIn K (.ref C) name=some none) (hv:mA name=some v) (hv':PySem.W.handedIn v=true) (h:Q v { s with toks:=s.toks+1 }):
  LJ (LN prog w) A (getAttr (.ref x) name expr) Q E s:=by
 obtain⟨od,J,hl⟩:=I.look;exact PySem.W.get_value X J (Pn hg).1 (PySem.W.findObj_own hh ha rfl (by rw[hl,hv])) hv' h
theorem Eh{pl:Sem Bool}{Q:LC×List LC->LF->Prop}(X:K.In s.heap)(I:ObjM s.heap x dx C mA)(hg:PD K C name=true)
  (hf:PySem.W.findIn K (.ref C) name=some (some (.ref f))) (ht:PySem.W.isFn K (.ref f)=true) (hv:mA name=none) (h:Q (.ref f,[.ref x]) s):
  LJ (LN prog w) A (Oe (.ref x) name pl) Q E s:=by
 obtain⟨od,J,hl⟩:=I.look;exact PySem.W.method_fn X J (Pn hg).1 (Pn hg).2 hf (beq_iff_eq.mp ht) (by show (QN name od).map (·.isSome)=some false;rw[hl,hv];rfl) h
theorem E2{ns:List Str}{Q:Unit->LF->Prop}(X:K.In s.heap)(I:ObjM s.heap x dx C mA)
  (hs:PySem.W.findIn K (.ref C) "__setattr__"=some (some (.builtin "object.__setattr__"))) (hp:PySem.W.plainOver K C=true) (ht:QW K C name=some none) (hh:P6 K C=true)
  (hw:PySem.Within mA ns) (hsz:ns.length<=LL)
  (h:∀ h',ObjM h' x dx C (fun y=>if y=name then some v else mA y)->MV dx s.heap h'->Q () { s with heap:=h',toks:=s.toks+2 }):
  LJ (LN prog w) A (setAttr (.ref x) name v) Q E s:=by
 obtain⟨od,J,hl⟩:=I.look;refine PySem.W.set_plain X J hs (PySem.W.osa_open (s:={ s with toks:=s.toks+1 }) (r:=none) X J hp ht fun b=>?_)
 obtain⟨cd,hc,hd'⟩:=PySem.W.any_some hh;have hx:s.heap.get? x=some ⟨.ref C,some dx,.plain,#[]⟩:=I.obj;refine LA (LD (LA (LA (wpAny_loadPart hx (LA (PySem.W.Looks.here (s:={ s with toks:=s.toks+1 }) (PySem.W.looks_clsIn X hc) ?_))))))
 rw[hd'];refine LD (a:=some dx) (LA (LD (LA ?_)));refine wpAny_nsSet1 (s:={ s with toks:=s.toks+1 }) I.ns fun h' hn2 hs2=>?_
 obtain⟨oD,esD,epD,hoD,hdD,hcD⟩:=hn2.count (PySem.Within.cons name v hw);refine LA (wpAny_lookBehind hoD (by rw[hdD];exact pastItsLine_dict (le_trans hcD (by rw[L0];omega))) ?_)
 exact LD (h _ ⟨(hs2.2 _ (Ne.symm I.ne)).trans I.obj,hn2,I.ne⟩ hs2)
theorem DY{R:PL->LF->Prop}{vs:List LC}{kw:List (Str×LC)}(X:K.In s.heap)(hm:PySem.W.makesIn K C=true)
  (hi:PySem.W.findIn K (.ref C) "__init__"=some (some (.ref f))) (hf:PySem.W.typeIn K (.ref f)=some (.type "function"))
  (h:NN (LN prog w) (A.under (.builtin "type.__call__" ⟨.ref C::vs,kw⟩)) (.call (.ref f) ⟨.ref (s.heap.objs.size+1)::vs,kw⟩) (PySem.W.InitBack (s.heap.objs.size+1) R)
   { s with heap:=(s.heap.push NQ).push (OB C s.heap.objs.size) }):
  NN (LN prog w) A (.call (.ref C) ⟨vs,kw⟩) R s:=by
 obtain⟨hh,g,d,t,os⟩:=s;exact PySem.W.make_core (PySem.W.makes_of X hm) (PySem.W.looks_findIn X hi) (fun self=>PySem.W.bind_fn X self hf) (.inl rfl) h
end
def f9(f:Str)(v:V):List (Str×V)->List (Str×V)
 | []=>[(f,v)]
 | (g,x)::r=>if g=f then (g,v)::r else (g,x)::f9 f v r
theorem qT(f g:Str)(v:V):∀ fs:List (Str×V),(f9 f v fs).lookup g=if g=f then some v else fs.lookup g
 | []=>by
  show List.lookup g [(f,v)]=_
  by_cases h:g=f
  ·have hb:(g == f)=true:=beq_iff_eq.mpr h;simp only[List.lookup,hb,if_pos h]
  ·have hb:(g == f)=false:=beq_eq_false_iff_ne.mpr h;simp only[List.lookup,hb,if_neg h]
 | (k,x)::r=>by
  have ih:=qT f g v r;rw[show f9 f v ((k,x)::r)=(if k=f then (k,v)::r else (k,x)::f9 f v r)from rfl]
  by_cases hk:k=f
  ·rw[if_pos hk]
   by_cases h:g=k
   ·have hb:(g == k)=true:=beq_iff_eq.mpr h;simp only[List.lookup,hb,if_pos (h.trans hk)]
   ·have hb:(g == k)=false:=beq_eq_false_iff_ne.mpr h;simp only[List.lookup,hb,if_neg (fun e:g=f=>h (e.trans hk.symm))]
  ·rw[if_neg hk]
   by_cases h:g=k
   ·have hb:(g == k)=true:=beq_iff_eq.mpr h;simp only[List.lookup,hb,if_neg (fun e:g=f=>hk (h.symm.trans e))]
   ·have hb:(g == k)=false:=beq_eq_false_iff_ne.mpr h;simp only[List.lookup,hb];exact ih
theorem qC(f:Str)(v:V):∀ fs:List (Str×V),f∈(f9 f v fs).map (·.1)/\∀ g,g∈fs.map (·.1)->g∈(f9 f v fs).map (·.1)
 | []=>⟨by simp[f9],fun g h=>by simp at h⟩
 | (k,x)::r=>by
  obtain⟨i1,i2⟩:=qC f v r;rw[show f9 f v ((k,x)::r)=(if k=f then (k,v)::r else (k,x)::f9 f v r)from rfl]
  by_cases hk:k=f
  ·rw[if_pos hk];subst hk;exact⟨by simp,fun g h=>by simpa using h⟩
  ·rw[if_neg hk];refine⟨?_,fun g h=>?_⟩
   ·rw[L1];exact LU _ i1
   ·rw[L1]at h ⊢;rcases L_.mp h with e|e
    ·exact L_.mpr (.inl e)
    ·exact LU _ (i2 g e)
theorem qW(f:Str)(v:V):∀ fs:List (Str×V),(f9 f v fs).length<=fs.length+1
 | []=>by simp[f9]
 | (k,x)::r=>by
  have ih:=qW f v r;rw[show f9 f v ((k,x)::r)=(if k=f then (k,v)::r else (k,x)::f9 f v r)from rfl]
  by_cases hk:k=f
  ·rw[if_pos hk,L0,L0];omega
  ·rw[if_neg hk,L0,L0];omega
theorem lh.some_of{v:V}{o:Option LC}(r:lh (some v) o):∃ u,o=some u/\aJ v u:=by
 cases o with
 | none=>exact (show False from r).elim
 | some u=>exact⟨u,rfl,r⟩
theorem lh.none_of{o:Option LC}(r:lh none o):o=none:=by
 cases o with
 | none=>rfl
 | some u=>exact (show False from r).elim
theorem Cj{v:V}{u:LC}(r:aJ v u):PySem.W.handedIn u=true:=by
 cases v with
 | non=>cases (show u=Value.none from r);rfl
 | bl b=>cases (show u=Value.bool b from r);rfl
 | int i=>obtain⟨t,e⟩:=(show ∃ t,u=Value.int i t from r);cases e;rfl
 | str x=>obtain⟨t,e⟩:=(show ∃ t,u=Value.str x t from r);cases e;rfl
 | byt b=>obtain⟨t,e⟩:=(show ∃ t,u=Value.bytes b t from r);cases e;rfl
 | flt b=>obtain⟨t,e⟩:=(show ∃ t,u=Value.float b t from r);cases e;rfl
 | ref a=>cases (show u=Value.ref a from r);rfl
 | ty n=>cases (show u=Value.type n from r);rfl
section
variable{P:LS}{w:L6}{H H':Hp}{h h':L5}{a C dx:LB}{fs fs':List (Str×V)}
theorem sg(hok:oa P w H h)(e:H a=some (.ins C dx fs)):∃ mA,ObjM h a dx C mA/\(∀ f,lh (fs.lookup f) (mA f))/\PySem.Within mA (fs.map (·.1))/\fs.length<=1000/\H dx=some (.own a):=by
 obtain⟨d,z,ne,ob,mA,n,r,q⟩:=(show cg P w H h a (.ins C dx fs)from hok a _ e)
 exact⟨mA,⟨ob,n,ne⟩,r,q,z,d⟩
end
structure Cls(K:PySem.W.Frag)(C:LB):Prop where
 pg:PD K C Str.empty=true
 hd:P6 K C=true
 po:PySem.W.plainOver K C=true
 sa:PySem.W.findIn K (.ref C) "__setattr__"=some (some (.builtin "object.__setattr__"))
theorem Cls.get{K:PySem.W.Frag}{C:LB}(c:Cls K C)(f:Str):PD K C f=true:=c.pg
def cZ(K:PySem.W.Frag)(C:LB)(f:Str):Prop:=PySem.W.findIn K (.ref C) f=some none
theorem cZ.taker{K:PySem.W.Frag}{C:LB}{f:Str}(n:cZ K C f):QW K C f=some none:=by
 unfold QW;rw[show PySem.W.findIn K (.ref C) f=some none from n]
 rfl
structure Meth(K:PySem.W.Frag)(C:LB)(m:Str)(f:LB):Prop where
 at_:PySem.W.findIn K (.ref C) m=some (some (.ref f))
 fn:PySem.W.isFn K (.ref f)=true
 kp:PySem.W.keepIn K (.ref f)=true
section
variable{X:Cx}{pins:List (LB×Obj)}{σ:St}{H:Hp}{s:LF}{a C dx:LB}{fs:List (Str×V)}{f:Str}{v:V}{A:LY}{E:LC->LF->Prop}
theorem AB{b:Bool}{Q:LC->LF->Prop}(I:Inv X pins σ H s)(e:H a=some (.ins C dx fs))(c:Cls X.K C)(n:cZ X.K C f)(l:fs.lookup f=some v)
  (h:∀ u s',Inv X pins σ H s'->aJ v u->Q u s'):LJ (LN X.prog X.w) A (getAttr (.ref a) f b) Q E s:=by
 obtain⟨mA,O,r,_,_,_⟩:=sg I.hok e;obtain⟨u,hu,ru⟩:=lh.some_of (v:=v) (o:=mA f) (by rw[<- l];exact r f)
 exact FU I.kIn O (c.get f) c.hd n hu (Cj ru) (h u _ (I.tok _) ru)
theorem nZ{m:Str}{g:LB}{pl:Sem Bool}{Q:LC×List LC->LF->Prop}(I:Inv X pins σ H s)(e:H a=some (.ins C dx fs))(c:Cls X.K C)(k:Meth X.K C m g)(l:fs.lookup m=none)
  (h:Q (.ref g,[.ref a]) s):LJ (LN X.prog X.w) A (Oe (.ref a) m pl) Q E s:=by
 obtain⟨mA,O,r,_,_,_⟩:=sg I.hok e;have hn:mA m=none:=lh.none_of (by rw[<- l];exact r m)
 exact Eh I.kIn O (c.get m) k.at_ k.fn hn h
theorem zT{y:V}{u:LC}{Q:Unit->LF->Prop}(I:Inv X pins σ H s)(e:H a=some (.ins C dx fs))(c:Cls X.K C)(n:cZ X.K C f)(hl:fs.length < 1000)(ry:aJ y u)
  (h:∀ s',Inv X pins σ (bv H a (.ins C dx (f9 f y fs))) s'->Q () s'):LJ (LN X.prog X.w) A (setAttr (.ref a) f u) Q E s:=by
 obtain⟨mA,O,r,wi,_,ho⟩:=sg I.hok e;have hz:(fs.map (·.1)).length<=LL:=by rw[LG,Mh];omega
 refine E2 I.kIn O c.sa c.po n.taker c.hd wi hz fun h' O' sb=>h _ ?_;have hd:∃ o,h'.get? dx=some o:=let ⟨o,_,_,e',_⟩:=O'.ns;⟨o,e'⟩;refine I.write (x:=a) (e:=dx) (by rw[e];exact True.intro) (.inr ho) (fun b q hb z=>(sb.2 b hb).trans z) hd ?_
 refine⟨by rw[aA O.ne];exact ho,?_,O.ne,O'.obj,_,O'.ns,fun g=>?_,fun g hg=>?_⟩
 ·have:=qW f y fs;omega
 ·show lh ((f9 f y fs).lookup g) (if g=f then some u else mA g)
  rw[qT]
  by_cases q:g=f
  ·rw[if_pos q,if_pos q];exact ry
  ·rw[if_neg q,if_neg q];exact r g
 ·by_cases q:g=f
  ·rw[q];exact (qC f y fs).1
  ·refine (qC f y fs).2 g (wi g fun z=>hg ?_);show (if g=f then some u else mA g)=none
   rw[if_neg q];exact z
theorem Inv.made(I:Inv X pins σ H s):Inv X pins σ (bv (bv H s.heap.objs.size (.own (s.heap.objs.size+1))) (s.heap.objs.size+1) (.ins C s.heap.objs.size []))
  { s with heap:=(s.heap.push NQ).push (OB C s.heap.objs.size) }:=by
 have e1:(s.heap.push NQ).get? s.heap.objs.size=some NQ:=LK s.heap rfl;have e2:((s.heap.push NQ).push (OB C s.heap.objs.size)).get? (s.heap.objs.size+1)=some (OB C s.heap.objs.size):=by
  have:=LK (s.heap.push NQ) (o:=OB C s.heap.objs.size) rfl;rwa[MN]at this
 have e3:(s.heap.push NQ).Ns s.heap.objs.size (fun _=>none):=⟨NQ,#[],_,e1,rfl,(fun e he=>absurd he (by simp)),fun _=>rfl⟩
 have I1:=I.laid (a:=s.heap.objs.size) (o:=.own (s.heap.objs.size+1)) (h':=s.heap.push NQ) (t':=s.toks) (fun b u q=>LH _ q) (le_refl _) ⟨_,e1⟩;refine I1.laid (a:=s.heap.objs.size+1) (o:=.ins C s.heap.objs.size []) (t':=s.toks) (fun b u q=>LH _ q) (Nat.le_of_eq (MN _ _)) ?_;have ne:s.heap.objs.size≠s.heap.objs.size+1:=L9 (Nk _);refine⟨by rw[aA ne,aM],Mg _,ne,e2,fun _=>none,(Heap.Ns1.of_empty e3).at fun o q=>LH _ q,fun _=>True.intro,fun y hy=>absurd rfl hy⟩
theorem F7{prog:LS}{w:L6}{env:Env}{e:L7}{f:Str}{pos:Pos}{s:LF}{Q:LC->LF->Prop}(hb:ML e f env (eval e env)=eval e env)
  (h:LJ (LN prog w) A (eval e env) (fun o s₁=>LJ (LN prog w) A (getAttr o f true) Q E s₁) E s):LJ (LN prog w) A (eval (.Attribute e f pos) env) Q E s:=
 Attribute_any_ h (by rw[arm_eval_Attribute,hb])
end
def Ku(K:PySem.W.Frag)(ta:TE)(f:Str):TE:=fun σ H Q=>ta σ H fun x H1=>∃ a C dx fs v,x=.ref a/\H1 a=some (.ins C dx fs)/\Cls K C/\cZ K C f/\fs.lookup f=some v/\Q v H1
def Kz(K:PySem.W.Frag)(ta tv:TE)(f:Str):TS:=fun D σ H=>tv σ H fun y H1=>ta σ H1 fun x H2=>∃ a C dx fs,x=.ref a/\H2 a=some (.ins C dx fs)/\Cls K C/\cZ K C f/\fs.length < 1000/\
 D.nx σ (bv H2 a (.ins C dx (f9 f y fs)))
section
variable{X:Cx}{o e value:L7}{f:Str}{pos pos' tpos:Pos}{ta tv:TE}
theorem DK(he:PE X e ta)(hb:ML e f X.env (eval e X.env)=eval e X.env):PE X (.Attribute e f pos) (Ku X.K ta f):=by
 intro pins s σ H Q I h;refine F7 hb (cI (he pins s σ H _ I h) fun u s1 zz=>?_);obtain⟨x,H1,I1,rx,a,C,dx,fs,v,ex,ea,c,n,l,q⟩:=zz;subst ex;obtain rfl:u=Value.ref a:=rx;exact AB I1 ea c n l fun u' s2 I2 ru=>⟨v,H1,I2,ru,q⟩
theorem Ac(ha:PE X o ta)(hv:PE X value tv)(hs:NA value (some (.Attribute o f pos')) pos.line X.env=pure false):PS X (.Assign [.Attribute o f pos'] value pos) (Kz X.K ta tv f):=by
 intro pins s σ H D I h;refine plainObj_wpAny_Assign_Attribute (cI (hv pins s σ H _ I h) fun u s1 zz=>?_) hs;obtain⟨y,H1,I1,ry,q⟩:=zz;refine cI (ha pins s1 σ H1 _ I1 q) fun ov s2 zz=>?_;obtain⟨x,H2,I2,rx,a,C,dx,fs,ex,ea,c,n,l,q2⟩:=zz;subst ex;obtain rfl:ov=Value.ref a:=rx;exact zT I2 ea c n l ry fun s3 I3=>⟨σ,_,I3,q2⟩
end
section
variable{X:Cx}{pins:List (LB×Obj)}{σ:St}{H:Hp}{s:LF}{A:LY}{E:LC->LF->Prop}{Q:LC->LF->Prop}{c:LC}{b:Bool}
inductive TyOf(K:PySem.W.Frag)(H:Hp):V->LC->Prop where
 | non:TyOf K H .non (.type "NoneType")
 | bl (x:Bool):TyOf K H (.bl x) (.type "bool")
 | int (i:Int):TyOf K H (.int i) (.type "int")
 | str (x:Str):TyOf K H (.str x) (.type "str")
 | flt (x:UInt64):TyOf K H (.flt x) (.type "float")
 | lst {a:LB} {xs:List V} (e:H a=some (.lst xs)):TyOf K H (.ref a) (.type "list")
 | frz {a:LB} {o:Obj} {xs:List V} (e:H a=some (.frz o (.lst xs))):TyOf K H (.ref a) (.type "list")
 | tup {a:LB} {xs:List V} (e:H a=some (.tup xs)):TyOf K H (.ref a) (.type "tuple")
 | dK {a:LB} {kvs:List (aH×V)} (e:H a=some (.dK kvs)):TyOf K H (.ref a) (.type "dict")
 | dT {a:LB} {kvs:List (List aH×V)} (e:H a=some (.dT kvs)):TyOf K H (.ref a) (.type "dict")
 | ins {a C dx:LB} {fs:List (Str×V)} (e:H a=some (.ins C dx fs)) (cl:Cls K C) (ha:PySem.W.findIn K (.ref C) "__class__"=some (some (.builtin "object.__class__")))
   (hn:PySem.W.specialIn K (.builtin "object.__class__") "__get__"=some (some (.builtin "getset_descriptor.__get__"))) (htk:QV K (.builtin "object.__class__")=some true)
   (hm:P0 K C (.type "object")=some true):TyOf K H (.ref a) (.ref C)
theorem Cf{x:V}{u t:LC}(I:Inv X pins σ H s)(rx:aJ x u)(ty:TyOf X.K H x t)(e:MU X.K t c=some b)(h:∀ tk,Q (.bool b) { s with toks:=tk }):
  LJ (LN X.prog X.w) A (call (.builtin "isinstance") [u,c]) Q E s:=by
 cases ty with
 | non=>cases (show u=Value.none from rx);exact N5 PySem.W.kitx_none I.kIn True.intro e (fun z=>nomatch z) h
 | bl y=>cases (show u=Value.bool y from rx);exact N5 PySem.W.kitx_bool I.kIn True.intro e (fun z=>nomatch z) h
 | int i=>obtain⟨t,q⟩:=(show ∃ t,u=Value.int i t from rx);cases q;exact N5 PySem.W.kitx_int I.kIn True.intro e (fun z=>nomatch z) h
 | str y=>obtain⟨t,q⟩:=(show ∃ t,u=Value.str y t from rx);cases q;exact N5 PySem.W.kitx_str I.kIn True.intro e (fun z=>nomatch z) h
 | flt y=>obtain⟨t,q⟩:=(show ∃ t,u=Value.float y t from rx);cases q;exact N5 PySem.W.kitx_float I.kIn True.intro e (fun z=>nomatch z) h
 | @lst a xs ea=>
  cases (show u=Value.ref a from rx)
  obtain⟨_,_,n,_,h1⟩:=(show cg X.prog X.w H s.heap a (.lst xs)from I.hok a _ ea)
  exact N5 PySem.W.kitx_list I.kIn ⟨_,h1,rfl⟩ e (fun z=>nomatch z) h
 | @frz a ob xs ea=>
  cases (show u=Value.ref a from rx)
  obtain⟨_,_,_,n,_,h1⟩:=(show cg X.prog X.w H s.heap a (.frz ob (.lst xs))from I.hok a _ ea)
  exact N5 PySem.W.kitx_list I.kIn ⟨_,h1,rfl⟩ e (fun z=>nomatch z) h
 | @tup a xs ea=>
  cases (show u=Value.ref a from rx)
  obtain⟨_,_,_,p⟩:=(show cg X.prog X.w H s.heap a (.tup xs)from I.hok a _ ea)
  obtain⟨o,h1,h2,_⟩:=p;exact N5 PySem.W.kitx_tuple I.kIn ⟨o,h1,h2.1⟩ e (fun z=>nomatch z) h
 | @dK a kvs ea=>
  cases (show u=Value.ref a from rx)
  obtain⟨_,_,vs,_,p⟩:=(show cg X.prog X.w H s.heap a (.dK kvs)from I.hok a _ ea)
  obtain⟨o,es,ep,h1,h2,_⟩:=p;exact N5 PySem.W.kitx_dict I.kIn ⟨o,h1,h2.1⟩ e (fun z=>nomatch z) h
 | @dT a kvs ea=>
  cases (show u=Value.ref a from rx)
  obtain⟨_,_,xs,_,o,es,ep,h1,h2,_⟩:=(show cg X.prog X.w H s.heap a (.dT kvs)from I.hok a _ ea)
  exact N5 PySem.W.kitx_dict I.kIn ⟨o,h1,h2.1⟩ e (fun z=>nomatch z) h
 | @ins a C dx fs ea cl ha hn htk hm=>
  cases (show u=Value.ref a from rx)
  obtain⟨mA,O,_⟩:=sg I.hok ea;obtain⟨od,J,_⟩:=O.look;exact N5 (PySem.W.kitx_own (cl.get _) cl.hd ha hn htk hm) I.kIn J e (fun z=>nomatch z) h
end
structure Room(k:Nat)(A:LY):Prop where
 hd:A.handled=none
 dp:A.depth+3*k+5 < recursionLimit
 un:A.units+16*k+200 < Mp
theorem Room.mono{j k:Nat}{A:LY}(r:Room k A)(h:j<=k):Room j A:=⟨r.hd,by have:=r.dp;omega,by have:=r.un;omega⟩
theorem Room.deeper{k:Nat}{A:LY}(r:Room (k+1) A)(env:Env):Room k (A.deeper env):=
 ⟨r.hd,by have:=r.dp;show A.depth+1+3*k+5 < _;omega,by have:=r.un;show A.units+3+16*k+200 < _;omega⟩
theorem Room.in1{k:Nat}{A:LY}(r:Room (k+1) A):Room k A.in1:=
 ⟨r.hd,by have:=r.dp;show A.depth+3*k+5 < _;omega,by have:=r.un;show A.units+1+16*k+200 < _;omega⟩
theorem Ar{A:LY}{C:LB}{us:List LC}{kw:List (Str×LC)}:(A.under (.builtin "type.__call__" ⟨.ref C::us,kw⟩)).depth=A.depth+1:=by
 first|rfl|simp[Qn,Code.weight,Code.isCreation,Code.isGuard,Code.isCaller,Code.frames,Ql,guardIds]
theorem Aq{A:LY}{C:LB}{us:List LC}{kw:List (Str×LC)}:(A.under (.builtin "type.__call__" ⟨.ref C::us,kw⟩)).units=A.units+1:=by
 first|rfl|simp[Qn,Code.cUnits,Code.frames,Ql]
theorem Room.make{k:Nat}{A:LY}(r:Room (k+1) A)(C:LB)(us:List LC)(kw:List (Str×LC)):Room k (A.under (.builtin "type.__call__" ⟨.ref C::us,kw⟩)):=
 ⟨r.hd,by have:=r.dp;rw[Ar];omega,by have:=r.un;rw[Aq];omega⟩
theorem Room.depth{k:Nat}{A:LY}(r:Room k A):A.depth < recursionLimit:=by have:=r.dp;omega
theorem Room.units{k:Nat}{A:LY}(r:Room k A):A.units+64 < Mp:=by have:=r.un;omega
def II:TA:=fun _ H Q=>Q [] H
def IL(ta:TE)(tr:TA):TA:=fun σ H Q=>ta σ H fun x H1=>tr σ H1 fun xs H2=>Q (x::xs) H2
section
variable{X:Cx}{e:L7}{es:List L7}{te:TE}{t:TA}{pos:Pos}
theorem Ht:PA X [] II:=fun _ _ _ _ H Q I h=>Nt ⟨[],H,I,.nil,h⟩
theorem Fq(ha:PE X e te)(hr:PA X es t)(hs:LR (e::es) X.env=(false,eval e X.env)::LR es X.env:=by rfl):PA X (e::es) (IL te t):=by
 intro pos pins s σ H Q I h;rw[hs];show LJ _ _ (spliced ((false,eval e X.env)::MQ pos (LR es X.env))) _ _ s
 refine M0 (cI (ha pins s σ H _ I h) fun u s1 zz=>?_);obtain⟨x,H1,I1,r1,q1⟩:=zz;exact cI (hr pos pins s1 σ H1 _ I1 q1) fun us s2 ⟨xs,H2,I2,r2,q2⟩=>⟨x::xs,H2,I2,.cons r1 r2,q2⟩
def Km(t:TA):TE:=fun σ H Q=>t σ H fun xs H1=>xs.length<=LL/\∀ p,H1 p=none->Q (.ref p) (bv H1 p (.tup xs))
def Kr(t:TA):TE:=fun σ H Q=>t σ H fun xs H1=>xs.length<=LL/\∀ p,H1 p=none->Q (.ref p) (bv H1 p (.lst xs))
theorem Hj{x1}(h:PA X es t):PE X (.Tuple es x1 pos) (Km t):=by
 intro pins s σ H Q I hq;refine wpAny_Tuple_spliced (cI (h pos pins s σ H _ I hq) fun us s1 ⟨xs,H1,I1,r,z,q⟩=>⟨by rw[<- r.length];exact z,?_⟩)
 have hf:H1 s1.heap.objs.size=none:=I1.hok.fresh (le_refl _);refine⟨.ref s1.heap.objs.size,bv H1 s1.heap.objs.size (.tup xs),I1.laid (t':=s1.toks) (fun b u e=>LH _ e) (le_refl _) ?_,rfl,q _ hf⟩;exact⟨z,us,r,ut.new _ _⟩
theorem Hn(h:PA X es t):PE X (.List es pos) (Kr t):=by
 intro pins s σ H Q I hq;refine wpAny_List_spliced (cI (h pos pins s σ H _ I hq) fun us s1 ⟨xs,H1,I1,r,z,q⟩=>⟨by rw[<- r.length];exact z,?_⟩)
 have hf:H1 s1.heap.objs.size=none:=I1.hok.fresh (le_refl _);refine⟨.ref s1.heap.objs.size,bv H1 s1.heap.objs.size (.lst xs),I1.laid (t':=s1.toks) (fun b u e=>LH _ e) (le_refl _) ?_,rfl,q _ hf⟩;exact⟨z,us,0,r,LK _ rfl⟩
end
abbrev Sp:=List V->Hp->VK->XK->Prop
abbrev EG:=List Env->Hp->LF->XK->LC->LF->Prop
structure Env0(P:LS)(w:L6)(K:PySem.W.Frag)(mg:Str->Option LC)(base:L5)(A:LY)(outer:List Env)(s:LF)(H:Hp):Prop where
 frames:A.frames=some outer
 mod:Mod K mg base
 bs:∀ b o,base.get? b=some o->s.heap.get? b=some o/\H b=none
 bsz:base.objs.size<=s.heap.objs.size
 funs:s.heap.FunFrames base outer
 frf:∀ b∈CJ outer,H b=none
 hok:oa P w H s.heap
 bare:Os s.gens
def CE(outer:List Env)(P:LS)(w:L6)(H:Hp)(s:LF)(Q:VK)(u:LC)(s':LF):Prop:=
 ∃ v H',s'.os=s.os/\Os s'.gens/\Un (CJ outer) [] H H' s.heap s'.heap/\oa P w H' s'.heap/\aJ v u/\Q v H'
def CR(CX:EG)(outer:List Env)(P:LS)(w:L6)(H:Hp)(s:LF)(Q:VK)(E:XK)(r:PL)(s':LF):Prop:=
 match r with
 | .ok (.ret u)=>CE outer P w H s Q u s'
 | .ok _=>False
 | .error e=>CX outer H s E e s'
structure FnOk(P:LS)(w:L6)(K:PySem.W.Frag)(mg:Str->Option LC)(base:L5)(CX:EG)(k:Nat)(f:LB)(fd:LO)(ps:List Str)(sp:Sp):Prop where
 len:∀ vs H Q E,sp vs H Q E->vs.length=ps.length
 run:∀ (A:LY) (outer:List Env) (s:LF) (H:Hp) (args:Args) (us:List LC) (vs:List V) (Q:VK) (E:XK),Room k A->Env0 P w K mg base A outer s H->PB s fd args (ps.zip us)->Vals vs us->sp vs H Q E->
  NN (LN P w) A (.call (.ref f) args) (CR CX outer P w H s Q E) s
theorem Env0.make{P:LS}{w:L6}{K:PySem.W.Frag}{mg:Str->Option LC}{base:L5}{A:LY}{outer:List Env}{s:LF}{H:Hp}(e:Env0 P w K mg base A outer s H)(C:LB)(us:List LC)(kw:List (Str×LC)):
  Env0 P w K mg base (A.under (.builtin "type.__call__" ⟨.ref C::us,kw⟩)) outer s H:=⟨by first|exact e.frames|(simpa[Qn,Code.envs,Ql,pushEnvs]using e.frames),e.mod,e.bs,e.bsz,e.funs,e.frf,e.hok,e.bare⟩
theorem Env0.in1{P:LS}{w:L6}{K:PySem.W.Frag}{mg:Str->Option LC}{base:L5}{A:LY}{outer:List Env}{s:LF}{H:Hp}(e:Env0 P w K mg base A outer s H):
  Env0 P w K mg base A.in1 outer s H:=⟨e.frames,e.mod,e.bs,e.bsz,e.funs,e.frf,e.hok,e.bare⟩
section
variable{X:Cx}{pins:List (LB×Obj)}{σ:St}{H:Hp}{s s':LF}
theorem Inv.env0(I:Inv X pins σ H s):Env0 X.prog X.w X.K X.mg X.base X.A X.stack s H:=
 ⟨I.ok.frames,I.ok.mod,I.bs,le_trans I.ok.bsz I.sz,I.stack,I.stkFree,I.hok,I.bare⟩
theorem Inv.after{Q:VK}{u:LC}(I:Inv X pins σ H s)(h:CE X.stack X.prog X.w H s Q u s'):EP X pins σ Q u s':=by
 obtain⟨v,H',os,bare,un,hok,r,q⟩:=h;obtain⟨hh,g,d,t,os'⟩:=s';obtain rfl:os'=s.os:=os;exact⟨v,H',I.call (h':=hh) (g':=g) (d':=d) (t':=t) (ch:=[]) un hok bare (fun b z=>absurd z (by simp)),r,q⟩
end
def Gn(sp:Sp)(dvs:List V)(E:XK)(t:TA):TE:=fun σ H Q=>t σ H fun vs H1=>sp (vs ++ dvs) H1 Q E
def CU(C:LB)(m:Str)(sp:Sp)(dvs:List V)(E:XK)(ta:TE)(t:TA):TE:=fun σ H Q=>ta σ H fun x H1=>∃ a dx fs,x=.ref a/\H1 a=some (.ins C dx fs)/\fs.lookup m=none/\
 t σ H1 fun vs H2=>sp (x::(vs ++ dvs)) H2 Q E
def Gm(C:LB)(sp:Sp)(dvs:List V)(E:XK)(t:TA):TE:=fun σ H Q=>t σ H fun vs H1=>∀ x dx,H1 x=none->H1 dx=none->dx≠x->
 sp (.ref x::(vs ++ dvs)) (bv (bv H1 dx (.own x)) x (.ins C dx [])) (fun v H2=>v=.non/\Q (.ref x) H2) E
def fw(K:PySem.W.Frag)(fd:LO)(ps:List Str)(ds:List LC):Prop:=
 ∀ (s:LF) (us:List LC),K.In s.heap->(us ++ ds).length=ps.length->PB s fd ⟨us,[]⟩ (ps.zip (us ++ ds))
theorem fw.all{K:PySem.W.Frag}{fd:LO}{ps:List Str}(h:∀ us:List LC,us.length=ps.length->bindArgs fd ⟨us,[]⟩=pure (ps.zip us)):fw K fd ps []:=fun s us _ hl=>by
 rw[M8]at hl ⊢;exact .of_eq (h us hl)
def n8(CX:EG)(X:Cx)(E:XK):Prop:=∀ (pins:List (LB×Obj)) (σ:St) (H:Hp) (s:LF) (e:LC) (s':LF),Inv X pins σ H s->CX X.stack H s E e s'->X.xe e s'
section
variable{X:Cx}{CX:EG}{k:Nat}{f C:LB}{fd:LO}{ps:List Str}{sp:Sp}{dvs:List V}{ds:List LC}{E:XK}{x m:Str}{p pos apos:Pos}{e o:L7}{es:List L7}{ta:TE}{t:TA}
theorem sL{pins:List (LB×Obj)}{σ:St}{H:Hp}{s:LF}{Q:VK}{us:List LC}{vs:List V}(F:FnOk X.prog X.w X.K X.mg X.base CX k f fd ps sp)(hr:Room k X.A)(hb:fw X.K fd ps ds)(hd:Vals dvs ds)(hx:n8 CX X E)
  (I:Inv X pins σ H s) (r:Vals vs us) (h:sp (vs ++ dvs) H Q E):LJ (LN X.prog X.w) X.A (call (.ref f) us) (EP X pins σ Q) X.xe s:=by
 have r2:Vals (vs ++ dvs) (us ++ ds):=r.append hd;have hl:(us ++ ds).length=ps.length:=by rw[<- r2.length];exact F.len _ _ _ _ h
 refine QH (Od (F.run X.A X.stack s H ⟨us,[]⟩ (us ++ ds) (vs ++ dvs) Q E hr I.env0 (hb s us I.kIn hl) r2 h) fun r s' hq=>?_);cases r with
 | error e=>exact hx pins σ H s e s' I hq
 | ok fl=>
  cases fl with
  | ret u=>exact I.after hq
  | next=>exact False.elim hq
  | brk=>exact False.elim hq
  | cont=>exact False.elim hq
theorem Fp(F:FnOk X.prog X.w X.K X.mg X.base CX k f fd ps sp)(hr:Room k X.A)(hg:Gl X x)(hm:X.mg x=some (.ref f))(hk:PySem.W.keepIn X.K (.ref f)=true)(hb:fw X.K fd ps ds)(hd:Vals dvs ds)(hx:n8 CX X E)
  (ha:PA X (e::es) t) (hdb:(x == ("__debug__":Str))=false:=by decide) (he:LR (e::es) X.env=(false,eval e X.env)::LR es X.env:=by rfl) (hpl:(MQ pos (LR es X.env)).any (·.1)=false:=by rfl):
  PE X (.Call (.Name x p) (e::es) [] pos) (Gn sp dvs E t):=by
 intro pins s σ H Q I h;refine Nh (se I hg hm ?_ hdb);refine O4 (h₀:=X.base) I.ok.mod.kin hk (cI (ha pos pins s σ H _ I h) fun us s1 ⟨vs,H1,I1,r,q⟩=>⟨I1.kIn,?_⟩) he hpl;exact sL F hr hb hd hx I1 r q
theorem Fm{pl:Sem Bool}(he:PE X o ta)(c:Cls X.K C)(hm:Meth X.K C m f)(F:FnOk X.prog X.w X.K X.mg X.base CX k f fd ps sp)(hr:Room k X.A)(hb:fw X.K fd ps ds)(hd:Vals dvs ds)(hx:n8 CX X E)(ha:PA X (e::es) t)
  (hst:LR (e::es) X.env=(false,eval e X.env)::LR es X.env:=by rfl) (hpl:(MQ pos (LR es X.env)).any (·.1)=false:=by rfl)
  (ht:eval (.Call (.Attribute o m apos) (e::es) [] pos) X.env=(do
   let ov <- eval o X.env
   Ob apos.atName
   let (f,first) <- holding [ov] (Oe ov m pl)
   O_ pos f first (MQ pos (LR (e::es) X.env)) (N9 pos (Nf [] X.env))):=by rfl):
  PE X (.Call (.Attribute o m apos) (e::es) [] pos) (CU C m sp dvs E ta t):=by
 intro pins s σ H Q I h;refine Ot (pl:=pl) (cI (he pins s σ H _ I h) fun u s1 zz=>?_) ht;obtain⟨x,H1,I1,rx,a,dx,fs,ex,ea,l,q⟩:=zz;subst ex;obtain rfl:u=Value.ref a:=rx;refine nZ I1 ea c hm l ?_;refine O4 (first:=[.ref a]) (h₀:=X.base) I.ok.mod.kin hm.kp (cI (ha pos pins s1 σ H1 _ I1 q) fun us s2 ⟨vs,H2,I2,r,q2⟩=>⟨I2.kIn,?_⟩) hst hpl
 exact sL (us:=.ref a::us) (vs:=.ref a::vs) F hr hb hd hx I2 (.cons rfl r) q2
theorem DJ{pl:Sem Bool}(he:PE X o ta)(c:Cls X.K C)(hm:Meth X.K C m f)(F:FnOk X.prog X.w X.K X.mg X.base CX k f fd ps sp)(hr:Room k X.A)(hb:fw X.K fd ps ds)(hd:Vals dvs ds)(hx:n8 CX X E)
  (ht:eval (.Call (.Attribute o m apos) [] [] pos) X.env=(do
   let ov <- eval o X.env
   Ob apos.atName
   let (f,first) <- holding [ov] (Oe ov m pl)
   O_ pos f first (MQ pos (LR [] X.env)) (N9 pos (Nf [] X.env))):=by rfl):
  PE X (.Call (.Attribute o m apos) [] [] pos) (CU C m sp dvs E ta II):=by
 intro pins s σ H Q I h;refine Ot (pl:=pl) (cI (he pins s σ H _ I h) fun u s1 zz=>?_) ht;obtain⟨x,H1,I1,rx,a,dx,fs,ex,ea,l,q⟩:=zz;subst ex;obtain rfl:u=Value.ref a:=rx;refine nZ I1 ea c hm l ?_;exact PySem.W.callWith_K0 (first:=[.ref a]) I1.kIn hm.kp (sL (us:=[.ref a]) (vs:=[.ref a]) F hr hb hd hx I1 (.cons rfl .nil) q)
structure Mk(K:PySem.W.Frag)(C f:LB):Prop where
 makes:PySem.W.makesIn K C=true
 init:PySem.W.findIn K (.ref C) "__init__"=some (some (.ref f))
 fn:PySem.W.isFn K (.ref f)=true
 kp:PySem.W.keepIn K (.ref C)=true
theorem Db{pins:List (LB×Obj)}{σ:St}{H:Hp}{s:LF}{Q:VK}{us:List LC}{vs:List V}(M:Mk X.K C f)(F:FnOk X.prog X.w X.K X.mg X.base CX k f fd ps sp)(hr:Room (k+1) X.A)(hb:fw X.K fd ps ds)(hd:Vals dvs ds)
  (hx:n8 CX X E) (I:Inv X pins σ H s) (r:Vals vs us)
  (h:∀ x dx,H x=none->H dx=none->dx≠x->sp (.ref x::(vs ++ dvs)) (bv (bv H dx (.own x)) x (.ins C dx [])) (fun v H2=>v=.non/\Q (.ref x) H2) E):
  LJ (LN X.prog X.w) X.A (call (.ref C) us) (EP X pins σ Q) X.xe s:=by
 have hq:=h (s.heap.objs.size+1) s.heap.objs.size (I.hok.fresh (Qg _)) (I.hok.fresh (le_refl _)) (L9 (Nk _));have I2:=Inv.made (C:=C) I;have r2:Vals (V.ref (s.heap.objs.size+1)::(vs ++ dvs)) (Value.ref (s.heap.objs.size+1)::(us ++ ds)):=.cons rfl (r.append hd);have hl:(Value.ref (s.heap.objs.size+1)::us ++ ds).length=ps.length:=by
  have e:=r2.length;rw[F.len _ _ _ _ hq]at e;exact e.symm
 refine QH (DY (f:=f) I.kIn M.makes M.init (beq_iff_eq.mp M.fn) (Od (F.run _ X.stack _ _ ⟨Value.ref (s.heap.objs.size+1)::us,[]⟩ (Value.ref (s.heap.objs.size+1)::(us ++ ds)) _ _ E (hr.make C us [])
  (I2.env0.make C us []) (hb _ (Value.ref (s.heap.objs.size+1)::us) I2.kIn hl) r2 hq) fun r s' hq'=>?_))
 cases r with
 | error e=>exact hx pins σ _ _ e s' I2 hq'
 | ok fl=>
  cases fl with
  | ret u=>
   obtain⟨v,H',I3,rv,ev,q3⟩:=I2.after hq';subst ev;exact⟨rv,⟨V.ref (s.heap.objs.size+1),H',I3,rfl,q3⟩⟩
  | next=>exact False.elim hq'
  | brk=>exact False.elim hq'
  | cont=>exact False.elim hq'
theorem Fn(M:Mk X.K C f)(F:FnOk X.prog X.w X.K X.mg X.base CX k f fd ps sp)(hr:Room (k+1) X.A)(hg:Gl X x)(hm:X.mg x=some (.ref C))(hb:fw X.K fd ps ds)(hd:Vals dvs ds)(hx:n8 CX X E)
  (ha:PA X (e::es) t) (hdb:(x == ("__debug__":Str))=false:=by decide) (he:LR (e::es) X.env=(false,eval e X.env)::LR es X.env:=by rfl) (hpl:(MQ pos (LR es X.env)).any (·.1)=false:=by rfl):
  PE X (.Call (.Name x p) (e::es) [] pos) (Gm C sp dvs E t):=by
 intro pins s σ H Q I h;refine Nh (se I hg hm ?_ hdb);refine O4 (h₀:=X.base) I.ok.mod.kin M.kp (cI (ha pos pins s σ H _ I h) fun us s1 ⟨vs,H1,I1,r,q⟩=>⟨I1.kIn,?_⟩) he hpl;exact Db M F hr hb hd hx I1 r q
end
structure FnScope(N P:List Str)(sc:NV):Prop where
 kind:sc.kind=.function
 co:sc.isCoroutine=false
 gen:sc.isGenerator=false
 nd:N.Nodup
 pre:N.take P.length=P
 par:∀ x∈P,sc.names.lookup x=some .local\/sc.names.lookup x=some .cell
 nofree:∀ y∈sc.names,y.2≠.free
theorem v8{kindOf:Str->Option Om}{x:Str}:∀ {binds:List (Str×LC)} {m:Str->Option LC},(∀ v,(x,v)∉binds)->P7 kindOf binds m x=m x
 | [],_,_=>rfl
 | (n,v)::r,m,h=>by
  unfold P7;rw[v8 fun w hw=>h w (LU _ hw)];split
  ·have:x≠n:=by rintro rfl;exact h v LV
   simp[this]
  ·rfl
theorem v_{kindOf:Str->Option Om}{x:Str}:∀ {binds:List (Str×LC)} {m:Str->Option LC},(∀ v,(x,v)∉binds)->P8 kindOf binds m x=m x
 | [],_,_=>rfl
 | (n,v)::r,m,h=>by
  unfold P8;rw[v_ fun w hw=>h w (LU _ hw)];split
  ·rfl
  ·have:x≠n:=by rintro rfl;exact h v LV
   simp[this]
theorem v9{kindOf:Str->Option Om}{x:Str}{v:LC}:∀ {P:List Str} {vs:List LC} {i:Nat} {m:Str->Option LC},P.Nodup->P[i]?=some x->vs[i]?=some v->kindOf x=some .local->
  P7 kindOf (P.zip vs) m x=some v
 | [],_,_,_,_,h,_,_=>by simp at h
 | _::_,[],_,_,_,_,h,_=>by simp at h
 | p::P,w::vs,0,m,nd,h1,h2,hk=>by
  simp at h1 h2;subst h1;subst h2;show P7 kindOf ((p,w)::P.zip vs) m p=_
  unfold P7;rw[v8 fun v hv=>(Nv.mp nd).1 (List.of_mem_zip hv).1,if_pos hk];simp
 | p::P,w::vs,i+1,m,nd,h1,h2,hk=>by
  show P7 kindOf ((p,w)::P.zip vs) m x=_
  unfold P7;exact v9 (i:=i) (Nv.mp nd).2 (by simpa using h1) (by simpa using h2) hk
theorem wa{kindOf:Str->Option Om}{x:Str}{v:LC}:∀ {P:List Str} {vs:List LC} {i:Nat} {m:Str->Option LC},P.Nodup->P[i]?=some x->vs[i]?=some v->kindOf x≠some .local->
  P8 kindOf (P.zip vs) m x=some v
 | [],_,_,_,_,h,_,_=>by simp at h
 | _::_,[],_,_,_,_,h,_=>by simp at h
 | p::P,w::vs,0,m,nd,h1,h2,hk=>by
  simp at h1 h2;subst h1;subst h2;show P8 kindOf ((p,w)::P.zip vs) m p=_
  unfold P8;rw[v_ fun v hv=>(Nv.mp nd).1 (List.of_mem_zip hv).1,if_neg hk];simp
 | p::P,w::vs,i+1,m,nd,h1,h2,hk=>by
  show P8 kindOf ((p,w)::P.zip vs) m x=_
  unfold P8;exact wa (i:=i) (Nv.mp nd).2 (by simpa using h1) (by simpa using h2) hk
def start(N:List Str)(vs:List V):St:=vs.map some ++ List.replicate (N.length - vs.length) none
def Ct(CX:EG)(P:LS)(w:L6)(K:PySem.W.Frag)(mg:Str->Option LC)(base:L5)(N:List Str)(qual:Str)(scope:NV)(f:LB)(cd:LC)(A:LY)(outer:List Env)(s:LF)(H:Hp)(E:XK):Cx where
 prog:=P
 w:=w
 K:=K
 mg:=mg
 base:=base
 A:=A.deeper (O3 qual scope s.heap.objs.size f cd)
 N:=N
 s₀:=s
 H₀:=H
 env:=O3 qual scope s.heap.objs.size f cd
 outer:=outer
 stack:=O3 qual scope s.heap.objs.size f cd::outer
 ex:=[]
 calm:=true
 fn:=fun _=>true
 pn:=[]
 xe:=fun e s'=>LJ (LN P w) (A.deeper (O3 qual scope s.heap.objs.size f cd)) (leaving (O3 qual scope s.heap.objs.size f cd) e) (fun _ s''=>CX outer H s E e s'') (fun e' s''=>CX outer H s E e' s'') s'
theorem zB{sc:NV}{n:Nat}{x:Str}(h:sc.names.lookup x=some .cell):∃ c,(cellsFrom n sc.names []).lookup x=some c:=by
 have q:=PySem.W.cellsFrom_some sc.names n [] (.inl h);exact Option.isSome_iff_exists.mp q
theorem Cg{CX:EG}{P:LS}{w:L6}{K:PySem.W.Frag}{mg:Str->Option LC}{base:L5}{N ps:List Str}{qual:Str}{scope:NV}{f:LB}{cd:LC}{A:LY}{outer:List Env}{s s1:LF}{H:Hp}{E:XK}{us:List LC}{vs:List V}
  (S:FnScope N ps scope) (hd:A.handled=none) (e0:Env0 P w K mg base A outer s H) (hl:vs.length=ps.length) (r:Vals vs us)
  (x:InCallC s s.heap.objs.size (P7 (O3 qual scope s.heap.objs.size f cd).kindOf (ps.zip us) fun _=>none) (cellsFrom (s.heap.objs.size+1) scope.names []) (P8 (O3 qual scope s.heap.objs.size f cd).kindOf (ps.zip us) fun _=>none) s1):
  Inv (Ct CX P w K mg base N qual scope f cd A outer s H E) [] (start N vs) H s1:=by
 have hpl:ps.length<=N.length:=by have:=congrArg List.length S.pre;rw[Mm]at this;omega
 obtain⟨h1,tk,rfl,hk⟩:=x.done;have noA:∀ b:LB,b∉(Ct CX P w K mg base N qual scope f cd A outer s H E).ex:=fun b z=>absurd (show b∈([]:List LB)from z) (by simp)
 refine⟨⟨e0.mod,S.kind,rfl,rfl,le_refl _,fun y z c h1 h2=>?_,fun y hy=>?_,fun y c _ h=>?_,fun _=>hd,Around.frames_deeper e0.frames,.inr ⟨rfl,rfl⟩,fun b z=>absurd z (noA b),e0.bs,e0.bsz,fun b _ _=>noA b,fun b z=>absurd z (noA b),e0.funs,e0.frf⟩,
  rfl,e0.bare,Un.kept hk,⟨_,x.toInCall.ns,fun i y v h1 h2 h3=>?_⟩,fun y c h=>⟨_,x.cell y c h⟩,e0.hok.fresh (le_refl _),fun y c h=>?_,fun p hp=>absurd (show p∈([]:List (LB×Obj))from hp) (by simp),e0.hok.kept hk,?_⟩
 ·exact name_of_addr x.apart (PySem.mem_of_lookup h1) (PySem.mem_of_lookup h2)
 ·have hy:scope.names.lookup y=some .cell\/scope.names.lookup y=some .free:=hy;rcases hy with hy|hy
  ·exact zB hy
  ·exact absurd rfl (S.nofree _ (PySem.mem_of_lookup hy))
 ·exact le_of_lt (x.above y c (PySem.mem_of_lookup h))
 ·have hi:i < vs.length:=by
   unfold start at h2
   by_cases hi:i < vs.length
   ·exact hi
   ·rw[List.getElem?_append_right (by simpa using hi)]at h2
    rw[List.getElem?_replicate]at h2;split at h2<;>cases h2
  have ha:vs[i]?=some v:=by
   unfold start at h2;rw[List.getElem?_append_left (by simpa using hi),L4]at h2
   cases e:vs[i]? with
   | none=>rw[e]at h2;cases h2
   | some a=>rw[e]at h2;cases h2;rfl
  obtain⟨u,hu,rv⟩:=r.get ha;have hp:ps[i]?=some y:=by
   rw[<- S.pre,List.getElem?_take_of_lt (by walk_at "o")];exact h1
  have ndP:ps.Nodup:=by rw[<- S.pre];exact S.nd.sublist (List.take_sublist _ _)
  refine⟨u,rv,?_⟩;rcases S.par y (LZ hp)with k|k
  ·exact .inl ⟨k,v9 ndP hp hu k⟩
  ·obtain⟨c,e⟩:=zB (n:=s.heap.objs.size+1) k;refine .inr ⟨.inl k,c,e,?_⟩;have q:=x.cell y c e;rw[wa ndP hp hu (by show scope.names.lookup y≠_;rw[k];decide)]at q
   exact q
 ·exact e0.hok.fresh (le_of_lt (x.above y c (PySem.mem_of_lookup h)))
 ·unfold start;show _=N.length
  rw[Mz,LG,List.length_replicate];omega
theorem Jz{CX:EG}{P:LS}{w:L6}{K:PySem.W.Frag}{mg:Str->Option LC}{base:L5}{k:Nat}{f:LB}{name qual:Str}{params:Arguments}{body:List Md}{scope:NV}{dV kV doc pm cdv ct oc:LC}{an od:Option LB}
  {osl:Array (Option LC)} {N ps:List Str} {sp:Sp} (lk:K.lookup f=some ⟨oc,od,.func (PySem.W.fnOf name qual params body scope dV kV doc pm an cdv ct),osl⟩) (hcd:PySem.W.codeIn K cdv qual=true) (S:FnScope N ps scope)
  (len:∀ vs H Q E,sp vs H Q E->vs.length=ps.length)
  (UD:∀ (A:LY) (outer:List Env) (s:LF) (H:Hp) (vs:List V) (Q:VK) (E:XK),Room k (A.deeper (O3 qual scope s.heap.objs.size f cdv))->sp vs H Q E->
   ∃ t,rm (Ct CX P w K mg base N qual scope f cdv A outer s H E) body t/\t { nx:=fun _ H'=>Q .non H',rt:=Q } (start N vs) H):
  FnOk P w K mg base CX (k+1) f (PySem.W.fnOf name qual params body scope dV kV doc pm an cdv ct) ps sp:=by
 refine⟨len,fun A outer s H args us vs Q E hr e0 hb r hsp=>?_⟩;have hl:=len _ _ _ _ hsp;have KX:K.In s.heap:=e0.mod.kin.keeps fun b o e=>(e0.bs b o e).1;have lim:s.heap.NoLimit:=e0.mod.nolimit.keeps fun b o e=>(e0.bs b o e).1;have UV:∀ y∈ps.zip us,scope.names.lookup y.1=some .local\/(scope.names.lookup y.1=some .cell/\((cellsFrom (s.heap.objs.size+1) scope.names []).lookup y.1).isSome=true):=fun⟨n,v⟩ hy=>by
  rcases S.par n (List.of_mem_zip hy).1 with q|q
  ·exact .inl q
  ·exact .inr ⟨q,PySem.W.cellsFrom_some _ _ _ (.inl q)⟩
 refine codeAny_call_function hr.depth (KX _ _ lk) rfl S.co S.gen rfl (PySem.W.codeRec_of KX hcd) (hb _ _ _ _ ?_);refine wpAny_newFunctionEnv_cells S.kind UV fun env he s1 x=>?_;subst he;refine⟨lim.keeps x.toInCall.keep,codeAny_func ?_⟩;obtain⟨t,ht,hq⟩:=UD A outer s H vs Q E (hr.deeper _) hsp;have I:Inv (Ct CX P w K mg base N qual scope f cdv A outer s H E) [] (start N vs) H s1:=Cg S hr.hd e0 hl r x;refine MC (ht [] s1 (start N vs) H _ I hq) (fun fl s' hs=>?_) fun e s' hs=>hs;have fin:∀ {σ':St} {H':Hp} {v:V} {u:LC},Inv (Ct CX P w K mg base N qual scope f cdv A outer s H E) [] σ' H' s'->aJ v u->Q v H'->CE outer P w H s Q u s':=
  fun {σ' H' v u} J rv q=>⟨v,H',J.os,J.bare,J.base,J.hok,rv,q⟩
 cases fl with
 | ret u=>
  obtain⟨v,σ',H',J,rv,q⟩:=hs;exact fin J rv q
 | next=>
  obtain⟨σ',H',J,q⟩:=hs;exact fin (v:=V.non) (u:=Value.none) J rfl q
 | brk=>
  obtain⟨_,_,_,q⟩:=hs;exact False.elim q
 | cont=>
  obtain⟨_,_,_,q⟩:=hs;exact False.elim q
section
variable{X:Cx}{x:Str}{p pos:Pos}{e:L7}{es:List L7}{t:TA}{id T:String}{r:List V->Hp->VK->Prop}
def Kv(r:List V->Hp->VK->Prop)(t:TA):TE:=fun σ H Q=>t σ H fun vs H1=>r vs H1 Q
theorem DM(hc:fb X (.builtin id) r)(hg:Gl X x)(hm:X.mg x=none)(hv:Nl x=some (.builtin id))(ha:PA X (e::es) t)(hn:x≠"__name__":=by decide)(hdb:(x == ("__debug__":Str))=false:=by decide)
  (he:LR (e::es) X.env=(false,eval e X.env)::LR es X.env:=by rfl) (hpl:(MQ pos (LR es X.env)).any (·.1)=false:=by rfl):PE X (.Call (.Name x p) (e::es) [] pos) (Kv r t):=by
 intro pins s σ H Q I h;refine Nh (jG I hg hm hv ?_ hn hdb);exact PyProof.Rows.callWith_builtin1 (cI (ha pos pins s σ H _ I h) fun us s1 ⟨vs,H1,I1,r1,q1⟩=>hc pins s1 σ H1 vs us Q I1 r1 q1) he hpl
theorem BZ(hc:fb X (.type T) r)(hg:Gl X x)(hm:X.mg x=none)(hv:Nl x=some (.type T))(ha:PA X (e::es) t)(hn:x≠"__name__":=by decide)(hdb:(x == ("__debug__":Str))=false:=by decide)
  (he:LR (e::es) X.env=(false,eval e X.env)::LR es X.env:=by rfl) (hpl:(MQ pos (LR es X.env)).any (·.1)=false:=by rfl):PE X (.Call (.Name x p) (e::es) [] pos) (Kv r t):=by
 intro pins s σ H Q I h;refine Nh (jG I hg hm hv ?_ hn hdb);exact PyProof.Rows.callWith_type1 (cI (ha pos pins s σ H _ I h) fun us s1 ⟨vs,H1,I1,r1,q1⟩=>hc pins s1 σ H1 vs us Q I1 r1 q1) he hpl
end
end L2
namespace HT
open PySem PyProof.Rows
section
open PySem.SeqAt
open PySem.AutoSeq1 (wpAny_loadPart')
open PySem.MeetsSeq PySem.MeetsSeq2 PySem.MeetsSeq3
end
section
variable{prog:LS}{w:L6}{A:LY}{E:LC->LF->Prop}{s:LF}
theorem cat_tup{t b:LB}{vs ws:List LC}{Q:LC->LF->Prop}(ht:IsTup s.heap t vs.toArray)(hb:IsTup s.heap b ws.toArray)(hv:vs≠[])
  (h1:ws=[]->Q (.ref t) s) (h2:ws≠[]->Q (.ref s.heap.objs.size) { s with heap:=s.heap.push { cls:=.type "tuple",data:=.seq (vs ++ ws).toArray } })
  (hsz:vs.length+ws.length<=LL):LJ (LN prog w) A (MZ .Add (.ref t) (.ref b)) Q E s:=by
 obtain⟨⟨cls,dd,data,sl⟩,ho,hc,n,hd⟩:=id ht;obtain⟨⟨cls2,dd2,data2,sl2⟩,ho2,hc2,n2,hd2⟩:=id hb;simp only at hc hd hc2 hd2;subst hc hd hc2 hd2;have e:vs.toArray ++ ws.toArray=(vs ++ ws).toArray:=by simp
 by_cases hw:ws=[]
 ·exact Qi ⟨_,ho,rfl⟩ ⟨_,ho2,rfl⟩ noFill_tuple_add seq_tuple_add PySem.F.slot_tuple_add PySem.F.entry_tuple_add (PySem.F.args_tuple_add_2 _ _)
   (tuple_addW1 t b vs.toArray ws.toArray n n2 dd dd2 sl sl2 (by simpa using hv) (by simp[hw])) ⟨ho,ho2,h1 hw⟩
 ·refine Qi ⟨_,ho,rfl⟩ ⟨_,ho2,rfl⟩ noFill_tuple_add seq_tuple_add PySem.F.slot_tuple_add PySem.F.entry_tuple_add (PySem.F.args_tuple_add_2 _ _)
   (tuple_addW2 t b vs.toArray ws.toArray n n2 dd dd2 sl sl2 (by simpa using hv) (by simpa using hw) (by rw[LM,LM];exact hsz)) ⟨ho,ho2,?_⟩
  rw[e];exact h2 hw
def sIx(n d:Nat):Option Int->Nat
 | none=>d
 | some v=>if v < 0 then (v+(n:Int)).toNat else min v.toNat n
theorem sIx_le(n d:Nat)(hd:d<=n)(o:Option Int):sIx n d o<=n:=by
 cases o with
 | none=>exact hd
 | some v=>
  show (if v < 0 then (v+(n:Int)).toNat else min v.toNat n)<=n
  by_cases hv:v < 0
  ·rw[if_pos hv];omega
  ·rw[if_neg hv];exact Nat.min_le_right _ _
theorem Bt(v:Int)(n d:Nat):(if v < 0 then max (v+(n:Int)) 0 else min v (n:Int))=((sIx n d (some v):Nat):Int):=by
 show (if v < 0 then max (v+(n:Int)) 0 else min v (n:Int))=(((if v < 0 then (v+(n:Int)).toNat else min v.toNat n):Nat):Int)
 by_cases hv:v < 0
 ·simp only[if_pos hv];omega
 ·simp only[if_neg hv];omega
theorem AN(lo hi:Option Int)(n:Nat):On lo hi 1 (n:Int)=(((sIx n 0 lo:Nat):Int),((sIx n n hi:Nat):Int)):=by
 have h1:¬ ((1:Int) < 0):=by walk_at "o"
 unfold On;simp only[h1,if_false];refine Prod.ext ?_ ?_
 ·cases lo with
  | none=>rfl
  | some v=>exact Bt v n 0
 ·cases hi with
  | none=>rfl
  | some v=>exact Bt v n n
theorem Ad(i j:Nat):NC (i:Int) (j:Int) 1=j - i:=by
 unfold NC;have h1:(1:Int) > 0:=by walk_at "o"
 simp only[h1,if_true,Int.ediv_one];split<;>omega
theorem sA{v:LC}{o:Option Int}{Q:Option Int->LF->Prop}(p:O5 v o)(h:Q o s):LJ (LN prog w) A (Builtin.Slice.slicePartIndex v) Q E s:=by
 cases p with
 | none=>exact slicePart_none h
 | int i t=>exact slicePart_int h
theorem pR{sl:LB}{vl vu:LC}{lo hi:Option Int}{n:Nat}{Q:Int×Int×Nat->LF->Prop}(hs:s.heap.IsSliceOf sl vl vu .none)(pl:O5 vl lo)(pu:O5 vu hi)
  (h:Q (((sIx n 0 lo:Nat):Int),1,sIx n n hi - sIx n 0 lo) s):LJ (LN prog w) A (PN (.ref sl) (pure (n:Int))) Q E s:=by
 obtain⟨os,hos,hcs,hds⟩:=id hs;unfold PN Builtin.Slice.sliceFields;refine LA (LA (MJ hos hds (x:=vl) rfl (LA (MJ hos hds (x:=vu) rfl (LA (MJ hos hds (x:=.none) rfl (LD ?_)))))));refine LA (slicePart_none ?_);show LJ _ _ (if ((1:Int) == 0)=true then _ else _) _ _ s
 rw[if_neg (by decide)]
 refine LA (sA pl (LA (sA pu (LA (LD ?_)))));show LJ _ _ (match On lo hi 1 (n:Int) with|(lo,hi)=>pure (lo,(1:Int),NC lo hi 1)) _ _ s
 rw[AN lo hi n];show LJ _ _ (pure (((sIx n 0 lo:Nat):Int),(1:Int),NC ((sIx n 0 lo:Nat):Int) ((sIx n n hi:Nat):Int) 1)) _ _ s
 rw[Ad];exact LD h
theorem DE(xs:Array LC)(i k:Nat):((List.range k).filterMap fun (m:Nat)=>xs[((i:Int)+(m:Int)*1).toNat]?).toArray=((xs.toList.drop i).take k).toArray:=by
 have e:(fun (m:Nat)=>xs[((i:Int)+(m:Int)*1).toNat]?)=fun m=>xs[i+m]?:=by
  funext m;have:((i:Int)+(m:Int)*1).toNat=i+m:=by walk_at "o"
  rw[this]
 rw[e];have:=pick_run xs i k;rw[List.filterMap_map]at this;have e2:((fun x=>xs[x]?) ∘ fun x=>i+x)=fun m=>xs[i+m]?:=rfl;rw[e2]at this;rw[this]
theorem getItem_tuple_cut{t sl:LB}{items:Array LC}{vl vu:LC}{lo hi:Option Int}{Q:LC->LF->Prop}(ht:IsTup s.heap t items)(hs:s.heap.IsSliceOf sl vl vu .none)(pl:O5 vl lo)(pu:O5 vu hi)
  (hw:¬ (sIx items.size 0 lo=0/\sIx items.size items.size hi=items.size))
  (h:Q (.ref s.heap.objs.size) { s with heap:=s.heap.push { cls:=.type "tuple",data:=.seq ((items.toList.drop (sIx items.size 0 lo)).take (sIx items.size items.size hi - sIx items.size 0 lo)).toArray } })
  (hsz:items.size<=LL):LJ (LN prog w) A (OC (.ref t) (.ref sl)) Q E s:=by
 have Uu:sizeOk (.seq ((items.toList.drop (sIx items.size 0 lo)).take (sIx items.size items.size hi - sIx items.size 0 lo)).toArray):=by
  show ((items.toList.drop (sIx items.size 0 lo)).take (sIx items.size items.size hi - sIx items.size 0 lo)).toArray.size<=LL
  rw[LM,Mm,N8,Array.length_toList];omega
 have hj:sIx items.size items.size hi<=items.size:=sIx_le _ _ (le_refl _) hi;obtain⟨os,hos,hcs,hds⟩:=id hs;have hTs:s.TypeIs (.ref sl) "slice":=⟨os,hos,hcs⟩;unfold OC
 try with_reducible refine Mi ?_
 first|refine LA (LD ?_)|skip
 refine LA (wpAny_sequenceKey ht.typeIs (by decide) ?_)
 refine LA (Mr (name:=LI "__getitem__") ht.typeIs PyProof.Rows.slot_tuple_getitem
  (Mq PyProof.Rows.slot_tuple_getitem ht.typeIs entry_tuple_getitem ?_ (args_tuple_getitem _ _)))
 show LJ _ _ (Builtin.Tuple.tupleItemsOf (.ref t) >>= _) _ _ s
 refine LA (tupleItemsOf_ ht ?_);refine LA (Ox hTs ?_);rw[if_pos (by decide)]
 refine LA (pR hs pl pu ?_);have hno:¬ ((((sIx items.size 0 lo:Nat):Int) == 0 && (1:Int) == 1 && (sIx items.size items.size hi - sIx items.size 0 lo) == items.size)=true):=by
  intro q;rw[Bool.and_eq_true,Bool.and_eq_true]at q;have q1:((sIx items.size 0 lo:Nat):Int)=0:=eq_of_beq q.1.1;have q2:sIx items.size items.size hi - sIx items.size 0 lo=items.size:=eq_of_beq q.2;exact hw ⟨by walk_at "o",by walk_at "o"⟩
 show LJ _ _ (if (((sIx items.size 0 lo:Nat):Int) == 0 && (1:Int) == 1 && (sIx items.size items.size hi - sIx items.size 0 lo) == items.size)=true then _ else _) _ _ s
 rw[if_neg hno,DE]
 first
  | exact LA (m:=NJ _) (Ma (LD ⟨_,rfl,LD h⟩) Uu)
  | exact LA (m:=NJ _) (Ma (LA (LD (LD ⟨_,rfl,LD h⟩))) Uu)
  | exact LA (LA (m:=NJ _) (Ma (LD (LD ⟨_,rfl,LD h⟩)) Uu))
  | exact LA (LA (m:=NJ _) (Ma (LD ⟨_,rfl,LD h⟩) Uu))
end
end HT
namespace L2
open PySem PySem.Spec PyProof.Rows
abbrev TO:=St->Hp->(Option Int->Hp->Prop)->Prop
def PO(X:Cx)(e:Option L7)(t:TO):Prop:=
 ∀ (pins:List (LB×Obj)) (s:LF) (σ:St) (H:Hp) (Q:Option Int->Hp->Prop),Inv X pins σ H s->t σ H Q->
  LJ (LN X.prog X.w) X.A (evalPart e X.env) (fun u s'=>∃ o H',Inv X pins σ H' s'/\O5 u o/\Q o H') X.xe s
def ET:TO:=fun _ H Q=>Q none H
def IH(t:TE):TO:=fun σ H Q=>t σ H fun x H1=>∃ i,x=.int i/\Q (some i) H1
section
variable{X:Cx}{e:L7}{te:TE}{lo hi:Option L7}{tl th:TO}{pos p2:Pos}
theorem Fi:PO X none ET:=by
 intro pins s σ H Q I h;rw[evalPart_none];exact LD ⟨none,H,I,.none,h⟩
theorem Fh(h:PE X e te):PO X (some e) (IH te):=by
 intro pins s σ H Q I hw;rw[evalPart_some];refine cI (h pins s σ H _ I hw) fun u s1 zz=>?_;obtain⟨x,H1,I1,r1,q1⟩:=zz;obtain⟨i,rfl,q⟩:=q1;obtain⟨t,rfl⟩:=r1;exact⟨some i,H1,I1,.int i t,q⟩
def CB(X:Cx)(r:V->Option Int->Option Int->Hp->VK->Prop):Prop:=
 ∀ (pins:List (LB×Obj)) (s:LF) (σ:St) (H:Hp) (x:V) (v vl vu:LC) (lo hi:Option Int) (sl:LB) (Q:VK),Inv X pins σ H s->aJ x v->s.heap.IsSliceOf sl vl vu .none->O5 vl lo->O5 vu hi->r x lo hi H Q->
  ∃ T id,O1 (.type T) "__getitem__"=pure (some (.builtin id))/\s.TypeIs v T/\LJ (LN X.prog X.w) X.A (OC v (.ref sl)) (EP X pins σ Q) X.xe s
theorem CB.or{r r':V->Option Int->Option Int->Hp->VK->Prop}(h:CB X r)(h':CB X r'):CB X (fun x lo hi H Q=>r x lo hi H Q\/r' x lo hi H Q):=by
 intro pins s σ H x v vl vu lo hi sl Q I rx hs pl pu q;rcases q with q|q
 ·exact h pins s σ H x v vl vu lo hi sl Q I rx hs pl pu q
 ·exact h' pins s σ H x v vl vu lo hi sl Q I rx hs pl pu q
def Lg(r:V->Option Int->Option Int->Hp->VK->Prop)(te:TE)(tl th:TO):TE:=fun σ H Q=>te σ H fun x H1=>tl σ H1 fun l H2=>th σ H2 fun u H3=>r x l u H3 Q
theorem DI{r:V->Option Int->Option Int->Hp->VK->Prop}(hr:CB X r)(he:PE X e te)(hl:PO X lo tl)(hu:PO X hi th):PE X (.Subscript e (.Slice lo hi none p2) pos) (Lg r te tl th):=by
 intro pins s σ H Q I h;refine QR (cI (he pins s σ H _ I h) fun v s1 zz=>?_);obtain⟨x,H1,I1,r1,q1⟩:=zz;refine wpAny_Slice (cI (hl pins s1 σ H1 _ I1 q1) fun vl s2 zz=>?_);obtain⟨l,H2,I2,pl,q2⟩:=zz;refine cI (hu pins s2 σ H2 _ I2 q2) fun vu s3 zz=>?_;obtain⟨u,H3,I3,pu,q3⟩:=zz;rw[evalPart_none];refine LD ?_;have I4:Inv X pins σ H3 { s3 with heap:=s3.heap.push { cls:=.type "slice",data:=.fields #[vl,vu,.none] } }:=I3.kept (t':=s3.toks) fun b ob q=>LH _ q
 obtain⟨T,id,hT,ht,hg⟩:=hr pins { s3 with heap:=s3.heap.push { cls:=.type "slice",data:=.fields #[vl,vu,.none] } } σ H3 x v vl vu l u s3.heap.objs.size Q I4 r1 (Heap.IsSliceOf.new ..) pl pu q3
 show LJ (LN X.prog X.w) X.A (PV e (.Slice lo hi none p2) v (.ref s3.heap.objs.size)) (EP X pins σ Q) X.xe { s3 with heap:=s3.heap.push { cls:=.type "slice",data:=.fields #[vl,vu,.none] } }
 exact tail_any (ops:=[.ref s3.heap.objs.size,v]) ht hT hg (by with_unfolding_all rfl)
def zw(xs:List V)(lo hi:Option Int):List V:=(xs.drop (HT.sIx xs.length 0 lo)).take (HT.sIx xs.length xs.length hi - HT.sIx xs.length 0 lo)
theorem rh(xs:List V)(lo hi:Option Int):(zw xs lo hi).length<=xs.length:=by
 unfold zw;rw[Mm,N8];omega
def KA(K:PySem.W.Frag):V->Option Int->Option Int->Hp->VK->Prop:=fun x lo hi H Q=>∃ a xs,x=.ref a/\kP K H a xs/\
 ¬ (HT.sIx xs.length 0 lo=0/\HT.sIx xs.length xs.length hi=xs.length)/\∀ p,H p=none->Q (.ref p) (bv H p (.tup (zw xs lo hi)))
theorem GT:CB X (KA X.K):=by
 intro pins s σ H x v vl vu lo hi sl Q I rx hs pl pu h;obtain⟨a,xs,rfl,hx,hw,q⟩:=h;cases rx;obtain⟨its,r,ht,hz⟩:=I.tuple hx;have hlen:its.toArray.size=xs.length:=by rw[LM];exact r.length.symm
 refine⟨"tuple",_,PyProof.Rows.slot_tuple_getitem.lookup,ht.typeIs,?_⟩;refine HT.getItem_tuple_cut ht hs pl pu (by rw[hlen];exact hw) ?_ (by rw[hlen];exact hz)
 rw[hlen];refine⟨.ref s.heap.objs.size,_,I.laid (t':=s.toks) (o:=.tup (zw xs lo hi)) (fun b ob q=>LH _ q) (le_refl _) ?_,rfl,q _ (I.hok.fresh (le_refl _))⟩;exact⟨le_trans (rh xs lo hi) hz,_,(r.drop (HT.sIx xs.length 0 lo)).take (HT.sIx xs.length xs.length hi - HT.sIx xs.length 0 lo),ut.new _ _⟩
def IW(K:PySem.W.Frag):R2:=fun x y H Q=>∃ a b xs ys,x=.ref a/\y=.ref b/\kP K H a xs/\kP K H b ys/\xs≠[]/\xs.length+ys.length<=LL/\
 (ys=[]->Q (.ref a) H)/\(ys≠[]->∀ p,H p=none->Q (.ref p) (bv H p (.tup (xs ++ ys))))
theorem Vals.nil_iff{xs:List V}{us:List LC}(r:Vals xs us):us=[]↔xs=[]:=by
 cases r with
 | nil=>simp
 | cons _ _=>simp
theorem Fx:iW X (MZ .Add) (IW X.K):=by
 intro pins s σ H x y v u Q I rx ry h;obtain⟨a,b,xs,ys,rfl,rfl,ha,hb,hx,hz,q1,q2⟩:=h;cases rx;cases ry;obtain⟨its,r1,p1,_⟩:=I.tuple ha;obtain⟨its2,r2,p2,_⟩:=I.tuple hb;refine HT.cat_tup p1 p2 (fun z=>hx (r1.nil_iff.mp z)) (fun z=>⟨.ref a,H,I,rfl,q1 (r2.nil_iff.mp z)⟩) (fun z=>?_) (by rw[<- r1.length,<- r2.length];exact hz)
 refine⟨.ref s.heap.objs.size,_,I.laid (t':=s.toks) (o:=.tup (xs ++ ys)) (fun b ob q=>LH _ q) (le_refl _) ?_,rfl,q2 (fun w=>z (r2.nil_iff.mpr w)) _ (I.hok.fresh (le_refl _))⟩;exact⟨by rw[Mz];exact hz,_,r1.append r2,ut.new _ _⟩
end
def FO(n:Nat)(i:Int):Option Nat:=if 0<=i then (if i < n then some i.toNat else none)else if -(n:Int)<=i then some (i+n).toNat else none
def jJ{α:Type}(xs:List α)(i:Int):Option α:=(FO xs.length i).bind fun j=>xs[j]?
theorem Bh{n:Nat}{i:Int}{j:Nat}(h:FO n i=some j):seqIndex? i n=some j/\j < n/\-(n:Int)<=i/\i < n:=by
 unfold FO at h
 by_cases h0:0<=i
 ·rw[if_pos h0]at h
  by_cases h1:i < n
  ·rw[if_pos h1]at h;have e:i.toNat=j:=Option.some.inj h;exact⟨by rw[Qu h0 h1,e],by walk_at "o",by walk_at "o",h1⟩
  ·rw[if_neg h1]at h;cases h
 ·rw[if_neg h0]at h
  by_cases h1:-(n:Int)<=i
  ·rw[if_pos h1]at h;have e:(i+n).toNat=j:=Option.some.inj h;exact⟨by rw[seqIndex_neg (by walk_at "o") h1,e],by walk_at "o",h1,by walk_at "o"⟩
  ·rw[if_neg h1]at h;cases h
theorem ya{α:Type}{xs:List α}{i:Int}{v:α}(h:jJ xs i=some v):∃ j,seqIndex? i xs.length=some j/\xs[j]?=some v/\j < xs.length/\-(xs.length:Int)<=i/\i < xs.length:=by
 unfold jJ at h;cases e:FO xs.length i with
 | none=>rw[e]at h;cases h
 | some j=>
  rw[e]at h;obtain⟨h1,h2,h3,h4⟩:=Bh e;exact⟨j,h1,h,h2,h3,h4⟩
def BB(b:L7):Prop:=∀ o i,Pl b false o i=operate [o,i] (OC o i)
def CG(X:Cx)(r:R2):Prop:=
 ∀ (value slice:L7) (pins:List (LB×Obj)) (s:LF) (σ:St) (H:Hp) (x y:V) (v u:LC) (Q:VK),Inv X pins σ H s->aJ x v->aJ y u->r x y H Q->
  Pl slice false v u=operate [v,u] (OC v u)->LJ (LN X.prog X.w) X.A (PV value slice v u) (EP X pins σ Q) X.xe s
def K4(X:Cx)(id:String)(r:V->List V->Hp->VK->Prop):Prop:=
 ∀ (pins:List (LB×Obj)) (s:LF) (σ:St) (H:Hp) (x:V) (xs:List V) (v:LC) (us:List LC) (Q:VK),Inv X pins σ H s->aJ x v->Vals xs us->r x xs H Q->
  LJ (LN X.prog X.w) X.A (call (.builtin id) (v::us)) (EP X pins σ Q) X.xe s
section
variable{X:Cx}{a b:L7}{ta tb:TE}{pos:Pos}
theorem CG.or{r r':R2}(h:CG X r)(h':CG X r'):CG X (fun x y H Q=>r x y H Q\/r' x y H Q):=by
 intro value slice pins s σ H x y v u Q I rx ry q hs;rcases q with q|q
 ·exact h value slice pins s σ H x y v u Q I rx ry q hs
 ·exact h' value slice pins s σ H x y v u Q I rx ry q hs
theorem Jg{r:R2}(hr:CG X r)(ha:PE X a ta)(hb:PE X b tb)(hs:BB b):PE X (.Subscript a b pos) (IB r ta tb):=by
 intro pins s σ H Q I h;exact QR (Is ha hb I h fun v u s2 x y H2 I2 rx ry q=>hr a b pins s2 σ H2 x y v u Q I2 rx ry q (hs _ _))
def IV(K:PySem.W.Frag):R2:=fun x y H Q=>∃ p xs i v,x=.ref p/\y=.int i/\jT K H p xs/\jJ xs i=some v/\Q v H
def IT(K:PySem.W.Frag):R2:=fun x y H Q=>∃ p xs i v,x=.ref p/\y=.int i/\kP K H p xs/\jJ xs i=some v/\Q v H
def IU:R2:=fun x y H Q=>∃ z i c,x=.str z/\y=.int i/\z.length<=LL/\jJ z.cps.toList i=some c/\Q (.str ⟨#[c]⟩) H
theorem FN:CG X (IV X.K):=by
 intro value slice pins s σ H x y v u Q I rx ry h hs;obtain⟨p,xs,i,z,rfl,rfl,hq,he,q⟩:=h;cases rx;obtain⟨t,rfl⟩:=ry;obtain⟨its,r,pl,hz⟩:=I.list hq;obtain⟨j,h1,h2,h3,h4,h5⟩:=ya he;obtain⟨w,ew,rw'⟩:=r.get h2;have hl:=r.length;have hn:=mh;have fin:EP X pins σ Q w s:=⟨z,H,I,rw',q⟩
 by_cases h0:0<=i
 ·have hj:i.toNat=j:=by
   rw[Qu h0 h5]at h1;exact Option.some.inj h1
  exact item_listR pl.isList h0 (by walk_at "o") (by rw[hj];simpa using ew) fin hs
 ·have hj:(i+(its.toArray.size:Int)).toNat=j:=by
   rw[seqIndex_neg (by walk_at "o") h4]at h1
   rw[LM,<- hl];exact Option.some.inj h1
  exact Qd (x:=w) pl.isList.typeIs slot_list_getitem.lookup
   (wpAny_getItem_list_neg (Q:=fun r s'=>r=w/\EP X pins σ Q r s') pl.isList (by walk_at "o") (by rw[LM]<;>omega) (by walk_at "o") (by rw[hj];simpa using ew) ⟨rfl,fin⟩) hs
theorem HU:CG X (IT X.K):=by
 intro value slice pins s σ H x y v u Q I rx ry h hs;obtain⟨p,xs,i,z,rfl,rfl,hq,he,q⟩:=h;cases rx;obtain⟨t,rfl⟩:=ry;obtain⟨its,r,pl,hz⟩:=I.tuple hq;obtain⟨j,h1,h2,h3,h4,h5⟩:=ya he;obtain⟨w,ew,rw'⟩:=r.get h2;have hl:=r.length;have hn:=mh;have fin:EP X pins σ Q w s:=⟨z,H,I,rw',q⟩;exact Qd (x:=w) pl.typeIs slot_tuple_getitem.lookup
  (getItem_tuple (j:=j) (Q:=fun r s'=>r=w/\EP X pins σ Q r s') pl (by walk_at "o") (by walk_at "o") (by rw[LM,<- hl];exact h1) (by simpa using ew) ⟨rfl,fin⟩) hs
theorem HV:CG X IU:=by
 intro value slice pins s σ H x y v u Q I rx ry h hs;obtain⟨z,i,c,rfl,rfl,hz,he,q⟩:=h;obtain⟨t,rfl⟩:=rx;obtain⟨t',rfl⟩:=ry;obtain⟨j,h1,h2,h3,h4,h5⟩:=ya he;have hl:z.cps.toList.length=z.length:=by simp[Ny]
 rw[hl]at h1 h4 h5;have hn:=mh;exact tail_any (QJ s z t) slot_str_getitem.lookup (getItem_str (c:=c) (by
  have e1:decide (i < -(2 ^ 63:Int))=false:=decide_eq_false (by walk_at "o")
  have e2:decide (i>=2 ^ 63)=false:=decide_eq_false (by walk_at "o")
  rw[e1,e2,Bool.or_false]) (by rw[h1];simpa using h2) ⟨.str ⟨#[c]⟩,H,I.tok _,⟨_,rfl⟩,q⟩) hs
def Ll(K:PySem.W.Frag):R2:=fun x y H Q=>IV K x y H Q\/IT K x y H Q\/IU x y H Q
theorem HX:CG X (Ll X.K):=FN.or (HU.or HV)
theorem Ap(its:List LC)(n j:Nat)(u:LC):Mt (·.setIfInBounds j u) { cls:=.type "list",data:=.seq its.toArray n }={ cls:=.type "list",data:=.seq (its.set j u).toArray n }:=by
 simp[Mt]
theorem Inv.lst{pins:List (LB×Obj)}{σ:St}{H:Hp}{s:LF}{p:LB}{xs:List V}(I:Inv X pins σ H s)(h:H p=some (.lst xs)):
  ∃ (its:List LC) (n:Nat),Vals xs its/\s.heap.get? p=some { cls:=.type "list",data:=.seq its.toArray n }/\xs.length<=LL:=by
 obtain⟨z,its,n,r,e⟩:=I.hok p _ h;exact⟨its,n,r,e,z⟩
theorem Inv.lstUpd{pins:List (LB×Obj)}{σ:St}{H:Hp}{s:LF}{p:LB}{xs ys:List V}{its its':List LC}{n n':Nat}{f:Obj->Obj}(I:Inv X pins σ H s)(h:H p=some (.lst xs))
  (ho:s.heap.get? p=some { cls:=.type "list",data:=.seq its.toArray n }) (hf:f { cls:=.type "list",data:=.seq its.toArray n }={ cls:=.type "list",data:=.seq its'.toArray n' }) (r:Vals ys its') (hz:ys.length<=LL) (t:Nat):
  Inv X pins σ (bv H p (.lst ys)) { s with heap:=s.heap.update p f,toks:=t }:=by
 have e:(s.heap.update p f).get? p=some { cls:=.type "list",data:=.seq its'.toArray n' }:=by
  rw[M1 f ho (by rw[hf]<;>rfl),hf]
 refine I.write (x:=p) (e:=p) (by rw[h];trivial) (.inl rfl) (fun b u hb q=>(MI _ _ (Ne.symm hb)).trans q) ⟨_,e⟩ ?_
 exact⟨hz,its',n',r,e⟩
def IS:V->V->V->Hp->(Hp->Prop)->Prop:=fun o i v H Q=>∃ p xs k j,o=.ref p/\i=.int k/\H p=some (.lst xs)/\FO xs.length k=some j/\Q (bv H p (.lst (xs.set j v)))
theorem C4:Iy X IS:=by
 intro pins s σ H o i v ov iv u Q I ro ri rv h;obtain⟨p,xs,k,j,rfl,rfl,hp,hj,q⟩:=h;cases ro;obtain⟨t,rfl⟩:=ri;obtain⟨its,n,r,ho,hz⟩:=I.lst hp;obtain⟨h1,h2,h3,h4⟩:=Bh hj;have hl:=r.length;have hn:=mh;have I':Inv X pins σ (bv H p (.lst (xs.set j v))) { s with heap:=s.heap.update p (Mt (·.setIfInBounds j u)) }:=
  I.lstUpd hp ho (Ap its n j u) (r.set rv j) (by rw[List.length_set];exact hz) s.toks
 by_cases h0:0<=k
 ·have hk:k.toNat=j:=by
   rw[Qu h0 h4]at h1;exact Option.some.inj h1
  exact PySem.W.ki_setAt ho h0 (by walk_at "o") (by rw[LM,<- hl];exact h4) (by rw[hk];exact⟨_,I',q⟩)
 ·have hk:(k+(its.toArray.size:Int)).toNat=j:=by
   rw[seqIndex_neg (by walk_at "o") h3]at h1
   rw[LM,<- hl];exact Option.some.inj h1
  exact PySem.W.ki_setBack ho (by walk_at "o") (by rw[LM,<- hl];exact h3) (by walk_at "o") (by rw[hk];exact⟨_,I',q⟩)
theorem wq(lo hi:Option Int)(n:Nat):(Nd lo hi none n).1=((HT.sIx n 0 lo:Nat):Int)/\(Nd lo hi none n).2.1=((HT.sIx n n hi:Nat):Int)/\(Nd lo hi none n).2.2=1:=by
 refine⟨?_,?_,rfl⟩
 ·cases lo with
  | none=>simp[Nd,HT.sIx]
  | some i=>
   simp only[Nd,HT.sIx,Option.getD_none,show (1:Int) > 0 by decide,if_true]
   by_cases h:i < 0
   ·simp only[h,if_true]<;>omega
   ·simp only[h,if_false]<;>omega
 ·cases hi with
  | none=>simp[Nd,HT.sIx]
  | some i=>
   simp only[Nd,HT.sIx,Option.getD_none,show (1:Int) > 0 by decide,if_true]
   by_cases h:i < 0
   ·simp only[h,if_true]<;>omega
   ·simp only[h,if_false]<;>omega
theorem uz(its:List LC)(lo hi:Option Int):slicePick its.toArray lo hi none=((its.drop (HT.sIx its.length 0 lo)).take (HT.sIx its.length its.length hi - HT.sIx its.length 0 lo)).toArray:=by
 obtain⟨h1,h2,h3⟩:=wq lo hi its.toArray.size;unfold slicePick;rw[h1,h2,h3];simp only[sliceRange_one,pick_run,LM]<;>rfl
def KB(K:PySem.W.Frag):V->Option Int->Option Int->Hp->VK->Prop:=fun x lo hi H Q=>∃ a xs,x=.ref a/\jT K H a xs/\∀ p,H p=none->Q (.ref p) (bv H p (.lst (zw xs lo hi)))
theorem E1:CB X (KB X.K):=by
 intro pins s σ H x v vl vu lo hi sl Q I rx hs pl pu h;obtain⟨a,xs,rfl,hx,q⟩:=h;cases rx;obtain⟨its,r,ht,hz⟩:=I.list hx;have hlen:=r.length;refine⟨"list",_,slot_list_getitem.lookup,ht.isList.typeIs,?_⟩;refine wpAny_getItem_list_slice ht.isList hs pl pu .none (by simp) ?_ (by rw[LM]<;>omega)
 rw[uz,<- hlen];refine⟨.ref s.heap.objs.size,_,I.laid (t':=s.toks) (o:=.lst (zw xs lo hi)) (fun b ob q=>LH _ q) (le_refl _) ?_,rfl,q _ (I.hok.fresh (le_refl _))⟩;exact⟨le_trans (rh xs lo hi) hz,_,0,(r.drop (HT.sIx xs.length 0 lo)).take (HT.sIx xs.length xs.length hi - HT.sIx xs.length 0 lo),LK _ rfl⟩
theorem xZ:fb X (.builtin "len") (fun xs H Q=>∃ p ys,xs=[.ref p]/\(jT X.K H p ys\/kP X.K H p ys)/\Q (.int ys.length) H):=by
 intro pins s σ H xs us Q I r h;obtain⟨p,ys,rfl,hq,q⟩:=h;obtain⟨u,rfl,rx⟩:=vI r;cases rx;have hn:=mh;rcases hq with hq|hq
 ·obtain⟨its,r',pl,hz⟩:=I.list hq;have hlen:=r'.length;exact Calls.call_len_list pl.isList (by simp only[LM]<;>omega) ⟨.int ys.length,H,I.tok _,⟨s.toks+1,by rw[LM,hlen]⟩,q⟩
 ·obtain⟨its,r',pl,hz⟩:=I.tuple hq;have hlen:=r'.length;exact len_tuple pl (by simp only[LM]<;>omega) ⟨.int ys.length,H,I.tok _,⟨s.toks+1,by rw[LM,hlen]⟩,q⟩
theorem xY:fb X (.builtin "len") (fun xs H Q=>∃ z,xs=[.str z]/\z.length<=LL/\Q (.int z.length) H):=by
 intro pins s σ H xs us Q I r h;obtain⟨z,rfl,hz,q⟩:=h;obtain⟨u,rfl,t,rfl⟩:=vI r;have hn:=mh;exact len_str (by walk_at "o") ⟨.int z.length,H,I.tok _,⟨_,rfl⟩,q⟩
theorem fb.or{f:LC}{r r':List V->Hp->VK->Prop}(h:fb X f r)(h':fb X f r'):fb X f (fun xs H Q=>r xs H Q\/r' xs H Q):=by
 intro pins s σ H xs us Q I rs q;rcases q with q|q
 ·exact h pins s σ H xs us Q I rs q
 ·exact h' pins s σ H xs us Q I rs q
theorem xX:fb X (.type "list") (fun xs H Q=>∃ p ys,xs=[.ref p]/\(jT X.K H p ys\/kP X.K H p ys)/\∀ l,H l=none->Q (.ref l) (bv H l (.lst ys))):=by
 intro pins s σ H xs us Q I r h;obtain⟨p,ys,rfl,hq,q⟩:=h;obtain⟨u,rfl,rx⟩:=vI r;cases rx;have fin:∀ (its:List LC),Vals ys its->ys.length<=LL->∀ (h':L5) (c':Nat),(∀ b o',s.heap.get? b=some o'->h'.get? b=some o')->
   h'.get? s.heap.objs.size=some { cls:=.type "list",dict:=none,data:=.seq its.toArray c',slots:=#[] }->EP X pins σ Q (.ref s.heap.objs.size) { s with heap:=h' }:=fun its r' hz h' c' kp e=>
  ⟨.ref s.heap.objs.size,_,I.laid (t':=s.toks) kp (le_refl _) (show cg X.prog X.w _ h' _ (.lst ys)from ⟨hz,its,c',r',e⟩),rfl,q _ (I.hok.fresh (le_refl _))⟩
 rcases hq with hq|hq
 ·obtain⟨its,r',pl,hz⟩:=I.list hq;have hlen:=r'.length;obtain⟨o,ho,hc,n,hd⟩:=pl.isList;exact call_list_seq p (.inl rfl) ho hc hd (fun h' c' kp e=>fin its r' hz h' c' kp e) (by simp only[LM]<;>omega)
 ·obtain⟨its,r',pl,hz⟩:=I.tuple hq;have hlen:=r'.length;obtain⟨o,ho,hc,n,hd⟩:=pl;exact call_list_seq p (.inr rfl) ho hc hd (fun h' c' kp e=>fin its r' hz h' c' kp e) (by simp only[LM]<;>omega)
theorem vF:fb X (.type "tuple") (fun xs H Q=>∃ p ys,xs=[.ref p]/\((jT X.K H p ys/\∀ l,H l=none->Q (.ref l) (bv H l (.tup ys)))\/(kP X.K H p ys/\Q (.ref p) H))):=by
 intro pins s σ H xs us Q I r h;obtain⟨p,ys,rfl,h⟩:=h;obtain⟨u,rfl,rx⟩:=vI r;cases rx;rcases h with ⟨hq,q⟩|⟨hq,q⟩
 ·obtain⟨its,r',pl,hz⟩:=I.list hq;have hlen:=r'.length;refine call_tuple_list pl.isList (fun h' kp=>?_) (by simp only[LM]<;>omega)
  have I1:Inv X pins σ H { s with heap:=h' }:=I.kept (t':=s.toks) kp
  have I2:Inv X pins σ (bv H h'.objs.size (.tup ys)) { s with heap:=h'.push { cls:=.type "tuple",data:=.seq its.toArray } }:=
   I1.laid (t':=s.toks) (fun b o e=>LH _ e) (le_refl _) (show cg X.prog X.w _ _ _ (.tup ys)from ⟨hz,its,r',ut.new _ _⟩)
  exact⟨.ref h'.objs.size,_,I2,rfl,q _ (I1.hok.fresh (le_refl _))⟩
 ·obtain⟨its,r',pl,hz⟩:=I.tuple hq;exact call_tuple_same pl ⟨.ref p,H,I,rfl,q⟩
def Kk(K:PySem.W.Frag)(T:String)(x:V)(H:Hp):Prop:=match x with
 | .str _=>T="str"
 | .int _=>T="int"
 | .ref p=>(T="list"/\∃ xs,jT K H p xs)\/(T="tuple"/\∃ o,K.lookup p=some o/\o.cls=.type "tuple"/\o.dict=none)\/
   (T="dict"/\((∃ kvs,H p=some (.dK kvs))\/∃ kvs,H p=some (.dT kvs)))\/(T="set"/\∃ S n,H p=some (.set S n))
 | _=>False
theorem CO{pins:List (LB×Obj)}{σ:St}{H:Hp}{s:LF}{T:String}{x:V}{v:LC}(I:Inv X pins σ H s)(r:aJ x v)(ty:Kk X.K T x H):
  s.TypeIs v T/\∀ a,v=.ref a->∃ ob,s.heap.get? a=some ob/\ob.dict=none:=by
 cases x with
 | str z=>
  obtain⟨t,rfl⟩:=r;cases (show T="str" from ty)
  exact⟨QJ s z t,fun _ e=>nomatch e⟩
 | int i=>
  obtain⟨t,rfl⟩:=r;cases (show T="int" from ty)
  exact⟨typeIs_int s i t,fun _ e=>nomatch e⟩
 | ref p=>
  cases r;rcases ty with ⟨rfl,xs,hq⟩|⟨rfl,o,hk,hc,hd⟩|⟨rfl,hk⟩|⟨rfl,S,n,hk⟩
  ·obtain⟨its,_,pl,_⟩:=I.list hq;refine⟨pl.isList.typeIs,fun a e=>?_⟩;cases e;obtain⟨o,n,e,c,hd,_⟩:=pl;exact⟨o,e,hd⟩
  ·refine⟨⟨o,I.kIn p o hk,hc⟩,fun a e=>?_⟩;cases e;exact⟨o,I.kIn _ o hk,hd⟩
  ·have z:∃ o,s.heap.get? p=some o/\o.ExactDict:=by
    rcases hk with ⟨kvs,hk⟩|⟨kvs,hk⟩
    ·obtain⟨_,_,_,_,o,_,_,e,ex,_⟩:=I.hok p _ hk;exact⟨o,e,ex⟩
    ·obtain⟨_,_,_,_,o,_,_,e,ex,_⟩:=I.hok p _ hk;exact⟨o,e,ex⟩
   obtain⟨o,e,ex⟩:=z;refine⟨⟨o,e,ex.1⟩,fun a e2=>?_⟩;cases e2;exact⟨o,e,ex.2.1⟩
  ·obtain⟨o,_,_,_,e,ex,_⟩:=I.hok p _ hk;refine⟨⟨o,e,ex.1⟩,fun a e2=>?_⟩;cases e2;exact⟨o,e,ex.2.1⟩
 | _=>exact False.elim ty
def Kw(K:PySem.W.Frag)(T:String)(r:V->List V->Hp->VK->Prop)(to:TE):TE:=fun σ H Q=>to σ H fun x H1=>Kk K T x H1/\r x [] H1 Q
def Li(K:PySem.W.Frag)(T:String)(r:V->List V->Hp->VK->Prop)(to:TE)(t:TA):TE:=fun σ H Q=>to σ H fun x H1=>Kk K T x H1/\t σ H1 fun xs H2=>r x xs H2 Q
variable{o e:L7}{es:List L7}{to:TE}{t:TA}{name:Str}{apos cpos:Pos}{T id:String}{r:V->List V->Hp->VK->Prop}
theorem Hr(pa:PlainAttrs T)(slot:Slot T name id)(hty:typeOf (.builtin id)=pure (.type "method_descriptor"))(hm:K4 X id r)(ho:PE X o to)
  (Se:ML o name X.env (eval o X.env)=eval o X.env:=by rfl) (Sd:(apos.endLine == cpos.line)=true:=by rfl):PE X (.Call (.Attribute o name apos) [] [] cpos) (Kw X.K T r to):=by
 intro pins s σ H Q I h;refine Ov Se Sd (cI (ho pins s σ H _ I h) fun v s1 zz=>?_);obtain⟨x,H1,I1,r1,ty,q1⟩:=zz;obtain⟨h1,h2⟩:=CO I1 r1 ty;exact⟨T,id,pa,slot,hty,h1,h2,Nn rfl (PySem.evalArgs_none (hm pins s1 σ H1 x [] v [] Q I1 r1 .nil q1))⟩
theorem Gr(pa:PlainAttrs T)(slot:Slot T name id)(hty:typeOf (.builtin id)=pure (.type "method_descriptor"))(hm:K4 X id r)(ho:PE X o to)(ha:PA X (e::es) t)
  (Se:ML o name X.env (eval o X.env)=eval o X.env:=by rfl)
  (UC:((MQ cpos (LR (e::es) X.env)).all (fun x=>!x.1) && (N9 cpos (Nf [] X.env)).all (fun x=>x.1.isSome)
   && decide ((e::es).length+([]:List OV).length+(if ([]:List OV).isEmpty then 0 else 1) < 30))=true:=by rfl)
  (Sd:(apos.endLine == cpos.line)=true:=by rfl) (hs:LR (e::es) X.env=(false,eval e X.env)::LR es X.env:=by rfl) (Tk:(MQ cpos (LR es X.env)).any (·.1)=false:=by rfl):
  PE X (.Call (.Attribute o name apos) (e::es) [] cpos) (Li X.K T r to t):=by
 intro pins s σ H Q I h;refine wpAny_Call_method_late Se UC Sd rfl (cI (ho pins s σ H _ I h) fun v s1 zz=>?_);obtain⟨x,H1,I1,r1,ty,q1⟩:=zz;obtain⟨h1,h2⟩:=CO I1 r1 ty;refine⟨T,id,pa,slot,hty,h1,h2,?_⟩;have hA:=ha cpos pins s1 σ H1 _ I1 q1;rw[hs]at hA ⊢;refine Nn (by show (false || (MQ cpos (LR es X.env)).any (·.1))=false;rw[Tk]<;>rfl) (QA ?_)
 exact cI hA fun us s2 ⟨vs,H2,I2,r2,q2⟩=>hm pins s2 σ H2 x vs v us Q I2 r1 r2 q2
end
def Ld(X:Cx)(id:String)(r:V->List V->Hp->VK->Prop):Prop:=
 ∀ (pins:List (LB×Obj)) (s:LF) (σ:St) (H:Hp) (x:V) (xs:List V) (v:LC) (us:List LC) (Q:VK),Inv X pins σ H s->aJ x v->Vals xs us->r x xs H Q->
  LJ (LN X.prog X.w) X.A (call (.builtin id) (v::us)) (EP X pins σ Q) X.xe s
theorem Vals.one:∀ {x:V} {us:List LC},Vals [x] us->∃ u,us=[u]/\aJ x u
 | _,_,.cons r .nil=>⟨_,rfl,r⟩
theorem Vals.two:∀ {x y:V} {us:List LC},Vals [x,y] us->∃ u v,us=[u,v]/\aJ x u/\aJ y v
 | _,_,_,.cons r (.cons q .nil)=>⟨_,_,rfl,r,q⟩
theorem Vals.zero:∀ {us:List LC},Vals [] us->us=[]
 | _,.nil=>rfl
section
variable{X:Cx}{pins:List (LB×Obj)}{σ:St}{H:Hp}{s:LF}{l b:LB}{xs ys zs:List V}
theorem Inv.lset{its its':List LC}{n:Nat}{f:Array LC->Array LC}{t':Nat}(I:Inv X pins σ H s)(hH:H l=some (.lst xs))
  (e:s.heap.get? l=some { cls:=.type "list",data:=.seq its.toArray n }) (hf:f its.toArray=its'.toArray) (hv:Vals ys its') (hz:ys.length<=LL):
  Inv X pins σ (bv H l (.lst ys)) { s with heap:=s.heap.update l (Mt f),toks:=t' }:=by
 have q:=PySem.IsL.update e f;rw[hf]at q;refine I.write (x:=l) (e:=l) (by rw[hH];exact trivial) (.inl rfl) (fun b' u hb hu=>(MI s.heap (Mt f) (Ne.symm hb)).trans hu) ⟨_,q⟩ ?_
 exact⟨hz,its',_,hv,q⟩
theorem Inv.lnew{its:List LC}{t':Nat}(I:Inv X pins σ H s)(hv:Vals ys its)(hz:ys.length<=LL):
  Inv X pins σ (bv H s.heap.objs.size (.lst ys)) { s with heap:=s.heap.push { cls:=.type "list",data:=.seq its.toArray },toks:=t' }:=
 I.laid (fun _ _ q=>LH _ q) (le_refl _) ⟨hz,its,0,hv,LK _ rfl⟩
theorem Inv.fresh(I:Inv X pins σ H s):H s.heap.objs.size=none:=I.hok.fresh (le_refl _)
theorem Inv.lstM(I:Inv X pins σ H s)(hH:H l=some (.lst xs)):xs.length<=LL/\∃ (its:List LC) (n:Nat),Vals xs its/\xs.length=its.length/\s.heap.get? l=some { cls:=.type "list",data:=.seq its.toArray n }:=by
 obtain⟨z,its,n,r,e⟩:=I.hok l _ hH;exact⟨z,its,n,r,r.length,e⟩
end
section
variable{X:Cx}
def rAppend:V->List V->Hp->VK->Prop:=fun x vs H Q=>∃ l xs y,x=.ref l/\vs=[y]/\H l=some (.lst xs)/\xs.length < LL/\Q .non (bv H l (.lst (xs ++ [y])))
theorem vW:Ld X "list.append" rAppend:=by
 intro pins s σ H x vs v us Q I rx rv h;obtain⟨l,xs,y,rfl,rfl,hH,hz,q⟩:=h;cases rx;obtain⟨u,rfl,ru⟩:=rv.one;obtain⟨z,its,n,r,hl,e⟩:=I.lstM hH;refine PJ F.slot_list_append ⟨_,e,rfl⟩ F.entry_list_append (F.args_list_append_2 _ _) (PySem.list_append l its.toArray n u (by rw[LM];omega)) ⟨e,?_⟩
 refine⟨.non,_,I.lset (its':=its ++ [u]) hH e (by simp) (r.append (.cons ru .nil)) ?_,rfl,q⟩
 rw[Mz,List.length_singleton];omega
def rClear:V->List V->Hp->VK->Prop:=fun x vs H Q=>∃ l xs,x=.ref l/\vs=[]/\H l=some (.lst xs)/\Q .non (bv H l (.lst []))
theorem DW:Ld X "list.clear" rClear:=by
 intro pins s σ H x vs v us Q I rx rv h;obtain⟨l,xs,rfl,rfl,hH,q⟩:=h;cases rx;have hus:=rv.zero;subst hus;obtain⟨z,its,n,r,hl,e⟩:=I.lstM hH;refine PJ F.slot_list_clear ⟨_,e,rfl⟩ F.entry_list_clear (F.args_list_clear_1 _) (AutoSeq1.list_clear_list_0 l its.toArray n (by rw[LM];omega)) ⟨e,?_⟩
 exact⟨.non,_,I.lset (its':=[]) (ys:=[]) hH e rfl .nil (Mg _),rfl,q⟩
end
end L2
namespace Att
open PySem PySem.W PySem.Calls PyProof.Rows
theorem rZ{P:Params}{h:L5}:∀ (ns:List Int) (vs:List LC),WellAll P h vs (ns.map WData.int)->Qk vs ns:=by
 intro ns
 induction ns with
 | nil=>
  intro vs w;rw[N3]at w;cases w;exact .nil
 | cons n ns ih=>
  intro vs w;rw[L1]at w;cases w with
  | cons a b=>
   cases a;exact .cons _ _ (ih _ b)
theorem BM{l:OpenLaw}{n:Nat}(hn:l.most=some n){P:Params}{h:L5}{args:List WData}{vals:List LC}
  (UG:l.row.toRowW.claim.pre args=true) (hwl:WellAll P h vals args):
  ∃ a vs ns,vals=[Value.ref a]/\args=[WData.list (ns.map WData.int)]/\h.get? a=some { cls:=.type "list",data:=.seq vs.toArray }/\Qk vs ns/\ns.length<=n:=by
 have hsh:WShape.hasAll [] args [.list .int]=true:=(pre_splitW UG).1;have hc:l.pre.holds [] { args:=args }=true:=(pre_splitW UG).2;obtain⟨d,r,rfl,h1,h2⟩:=hasAllW_cons hsh;obtain rfl:=hasAllW_nil h2;obtain⟨xs,rfl,h3⟩:=hasW_list h1;obtain⟨ns,rfl⟩:=items_int h3;have hlen:ns.length<=n:=by
  unfold OpenLaw.pre at hc;have h4:(WTm.not (.lt (.lit (.int (n:Int))) (.len (.arg 0)))).holds [] { args:=[.list (ns.map .int)] }=true:=by
   have h4:=(holds_andW hc).1;rw[hn]at h4;exact h4
  have h5:=condW_of h4 (w_not (w_lt w_lit (w_len_list (w_arg rfl))));rw[LG]at h5;refine Nat.le_of_not_lt fun q=>?_;have q':(n:Int) < ((ns.length:Nat):Int):=by walk_at "o"
  first
   | (rw[decide_eq_true q']at h5;exact absurd h5 (by decide))
   | (simp at h5;omega)
 cases hwl with
 | cons w1 w2=>
  cases w2;cases w1 with
  | list ho hall=>exact⟨_,_,ns,rfl,rfl,ho,rZ ns _ hall,hlen⟩
theorem BR(l:OpenLaw)(args:List WData):l.row.toRowW.claim.post args (.bool true) args=true:=
 postW_of (r:=l.row.toRowW) (X:=(true == true))
  (show WShape.has [] (.bool true) .bool=true by first|rfl|decide|simp[WShape.has,WShape.arms,WShape.armsAll])
  (show (WTm.eq .res (.lit (.bool true))).value [] { args:=args,res:=some (.bool true),after:=args }=some (.bool (true == true))from w_eq_bool (w_res rfl) w_lit) rfl
theorem attach_call{l:OpenLaw}{n:Nat}{q:LS}{loose:List Str}{XP:(Str->Option LC)->L5->Prop}{YP:L6->L5->Prop}{d:DefRec}
  (hn:l.most=some n) (hdf:d.params.defaults=[])
  (call:∀ (w:L6) (s₀ s₁:LF) (mg mb:Str->Option LC) (fa:LB) (o:Obj) (pm cd doc:LC) (a:LB) (vs:List LC) (ns:List Int),
   Ground q loose [] XP w s₀ mg mb s₁.heap->YP w s₁.heap->
   s₁.heap.get? fa=some o->o.data=.func (docDef d.name d.params d.body d.scope pm cd doc)->s₁.heap.CodeRec cd d.name->mg d.name=some (.ref fa)->
   s₁.heap.get? a=some { cls:=.type "list",data:=.seq vs.toArray }->Qk vs ns->ns.length<=n->s₁.gens=#[]->
   NN (LN l.prog w) OT (.call (.ref fa) ⟨[.ref a],[]⟩) (fun r s'=>r=.ok (.ret (.bool true))/\OldK s₁.heap s'.heap/\s'.os=s₁.os/\Os s'.gens) s₁):
  WalkO q loose XP YP l.row.toRowW d [] (fun f vs=>PySem.call f vs):=by
 intro w s₀ s₁ mg mb G Y fa o pm cd doc dV kV ho hd hcd hD hmg hg args vals as UG hlay hrd hwl hlo;obtain rfl:dV=.none:=Dflts.none hD hdf;obtain rfl:kV=.none:=Dflts.noKw hD;obtain⟨a,vs,ns,rfl,rfl,TV,hints,hlen⟩:=BM hn UG hwl;refine enter_call (Od (call w s₀ s₁ mg mb fa o pm cd doc a vs ns G Y ho (fd_plain hd) hcd hmg TV hints hlen hg) fun r s' hq=>?_);obtain⟨rfl,h2,h3,h4⟩:=hq;exact⟨.inl ⟨.bool true,.bool true,[],rfl,fun _=>rfl,.bool true,BR l _,fun _=>⟨List.Pairwise.nil,fun _ hm=>(nomatch hm)⟩⟩,h2,h3,h4⟩
end Att
namespace L2
open PySem PySem.Spec PyProof.Rows
theorem vH:∀ {vs:List LC} {ns:List Int},Qk vs ns->Vals (ns.map V.int) vs
 | _,_,.nil=>.nil
 | _,_,.cons n t h=>.cons ⟨t,rfl⟩ (vH h)
def Gf(H:Hp):Prop:=∀ b,H b=none\/∃ o xs,H b=some (.frz o (.lst xs))
theorem D8{P:LS}{w:L6}{K:PySem.W.Frag}{mg mb:Str->Option LC}{CX:EG}{k:Nat}{fa a:LB}{fd:LO}{x:Str}{sp:Sp}{s₁:LF}{vs:List LC}{ns:List Int}
  (KX:K.In s₁.heap) (hns:s₁.heap.Ns LX mg) (hb:s₁.heap.Ns QQ mb) (hbb:∀ x:Str,x≠"__name__"->mb x=Nl x) (Va:s₁.heap.NoLimit) (hg:s₁.gens=#[])
  (ha:s₁.heap.get? a=some { cls:=.type "list",data:=.seq vs.toArray }) (hi:Qk vs ns) (hl:ns.length<=LL) (hr:Room k OT)
  (F:∀ base:L5,K.In base->base.Ns LX mg->FnOk P w K mg base CX k fa fd [x] sp) (UY:∀ (s:LF) (u:LC),PB s fd ⟨[u],[]⟩ [(x,u)])
  (hsp:∀ H:Hp,Gf H->jT K H a (ns.map V.int)->sp [.ref a] H (fun v _=>v=.bl true) fun _ _ _=>False)
  (hCX:∀ H e s',CX [] H s₁ (fun _ _ _=>False) e s'->False):
  NN (LN P w) OT (.call (.ref fa) ⟨[.ref a],[]⟩) (fun r s'=>r=.ok (.ret (.bool true))/\OldK s₁.heap s'.heap/\s'.os=s₁.os/\Os s'.gens) s₁:=by
 have rv:=vH hi;have U6:=hi.length;have core:∀ H:Hp,Gf H->jT K H a (ns.map V.int)->oa P w H s₁.heap->(∀ b,H b≠none->b=a)->(H a≠none->K.lookup a=none)->
   NN (LN P w) OT (.call (.ref fa) ⟨[.ref a],[]⟩) (fun r s'=>r=.ok (.ret (.bool true))/\OldK s₁.heap s'.heap/\s'.os=s₁.os/\Os s'.gens) s₁:=by
  intro H hO hS hok hA hK;have Uv:∀ {b:LB} {o:Obj},s₁.heap.get? b=some o->H b=none->(xI s₁.heap H).get? b=some o:=fun e n=>Eg e n;have noA:∀ {b:LB} {o:Obj} {es:Array DictEntry} {ep:Nat},s₁.heap.get? b=some o->o.data=.dict es ep->H b=none:=fun {b o es ep} e d=>by
   cases q:H b with
   | none=>rfl
   | some u=>
    have e':b=a:=hA b (by rw[q];simp)
    subst e';rw[ha]at e;cases e;have d':Data.seq vs.toArray _=Data.dict es ep:=d;cases d'
  have nsK:∀ {b:LB} {m:Str->Option LC},s₁.heap.Ns b m->(xI s₁.heap H).Ns b m:=fun {b m} ⟨o,es,ep,e,d,r⟩=>⟨o,es,ep,Uv e (noA e d),d,r⟩;have hKb:K.In (xI s₁.heap H):=fun b o e=>Uv (KX b o e) (by
   cases q:H b with
   | none=>rfl
   | some u=>
    have e':b=a:=hA b (by rw[q];simp)
    subst e';rw[hK (by rw[q];simp)]at e;cases e)
  have hM:Mod K mg (xI s₁.heap H):=⟨hKb,nsK hns,⟨mb,nsK hb,hbb⟩,let ⟨mc,h1,h2⟩:=Va;⟨mc,nsK h1,h2⟩⟩;have e0:Env0 P w K mg (xI s₁.heap H) OT [] s₁ H:=⟨rfl,hM,fun b o e=>Fz e,Nat.le_of_eq (Ci _ _),trivial,fun b hb=>absurd (show b∈([]:List LB)from hb) (by simp),hok,.of_eq hg⟩
  refine Od ((F _ hKb (nsK hns)).run OT [] s₁ H ⟨[.ref a],[]⟩ [.ref a] [.ref a] _ _ hr e0 (UY s₁ (.ref a)) (.cons rfl .nil) (hsp H hO hS)) fun r s' h=>?_;cases r with
  | error e=>exact (hCX H e s' h).elim
  | ok fl=>
   cases fl with
   | next=>exact False.elim h
   | brk=>exact False.elim h
   | cont=>exact False.elim h
   | ret u=>
    obtain⟨v,H',os,bare,un,hok',r',q⟩:=h;have q':v=.bl true:=q;subst q';obtain rfl:u=Value.bool true:=r';refine⟨rfl,OldK.of_keep fun b o e=>?_,os,bare⟩;cases q:H b with
    | none=>exact un.keep b o e q (by intro z;exact absurd (show b∈([]:List LB)from z) (by simp)) (by simp)
    | some u=>
     rcases hO b with z|⟨ob,xs,z⟩
     ·rw[q]at z;cases z
     ·have z2:=un.frzs b ob _ z;obtain⟨e1,_⟩:=hok b _ z;obtain⟨e2,_⟩:=hok' b _ z2;rw[e]at e1;cases e1;exact e2
 cases hk:K.lookup a with
 | some o=>
  have e:=KX a o hk;rw[ha]at e;cases e;refine core (fun _=>none) (fun _=>.inl rfl) (.inr ⟨_,vs.toArray,_,hk,rfl,rfl,rfl,by rw[LM,U6];exact hl,by simpa using rv⟩) (fun b u z=>by have z':(none:Option HO)=some u:=z;cases z') (fun b z=>absurd rfl z) fun z=>absurd rfl z
 | none=>
  refine core (fun b=>if b=a then some (.frz { cls:=.type "list",data:=.seq vs.toArray } (.lst (ns.map V.int)))else none) (fun b=>?_) (.inl (.inr ⟨{ cls:=.type "list",data:=.seq vs.toArray },if_pos rfl⟩)) (fun b u z=>?_) (fun b z=>?_) fun _=>hk
  ·by_cases hb:b=a
   ·exact .inr ⟨_,_,if_pos hb⟩
   ·exact .inl (if_neg hb)
  ·by_cases hb:b=a
   ·have z':=(if_pos hb).symm.trans z;cases z';subst hb;exact⟨ha,by rw[LG];exact hl,vs,_,rv,ha⟩
   ·have z':=(if_neg hb).symm.trans z;cases z'
  ·by_cases hb:b=a
   ·exact hb
   ·exact absurd (if_neg hb) z
abbrev Ly{K:PySem.W.Frag}{h:L5}(_:K.In h):PySem.W.Frag:=K
theorem walk_of{l:PySem.W.OpenLaw}{n k:Nat}{q:LS}{loose:List Str}{XP:(Str->Option LC)->L5->Prop}{YP:L6->L5->Prop}{d:DefRec}{K:Params->PySem.W.Frag}{CX:L6->EG}{sp:L6->Sp}{x:Str}
  (hn:l.most=some n) (hn2:n<=LL) (hdf:d.params.defaults=[]) (hr:Room k OT)
  (hY:∀ (w:L6) (h:L5),YP w h->(K w.params).In h)
  (F:∀ (w:L6) (mg:Str->Option LC) (fa:LB) (h:L5),(K w.params).In h->h.Ns LX mg->mg d.name=some (.ref fa)->
   ∃ fd:LO,(∀ (s:LF) (u:LC),PB s fd ⟨[u],[]⟩ [(x,u)])/\
    ∀ base:L5,(K w.params).In base->base.Ns LX mg->FnOk l.prog w (K w.params) mg base (CX w) k fa fd [x] (sp w))
  (hsp:∀ (w:L6) (H:Hp) (a:LB) (ns:List Int),ns.length<=n->Gf H->jT (K w.params) H a (ns.map V.int)->sp w [.ref a] H (fun v _=>v=.bl true) fun _ _ _=>False)
  (hCX:∀ (w:L6) (H:Hp) (s:LF) (e:LC) (s':LF),CX w [] H s (fun _ _ _=>False) e s'->False):
  PySem.W.WalkO q loose XP YP l.row.toRowW d [] (fun f vs=>PySem.call f vs):=by
 refine Att.attach_call hn hdf fun w s₀ s₁ mg mb fa o pm cd doc a vs ns G Y ho hd hcd hmg TV hints hlen hg=>?_;have KX:=hY w _ Y;obtain⟨fd,hb,hF⟩:=F w mg fa _ KX G.T.g hmg;exact D8 KX G.T.g G.T.b G.T.builtins G.T.nolimit hg TV hints (le_trans hlen hn2) hr hF hb (fun H hO hS=>hsp w H a ns hlen hO hS) fun H e s'=>hCX w H s₁ e s'
def aR(s:Md)(j:Nat):Md:=match s with
 | .ClassDef _ _ _ body _ _ _ _ _ _ _=>body.getD j (.Pass ⟨0,0,0,0⟩)
 | _=>.Pass ⟨0,0,0,0⟩
def eY(s:Md):Arguments:=match s with
 | .FunctionDef _ a _ _ _ _ _ _ _ _=>a
 | _=>{ posonlyargs:=[],args:=[],vararg:=none,kwonlyargs:=[],kw_defaults:=[],kwarg:=none,defaults:=[] }
def eg(s:Md):List Md:=match s with
 | .FunctionDef _ _ b _ _ _ _ _ _ _=>b
 | _=>[]
def am(s:Md):NV:=match s with
 | .FunctionDef _ _ _ _ _ _ sc _ _ _=>sc
 | _=>{ kind:=.function,names:=[],isGenerator:=false,isCoroutine:=false }
abbrev dz:EG:=fun _ _ _ _ _ _=>False
abbrev E0:XK:=fun _ _ _=>False
theorem vR{X:Cx}:n8 dz X E0:=fun _ _ _ _ _ _ _ h=>h.elim
theorem iteF{A B:Prop}(h:B):if false=true then A else B:=by
 rw[if_neg Bool.false_ne_true];exact h
theorem iteT{A B:Prop}(h:A):if true=true then A else B:=by
 rw[if_pos rfl];exact h
section
variable{κ:Type}[DecidableEq κ]
def m8(kvs:List (κ×V))(k:κ):Option V:=(kvs.find? fun kv=>decide (kv.1=k)).map (·.2)
def oQ(kvs:List (κ×V))(k:κ)(v:V):List (κ×V):=
 if (kvs.any fun kv=>decide (kv.1=k))=true then kvs.map (fun kv=>if kv.1=k then (kv.1,v)else kv)else kvs ++ [(k,v)]
theorem oo{p:κ×V}{r:List (κ×V)}{k:κ}(e:p.1=k):m8 (p::r) k=some p.2:=by simp[m8,Mf,e]
theorem oq{p:κ×V}{r:List (κ×V)}{k:κ}(e:¬ p.1=k):m8 (p::r) k=m8 r k:=by simp[m8,Mf,e]
theorem su(k:κ):∀ kvs:List (κ×V),(kvs.any fun kv=>decide (kv.1=k))=(m8 kvs k).isSome
 | []=>rfl
 | p::r=>by
  rw[OP]
  by_cases e:p.1=k
  ·simp only[oo e,decide_eq_true e,Bool.true_or,Option.isSome_some]
  ·rw[oq e,decide_eq_false e,Bool.false_or];exact su k r
theorem qV(kvs:List (κ×V))(k:κ)(v:V):(oQ kvs k v).length<=kvs.length+1:=by
 unfold oQ;split
 ·rw[LG];omega
 ·rw[Mz,L0,Mv];omega
theorem lh.isSome_eq{o:Option V}{u:Option LC}(r:lh o u):o.isSome=u.isSome:=by
 cases o with
 | none=>cases u with
  | none=>rfl
  | some _=>exact (show False from r).elim
 | some _=>cases u with
  | none=>exact (show False from r).elim
  | some _=>rfl
theorem lh.getD{o:Option V}{u:Option LC}{d:V}{d':LC}(r:lh o u)(rd:aJ d d'):aJ (o.getD d) (u.getD d'):=by
 cases o with
 | none=>cases u with
  | none=>exact rd
  | some _=>exact (show False from r).elim
 | some _=>cases u with
  | none=>exact (show False from r).elim
  | some _=>exact r
theorem KV.val{kvs:List (κ×V)}{vs:List (κ×LC)}(r:KV kvs vs)(k:κ):lh (m8 kvs k) (O7 vs k):=by
 unfold KV at r
 induction r with
 | nil=>exact True.intro
 | @cons p q ps qs h t ih=>
  obtain⟨h1,h2⟩:=h
  by_cases e:p.1=k
  ·have e':q.1=k:=h1.symm.trans e;have b:O7 (q::qs) k=some q.2:=by simp[O7,Mf,e']
   rw[oo e,b];exact h2
  ·have e':¬ q.1=k:=fun z=>e (h1.trans z);have b:O7 (q::qs) k=O7 qs k:=by simp[O7,Mf,e']
   rw[oq e,b];exact ih
theorem KV.any{kvs:List (κ×V)}{vs:List (κ×LC)}(r:KV kvs vs)(k:κ):(kvs.any fun kv=>decide (kv.1=k))=vs.any fun kv=>decide (kv.1=k):=by
 unfold KV at r
 induction r with
 | nil=>rfl
 | cons h t ih=>rw[OP,OP,ih,h.1]
theorem KV.repl{kvs:List (κ×V)}{vs:List (κ×LC)}(r:KV kvs vs)(k:κ){y:V}{u:LC}(ry:aJ y u):
  KV (kvs.map fun kv=>if kv.1=k then (kv.1,y)else kv) (vs.map fun kv=>if kv.1=k then (kv.1,u)else kv):=by
 unfold KV at r ⊢
 induction r with
 | nil=>exact .nil
 | @cons p q ps qs h t ih=>
  rw[L1,L1];refine .cons ?_ ih;obtain⟨h1,h2⟩:=h
  by_cases e:p.1=k
  ·rw[if_pos e,if_pos (h1.symm.trans e)];exact⟨h1,ry⟩
  ·rw[if_neg e,if_neg (fun z=>e (h1.trans z))];exact⟨h1,h2⟩
theorem KV.put{kvs:List (κ×V)}{vs:List (κ×LC)}(r:KV kvs vs)(k:κ){y:V}{u:LC}(ry:aJ y u):KV (oQ kvs k y) (stored vs k u):=by
 unfold oQ stored;rw[r.any k]
 by_cases e:(vs.any fun kv=>decide (kv.1=k))=true
 ·rw[if_pos e,if_pos e];exact r.repl k ry
 ·rw[if_neg e,if_neg e];exact OQ r ⟨rfl,ry⟩
theorem KV.length{kvs:List (κ×V)}{vs:List (κ×LC)}(r:KV kvs vs):kvs.length=vs.length:=N6 r
end
theorem vY{P:LS}{w:L6}{k:aH}{u:LC}(r:aJ (kV k) u):(aO P w).is k u=true:=by
 cases k with
 | inl i=>obtain⟨t,e⟩:=(show ∃ t,u=Value.int i t from r);subst e;exact yZ P w i t
 | inr x=>obtain⟨t,e⟩:=(show ∃ t,u=Value.str x t from r);subst e;exact yY P w x t
theorem qF{P:LS}{w:L6}:∀ {ks:List aH} {us:List LC},Vals (ks.map kV) us->ItemsAre (aO P w) ks us
 | [],_,r=>by rw[N3]at r;cases r;exact .nil
 | k::ks,_,r=>by
  rw[L1]at r;cases r with
  | cons h t=>exact .cons (vY h) (qF t)
abbrev KT(H:Hp):List (List aH×V)->List (List aH×LB×LC)->Prop:=Oj fun p q=>p.1=q.1/\H q.2.1=some (.tup (p.1.map kV))/\aJ p.2 q.2.2
theorem KT.val{H:Hp}{kvs:List (List aH×V)}{xs:List (List aH×LB×LC)}(r:KT H kvs xs)(k:List aH):lh (m8 kvs k) ((N_ xs k).map (·.2)):=by
 induction r with
 | nil=>exact True.intro
 | @cons p q ps qs h t ih=>
  obtain⟨h1,_,h2⟩:=h
  by_cases e:p.1=k
  ·have e':q.1=k:=h1.symm.trans e;have b:N_ (q::qs) k=some q.2:=by simp[N_,Mf,e']
   rw[oo e,b];exact h2
  ·have e':¬ q.1=k:=fun z=>e (h1.trans z);have b:N_ (q::qs) k=N_ qs k:=by simp[N_,Mf,e']
   rw[oq e,b];exact ih
theorem KT.repl{H:Hp}{kvs:List (List aH×V)}{xs:List (List aH×LB×LC)}(r:KT H kvs xs)(k:List aH){y:V}{u:LC}(ry:aJ y u):
  KT H (kvs.map fun kv=>if kv.1=k then (kv.1,y)else kv) (xs.map (putAt k u)):=by
 induction r with
 | nil=>exact .nil
 | @cons p q ps qs h t ih=>
  rw[L1,L1];refine .cons ?_ ih;obtain⟨h1,h2,h3⟩:=h;unfold putAt
  by_cases e:p.1=k
  ·rw[if_pos e,if_pos (h1.symm.trans e)];exact⟨h1,h2,ry⟩
  ·rw[if_neg e,if_neg (fun z=>e (h1.trans z))];exact⟨h1,h2,h3⟩
theorem KT.put{H:Hp}{kvs:List (List aH×V)}{xs:List (List aH×LB×LC)}(r:KT H kvs xs)(k:List aH){b:LB}{y:V}{u:LC}(hb:H b=some (.tup (k.map kV)))(ry:aJ y u):
  KT H (oQ kvs k y) (OR xs k b u):=by
 have e:(kvs.any fun kv=>decide (kv.1=k))=(N_ xs k).isSome:=by
  rw[su,(r.val k).isSome_eq,Option.isSome_map]
 unfold oQ OR;rw[e]
 by_cases q:(N_ xs k).isSome=true
 ·rw[if_pos q,if_pos q];exact r.repl k ry
 ·rw[if_neg q,if_neg q];exact OQ r ⟨rfl,hb,ry⟩
theorem KT.keeps{H H':Hp}{kvs:List (List aH×V)}{xs:List (List aH×LB×LC)}(r:KT H kvs xs)(ht:∀ b ys,H b=some (.tup ys)->H' b=some (.tup ys)):KT H' kvs xs:=
 Paired.mapP r fun _ _ z=>⟨z.1,ht _ _ z.2.1,z.2.2⟩
section
variable{P:LS}{w:L6}{H:Hp}{h:L5}{a:LB}
theorem Go{u:HO}(ok:oa P w H h)(e:Rd H a u):cg P w H h a u:=e.ok ok
theorem v3{kvs:List (aH×V)}(ok:oa P w H h)(e:Rd H a (.dK kvs)):kvs.length<=LL/\(a == ME)=false/\∃ vs,KV kvs vs/\h.DictOf (aO P w) a vs:=
 show cg P w H h a (.dK kvs)from Go ok e
theorem JG{kvs:List (aH×V)}(ok:oa P w H h)(e:H a=some (.dK kvs)):kvs.length<=LL/\(a == ME)=false/\∃ vs,KV kvs vs/\h.DictOf (aO P w) a vs:=v3 ok (.inl e)
theorem qD{ks:List aH}(ok:oa P w H h)(e:H a=some (.tup (ks.map kV))):(MO (aO P w)).is h ks a:=by
 obtain⟨_,its,r,o,h1,h2,n,h3⟩:=(show cg P w H h a (.tup (ks.map kV))from ok a _ e)
 exact⟨o,its.toArray,n,h1,h2.1,h3,by simpa using qF r⟩
theorem v0{kvs:List (List aH×V)}(ok:oa P w H h)(e:Rd H a (.dT kvs)):kvs.length<=LL/\(a == ME)=false/\
  ∃ xs,KT H kvs xs/\h.DictOfH (MO (aO P w)) a xs:=by
 obtain⟨z,y,xs,r,o,es,ep,h1,h2,h3,h4,h5⟩:=(show cg P w H h a (.dT kvs)from Go ok e)
 refine⟨z,y,xs,r,o,es,ep,h1,h2,h3,h4,fun x hx=>?_,h5⟩;have all:∀ {l:List (List aH×V)} {m:List (List aH×LB×LC)},KT H l m->∀ x∈m,(MO (aO P w)).is h x.1 x.2.1:=by
  intro l m q
  induction q with
  | nil=>intro x hx;exact nomatch hx
  | @cons p q ps qs hq t ih=>
   intro x hx;rcases L_.mp hx with e|hx
   ·subst e;exact qD ok (by rw[<- hq.1];exact hq.2.1)
   ·exact ih x hx
 exact all r x hx
theorem JF{kvs:List (List aH×V)}(ok:oa P w H h)(e:H a=some (.dT kvs)):kvs.length<=LL/\(a == ME)=false/\
  ∃ xs,KT H kvs xs/\h.DictOfH (MO (aO P w)) a xs:=v0 ok (.inl e)
end
def yf(H:Hp)(a:LB)(y:V)(r:Option V):Prop:=
 (∃ kvs k,Rd H a (.dK kvs)/\y=kV k/\r=m8 kvs k)\/∃ kvs k b,Rd H a (.dT kvs)/\y=.ref b/\H b=some (.tup (k.map kV))/\r=m8 kvs k
def Gg(H:Hp)(a:LB)(y v:V)(H':Hp):Prop:=
 (∃ kvs k,H a=some (.dK kvs)/\y=kV k/\kvs.length < LL/\H'=bv H a (.dK (oQ kvs k v)))\/
 ∃ kvs k b,H a=some (.dT kvs)/\y=.ref b/\H b=some (.tup (k.map kV))/\kvs.length < LL/\H'=bv H a (.dT (oQ kvs k v))
theorem yf.k{H:Hp}{a:LB}{kvs:List (aH×V)}{k:aH}(e:H a=some (.dK kvs)):yf H a (kV k) (m8 kvs k):=.inl ⟨kvs,k,.inl e,rfl,rfl⟩
theorem Gg.k{H:Hp}{a:LB}{kvs:List (aH×V)}{k:aH}{v:V}(e:H a=some (.dK kvs))(hl:kvs.length < LL):Gg H a (kV k) v (bv H a (.dK (oQ kvs k v))):=.inl ⟨kvs,k,e,rfl,hl,rfl⟩
section
variable{X:Cx}{pins:List (LB×Obj)}{σ:St}{H:Hp}{s:LF}{a:LB}{y v:V}{u r:LC}{o:Option V}{A:LY}{E:LC->LF->Prop}
theorem Inv.big(I:Inv X pins σ H s):ME < s.heap.objs.size:=by
 have h:LX < s.heap.objs.size:=(I.mod.glob.keeps I.bk).lt;exact Nat.lt_trans (by decide) h
theorem Cs{Q:LC->LF->Prop}(hu:A.units+1 < Mp)(I:Inv X pins σ H s)(g:yf H a y (some v))(ry:aJ y u)(h:∀ w' s',Inv X pins σ H s'->aJ v w'->Q w' s'):
  LJ (LN X.prog X.w) A (OC (.ref a) u) Q E s:=by
 rcases g with ⟨kvs,k,e,ey,l⟩|⟨kvs,k,b,e,ey,eb,l⟩
 ·subst ey;obtain⟨z,hd,vs,rel,dd⟩:=v3 I.hok e;obtain⟨w',hw,rw'⟩:=lh.some_of (v:=v) (o:=O7 vs k) (by rw[l];exact rel.val k)
  exact wpAny_getItem_of (vY ry) dd.mapOf hw (h w' _ (I.tok _) rw')
 ·subst ey;cases (show u=Value.ref b from ry)
  obtain⟨z,hd,xs,rel,dd⟩:=v0 I.hok e;obtain⟨w',hw,rw'⟩:=lh.some_of (v:=v) (o:=(N_ xs k).map (·.2)) (by rw[l];exact rel.val k)
  obtain⟨p,hp,hp2⟩:=Option.map_eq_some_iff.mp hw;refine QF (MD hu) (qD I.hok eb) dd hp ?_;rw[hp2];exact h w' _ (I.tok _) rw'
theorem KW{Q:LC->LF->Prop}(hu:A.units+1 < Mp)(I:Inv X pins σ H s)(g:yf H a y o)(ry:aJ y u)(h:∀ s',Inv X pins σ H s'->Q (.bool o.isSome) s'):
  LJ (LN X.prog X.w) A (Mj .In u (.ref a)) Q E s:=by
 rcases g with ⟨kvs,k,e,ey,l⟩|⟨kvs,k,b,e,ey,eb,l⟩
 ·subst ey;obtain⟨z,hd,vs,rel,dd⟩:=v3 I.hok e;refine wpAny_in_of (vY ry) hd dd.mapOf ?_;rw[<- (rel.val k).isSome_eq,<- l];exact h _ (I.tok _)
 ·subst ey;cases (show u=Value.ref b from ry)
  obtain⟨z,hd,xs,rel,dd⟩:=v0 I.hok e;refine wpAny_in_heap (MD hu) (qD I.hok eb) hd dd ?_;have q:=(rel.val k).isSome_eq;rw[Option.isSome_map]at q;rw[<- q,<- l];exact h _ (I.tok _)
theorem F2{Q:LC->LF->Prop}(hu:A.units+1 < Mp)(I:Inv X pins σ H s)(g:yf H a y o)(ry:aJ y u)(h:∀ s',Inv X pins σ H s'->Q (.bool (!o.isSome)) s'):
  LJ (LN X.prog X.w) A (Mj .NotIn u (.ref a)) Q E s:=by
 rcases g with ⟨kvs,k,e,ey,l⟩|⟨kvs,k,b,e,ey,eb,l⟩
 ·subst ey;obtain⟨z,hd,vs,rel,dd⟩:=v3 I.hok e;refine wpAny_notIn_of (vY ry) hd dd.mapOf ?_;rw[<- (rel.val k).isSome_eq,<- l];exact h _ (I.tok _)
 ·subst ey;cases (show u=Value.ref b from ry)
  obtain⟨z,hd,xs,rel,dd⟩:=v0 I.hok e;refine wpAny_notIn_heap (MD hu) (qD I.hok eb) hd dd ?_;have q:=(rel.val k).isSome_eq;rw[Option.isSome_map]at q;rw[<- q,<- l];exact h _ (I.tok _)
theorem si{h':L5}{t':Nat}{ob:HO}(I:Inv X pins σ H s)(mu:CD (H a))(hs:MV a s.heap h')(he:∃ q,h'.get? a=some q)(new:cg X.prog X.w (bv H a ob) h' a ob):
  Inv X pins σ (bv H a ob) { s with heap:=h',toks:=t' }:=
 I.write (x:=a) (e:=a) mu (.inl rfl) (fun b q hb z=>(hs.2 b hb).trans z) he new
theorem Ie{P:LS}{w:L6}{H':Hp}{h':L5}{kvs:List (aH×V)}{vs:List (aH×LC)}(z:kvs.length<=LL)(hd:(a == ME)=false)(rel:KV kvs vs)(dd:h'.DictOf (aO P w) a vs):
  cg P w H' h' a (.dK kvs):=⟨z,hd,vs,rel,dd⟩
theorem Cr{H':Hp}{Q:Unit->LF->Prop}(hu:A.units+1 < Mp)(I:Inv X pins σ H s)(g:Gg H a y v H')(ry:aJ y u)(rv:aJ v r)(h:∀ s',Inv X pins σ H' s'->Q () s'):
  LJ (LN X.prog X.w) A (QX (.ref a) u r) Q E s:=by
 rcases g with ⟨kvs,k,e,ey,l,eH⟩|⟨kvs,k,b,e,ey,eb,l,eH⟩
 ·subst ey eH;obtain⟨z,hd,vs,rel,dd⟩:=JG I.hok e;have hz:vs.length<=LL:=by rw[<- rel.length];exact z
  have hl:(oQ kvs k v).length<=LL:=by have:=qV kvs k v;omega
  refine wpAny_setItem_pairs (hsz:=hz) (vY ry) dd fun h' dd' hs=>h _ ?_;have he:∃ q,h'.get? a=some q:=let ⟨q,_,_,hq,_⟩:=dd';⟨q,hq⟩;exact si I (by rw[e];exact True.intro) hs he (Ie hl hd (rel.put k rv) dd')
 ·subst ey eH;cases (show u=Value.ref b from ry)
  obtain⟨z,hd,xs,rel,dd⟩:=JF I.hok e;have hz:xs.length<=LL:=by rw[<- N6 rel];exact z
  have hl:(oQ kvs k v).length<=LL:=by have:=qV kvs k v;omega
  refine QD (hsz:=hz) (MD hu) (qD I.hok eb) dd fun h' dd' hs=>h _ ?_;obtain⟨q,es,ep,hq,h2,h3,h4,_,h5⟩:=dd';refine si I (by rw[e];exact True.intro) hs ⟨q,hq⟩ ⟨hl,hd,_,(rel.put k eb rv).keeps fun c ys ec=>?_,q,es,ep,hq,h2,h3,h4,h5⟩
  rw[aA (Jr ec e (fun z=>nomatch z))];exact ec
end
def J5(i:L7):Prop:=∀ ov iv,Pl i false ov iv=operate [ov,iv] (OC ov iv)
theorem EU{prog:LS}{w:L6}{A:LY}{E:LC->LF->Prop}{s:LF}{env:Env}{value slice:L7}{pos:Pos}{T id:String}{Q:LC->LF->Prop}
  (hl:O1 (.type T) "__getitem__"=pure (some (.builtin id))) (hs:J5 slice)
  (h:LJ (LN prog w) A (eval value env) (fun o s₁=>LJ (LN prog w) A (eval slice env) (fun i s₂=>s₂.TypeIs o T/\LJ (LN prog w) A (OC o i) Q E s₂) E s₁) E s):
  LJ (LN prog w) A (eval (.Subscript value slice pos) env) Q E s:=by
 refine QR (MC h (fun o s₁ h₁=>MC h₁ (fun i s₂ h₂=>?_) fun _ _ x=>x) fun _ _ x=>x);obtain⟨hT,h₂⟩:=h₂;unfold PV;refine LA ?_;rw[getitemInPython_of_ne hT.not_modules];refine LA (wpAny_specialOf hT hl ?_);have fin:LJ (LN prog w) A (Pl slice false o i) (fun r s₃=>LJ (LN prog w) A (letTemporaryGo value o r >>= fun _=>pure r) Q E s₃) E s₂:=by
  rw[hs o i];exact wpAny_operating (MC h₂ (fun r s₃ h₃=>LA (wpAny_letTemporaryGo (LD h₃))) fun _ _ x=>x)
 first
  | exact LD (LA fin)
  | exact LA (LD (LA fin))
  | exact LA fin
theorem Eo{P:LS}{w:L6}{H:Hp}(h:L5)(hb:ME < h.objs.size):cg P w H (h.push { cls:=.type "dict",data:=.dict #[] }) h.objs.size (.dK []):=
 ⟨Mg _,beq_eq_false_iff_ne.mpr (Ne.symm (L9 hb)),[],.nil,Heap.DictOf.new h⟩
def GR:TE:=fun _ H Q=>∀ p,H p=none->Q (.ref p) (bv H p (.dK []))
section
variable{X:Cx}{pos:Pos}
theorem DL:PE X (.Dict [] [] pos) GR:=fun pins s σ H Q I h=>
 wpAny_Dict_empty ⟨.ref s.heap.objs.size,_,I.laid (a:=s.heap.objs.size) (o:=.dK []) (t':=s.toks) (fun _ _ q=>LH _ q) (le_refl _) (Eo s.heap I.big),rfl,h _ (I.hok.fresh (le_refl _))⟩
end
structure M2(X:Cx)(o:L7)(m:Str)(apos:Pos)(e f:L7)(cpos:Pos):Prop where
 base:ML o m X.env (eval o X.env)=eval o X.env
 few:((MQ cpos (LR [e,f] X.env)).all (fun x=>!x.1) && (N9 cpos (Nf [] X.env)).all (fun x=>x.1.isSome)
  && decide (([e,f]:List L7).length+([]:List OV).length+(if ([]:List OV).isEmpty then 0 else 1) < 30))=true
 line:(apos.endLine == cpos.line)=true
 trees:MQ cpos (LR [e,f] X.env)=[(false,eval e X.env),(false,eval f X.env)]
def Lv(H:Hp)(a:LB):Prop:=(∃ kvs,Rd H a (.dK kvs))\/∃ kvs,Rd H a (.dT kvs)
theorem H_{X:Cx}{pins:List (LB×Obj)}{σ:St}{H:Hp}{s:LF}{a:LB}(I:Inv X pins σ H s)(d:Lv H a):
  s.TypeIs (.ref a) "dict"/\(∀ b,Value.ref a=.ref b->∃ ob,s.heap.get? b=some ob/\ob.dict=none)/\(a == ME)=false:=by
 rcases d with ⟨kvs,e⟩|⟨kvs,e⟩
 ·obtain⟨_,hd,vs,_,dd⟩:=v3 I.hok e;refine⟨dd.typeIs,fun b q=>?_,hd⟩;cases q;obtain⟨ob,_,_,h1,h2,_⟩:=dd;exact⟨ob,h1,h2.2.1⟩
 ·obtain⟨_,hd,xs,_,dd⟩:=v0 I.hok e;refine⟨dd.typeIs,fun b q=>?_,hd⟩;cases q;obtain⟨ob,_,_,h1,h2,_⟩:=dd;exact⟨ob,h1,h2.2.1⟩
section
variable{X:Cx}{pins:List (LB×Obj)}{σ:St}{H:Hp}{s:LF}{a:LB}{y d:V}{u r:LC}{o:Option V}{A:LY}{E:LC->LF->Prop}
theorem Ig{Q:LC->LF->Prop}(hu:A.units+1 < Mp)(I:Inv X pins σ H s)(g:yf H a y o)(ry:aJ y u)(rd:aJ d r)(h:∀ w' s',Inv X pins σ H s'->aJ (o.getD d) w'->Q w' s'):
  LJ (LN X.prog X.w) A (call (.builtin "dict.get") [.ref a,u,r]) Q E s:=by
 rcases g with ⟨kvs,k,e,ey,l⟩|⟨kvs,k,b,e,ey,eb,l⟩
 ·subst ey;obtain⟨z,hd,vs,rel,dd⟩:=v3 I.hok e;refine OE PySem.F.slot_dict_get dd.typeIs PySem.F.entry_dict_get (PySem.F.args_dict_get_3 _ _ _) (meets_dict_get_default (aO X.prog X.w) a (vY ry) hd r) ⟨_,dd.mapOf,h _ _ (I.tok _) ?_⟩;rw[l];exact (rel.val k).getD rd
 ·subst ey;cases (show u=Value.ref b from ry)
  obtain⟨z,hd,xs,rel,dd⟩:=v0 I.hok e;refine OE PySem.F.slot_dict_get dd.typeIs PySem.F.entry_dict_get (PySem.F.args_dict_get_3 _ _ _) (P4 (MO (aO X.prog X.w)) a b hd r) ⟨MD hu,k,xs,qD I.hok eb,dd,h _ _ (I.tok _) ?_⟩;rw[l];exact (rel.val k).getD rd
end
end L2
namespace L3
open PySem PySem.Spec PyProof.Rows L2
abbrev St:=L2.St
inductive D where
 | non|bl (b:Bool)|int (i:Int)|str (x:Str)|tup (ds:List D)|lst (ds:List D)|fl (ds:List D)|ref (a:LB)|ty (n:String)
inductive GO where
 | lst (ds:List D)
 | ins (C:LB) (L:List Str) (ds:List D)
 | dK (kvs:List (aH×D))
 | dT (hw:List aH->Int) (kvs:List (List aH×D))
abbrev Gp:=LB->Option GO
def gset(G:Gp)(a:LB)(o:GO):Gp:=fun b=>if b=a then some o else G b
def fu(G:Gp)(a:LB):Gp:=fun b=>if b=a then none else G b
theorem av{G:Gp}{a:LB}{o:GO}:gset G a o a=some o:=by unfold gset;rw[if_pos rfl]
theorem aj{G:Gp}{a b:LB}{o:GO}(h:b≠a):gset G a o b=G b:=by unfold gset;rw[if_neg h]
theorem eX{G:Gp}{a:LB}{o u:GO}:gset (gset G a o) a u=gset G a u:=by
 funext b;unfold gset;split<;>rfl
theorem dH{G:Gp}{a:LB}:fu G a a=none:=by unfold fu;rw[if_pos rfl]
theorem cF{G:Gp}{a b:LB}(h:b≠a):fu G a b=G b:=by unfold fu;rw[if_neg h]
def EF(K:PySem.W.Frag)(H:Hp)(a:LB)(xs:List V):Prop:=
 (∃ o,H a=some (.frz o (.lst xs)))\/
  ∃ (o:Obj) (its:Array LC) (n:Nat),K.lookup a=some o/\o.cls=.type "list"/\o.dict=none/\o.data=.seq its n/\its.size<=LL/\Vals xs its.toList
theorem EF.sq{K:PySem.W.Frag}{H:Hp}{a:LB}{xs:List V}(h:EF K H a xs):jT K H a xs:=by
 rcases h with ⟨o,e⟩|h
 ·exact .inl (.inr ⟨o,e⟩)
 ·exact .inr h
mutual
def RD(K:PySem.W.Frag)(H:Hp):D->V->Prop
 | .non,v=>v=.non
 | .bl b,v=>v=.bl b
 | .int i,v=>v=.int i
 | .str x,v=>v=.str x
 | .ref a,v=>v=.ref a
 | .ty n,v=>v=.ty n
 | .fl _,_=>False
 | .tup ds,v=>∃ a xs,v=.ref a/\kP K H a xs/\RDs K H ds xs
 | .lst ds,v=>∃ a xs,v=.ref a/\EF K H a xs/\RDs K H ds xs
def RDs(K:PySem.W.Frag)(H:Hp):List D->List V->Prop
 | [],xs=>xs=[]
 | d::ds,xs=>∃ x r,xs=x::r/\RD K H d x/\RDs K H ds r
end
structure Stb(K:PySem.W.Frag)(H H':Hp):Prop where
 t:∀ a xs,kP K H a xs->kP K H' a xs
 l:∀ a xs,EF K H a xs->EF K H' a xs
mutual
theorem RD.mono{K:PySem.W.Frag}{H H':Hp}(s:Stb K H H'):∀ (d:D) (v:V),RD K H d v->RD K H' d v
 | .non,v,h=>by simp only[RD]at h ⊢;exact h
 | .bl b,v,h=>by simp only[RD]at h ⊢;exact h
 | .int i,v,h=>by simp only[RD]at h ⊢;exact h
 | .str x,v,h=>by simp only[RD]at h ⊢;exact h
 | .ref a,v,h=>by simp only[RD]at h ⊢;exact h
 | .ty n,v,h=>by simp only[RD]at h ⊢;exact h
 | .fl _,v,h=>by simp only[RD]at h
 | .tup ds,v,h=>by
  simp only[RD]at h ⊢;obtain⟨a,xs,e,q,r⟩:=h;exact⟨a,xs,e,s.t _ _ q,RDs.mono s ds xs r⟩
 | .lst ds,v,h=>by
  simp only[RD]at h ⊢;obtain⟨a,xs,e,q,r⟩:=h;exact⟨a,xs,e,s.l _ _ q,RDs.mono s ds xs r⟩
theorem RDs.mono{K:PySem.W.Frag}{H H':Hp}(s:Stb K H H'):∀ (ds:List D) (xs:List V),RDs K H ds xs->RDs K H' ds xs
 | [],xs,h=>by simp only[RDs]at h ⊢;exact h
 | d::ds,xs,h=>by
  simp only[RDs]at h ⊢;obtain⟨x,r,e,h1,h2⟩:=h;exact⟨x,r,e,RD.mono s d x h1,RDs.mono s ds r h2⟩
end
section
variable{K:PySem.W.Frag}{H:Hp}
theorem RDs.nil:RDs K H [] []:=by simp only[RDs]
theorem RDs.cons{d:D}{x:V}{ds:List D}{xs:List V}(h:RD K H d x)(t:RDs K H ds xs):RDs K H (d::ds) (x::xs):=by
 simp only[RDs];exact⟨x,xs,rfl,h,t⟩
theorem RDs.inv_nil{xs:List V}(h:RDs K H [] xs):xs=[]:=by simpa only[RDs]using h
theorem RDs.inv_cons{d:D}{ds:List D}{xs:List V}(h:RDs K H (d::ds) xs):∃ x r,xs=x::r/\RD K H d x/\RDs K H ds r:=by simpa only[RDs]using h
theorem RDs.length:∀ {ds:List D} {xs:List V},RDs K H ds xs->ds.length=xs.length
 | [],xs,h=>by rw[h.inv_nil];rfl
 | d::ds,xs,h=>by
  obtain⟨x,r,e,_,h2⟩:=h.inv_cons;subst e;simp[RDs.length h2]
theorem RDs.get:∀ {ds:List D} {xs:List V} {i:Nat} {d:D},RDs K H ds xs->ds[i]?=some d->∃ x,xs[i]?=some x/\RD K H d x
 | [],xs,i,d,h,e=>by simp at e
 | c::ds,xs,0,d,h,e=>by
  obtain⟨x,r,e1,h1,h2⟩:=h.inv_cons;subst e1;simp at e;subst e;exact⟨x,rfl,h1⟩
 | c::ds,xs,i+1,d,h,e=>by
  obtain⟨x,r,e1,h1,h2⟩:=h.inv_cons;subst e1;obtain⟨y,q1,q2⟩:=RDs.get (i:=i) (d:=d) h2 (by simpa using e)
  exact⟨y,by simpa using q1,q2⟩
theorem RDs.append:∀ {ds es:List D} {xs ys:List V},RDs K H ds xs->RDs K H es ys->RDs K H (ds ++ es) (xs ++ ys)
 | [],es,xs,ys,h,h'=>by rw[h.inv_nil];exact h'
 | d::ds,es,xs,ys,h,h'=>by
  obtain⟨x,r,e,h1,h2⟩:=h.inv_cons;subst e;exact RDs.cons h1 (RDs.append h2 h')
theorem RDs.take:∀ {ds:List D} {xs:List V} (n:Nat),RDs K H ds xs->RDs K H (ds.take n) (xs.take n)
 | _,_,0,_=>by simp only[List.take_zero];exact RDs.nil
 | [],xs,n+1,h=>by rw[h.inv_nil];simp only[List.take_nil];exact RDs.nil
 | d::ds,xs,n+1,h=>by
  obtain⟨x,r,e,h1,h2⟩:=h.inv_cons;subst e;exact RDs.cons h1 (RDs.take n h2)
theorem RDs.drop:∀ {ds:List D} {xs:List V} (n:Nat),RDs K H ds xs->RDs K H (ds.drop n) (xs.drop n)
 | _,_,0,h=>by simpa only[Pi]using h
 | [],xs,n+1,h=>by rw[h.inv_nil];simp only[List.drop_nil];exact RDs.nil
 | d::ds,xs,n+1,h=>by
  obtain⟨x,r,e,h1,h2⟩:=h.inv_cons;subst e;exact RDs.drop n h2
theorem RDs.set:∀ {ds:List D} {xs:List V} {d:D} {x:V} (n:Nat),RDs K H ds xs->RD K H d x->RDs K H (ds.set n d) (xs.set n x)
 | [],xs,d,x,n,h,_=>by rw[h.inv_nil];simp only[List.set_nil];exact RDs.nil
 | c::ds,xs,d,x,0,h,h'=>by
  obtain⟨y,r,e,h1,h2⟩:=h.inv_cons;subst e;exact RDs.cons h' h2
 | c::ds,xs,d,x,n+1,h,h'=>by
  obtain⟨y,r,e,h1,h2⟩:=h.inv_cons;subst e;exact RDs.cons h1 (RDs.set n h2 h')
theorem RDs.ints:∀ ns:List Int,RDs K H (ns.map D.int) (ns.map V.int)
 | []=>RDs.nil
 | n::r=>RDs.cons (by simp only[RD]) (RDs.ints r)
theorem RDs.strs:∀ ns:List Str,RDs K H (ns.map D.str) (ns.map V.str)
 | []=>RDs.nil
 | n::r=>RDs.cons (by simp only[RD]) (RDs.strs r)
theorem RDs.strs_inv:∀ (ns:List Str) {xs:List V},RDs K H (ns.map D.str) xs->xs=ns.map V.str
 | [],xs,h=>h.inv_nil
 | n::r,xs,h=>by
  obtain⟨x,t,e,h1,h2⟩:=RDs.inv_cons (d:=.str n) (ds:=r.map D.str) h;simp only[RD]at h1;subst e h1;rw[RDs.strs_inv r h2];rfl
end
def yh(hw:List aH->Int)(a:LB)(xs:List (List aH×LB×LC)):L5->Prop:=fun h=>(a == ME)=false/\∃ o es ep,h.get? a=some o/\o.ExactDict/\o.data=.dict es ep/\es.toList=xs.map fun x=>(⟨hw x.1,.ref x.2.1,x.2.2⟩:DictEntry)
def pM(K:PySem.W.Frag)(H:Hp):List (List aH×D)->List (List aH×LB×LC)->Prop:=Oj fun p q=>p.1=q.1/\kP K H q.2.1 (p.1.map kV)/\∃ v,RD K H p.2 v/\aJ v q.2.2
def yd(K:PySem.W.Frag)(H:Hp):List (aH×D)->List (aH×V)->Prop:=Oj fun p q=>p.1=q.1/\RD K H p.2 q.2
def RO(K:PySem.W.Frag)(H:Hp)(a:LB):GO->HO->Prop
 | .lst ds,.lst xs=>RDs K H ds xs
 | .ins C L ds,.ins C' _ gs=>C'=C/\gs.map (·.1)=L/\RDs K H ds (gs.map (·.2))
 | .dK kvs,.dK hs=>yd K H kvs hs
 | .dT hw kvs,.ext φ=>∃ xs,φ=yh hw a xs/\pM K H kvs xs/\(kvs.map (·.1)).Nodup/\kvs.length<=LL
 | _,_=>False
def RG(K:PySem.W.Frag)(H:Hp)(G:Gp):Prop:=∀ a o,G a=some o->∃ h,H a=some h/\RO K H a o h
def Kp(G:Gp)(H:Hp)(G':Gp)(H':Hp):Prop:=∀ a h,H a=some h->G a=none->H' a=some h/\G' a=none
def GD(G:Gp)(H:Hp)(p:LB):Prop:=∀ h,H p=some h->G p≠none
section
variable{K:PySem.W.Frag}{H H' H1 H2:Hp}{G G' G1 G2:Gp}{p:LB}
theorem pM.mono(s:Stb K H H'){kvs:List (List aH×D)}{xs:List (List aH×LB×LC)}(r:pM K H kvs xs):pM K H' kvs xs:=Paired.mapP r fun _ _ zz=>by
 obtain⟨a,b,v,c,d⟩:=zz;exact (
  ⟨a,s.t _ _ b,v,RD.mono s _ _ c,d⟩)
theorem yd.mono(s:Stb K H H'){kvs:List (aH×D)}{xs:List (aH×V)}(r:yd K H kvs xs):yd K H' kvs xs:=Paired.mapP r fun _ _ zz=>by
 obtain⟨a,b⟩:=zz;exact (
  ⟨a,RD.mono s _ _ b⟩)
theorem RO.mono(s:Stb K H H'){a:LB}{o:GO}{h:HO}(r:RO K H a o h):RO K H' a o h:=by
 cases o<;>cases h<;>first
  | exact r.elim
  | exact RDs.mono s _ _ r
  | exact⟨r.1,r.2.1,RDs.mono s _ _ r.2.2⟩
  | exact yd.mono s r
  | (obtain⟨xs,e,q,n⟩:=r;exact⟨xs,e,q.mono s,n⟩)
theorem RG.none_of(rg:RG K H G){a:LB}{h:HO}(e:H a=some h)(n:∀ o,¬ RO K H a o h):G a=none:=by
 cases q:G a with
 | none=>rfl
 | some o=>
  obtain⟨h',e',r⟩:=rg a o q;rw[e]at e';cases e';exact absurd r (n o)
theorem RG.free(rg:RG K H G)(e:H p=none):G p=none:=by
 cases q:G p with
 | none=>rfl
 | some o=>
  obtain⟨h',e',r⟩:=rg p o q;rw[e]at e';cases e'
theorem HG{a:LB}(o:GO)(xs:List V):¬ RO K H a o (.tup xs):=by cases o<;>exact id
theorem DT{a:LB}(o:GO)(ob:Obj)(u:HO):¬ RO K H a o (.frz ob u):=by cases o<;>exact id
theorem Kp.refl:Kp G H G H:=fun _ _ e n=>⟨e,n⟩
theorem Kp.trans(a:Kp G H G1 H1)(b:Kp G1 H1 G2 H2):Kp G H G2 H2:=fun x h e n=>b x h (a x h e n).1 (a x h e n).2
theorem Kp.stb(k:Kp G H G' H')(rg:RG K H G):Stb K H H' where
 t:=fun a xs q=>by
  rcases q with (q|⟨o,q⟩)|q
  ·exact .inl (.inl (k a _ q (rg.none_of q fun o=>HG o xs)).1)
  ·exact .inl (.inr ⟨o,(k a _ q (rg.none_of q fun o'=>DT o' o _)).1⟩)
  ·exact .inr q
 l:=fun a xs q=>by
  rcases q with ⟨o,q⟩|q
  ·exact .inl ⟨o,(k a _ q (rg.none_of q fun o'=>DT o' o _)).1⟩
  ·exact .inr q
theorem Kp.fr(k:Kp G H G1 H1)(f:GD G1 H1 p):GD G H p:=fun h e n=>f h (k p h e n).1 (k p h e n).2
theorem pB(e:H p=none):GD G H p:=fun h q=>by rw[e]at q;cases q
theorem Kp.laid{o:HO}(e:H p=none):Kp G H G (bv H p o):=fun a h q n=>⟨by rw[aA (bZ q e)];exact q,n⟩
theorem RG.laid{o:HO}(rg:RG K H G)(e:H p=none):RG K (bv H p o) G:=fun a o' q=>by
 obtain⟨h,e1,r⟩:=rg a o' q;exact⟨h,by rw[aA (bZ e1 e)];exact e1,r.mono ((Kp.laid (G:=G) e).stb rg)⟩
end
abbrev fO:=List (Option D)
def CC(K:PySem.W.Frag)(H:Hp):Option D->Option V->Prop
 | some d,some v=>RD K H d v
 | none,_=>True
 | some _,none=>False
def RS(K:PySem.W.Frag)(H:Hp)(σ:fO)(τ:St):Prop:=Oj (CC K H) σ τ
section
variable{K:PySem.W.Frag}{H H':Hp}
theorem CC.mono(s:Stb K H H'):∀ {a:Option D} {b:Option V},CC K H a b->CC K H' a b
 | some d,some v,r=>RD.mono s d v r
 | none,_,_=>trivial
 | some _,none,r=>r.elim
theorem RS.mono(s:Stb K H H'){σ:fO}{τ:St}(r:RS K H σ τ):RS K H' σ τ:=Paired.mapP r fun _ _ q=>q.mono s
theorem RS.get:∀ {σ:fO} {τ:St} {i:Nat} {d:D},RS K H σ τ->σ[i]?=some (some d)->∃ v,τ[i]?=some (some v)/\RD K H d v
 | _,_,_,_,.nil,e=>by simp at e
 | _,_,0,d,.cons (b:=b) r _,e=>by
  simp at e;subst e;cases b with
  | none=>exact r.elim
  | some v=>exact⟨v,rfl,r⟩
 | _,_,i+1,d,.cons _ t,e=>by
  obtain⟨v,h1,h2⟩:=RS.get (i:=i) (d:=d) t (by simpa using e)
  exact⟨v,by simpa using h1,h2⟩
theorem RS.set{d:D}{v:V}(r:RD K H d v):∀ {σ:fO} {τ:St} (i:Nat),RS K H σ τ->RS K H (σ.set i (some d)) (τ.set i (some v))
 | _,_,_,.nil=>.nil
 | _,_,0,.cons _ t=>.cons (show CC K H (some d) (some v)from r) t
 | _,_,i+1,.cons q t=>.cons q (RS.set r i t)
end
def RE(K:PySem.W.Frag)(G:Gp)(H:Hp)(G':Gp)(H':Hp)(d:D)(v:V):Prop:=
 (∃ ds p xs,d=.fl ds/\v=.ref p/\H' p=some (.lst xs)/\G' p=none/\RDs K H' ds xs/\GD G H p)\/RD K H' d v
section
variable{K:PySem.W.Frag}{H H' H1 H2:Hp}{G G' G1 G2:Gp}{d:D}{v:V}
theorem RE.of(r:RD K H' d v):RE K G H G' H' d v:=.inr r
theorem RE.wait(r:RE K G H G1 H1 d v)(k:Kp G1 H1 G2 H2)(rg:RG K H1 G1):RE K G H G2 H2 d v:=by
 rcases r with ⟨ds,p,xs,e1,e2,e3,e4,e5,e6⟩|r
 ·exact .inl ⟨ds,p,xs,e1,e2,(k p _ e3 e4).1,(k p _ e3 e4).2,RDs.mono (k.stb rg) _ _ e5,e6⟩
 ·exact .inr (RD.mono (k.stb rg) _ _ r)
theorem RE.base(r:RE K G1 H1 G2 H2 d v)(k:Kp G H G1 H1):RE K G H G2 H2 d v:=by
 rcases r with ⟨ds,p,xs,e1,e2,e3,e4,e5,e6⟩|r
 ·exact .inl ⟨ds,p,xs,e1,e2,e3,e4,e5,k.fr e6⟩
 ·exact .inr r
theorem RE.rd(r:RE K G H G' H' d v)(h:∀ ds,d≠.fl ds):RD K H' d v:=by
 rcases r with ⟨ds,p,xs,e1,_⟩|r
 ·exact absurd e1 (h ds)
 ·exact r
theorem RE.int{i:Int}(r:RE K G H G' H' (.int i) v):v=.int i:=by
 have:=r.rd (by intro ds h;cases h);simpa only[RD]using this
theorem RE.str{i:Str}(r:RE K G H G' H' (.str i) v):v=.str i:=by
 have:=r.rd (by intro ds h;cases h);simpa only[RD]using this
theorem RE.bl{i:Bool}(r:RE K G H G' H' (.bl i) v):v=.bl i:=by
 have:=r.rd (by intro ds h;cases h);simpa only[RD]using this
theorem RE.non(r:RE K G H G' H' .non v):v=.non:=by
 have:=r.rd (by intro ds h;cases h);simpa only[RD]using this
theorem RE.ref{a:LB}(r:RE K G H G' H' (.ref a) v):v=.ref a:=by
 have:=r.rd (by intro ds h;cases h);simpa only[RD]using this
theorem RE.tup{ds:List D}(r:RE K G H G' H' (.tup ds) v):∃ a xs,v=.ref a/\kP K H' a xs/\RDs K H' ds xs:=by
 have:=r.rd (by intro ds h;cases h);simpa only[RD]using this
theorem RE.lst{ds:List D}(r:RE K G H G' H' (.lst ds) v):∃ a xs,v=.ref a/\EF K H' a xs/\RDs K H' ds xs:=by
 have:=r.rd (by intro ds h;cases h);simpa only[RD]using this
theorem RE.fl{ds:List D}(r:RE K G H G' H' (.fl ds) v):∃ p xs,v=.ref p/\H' p=some (.lst xs)/\G' p=none/\RDs K H' ds xs/\GD G H p:=by
 rcases r with ⟨ds',p,xs,e1,e2,e3,e4,e5,e6⟩|r
 ·cases e1;exact⟨p,xs,e2,e3,e4,e5,e6⟩
 ·simp only[RD]at r
theorem fH{i:Int}:RD K H (.int i) (.int i):=by simp only[RD]
theorem iC{i:Str}:RD K H (.str i) (.str i):=by simp only[RD]
theorem h8{i:Bool}:RD K H (.bl i) (.bl i):=by simp only[RD]
theorem wH:RD K H .non .non:=by simp only[RD]
theorem iD{a:LB}:RD K H (.ref a) (.ref a):=by simp only[RD]
theorem qc{ds:List D}{xs:List V}{a:LB}(h:kP K H a xs)(r:RDs K H ds xs):RD K H (.tup ds) (.ref a):=by
 simp only[RD];exact⟨a,xs,rfl,h,r⟩
theorem qd{ds:List D}{xs:List V}{a:LB}(h:EF K H a xs)(r:RDs K H ds xs):RD K H (.lst ds) (.ref a):=by
 simp only[RD];exact⟨a,xs,rfl,h,r⟩
end
def n6(G:Gp):D->Option (List D)
 | .lst ds=>some ds
 | .fl ds=>some ds
 | .ref a=>match G a with
  | some (.lst ds)=>some ds
  | _=>none
 | _=>none
def EI(G:Gp):D->Option (List D)
 | .tup ds=>some ds
 | d=>n6 G d
section
variable{K:PySem.W.Frag}{H H':Hp}{G G':Gp}{d:D}{v:V}{ds:List D}
theorem kI(h:n6 G' d=some ds)(r:RE K G H G' H' d v)(rg:RG K H' G'):∃ a xs,v=.ref a/\jT K H' a xs/\RDs K H' ds xs:=by
 cases d with
 | lst es=>
  obtain⟨a,xs,e,f,q⟩:=r.lst;simp only[n6,Option.some.injEq]at h;subst h;exact⟨a,xs,e,f.sq,q⟩
 | fl es=>
  obtain⟨a,xs,e,f,_,q,_⟩:=r.fl;simp only[n6,Option.some.injEq]at h;subst h;exact⟨a,xs,e,jT.of f,q⟩
 | ref a=>
  have e:=r.ref;simp only[n6]at h;cases q:G' a with
  | none=>rw[q]at h;cases h
  | some o=>
   rw[q]at h;cases o with
   | ins _ _ _=>cases h
   | dK _=>cases h
   | dT _ _=>cases h
   | lst es=>
    simp only[Option.some.injEq]at h;subst h;obtain⟨ho,e1,e2⟩:=rg a _ q;cases ho with
    | lst xs=>exact⟨a,xs,e,jT.of e1,e2⟩
    | _=>exact e2.elim
 | _=>simp[n6]at h
theorem ur(h:EI G' d=some ds)(r:RE K G H G' H' d v)(rg:RG K H' G'):∃ a xs,v=.ref a/\(jT K H' a xs\/kP K H' a xs)/\RDs K H' ds xs:=by
 cases d with
 | tup es=>
  obtain⟨a,xs,e,f,q⟩:=r.tup;simp only[EI,Option.some.injEq]at h;subst h;exact⟨a,xs,e,.inr f,q⟩
 | _=>
  obtain⟨a,xs,e,f,q⟩:=kI (by simpa only[EI]using h) r rg
  exact⟨a,xs,e,.inl f,q⟩
theorem xO{xs:List V}{p:LB}(rg:RG K H G)(e:H p=none)(r:RDs K H ds xs):RE K G H G (bv H p (.lst xs)) (.fl ds) (.ref p):=
 .inl ⟨ds,p,xs,rfl,rfl,aM,rg.free e,RDs.mono ((Kp.laid (G:=G) e).stb rg) _ _ r,pB e⟩
theorem mz{xs:List V}{p:LB}(rg:RG K H G)(e:H p=none)(r:RDs K H ds xs):RD K (bv H p (.tup xs)) (.tup ds) (.ref p):=
 qc (kP.of aM) (RDs.mono ((Kp.laid (G:=G) e).stb rg) _ _ r)
end
end L3
namespace L2
open PySem PySem.Spec PyProof.Rows
section
variable{X:Cx}
theorem PE.imp{e:L7}{t t':TE}(h:PE X e t)(i:∀ σ H Q,t' σ H Q->t σ H Q):PE X e t':=fun pins s σ H Q I q=>h pins s σ H Q I (i σ H Q q)
theorem PT.imp{e:L7}{t t':TT}(h:PT X e t)(i:∀ σ H Q,t' σ H Q->t σ H Q):PT X e t':=fun pins s σ H Q I q=>h pins s σ H Q I (i σ H Q q)
theorem PW.imp{e:L7}{t t':TT}(h:PW X e t)(i:∀ σ H Q,t' σ H Q->t σ H Q):PW X e t':=fun wh pins s σ H Q I q=>h wh pins s σ H Q I (i σ H Q q)
theorem PA.imp{es:List L7}{t t':TA}(h:PA X es t)(i:∀ σ H Q,t' σ H Q->t σ H Q):PA X es t':=fun pos pins s σ H Q I q=>h pos pins s σ H Q I (i σ H Q q)
theorem PS.imp{e:Md}{t t':TS}(h:PS X e t)(i:∀ D σ H,t' D σ H->t D σ H):PS X e t':=fun pins s σ H D I q=>h pins s σ H D I (i D σ H q)
theorem rm.imp{e:List Md}{t t':TS}(h:rm X e t)(i:∀ D σ H,t' D σ H->t D σ H):rm X e t':=fun pins s σ H D I q=>h pins s σ H D I (i D σ H q)
theorem iW.imp{f:LC->LC->Sem LC}{r r':R2}(h:iW X f r)(i:∀ x y H Q,r' x y H Q->r x y H Q):iW X f r':=fun pins s σ H x y v u Q I rx ry q=>h pins s σ H x y v u Q I rx ry (i x y H Q q)
theorem fb.imp{f:LC}{r r':List V->Hp->VK->Prop}(h:fb X f r)(i:∀ xs H Q,r' xs H Q->r xs H Q):fb X f r':=fun pins s σ H xs us Q I r q=>h pins s σ H xs us Q I r (i xs H Q q)
theorem CB.imp{r r':V->Option Int->Option Int->Hp->VK->Prop}(h:CB X r)(i:∀ x lo hi H Q,r' x lo hi H Q->r x lo hi H Q):CB X r':=fun pins s σ H x v vl vu lo hi sl Q I rx hs pl pu q=>h pins s σ H x v vl vu lo hi sl Q I rx hs pl pu (i x lo hi H Q q)
theorem CG.imp{r r':R2}(h:CG X r)(i:∀ x y H Q,r' x y H Q->r x y H Q):CG X r':=fun value slice pins s σ H x y v u Q I rx ry q hs=>h value slice pins s σ H x y v u Q I rx ry (i x y H Q q) hs
theorem Inv.freeze{pins:List (LB×Obj)}{σ:St}{H:Hp}{s:LF}{p:LB}{xs:List V}(I:Inv X pins σ H s)(e:H p=some (.lst xs)):∃ o,Inv X pins σ (bv H p (.frz o (.lst xs))) s:=by
 obtain⟨its,n,rv,ho,hz⟩:=I.lst e;have stay:∀ b,H b=none->(bv H p (.frz { cls:=.type "list",data:=.seq its.toArray n } (.lst xs))) b=none:=fun b hb=>by
  rw[aA (fun z=>by subst z;rw[hb]at e;cases e)];exact hb
 refine⟨{ cls:=.type "list",data:=.seq its.toArray n },⟨I.ok,I.os,I.bare,⟨I.base.keep,I.base.slot,fun b o h1 h2 h3=>stay b (I.base.free b o h1 h2 h3),I.base.there,fun b ys q=>?_,fun b o u q=>?_,fun b ps q=>?_⟩,I.loc,I.cell,stay _ I.free,fun x c hc=>stay c (I.freeC x c hc),fun q hq=>?_,fun b u q=>?_,I.len⟩⟩
 ·have q':=I.base.tups b ys q;rw[aA (fun z=>by subst z;rw[e]at q';cases q')];exact q'
 ·have q':=I.base.frzs b o u q;rw[aA (fun z=>by subst z;rw[e]at q';cases q')];exact q'
 ·obtain⟨more,q'⟩:=I.base.tbls b ps q;exact⟨more,by rw[aA (fun z=>by subst z;rw[e]at q';cases q')];exact q'⟩
 ·obtain⟨h1,h2,h3⟩:=I.pin q hq;exact⟨h1,stay _ h2,h3⟩
 ·by_cases hb:b=p
  ·subst hb;rw[aM]at q;cases q;exact⟨ho,hz,its,n,rv,ho⟩
  ·rw[aA hb]at q;refine (I.hok b u q).stay (fun _ _ _ z=>z) (fun c z=>?_) fun c ys z=>?_
   ·rw[aA (fun y=>by subst y;rw[e]at z;cases z)];exact z
   ·rw[aA (fun y=>by subst y;rw[e]at z;cases z)];exact z
def gh(t:TE):TE:=fun σ H Q=>t σ H fun v H1=>Q v H1\/∃ p xs,v=.ref p/\H1 p=some (.lst xs)/\∀ o,Q v (bv H1 p (.frz o (.lst xs)))
theorem Jh{e:L7}{t:TE}(h:PE X e t):PE X e (gh t):=fun pins s σ H Q I q=>
 cI (h pins s σ H _ I q) fun u s' zz=>by
  obtain⟨v,H',I',r,q'⟩:=zz;rcases q' with q'|⟨p,xs,rfl,e,q'⟩
  ·exact⟨v,H',I',r,q'⟩
  ·obtain⟨o,I2⟩:=I'.freeze e;exact⟨.ref p,_,I2,r,q' o⟩
end
end L2
namespace L3
open PySem PySem.Spec PyProof.Rows L2
abbrev mZ:=D->Gp->Prop
abbrev bH:=fO->Gp->mZ->Prop
abbrev pK:=fO->Gp->(Bool->Gp->Prop)->Prop
abbrev pL:=fO->Gp->(List D->Gp->Prop)->Prop
set_option genInjectivity false in
structure Ends3 where
 nx:fO->Gp->Prop
 rt:mZ
 bk:fO->Gp->Prop:=fun _ _=>False
 ct:fO->Gp->Prop:=fun _ _=>False
abbrev cn:=Ends3->fO->Gp->Prop
def uu(K:PySem.W.Frag)(G:Gp)(H:Hp)(Q3:mZ)(Q:VK):Prop:=∀ d G' v H',Q3 d G'->Kp G H G' H'->RG K H' G'->RE K G H G' H' d v->Q v H'
def aE(K:PySem.W.Frag)(t:bH):TE:=fun τ H Q=>∃ σ G Q3,RS K H σ τ/\RG K H G/\t σ G Q3/\uu K G H Q3 Q
def cY(K:PySem.W.Frag)(t:pK):TT:=fun τ H Q=>∃ σ G Q3,RS K H σ τ/\RG K H G/\t σ G Q3/\∀ b G' H',Q3 b G'->Kp G H G' H'->RG K H' G'->Q b H'
def fq(K:PySem.W.Frag)(t:pL):TA:=fun τ H Q=>∃ σ G Q3,RS K H σ τ/\RG K H G/\t σ G Q3/\∀ ds G' vs H',Q3 ds G'->Kp G H G' H'->RG K H' G'->RDs K H' ds vs->Q vs H'
structure EndsOk(K:PySem.W.Frag)(G:Gp)(H:Hp)(D3:Ends3)(D:Ends):Prop where
 nx:∀ σ G' τ H',D3.nx σ G'->Kp G H G' H'->RG K H' G'->RS K H' σ τ->D.nx τ H'
 rt:uu K G H D3.rt D.rt
 bk:∀ σ G' τ H',D3.bk σ G'->Kp G H G' H'->RG K H' G'->RS K H' σ τ->D.bk τ H'
 ct:∀ σ G' τ H',D3.ct σ G'->Kp G H G' H'->RG K H' G'->RS K H' σ τ->D.ct τ H'
def cE(K:PySem.W.Frag)(t:cn):TS:=fun D τ H=>∃ σ G D3,RS K H σ τ/\RG K H G/\t D3 σ G/\EndsOk K G H D3 D
theorem uu.base{K:PySem.W.Frag}{G G1:Gp}{H H1:Hp}{Q3:mZ}{Q:VK}(f:uu K G H Q3 Q)(k:Kp G H G1 H1):uu K G1 H1 Q3 Q:=
 fun d G' v H' q k' rg re=>f d G' v H' q (k.trans k') rg (re.base k)
theorem EndsOk.base{K:PySem.W.Frag}{G G1:Gp}{H H1:Hp}{D3:Ends3}{D:Ends}(f:EndsOk K G H D3 D)(k:Kp G H G1 H1):EndsOk K G1 H1 D3 D:=
 ⟨fun σ G' τ H' q k'=>f.nx σ G' τ H' q (k.trans k'),f.rt.base k,fun σ G' τ H' q k'=>f.bk σ G' τ H' q (k.trans k'),fun σ G' τ H' q k'=>f.ct σ G' τ H' q (k.trans k')⟩
def val:D->D
 | .fl ds=>.lst ds
 | d=>d
def vX(K:PySem.W.Frag)(t:bH):TE:=fun τ H Q=>∃ σ G Q3,RS K H σ τ/\RG K H G/\t σ G Q3/\∀ d G' v H',Q3 d G'->Kp G H G' H'->RG K H' G'->RD K H' (val d) v->Q v H'
section
variable{X:Cx}{e:L7}{t:bH}
theorem Ej{K:PySem.W.Frag}{G G':Gp}{H H':Hp}{p:LB}{o:HO}(k:Kp G H G' H')(f:GD G H p):Kp G H G' (bv H' p o):=fun a h e n=>by
 have:a≠p:=fun z=>by subst z;exact f h e n
 exact⟨by rw[aA this];exact (k a h e n).1,(k a h e n).2⟩
theorem AC{K:PySem.W.Frag}{G':Gp}{H':Hp}{p:LB}{xs:List V}{o:Obj}(rg:RG K H' G')(e:H' p=some (.lst xs))(n:G' p=none):RG K (bv H' p (.frz o (.lst xs))) G'/\Stb K H' (bv H' p (.frz o (.lst xs))):=by
 have st:Stb K H' (bv H' p (.frz o (.lst xs))):=by
  constructor
  ·intro a ys q;rcases q with (q|⟨ob,q⟩)|q
   ·exact .inl (.inl (by rw[aA (fun z=>by subst z;rw[e]at q;cases q)];exact q))
   ·exact .inl (.inr ⟨ob,by rw[aA (fun z=>by subst z;rw[e]at q;cases q)];exact q⟩)
   ·exact .inr q
  ·intro a ys q;rcases q with ⟨ob,q⟩|q
   ·exact .inl ⟨ob,by rw[aA (fun z=>by subst z;rw[e]at q;cases q)];exact q⟩
   ·exact .inr q
 refine⟨fun a o' q=>?_,st⟩;obtain⟨h,e1,r⟩:=rg a o' q;exact⟨h,by rw[aA (fun z=>by subst z;rw[n]at q;cases q)];exact e1,r.mono st⟩
theorem dW(h:PE X e (aE X.K t)):PE X e (vX X.K t):=(Jh h).imp fun τ H Q zz=>by
 obtain⟨σ,G,Q3,rs,rg,ht,hk⟩:=zz;refine⟨σ,G,Q3,rs,rg,ht,fun d G' v H' q k rg' re=>?_⟩;cases d with
 | fl ds=>
  obtain⟨p,xs,rfl,e1,e2,e3,e4⟩:=re.fl;refine .inr ⟨p,xs,rfl,e1,fun o=>?_⟩;obtain⟨rg2,st⟩:=AC (o:=o) rg' e1 e2;exact hk _ G' _ _ q (Ej (K:=X.K) k e4) rg2 (qd (.inl ⟨o,aM⟩) (RDs.mono st _ _ e3))
 | _=>exact .inl (hk _ G' v H' q k rg' (re.rd (by intro ds z;cases z)))
end
def cW:cn:=fun D σ G=>D.nx σ G
def sSeq(t u:cn):cn:=fun D σ G=>t { D with nx:=u D } σ G
section
variable{X:Cx}{st:Md}{mR:List Md}{t u:cn}{e:L7}{te:bH}{pos:Pos}
theorem dj:rm X [] (cE X.K cW):=Fe.imp fun D τ H zz=>by
 obtain⟨σ,G,D3,rs,rg,h,k⟩:=zz;exact (
  k.nx σ G τ H h Kp.refl rg rs)
theorem aq(h1:PS X st (cE X.K t))(h2:rm X mR (cE X.K u)):rm X (st::mR) (cE X.K (sSeq t u)):=(Dw h1 h2).imp fun D τ H zz=>by
 obtain⟨σ,G,D3,rs,rg,h,k⟩:=zz;exact (
   ⟨σ,G,{ D3 with nx:=u D3 },rs,rg,h,⟨fun σ' G' τ' H' q k' rg' rs'=>⟨σ',G',D3,rs',rg',q,k.base k'⟩,k.rt,k.bk,k.ct⟩⟩)
theorem az(h1:PS X st (cE X.K t)):rm X [st] (cE X.K t):=Fd h1
def cR(te:bH):cn:=fun D σ G=>te σ G fun _ G'=>D.nx σ G'
theorem cC(he:PE X e (aE X.K te))(hs:NA e none pos.line X.env=pure false:=by rfl):PS X (.Expr e pos) (cE X.K (cR te)):=(Ff he hs).imp fun D τ H zz=>by
 obtain⟨σ,G,D3,rs,rg,h,k⟩:=zz;exact (
   ⟨σ,G,fun _ G'=>D3.nx σ G',rs,rg,h,fun d G' v H' q k' rg' _=>k.nx σ G' τ H' q k' rg' (rs.mono (k'.stb rg))⟩)
def br(te:bH):cn:=fun D σ G=>te σ G D.rt
theorem aL(he:PE X e (aE X.K te)):PS X (.Return (some e) pos) (cE X.K (br te)):=(Dz he).imp fun D τ H zz=>by
 obtain⟨σ,G,D3,rs,rg,h,k⟩:=zz;exact (
  ⟨σ,G,D3.rt,rs,rg,h,k.rt⟩)
def IQ:cn:=fun D _ G=>D.rt .non G
def GX:cn:=fun D σ G=>D.bk σ G
def IR:cn:=fun D σ G=>D.ct σ G
def lV(c:pK)(t u:cn):cn:=fun D σ G=>c σ G fun b G'=>if b=true then t D σ G' else u D σ G'
theorem fJ{c:L7}{a b:List Md}{tc:pK}(hc:PT X c (cY X.K tc))(ha:rm X a (cE X.K t))(hb:rm X b (cE X.K u)):PS X (.If c a b pos) (cE X.K (lV tc t u)):=
 (Ja hc ha hb).imp fun D τ H zz=>by
 obtain⟨σ,G,D3,rs,rg,h,k⟩:=zz;exact (
  ⟨σ,G,_,rs,rg,h,fun b G' H' q k' rg'=>by
    cases b with
    | true=>exact⟨σ,G',D3,rs.mono (k'.stb rg),rg',q,k.base k'⟩
    | false=>exact⟨σ,G',D3,rs.mono (k'.stb rg),rg',q,k.base k'⟩⟩)
def nw:cn:=fun _ _ _=>False
theorem oP:PS X st (cE X.K nw):=DA.imp fun D τ H zz=>by
 obtain⟨σ,G,D3,rs,rg,h,k⟩:=zz;exact (
  h)
def bW(i:Nat)(te:bH):cn:=fun D σ G=>te σ G fun d G'=>D.nx (σ.set i (some (val d))) G'
theorem bm{i:Nat}{x:Str}{pos':Pos}(hN:X.N.Nodup)(hi:X.N[i]?=some x)(hx:Iz X.env.scope x)(he:PE X e (aE X.K te))(hs:NA e (some (.Name x pos')) pos.line X.env=pure false:=by rfl)
  (hf:X.fn x=true\/X.env.scope.names.lookup x=some .local:=by first|exact .inl rfl|exact .inr rfl|assumption):PS X (.Assign [.Name x pos'] e pos) (cE X.K (bW i te)):=
 (Dy hN hi hx (dW he) hs hf).imp fun D τ H zz=>by
 obtain⟨σ,G,D3,rs,rg,h,k⟩:=zz;exact (
  ⟨σ,G,_,rs,rg,h,fun d G' v H' q k' rg' rd=>k.nx _ G' _ H' q k' rg' ((rs.mono (k'.stb rg)).set rd i)⟩)
def C6(i:Nat)(te:bH):cn:=fun D σ G=>te σ G fun d G'=>∃ ds,d=.fl ds/\∀ p,G' p=none->D.nx (σ.set i (some (.ref p))) (gset G' p (.lst ds))
theorem DO{K:PySem.W.Frag}{G:Gp}{H:Hp}{p:LB}{xs:List V}{ds:List D}(rg:RG K H G)(e:H p=some (.lst xs))(r:RDs K H ds xs):RG K H (gset G p (.lst ds)):=fun a o q=>by
 by_cases ha:a=p
 ·subst ha;rw[av]at q;cases q;exact⟨_,e,r⟩
 ·rw[aj ha]at q;exact rg a o q
theorem DP{G G':Gp}{H H':Hp}{p:LB}{o:GO}(k:Kp G H G' H')(f:GD G H p):Kp G H (gset G' p o) H':=fun a h e n=>by
 have:a≠p:=fun z=>by subst z;exact f h e n
 exact⟨(k a h e n).1,by rw[aj this];exact (k a h e n).2⟩
theorem Do{i:Nat}{x:Str}{pos':Pos}(hN:X.N.Nodup)(hi:X.N[i]?=some x)(hx:Iz X.env.scope x)(he:PE X e (aE X.K te))(hs:NA e (some (.Name x pos')) pos.line X.env=pure false:=by rfl)
  (hf:X.fn x=true\/X.env.scope.names.lookup x=some .local:=by first|exact .inl rfl|exact .inr rfl|assumption):PS X (.Assign [.Name x pos'] e pos) (cE X.K (C6 i te)):=
 (Dy hN hi hx he hs hf).imp fun D τ H zz=>by
 obtain⟨σ,G,D3,rs,rg,h,k⟩:=zz;exact (
  ⟨σ,G,_,rs,rg,h,fun d G' v H' q k' rg' re=>by
    obtain⟨ds,rfl,q⟩:=q;obtain⟨p,xs,rfl,e1,e2,e3,e4⟩:=re.fl;exact k.nx _ _ _ H' (q p e2) (DP k' e4) (DO rg' e1 e3) ((rs.mono (k'.stb rg)).set iD i)⟩)
def jk(i:Nat):cn:=fun D σ G=>match σ[i]? with
 | some (some (.ref p))=>match G p with
  | some (.lst ds)=>D.rt (.fl ds) (fu G p)
  | _=>False
 | _=>False
theorem yG{i:Nat}{x:Str}{pos':Pos}(hN:X.N[i]?=some x)(hv:J0 X.env.scope x)(hd:(x == ("__debug__":Str))=false:=by decide)(hcd:(x == ("__classdict__":Str))=false:=by decide):
  PS X (.Return (some (.Name x pos')) pos) (cE X.K (jk i)):=(Dz (DH hN hv hd hcd)).imp fun D τ H zz=>by
 obtain⟨σ,G,D3,rs,rg,h,k⟩:=zz;unfold jk at h;split at h
 ·rename_i p hp;split at h
  ·rename_i ds hg;obtain⟨v,e1,r⟩:=rs.get hp;simp only[RD]at r;subst r;obtain⟨ho,e2,ro⟩:=rg p _ hg;refine⟨_,e1,?_⟩;cases ho with
   | lst xs=>
    have rg2:RG X.K H (fu G p):=fun a o q=>by
     by_cases ha:a=p
     ·subst ha;rw[dH]at q;cases q
     ·rw[cF ha]at q;exact rg a o q
    refine k.rt _ _ _ H h (fun a ha e n=>⟨e,?_⟩) rg2 (.inl ⟨ds,p,xs,rfl,rfl,e2,dH,ro,fun h' _=>by rw[hg];exact fun z=>nomatch z⟩)
    by_cases hap:a=p
    ·subst hap;exact dH
    ·rw[cF hap];exact n
   | _=>exact ro.elim
  ·exact h.elim
 ·exact h.elim
end
def ab(i:Nat):bH:=fun σ G Q=>match σ[i]? with
 | some (some d)=>Q d G
 | _=>False
def eC(d:D):bH:=fun _ G Q=>Q d G
section
variable{X:Cx}{pos:Pos}{j:Nat}
theorem Jj{i:Nat}{x:Str}(hN:X.N[i]?=some x)(hv:J0 X.env.scope x)(hd:(x == ("__debug__":Str))=false:=by decide)(hcd:(x == ("__classdict__":Str))=false:=by decide):PE X (.Name x pos) (aE X.K (ab i)):=
 (DH hN hv hd hcd).imp fun τ H Q zz=>by
  obtain⟨σ,G,Q3,rs,rg,h,k⟩:=zz;unfold ab at h;split at h
  ·rename_i d hp;obtain⟨v,e1,r⟩:=rs.get hp;exact⟨v,e1,k d G v H h Kp.refl rg (.of r)⟩
  ·exact h.elim
theorem ao(i:Nat){x:Str}(hN:X.N[i]?=some x:=by rfl)(hv:J0 X.env.scope x:=by first|exact Or.inl rfl|exact Or.inr (Or.inl rfl)|exact Or.inr (Or.inr rfl))(hd:(x == ("__debug__":Str))=false:=by decide)
  (hcd:(x == ("__classdict__":Str))=false:=by decide):PE X (.Name x pos) (aE X.K (ab i)):=Jj hN hv hd hcd
theorem Jl{e:L7}{d:D}{v:V}(h:PE X e (tC v))(r:∀ H,RD X.K H d v):PE X e (aE X.K (eC d)):=h.imp fun τ H Q zz=>by
 obtain⟨σ,G,Q3,rs,rg,hq,k⟩:=zz;exact (
  k d G v H hq Kp.refl rg (.of (r H)))
theorem ay{i:Int}:PE X (.Constant (.int i) j pos) (aE X.K (eC (.int i))):=Jl Ho fun _=>fH
theorem Ah{b:Bool}:PE X (.Constant (.bool b) j pos) (aE X.K (eC (.bl b))):=Jl Ji fun _=>h8
theorem Gt:PE X (.Constant .none j pos) (aE X.K (eC .non)):=Jl Hm fun _=>wH
theorem dD{x:Str}:PE X (.Constant (.str x) j pos) (aE X.K (eC (.str x))):=Jl Hk fun _=>iC
end
abbrev R3:=D->D->Gp->mZ->Prop
def d5(K:PySem.W.Frag)(r3:R3):R2:=fun v u H Q=>∃ x y G0 H0 G Q3,RE K G0 H0 G H x v/\RE K G0 H0 G H y u/\RG K H G/\r3 x y G Q3/\uu K G H Q3 Q
def bG(r:R3)(ta tb:bH):bH:=fun σ G Q=>ta σ G fun x G1=>tb σ G1 fun y G2=>r x y G2 Q
section
variable{X:Cx}{a b c:L7}{ta tb tc:bH}{pos:Pos}{r r':R3}
theorem two{K:PySem.W.Frag}{r2:R2}{Q:VK}{τ:St}{H:Hp}(hr:r2=d5 K r)(h:aE K (bG r ta tb) τ H Q):IB r2 (aE K ta) (aE K tb) τ H Q:=by
 subst hr;obtain⟨σ,G,Q3,rs,rg,h,k⟩:=h;refine⟨σ,G,fun x G1=>tb σ G1 fun y G2=>r x y G2 Q3,rs,rg,h,fun x G1 v H1 h1 k1 rg1 re1=>⟨σ,G1,fun y G2=>r x y G2 Q3,rs.mono (k1.stb rg),rg1,h1,fun y G2 u H2 h2 k2 rg2 re2=>?_⟩⟩;exact⟨x,y,G,H,G2,Q3,re1.wait k2 rg1,re2.base k1,rg2,h2,k.base (k1.trans k2)⟩
theorem bX{op:Operator}(ho:iW X (MZ op) (d5 X.K r))(ha:PE X a (aE X.K ta))(hb:PE X b (aE X.K tb)):PE X (.BinOp a op b pos) (aE X.K (bG r ta tb)):=
 (Jf ho ha hb).imp fun _ _ _ h=>two rfl h
def cJ(t:bH):pK:=fun σ G Q=>t σ G fun d G'=>match d with
 | .bl b=>Q b G'
 | _=>False
theorem wn{K:PySem.W.Frag}{t:bH}{τ:St}{H:Hp}{Q:Bool->Hp->Prop}(h:cY K (cJ t) τ H Q):CT (aE K t) τ H Q:=by
 obtain⟨σ,G,Q3,rs,rg,h,k⟩:=h;refine⟨σ,G,_,rs,rg,h,fun d G' v H' q k' rg' re=>?_⟩;cases d with
 | bl b=>exact⟨b,re.bl,k b G' H' q k' rg'⟩
 | _=>exact q.elim
theorem qf{op:OH}(ho:iW X (Mj op) (d5 X.K r))(ha:PE X a (aE X.K ta))(hb:PE X b (aE X.K tb))(hm:MK op b=false):PT X (.Compare a [op] [b] pos) (cY X.K (cJ (bG r ta tb))):=
 (A6 ho ha hb hm).imp fun _ _ _ h=>two rfl (wn h)
def qJ(r r':R3)(ta tb tc:bH):bH:=fun σ G Q=>ta σ G fun x G1=>tb σ G1 fun y G2=>r x y G2 fun z G3=>match z with
 | .bl k=>if k=true then tc σ G3 fun w G4=>r' y w G4 Q else Q (.bl false) G3
 | _=>False
theorem JH{K:PySem.W.Frag}{Q:VK}{τ:St}{H:Hp}(h:aE K (qJ r r' ta tb tc) τ H Q):CV (d5 K r) (d5 K r') (aE K ta) (aE K tb) (aE K tc) τ H Q:=by
 obtain⟨σ,G,Q3,rs,rg,h,k⟩:=h;refine⟨σ,G,_,rs,rg,h,fun x G1 v H1 h1 k1 rg1 re1=>⟨σ,G1,_,rs.mono (k1.stb rg),rg1,h1,fun y G2 u H2 h2 k2 rg2 re2=>?_⟩⟩;refine⟨x,y,G,H,G2,_,re1.wait k2 rg1,re2.base k1,rg2,h2,fun z G3 w H3 h3 k3 rg3 re3=>?_⟩;have k13:=k1.trans (k2.trans k3);cases z with
 | bl kk=>
  refine⟨kk,re3.bl,?_⟩;cases kk with
  | true=>
   refine iteT ?_;refine⟨σ,G3,_,rs.mono (k13.stb rg),rg3,h3,fun w' G4 w4 H4 h4 k4 rg4 re4=>?_⟩;exact⟨y,w',G,H,G4,Q3,(re2.base k1).wait (k3.trans k4) rg2,re4.base k13,rg4,h4,k.base (k13.trans k4)⟩
  | false=>exact iteF (k _ G3 _ H3 h3 k13 rg3 (.of h8))
 | _=>exact h3.elim
theorem s_{op op':OH}(ho:iW X (Mj op) (d5 X.K r))(ho':iW X (Mj op') (d5 X.K r'))(ha:PE X a (aE X.K ta))(hb:PE X b (aE X.K tb))(hc:PE X c (aE X.K tc))
  (hm:lastMarks [op,op'] [b,c]=false:=by with_unfolding_all rfl):PT X (.Compare a [op,op'] [b,c] pos) (cY X.K (cJ (qJ r r' ta tb tc))):=
 (Dv ho ho' ha hb hc hm).imp fun τ H Q h=>by
  obtain⟨σ,G,Q3,rs,rg,h,k⟩:=h;refine JH (Q:=fun x H'=>∃ k,x=.bl k/\Q k H') ⟨σ,G,_,rs,rg,h,fun d G' v H' q k' rg' re=>?_⟩;cases d with
  | bl b=>exact⟨b,re.bl,k b G' H' q k' rg'⟩
  | _=>exact q.elim
def CW(t u:pK):pK:=fun σ G Q=>t σ G fun c G1=>if c=true then u σ G1 Q else Q false G1
def rp(t u:pK):pK:=fun σ G Q=>t σ G fun c G1=>if c=true then Q true G1 else u σ G1 Q
def vJ(t:pK):pK:=fun σ G Q=>t σ G fun c G1=>Q (!c) G1
variable{tA tB:pK}{es:List L7}
theorem GK(ha:PT X a (cY X.K tA)):PW X (.BoolOp .And [a] pos) (cY X.K tA):=E_ ha
theorem yl(ha:PT X a (cY X.K tA)):PW X (.BoolOp .Or [a] pos) (cY X.K tA):=Hc ha
theorem IF(ha:PT X a (cY X.K tA))(hb:PW X (.BoolOp .And (b::es) pos) (cY X.K tB)):PW X (.BoolOp .And (a::b::es) pos) (cY X.K (CW tA tB)):=(Hd ha hb).imp fun τ H Q zz=>by
 obtain⟨σ,G,Q3,rs,rg,h,k⟩:=zz;exact (
   ⟨σ,G,_,rs,rg,h,fun c G1 H1 q k1 rg1=>by
    cases c with
    | true=>exact iteT ⟨σ,G1,Q3,rs.mono (k1.stb rg),rg1,q,fun b' G' H' q' k' rg'=>k b' G' H' q' (k1.trans k') rg'⟩
    | false=>exact iteF (k false G1 H1 q k1 rg1)⟩)
theorem ym(ha:PT X a (cY X.K tA))(hb:PW X (.BoolOp .Or (b::es) pos) (cY X.K tB)):PW X (.BoolOp .Or (a::b::es) pos) (cY X.K (rp tA tB)):=(I_ ha hb).imp fun τ H Q zz=>by
 obtain⟨σ,G,Q3,rs,rg,h,k⟩:=zz;exact (
   ⟨σ,G,_,rs,rg,h,fun c G1 H1 q k1 rg1=>by
    cases c with
    | false=>exact iteF ⟨σ,G1,Q3,rs.mono (k1.stb rg),rg1,q,fun b' G' H' q' k' rg'=>k b' G' H' q' (k1.trans k') rg'⟩
    | true=>exact iteT (k true G1 H1 q k1 rg1)⟩)
theorem wT(ha:PT X a (cY X.K tA)):PT X (.UnaryOp .Not a pos) (cY X.K (vJ tA)):=(Hf ha).imp fun τ H Q zz=>by
 obtain⟨σ,G,Q3,rs,rg,h,k⟩:=zz;exact (
  ⟨σ,G,_,rs,rg,h,fun c G1 H1 q k1 rg1=>k (!c) G1 H1 q k1 rg1⟩)
def F1(ta tb:bH):bH:=fun σ G Q=>ta σ G fun x G1=>match x with
 | .bl c=>if c=true then tb σ G1 Q else Q (.bl false) G1
 | _=>False
def Lq(ta tb:bH):bH:=fun σ G Q=>ta σ G fun x G1=>match x with
 | .bl c=>if c=true then Q (.bl true) G1 else tb σ G1 Q
 | _=>False
theorem Gs{op}(h:PE X a (aE X.K ta)):PE X (.BoolOp op [a] pos) (aE X.K ta):=Hl h
theorem Gu(ha:PE X a (aE X.K ta))(hb:PE X (.BoolOp .And (b::es) pos) (aE X.K tb)):PE X (.BoolOp .And (a::b::es) pos) (aE X.K (F1 ta tb)):=(Hs ha hb).imp fun τ H Q zz=>by
 obtain⟨σ,G,Q3,rs,rg,h,k⟩:=zz;exact (
   ⟨σ,G,_,rs,rg,h,fun x G1 v H1 q k1 rg1 re=>by
    cases x with
    | bl c=>
     refine⟨c,re.bl,?_⟩;cases c with
     | true=>exact iteT ⟨σ,G1,Q3,rs.mono (k1.stb rg),rg1,q,k.base k1⟩
     | false=>exact iteF (k _ G1 _ H1 q k1 rg1 (.of h8))
    | _=>exact q.elim⟩)
def JD(ta:bH):bH:=fun σ G Q=>ta σ G fun x G1=>match x with
 | .bl c=>Q (.bl (!c)) G1
 | _=>False
def Lr(c:pK)(ta tb:bH):bH:=fun σ G Q=>c σ G fun b G1=>if b=true then ta σ G1 Q else tb σ G1 Q
def GM(G:Gp):D->Option Bool
 | .non=>some false
 | .bl b=>some b
 | .int i=>some (i != 0)
 | .str y=>some ((y.length:Int) != 0)
 | d=>(EI G d).map fun ds=>!ds.isEmpty
def ux(t:bH):pK:=fun σ G Q=>t σ G fun d G'=>match GM G' d with
 | some b=>(match d with|.str y=>y.length<=LL|_=>True)/\Q b G'
 | none=>False
theorem jO(ha:PE X a (aE X.K ta))(he:∀ whole,Qh a X.env whole=(do let v <- whole;Ob a.pos;holding [v] (truthy v)):=by intro _;rfl):PT X a (cY X.K (ux ta)):=
 (Dt ha he).imp fun τ H Q zz=>by
 obtain⟨σ,G,Q3,rs,rg,h,k⟩:=zz;exact (
  ⟨σ,G,_,rs,rg,h,fun d G' v H' q k' rg' re=>by
    cases d with
    | non=>rw[re.non];exact⟨false,rfl,k _ G' H' q.2 k' rg'⟩
    | bl b=>rw[re.bl];exact⟨b,rfl,k _ G' H' q.2 k' rg'⟩
    | int i=>rw[re.int];exact⟨_,rfl,k _ G' H' q.2 k' rg'⟩
    | str y=>rw[re.str];exact⟨_,⟨q.1,rfl⟩,k _ G' H' q.2 k' rg'⟩
    | ty n=>exact q.elim
    | _=>
     split at q
     ·rename_i b hb;simp only[GM,Option.map_eq_some_iff]at hb;obtain⟨ds,hq,rfl⟩:=hb;obtain⟨a,xs,rfl,s,r⟩:=ur hq re rg';have el:(!ds.isEmpty)=!xs.isEmpty:=by
       have:=r.length;cases ds<;>cases xs<;>simp_all
      refine⟨!xs.isEmpty,?_,k _ G' H' (by rw[<- el];exact q.2) k' rg'⟩
      rcases s with s|s
      ·exact .inl ⟨xs,s,rfl⟩
      ·exact .inr (.inl ⟨xs,s,rfl⟩)
     ·exact q.elim⟩)
end
end L3
namespace L2
open PySem PySem.Spec PyProof.Rows
section
variable{X:Cx}
def IX(K:PySem.W.Frag):R2:=fun x y H Q=>∃ l b xs zs,x=.ref l/\y=.ref b/\jT K H l xs/\jT K H b zs/\xs.length+zs.length<=LL/\∀ p,H p=none->Q (.ref p) (bv H p (.lst (xs ++ zs)))
theorem Fy:iW X (MZ .Add) (IX X.K):=by
 intro pins s σ H x y v u Q I rx ry h;obtain⟨l,b,xs,zs,rfl,rfl,hH,hB,hz,q⟩:=h;cases rx;cases ry;obtain⟨its,r,pl,z⟩:=I.list hH;obtain⟨its2,r2,pl2,z2⟩:=I.list hB;obtain⟨⟨cls,dd,data,sl⟩,ho,hc,n,hd⟩:=pl.isList;obtain⟨⟨cls2,dd2,data2,sl2⟩,ho2,hc2,n2,hd2⟩:=pl2.isList;simp only at hc hd hc2 hd2;subst hc hd hc2 hd2;have hl:=r.length;have hl2:=r2.length;have e:its.toArray ++ its2.toArray=(its ++ its2).toArray:=by simp
 refine Qi ⟨_,ho,rfl⟩ ⟨_,ho2,rfl⟩ noFill_list_add seq_list_add PySem.F.slot_list_add PySem.F.entry_list_add (PySem.F.args_list_add_2 _ _) (list_addW l b its.toArray its2.toArray n n2 dd dd2 sl sl2 (by simp only[LM];omega)) ⟨ho,ho2,?_⟩
 rw[e];exact⟨.ref _,_,I.lnew (t':=s.toks) (r.append r2) (by rw[Mz];omega),rfl,q _ I.fresh⟩
end
end L2
namespace L3
open PySem PySem.Spec PyProof.Rows L2
section
variable{X:Cx}
def ib:R3:=fun x y G Q=>match x,y with
 | .int i,.int j=>Q (.int (i+j)) G
 | .str i,.str j=>i.length+j.length<=LL/\Q (.str (i ++ j)) G
 | .tup xs,.tup ys=>xs≠[]/\xs.length+ys.length<=LL/\Q (.tup (xs ++ ys)) G
 | x,y=>match n6 G x,n6 G y with
  | some xs,some ys=>xs.length+ys.length<=LL/\Q (.fl (xs ++ ys)) G
  | _,_=>False
theorem eZ:iW X (MZ .Add) (d5 X.K ib):=by
 refine ((Hz (X:=X)).or ((Aj (X:=X)).or ((Fx (X:=X)).or (Fy (X:=X))))).imp fun v u H Q zz=>?_;obtain⟨x,y,G0,H0,G,Q3,rx,ry,rg,h,k⟩:=zz;unfold ib at h;split at h
 ·rename_i i j;exact .inl ⟨i,j,rx.int,ry.int,k _ G _ H h Kp.refl rg (.of fH)⟩
 ·rename_i i j;exact .inr (.inl ⟨i,j,rx.str,ry.str,h.1,k _ G _ H h.2 Kp.refl rg (.of iC)⟩)
 ·rename_i ds es;obtain⟨a,xs,rfl,s1,r1⟩:=rx.tup;obtain⟨b,ys,rfl,s2,r2⟩:=ry.tup;have l1:=r1.length;have l2:=r2.length;refine .inr (.inr (.inl ⟨a,b,xs,ys,rfl,rfl,s1,s2,fun z=>h.1 ?_,by have:=h.2.1;omega,fun z=>?_,fun _ p hp=>?_⟩))
  ·subst z;exact length_eq_zero_iff.mp l1
  ·subst z;have:es=[]:=length_eq_zero_iff.mp l2;subst this;have hh:=h.2.2;rw[M8]at hh;exact k _ G _ H hh Kp.refl rg (.of (qc s1 r1))
  ·exact k _ G _ _ h.2.2 (Kp.laid hp) (rg.laid hp) (.of (mz rg hp (r1.append r2)))
 ·split at h
  ·rename_i ds es hx hy;obtain⟨a,xs,rfl,s1,r1⟩:=kI hx rx rg;obtain⟨b,ys,rfl,s2,r2⟩:=kI hy ry rg;have l1:=r1.length;have l2:=r2.length;exact .inr (.inr (.inr ⟨a,b,xs,ys,rfl,rfl,s1,s2,by have:=h.1;omega,fun p hp=>k _ G _ _ h.2 (Kp.laid hp) (rg.laid hp) (xO rg hp (r1.append r2))⟩))
  ·exact h.elim
def oI(C:Int->Int->Prop)(g:Int->Int->D):R3:=fun x y G Q=>match x,y with
 | .int i,.int j=>C i j/\Q (g i j) G
 | _,_=>False
def Gv(g:Int->Int->D):R3:=fun x y G Q=>match x,y with
 | .int i,.int j=>Q (g i j) G
 | _,_=>False
theorem K_{f:LC->LC->Sem LC}{C:Int->Int->Prop}{g:Int->Int->V}{g3:Int->Int->D}(h:iW X f (rI C g))(r:∀ i j H,RD X.K H (g3 i j) (g i j)):iW X f (d5 X.K (oI C g3)):=
 h.imp fun v u H Q zz=>by
  obtain⟨x,y,G0,H0,G,Q3,rx,ry,rg,h,k⟩:=zz;unfold oI at h;split at h
  ·rename_i i j;exact⟨i,j,rx.int,ry.int,h.1,k _ G _ H h.2 Kp.refl rg (.of (r i j H))⟩
  ·exact h.elim
theorem GH{f:LC->LC->Sem LC}{g:Int->Int->V}{g3:Int->Int->D}(h:iW X f (G_ g))(r:∀ i j H,RD X.K H (g3 i j) (g i j)):iW X f (d5 X.K (Gv g3)):=
 h.imp fun v u H Q zz=>by
  obtain⟨x,y,G0,H0,G,Q3,rx,ry,rg,h,k⟩:=zz;unfold Gv at h;split at h
  ·rename_i i j;exact⟨i,j,rx.int,ry.int,k _ G _ H h Kp.refl rg (.of (r i j H))⟩
  ·exact h.elim
def DR:R3:=Gv fun i j=>.int (i - j)
theorem CL:iW X (MZ .Sub) (d5 X.K DR):=GH Hw fun _ _ _=>fH
def gw:R3:=oI (fun _ j=>0 < j) fun i j=>.int (i % j)
theorem dJ:iW X (MZ .Mod) (d5 X.K gw):=K_ Hy fun _ _ _=>fH
def B3:R3:=oI Ka fun i j=>.int (i / j)
theorem AU:iW X (MZ .FloorDiv) (d5 X.K B3):=K_ Fw fun _ _ _=>fH
def KF:R3:=oI K9 fun i j=>.int (i ^ j.toNat)
def FA:R3:=Gv fun i j=>.bl (decide (i < j))
theorem zM:iW X (Mj .Lt) (d5 X.K FA):=GH Jm fun _ _ _=>h8
def IC:R3:=Gv fun i j=>.bl (decide (i<=j))
theorem ER:iW X (Mj .LtE) (d5 X.K IC):=GH Jn fun _ _ _=>h8
def Lc:R3:=Gv fun i j=>.bl (decide (j < i))
def Lo:R3:=Gv fun i j=>.bl (decide (j<=i))
def au:pL:=fun _ G Q=>Q [] G
def ae(ta:bH)(tr:pL):pL:=fun σ G Q=>ta σ G fun x G1=>tr σ G1 fun xs G2=>Q (val x::xs) G2
variable{e:L7}{es:List L7}{te:bH}{t:pL}{pos:Pos}
theorem al:PA X [] (fq X.K au):=Ht.imp fun τ H Q zz=>by
 obtain⟨σ,G,Q3,rs,rg,h,k⟩:=zz;exact (
  k [] G [] H h Kp.refl rg RDs.nil)
theorem aa(ha:PE X e (aE X.K te))(hr:PA X es (fq X.K t))(hs:LR (e::es) X.env=(false,eval e X.env)::LR es X.env:=by rfl):PA X (e::es) (fq X.K (ae te t)):=
 (Fq (dW ha) hr hs).imp fun τ H Q zz=>by
 obtain⟨σ,G,Q3,rs,rg,h,k⟩:=zz;exact (
  ⟨σ,G,_,rs,rg,h,fun x G1 v H1 q k1 rg1 rd=>⟨σ,G1,_,rs.mono (k1.stb rg),rg1,q,fun ds G2 vs H2 q2 k2 rg2 rds=>
    k _ G2 _ H2 q2 (k1.trans k2) rg2 (RDs.cons (RD.mono (k2.stb rg1) _ _ rd) rds)⟩⟩)
def fh(t:pL):bH:=fun σ G Q=>t σ G fun ds G1=>ds.length<=LL/\Q (.tup ds) G1
def pG(t:pL):bH:=fun σ G Q=>t σ G fun ds G1=>ds.length<=LL/\Q (.fl ds) G1
theorem cS{x1}(h:PA X es (fq X.K t)):PE X (.Tuple es x1 pos) (aE X.K (fh t)):=(Hj h).imp fun τ H Q zz=>by
 obtain⟨σ,G,Q3,rs,rg,h,k⟩:=zz;exact (
  ⟨σ,G,_,rs,rg,h,fun ds G1 vs H1 q k1 rg1 rds=>
   ⟨by rw[<- rds.length];exact q.1,fun p hp=>k _ G1 _ _ q.2 (k1.trans (Kp.laid hp)) (rg1.laid hp) (.of (mz rg1 hp rds))⟩⟩)
theorem kM(h:PA X es (fq X.K t)):PE X (.List es pos) (aE X.K (pG t)):=(Hn h).imp fun τ H Q zz=>by
 obtain⟨σ,G,Q3,rs,rg,h,k⟩:=zz;exact (
  ⟨σ,G,_,rs,rg,h,fun ds G1 vs H1 q k1 rg1 rds=>
   ⟨by rw[<- rds.length];exact q.1,fun p hp=>k _ G1 _ _ q.2 (k1.trans (Kp.laid hp)) (rg1.laid hp) ((xO rg1 hp rds).base k1)⟩⟩)
def strAt(x:Str)(i:Int):Option D:=(jJ x.cps.toList i).map fun c=>.str ⟨#[c]⟩
def fK:R3:=fun x y G Q=>match x,y with
 | .str z,.int i=>z.length<=LL/\match strAt z i with
  | some d=>Q d G
  | none=>False
 | x,.int i=>match EI G x with
  | some ds=>match jJ ds i with
   | some d=>Q d G
   | none=>False
  | none=>False
 | _,_=>False
theorem F9{K:PySem.W.Frag}{H:Hp}{ds:List D}{xs:List V}{i:Int}{d:D}(r:RDs K H ds xs)(h:jJ ds i=some d):∃ v,jJ xs i=some v/\RD K H d v:=by
 unfold jJ at h ⊢;rw[<- r.length];cases e:FO ds.length i with
 | none=>rw[e]at h;cases h
 | some j=>
  rw[e]at h;exact r.get h
theorem Ke:CG X (d5 X.K fK):=(HX (X:=X)).imp fun v u H Q zz=>by
 obtain⟨x,y,G0,H0,G,Q3,rx,ry,rg,h,k⟩:=zz;unfold fK at h;split at h
 ·rename_i z i;obtain⟨h1,h2⟩:=h;split at h2
  ·rename_i d hd;unfold strAt at hd;rw[Option.map_eq_some_iff]at hd;obtain⟨c,hc,rfl⟩:=hd;exact .inr (.inr ⟨z,i,c,rx.str,ry.int,h1,hc,k _ G _ H h2 Kp.refl rg (.of iC)⟩)
  ·exact h2.elim
 ·rename_i i _;split at h
  ·rename_i ds hds;split at h
   ·rename_i d hd;obtain⟨a,xs,rfl,s,r⟩:=ur hds rx rg;obtain⟨w,hw,rd⟩:=F9 r hd;have fin:=k _ G _ H h Kp.refl rg (.of rd);rcases s with s|s
    ·exact .inl ⟨a,xs,i,w,rfl,ry.int,s,hw,fin⟩
    ·exact .inr (.inl ⟨a,xs,i,w,rfl,ry.int,s,hw,fin⟩)
   ·exact h.elim
  ·exact h.elim
 ·exact h.elim
variable{a b:L7}{ta tb:bH}
theorem b_(ha:PE X a (aE X.K ta))(hb:PE X b (aE X.K tb))(hs:BB b:=by exact fun _ _=>rfl):PE X (.Subscript a b pos) (aE X.K (bG fK ta tb)):=(Jg Ke ha hb hs).imp fun _ _ _ h=>two rfl h
abbrev Iw:=fO->Gp->(Option Int->Gp->Prop)->Prop
def Bf(K:PySem.W.Frag)(t:Iw):TO:=fun τ H Q=>∃ σ G Q3,RS K H σ τ/\RG K H G/\t σ G Q3/\∀ o G' H',Q3 o G'->Kp G H G' H'->RG K H' G'->Q o H'
theorem PO.imp{e:Option L7}{t t':TO}(h:PO X e t)(i:∀ σ H Q,t' σ H Q->t σ H Q):PO X e t':=fun pins s σ H Q I q=>h pins s σ H Q I (i σ H Q q)
def EH:Iw:=fun _ G Q=>Q none G
def iI(t:bH):Iw:=fun σ G Q=>t σ G fun x G1=>match x with
 | .int i=>Q (some i) G1
 | _=>False
theorem l8:PO X none (Bf X.K EH):=PO.imp Fi fun τ H Q zz=>by
 obtain⟨σ,G,Q3,rs,rg,h,k⟩:=zz;exact (
  k none G H h Kp.refl rg)
theorem gf(h:PE X e (aE X.K te)):PO X (some e) (Bf X.K (iI te)):=PO.imp (Fh h) fun τ H Q ⟨σ,G,Q3,rs,rg,h,k⟩=>⟨σ,G,_,rs,rg,h,fun d G1 v H1 q k1 rg1 re=>by
 cases d with
 | int i=>exact⟨i,re.int,k _ G1 H1 q k1 rg1⟩
 | _=>exact q.elim⟩
abbrev J4:=D->Option Int->Option Int->Gp->mZ->Prop
def D7(K:PySem.W.Frag)(r:J4):V->Option Int->Option Int->Hp->VK->Prop:=fun v lo hi H Q=>∃ x G0 H0 G Q3,RE K G0 H0 G H x v/\RG K H G/\r x lo hi G Q3/\uu K G H Q3 Q
def Cp(r:J4)(te:bH)(tl th:Iw):bH:=fun σ G Q=>te σ G fun x G1=>tl σ G1 fun l G2=>th σ G2 fun u G3=>r x l u G3 Q
theorem gd{r:J4}{lo hi:Option L7}{tl th:Iw}{p2:Pos}(hr:CB X (D7 X.K r))(he:PE X e (aE X.K te))(hl:PO X lo (Bf X.K tl))(hu:PO X hi (Bf X.K th)):PE X (.Subscript e (.Slice lo hi none p2) pos) (aE X.K (Cp r te tl th)):=
 (DI hr he hl hu).imp fun τ H Q zz=>by
 obtain⟨σ,G,Q3,rs,rg,h,k⟩:=zz;exact (
  ⟨σ,G,_,rs,rg,h,fun x G1 v H1 q1 k1 rg1 re=>⟨σ,G1,_,rs.mono (k1.stb rg),rg1,q1,fun l G2 H2 q2 k2 rg2=>
    ⟨σ,G2,_,rs.mono ((k1.trans k2).stb rg),rg2,q2,fun u G3 H3 q3 k3 rg3=>⟨x,G,H,G3,Q3,re.wait (k2.trans k3) rg1,rg3,q3,k.base (k1.trans (k2.trans k3))⟩⟩⟩⟩)
def cutD(ds:List D)(lo hi:Option Int):List D:=(ds.drop (HT.sIx ds.length 0 lo)).take (HT.sIx ds.length ds.length hi - HT.sIx ds.length 0 lo)
theorem Bp{K:PySem.W.Frag}{H:Hp}{ds:List D}{xs:List V}(r:RDs K H ds xs)(lo hi:Option Int):RDs K H (cutD ds lo hi) (zw xs lo hi):=by
 unfold cutD zw;rw[r.length];exact (r.drop _).take _
end
end L3
namespace L2
open PySem PySem.Spec PyProof.Rows
def K7(xs:List V):It:=⟨fun i _=>i < xs.length,fun i H x H'=>H'=H/\xs[i]?=some x,fun i _=>i=xs.length⟩
def dO(x:Str):List V:=x.cps.toList.map fun c=>V.str ⟨#[c]⟩
theorem m3(x:Str):(dO x).length=x.cps.size:=by simp[dO]
theorem CQ{P:LS}{w:L6}{K:PySem.W.Frag}{tg:L7}(it:LB)(x:Str)(t:Tok)(ty:String)(hty:ty="str_ascii_iterator"\/ty="str_iterator"):
  Turn P w K tg (K7 (dO x)) [it] it (fun i h=>h.IsStrIter it ty x t i) where
 mem:=by simp
 obj:=fun i h st b hb=>by
  have e:b=it:=by simpa using hb
  subst e;obtain⟨o,e,c,d⟩:=st;exact⟨o,e,fun v z=>by rw[d]at z;cases z⟩
 keep:=fun i h h' st k=>let ⟨o,ho,r⟩:=st;⟨o,k it (by simp) o ho,r⟩
 item:=by
  intro X hP hw hK hc i pins s σ H E I hf st hg;subst hP hw hK;obtain⟨f0,f1,f2,f3,f4,f5⟩:=hf it (by simp)
  have W:Walks X.prog X.w X.A it [it] [it] x.cps.size (SignAt x) (fun i h=>h.IsStrIter it ty x t i):=by
   rcases hty with rfl|rfl
   ·exact Walks.strAscii (I.ok.hd hc) it x t
   ·exact Walks.strWide (I.ok.hd hc) it x t
  refine W.item i s _ _ (by have:i < (dO x).length:=hg;rw[m3]at this;exact this) st fun v h' tk hv st' kk=>?_
  obtain⟨c,u,hc',rfl⟩:=hv;have I1:Inv X pins σ H { s with heap:=h',toks:=tk }:=I.turned (fun b o hb e=>kk b o (by simpa using hb) e) f0 f1 f3 f4 f5
  obtain⟨o,e,c1,d⟩:=id st';refine⟨_,rfl,zk (s:={ s with heap:=h',toks:=tk }) e c1 d (by rcases hty with rfl|rfl<;>decide) ⟨.str ⟨#[c]⟩,H,I1,⟨u,rfl⟩,⟨rfl,?_⟩,st',fun b hb=>(hf b hb).1⟩⟩
  simp only[dO,L4,Array.getElem?_toList,hc',Option.map_some]
 done:=by
  intro X hP hw hK hc i pins s σ H E I hf st hg;subst hP hw hK;obtain⟨f0,f1,f2,f3,f4,f5⟩:=hf it (by simp)
  have W:Walks X.prog X.w X.A it [it] [it] x.cps.size (SignAt x) (fun i h=>h.IsStrIter it ty x t i):=by
   rcases hty with rfl|rfl
   ·exact Walks.strAscii (I.ok.hd hc) it x t
   ·exact Walks.strWide (I.ok.hd hc) it x t
  have e:i=x.cps.size:=by have:i=(dO x).length:=hg;rw[m3]at this;exact this
  subst e;exact W.done s _ _ st fun h' tk kk=>⟨rfl,I.turned (fun b o hb e=>kk b o (by simpa using hb) e) f0 f1 f3 f4 f5⟩
 self:=fun A i s Q E st h=>by
  rcases hty with rfl|rfl
  ·exact wpAny_pyIter_striter_ascii st h
  ·exact wpAny_pyIter_striter_wide st h
section
variable{X:Cx}{tg:L7}
theorem AJ{env:Env}:∀ (names:List (Str×Om)) (sc:NV),sc.names=names->(∀ x∈names,x.2=.free->∃ c,env.cells.lookup x.1=some c)->
  ∃ cl,QP sc env=pure cl/\(∀ x c,cl.lookup x=some c->env.cells.lookup x=some c)/\(∀ x∈names,x.2=.free->∃ c,cl.lookup x.1=some c):=by
 have loop:∀ (names:List (Str×Om)) (cs:List (Str×LB)),(∀ x∈names,x.2=.free->∃ c,env.cells.lookup x.1=some c)->(∀ x c,cs.lookup x=some c->env.cells.lookup x=some c)->
   ∃ cl,(forIn names cs fun (x:Str×Om) (r:List (Str×LB))=>(match x with
    | (name,kind)=>if (kind == NameKind.free)=true then (do let a <- cellOf env name;pure (ForInStep.yield ((name,a)::r)))else pure (ForInStep.yield r):Sem (ForInStep (List (Str×LB)))))=(pure cl:Sem (List (Str×LB)))/\
    (∀ x c,cl.lookup x=some c->env.cells.lookup x=some c)/\(∀ x,(∃ c,cs.lookup x=some c)->∃ c,cl.lookup x=some c)/\(∀ x∈names,x.2=.free->∃ c,cl.lookup x.1=some c):=by
  intro names
  induction names with
  | nil=>intro cs _ h2;exact⟨cs,rfl,h2,fun _ z=>z,fun _ z=>nomatch z⟩
  | cons y r ih=>
   obtain⟨name,kind⟩:=y;intro cs h1 h2;cases hk:(kind == NameKind.free) with
   | false=>
    obtain⟨cl,e,a,b,c⟩:=ih cs (fun x hx=>h1 x (LU _ hx)) h2;refine⟨cl,?_,a,b,fun x hx hf=>?_⟩
    ·rw[NO];simp only[hk,Bool.false_eq_true,if_false];exact e
    ·rcases L_.mp hx with rfl|hx
     ·rw[show kind=NameKind.free from hf]at hk;cases hk
     ·exact c x hx hf
   | true=>
    have hkf:kind=NameKind.free:=by simpa using hk
    obtain⟨ca,hca⟩:=h1 (name,kind) LV hkf;have UX:env.cells.lookup name=some ca:=hca;have nx:∀ x c,((name,ca)::cs).lookup x=some c->env.cells.lookup x=some c:=fun x c hx=>by
     rw[MX]at hx;split at hx
     ·rename_i hb;have:x=name:=by simpa using hb
      cases hx;rw[this];exact UX
     ·exact h2 x c hx
    obtain⟨cl,e,a,b,c⟩:=ih ((name,ca)::cs) (fun x hx=>h1 x (LU _ hx)) nx;refine⟨cl,?_,a,fun x ⟨c',hx⟩=>?_,fun x hx hf=>?_⟩
    ·rw[NO];simp only[hk,if_true];unfold cellOf;rw[UX];exact e
    ·by_cases hxn:x=name
     ·exact b x ⟨ca,by rw[MX,hxn,beq_self_eq_true]⟩
     ·exact b x ⟨c',by rw[MX,show (x == name)=false by simpa using hxn];exact hx⟩
    ·rcases L_.mp hx with rfl|hx
     ·exact b name ⟨ca,by rw[MX,beq_self_eq_true]⟩
     ·exact c x hx hf
 intro names sc hsc h;subst hsc;obtain⟨cl,e,a,_,c⟩:=loop sc.names [] h (fun x c z=>by simp at z)
 refine⟨cl,?_,a,c⟩;unfold QP;show (forIn sc.names [] _ >>= fun r=>pure r)=_
 refine Eq.trans ?_ (congrArg (fun m=>m >>= fun r=>(pure r:Sem (List (Str×LB)))) e);rfl
def bS(X:Cx)(N':List Str)(scope:NV)(cl:List (Str×LB))(C:LB)(s₀:LF)(H₀:Hp)(fp:List LB):Cx:=
 { X with N:=N',s₀:=s₀,H₀:=H₀,env:=compEnvC scope cl C X.env,outer:=X.stack,ex:=fp,fn:=fun _=>false,pn:=[],xe:=fun _ _=>False }
end
section
variable{prog:LS}{w:L6}{A:LY}{R:PL->LF->Prop}{s:LF}
theorem mv{elt target iter:L7}{ifs:List L7}{scope:NV}{pos:Pos}{it acc:LC}{env:Env}(J:Nat->LF->Prop)
  (turn:∀ n s,J n s->LJ (LN prog w) A (MT it) (fun r s₁=>match r with
   | none=>R (.ok .next) s₁
   | some v=>LJ (LN prog w) A (NK target it v) (fun _ s₁'=>LJ (LN prog w) A (assign target env v) (fun _ s₂=>
     LJ (LN prog w) A (forIn ifs true fun c r=>if r=true then do let ok <- Qh c env (eval c env);pure (ForInStep.yield ok)else pure (ForInStep.yield r)) (fun ok s₃=>
      if ok=true then LJ (LN prog w) A (eval elt env) (fun x s₄=>
       LJ (LN prog w) A (call (.builtin "list.append") [acc,x]) (fun _ s₅=>∃ m,m < n/\J m s₅) (fun _ _=>False) s₄) (fun _ _=>False) s₃
      else ∃ m,m < n/\J m s₃) (fun _ _=>False) s₂) (fun _ _=>False) s₁') (fun _ _=>False) s₁) (fun _ _=>False) s)
  (n:Nat) (h:J n s):NN (LN prog w) A (.compLoop (.ListComp elt [⟨target,iter,ifs,0⟩] scope pos) 0 it acc env) R s:=by
 refine codeAny_loop rfl J (fun n s hI=>?_) n h;show LJ _ A ((compTurn (.ListComp elt [⟨target,iter,ifs,0⟩] scope pos) 0 it acc env).onRaise (fun x=>do noteFrame x env;theTreesLotGoes x)) _ _ s
 refine wpAny_noted ?_;rw[compTurn_list];refine LA (OX (LA (MC (turn n s hI) (fun r s₁ h₁=>?_) fun _ _ h'=>h'.elim)));cases r with
 | none=>exact LD h₁
 | some v=>
  refine LA (MC h₁ (fun _ s₁' h₁'=>?_) fun _ _ h'=>h'.elim);refine LA (MC h₁' (fun _ s₂ h₂=>LA (MC h₂ (fun ok s₃ h₃=>?_) fun _ _ h'=>h'.elim)) fun _ _ h'=>h'.elim);cases ok with
  | false=>exact LD ⟨rfl,h₃⟩
  | true=>exact LA (LA (MC h₃ (fun x s₄ h₄=>LA (MC h₄ (fun _ s₅ h₅=>LD (LD ⟨rfl,h₅⟩)) fun _ _ h'=>h'.elim)) fun _ _ h'=>h'.elim))
end
def EK(X:Cx)(ifs:List L7)(tt:TT):Prop:=
 ∀ (pins:List (LB×Obj)) (s:LF) (σ:St) (H:Hp) (Q:Bool->Hp->Prop),Inv X pins σ H s->tt σ H Q->
  LJ (LN X.prog X.w) X.A (forIn ifs true fun c r=>if r=true then do let ok <- Qh c X.env (eval c X.env);pure (ForInStep.yield ok)else pure (ForInStep.yield r)) (TP X pins σ Q) X.xe s
theorem Fc{X:Cx}:EK X [] (fun _ H Q=>Q true H):=fun pins s σ H Q I h=>wpAny_tests_nil ⟨H,I,h⟩
theorem Fb{X:Cx}{c:L7}{tt:TT}(h:PT X c tt):EK X [c] tt:=fun pins s σ H Q I q=>wpAny_tests_one (h pins s σ H Q I q)
def AW(ent:St->St)(wi:TI)(g:TG)(tt:TT)(te:TE):TE:=fun σ H Q=>wi σ H fun J H1=>∀ D,H1 D=none->∃ W:Nat->Nat->List V->St->Hp->Prop,(∃ m,W 0 m [] (ent σ) (bv H1 D (.lst [])))/\
 ∀ i m ys σ1 H2,W i m ys σ1 H2->H2 D=some (.lst ys)/\((J.stop i H2/\Q (.ref D) H2)\/(J.go i H2/\∃ N:List V->St->Hp->Prop,(∀ ys' σ' H',N ys' σ' H'->∃ m',m' < m/\W (i+1) m' ys' σ' H')/\
  ∀ x H',J.yld i H2 x H'->g x σ1 H' fun σ2 H3=>tt σ2 H3 fun b H4=>if b=true then te σ2 H4 fun y H5=>H5 D=some (.lst ys)/\ys.length < LL/\N (ys ++ [y]) σ2 (bv H5 D (.lst (ys ++ [y])))else N ys σ2 H4))
theorem iK{scope:NV}{env:Env}(Ua:∀ y∈scope.names,y.2≠.cell){x:Str}(h:(Pw scope env).names.lookup x=some .cell\/(Pw scope env).names.lookup x=some .free):∃ y∈scope.names,y.1=x/\y.2=.free:=by
 have go:∀ (names:List (Str×Om)),(∀ y∈names,y.2≠.cell)->∀ k,(names.map fun (n,k)=>if (k == .free && env.scope.kind == .function && env.kindOf n == some .cell)then (n,NameKind.cell)else (n,k)).lookup x=some k->(k=.cell\/k=.free)->∃ y∈names,y.1=x/\y.2=.free:=by
  intro names
  induction names with
  | nil=>intro _ k e _;simp at e
  | cons y r ih=>
   obtain⟨n,kd⟩:=y;intro hc k e hk;rw[L1,MX]at e;split at e
   ·rename_i hb;cases e;have nc:kd≠.cell:=hc (n,kd) LV;refine⟨(n,kd),LV,?_,?_⟩
    ·split at hb
     ·simpa using (eq_of_beq hb).symm
     ·simpa using (eq_of_beq hb).symm
    ·split at hk
     ·rename_i hq;simp only[Bool.and_eq_true]at hq
      simpa using hq.1.1
     ·rcases hk with hk|hk
      ·exact absurd hk nc
      ·exact hk
   ·obtain⟨y,hy,q⟩:=ih (fun y hy=>hc y (LU _ hy)) k e hk;exact⟨y,LU _ hy,q⟩
 rcases h with h|h
 ·exact go scope.names Ua _ h (.inl rfl)
 ·exact go scope.names Ua _ h (.inr rfl)
theorem m4{scope:NV}{env:Env}{x:Str}(h:(Pw scope env).names.lookup x=some .local):∃ y∈scope.names,y.1=x/\y.2=.local:=by
 have go:∀ (names:List (Str×Om)),(names.map fun (n,k)=>if (k == .free && env.scope.kind == .function && env.kindOf n == some .cell)then (n,NameKind.cell)else (n,k)).lookup x=some .local->∃ y∈names,y.1=x/\y.2=.local:=by
  intro names
  induction names with
  | nil=>intro e;simp at e
  | cons y r ih=>
   obtain⟨n,kd⟩:=y;intro e;rw[L1,MX]at e;split at e
   ·rename_i hb;refine⟨(n,kd),LV,?_,?_⟩
    ·split at hb
     ·simpa using (eq_of_beq hb).symm
     ·simpa using (eq_of_beq hb).symm
    ·split at e
     ·cases e
     ·simpa using e
   ·obtain⟨y,hy,q⟩:=ih e;exact⟨y,LU _ hy,q⟩
 exact go scope.names h
structure CompOk(X:Cx)(scope:NV)(T M:List Str):Prop where
 calm:X.calm=true
 kind:scope.kind=.function
 cell:∀ y∈scope.names,y.2≠.cell
 names:∀ y∈scope.names,y.2=.local->scope.names.lookup y.1=some .local
 loc:∀ y∈scope.names,y.2=.local->y.1∈((".0":Str)::T)
 len:M.length=X.N.length
 sub:∀ (i:Nat) x,M[i]?=some x->X.N[i]?=some x\/∀ y∈scope.names,y.1≠x
 off:∀ x∈M,x∉((".0":Str)::T)
 free:∀ y∈scope.names,y.2=.free->X.env.kindOf y.1=some .cell\/X.env.kindOf y.1=some .free
def ent(T:List Str)(σ:St):St:=T.map (fun _=>none) ++ σ
section
variable{X:Cx}{pins:List (LB×Obj)}{σ:St}{H:Hp}{s:LF}
theorem Inv.block{scope:NV}{T M:List Str}{fp:List LB}{h₁:L5}{tk:Nat}{cl:List (Str×LB)}(I:Inv X pins σ H s)(ok:CompOk X scope T M)(hf:∀ b∈fp,mx X pins H b)(ho:∀ b∈fp,∃ o,s.heap.get? b=some o)
  (hc1:∀ x c,cl.lookup x=some c->X.env.cells.lookup x=some c) (hc2:∀ x∈scope.names,x.2=.free->∃ c,cl.lookup x.1=some c)
  (hns:h₁.Ns s.heap.objs.size fun _=>none) (kp:∀ b o,s.heap.get? b=some o->h₁.get? b=some o):
  Inv (bS X (T ++ M) scope cl s.heap.objs.size s H fp) [] (ent T σ) H { s with heap:=h₁,toks:=tk }:=by
 have fpC:∀ b∈fp,b≠s.heap.objs.size:=fun b hb z=>by
  obtain⟨o,e⟩:=ho b hb;exact absurd (LQ e) (by rw[z];exact Nat.lt_irrefl _)
 have cellsOk:∀ x c,(bS X (T ++ M) scope cl s.heap.objs.size s H fp).env.cells.lookup x=some c->X.env.cells.lookup x=some c:=hc1;refine⟨⟨I.ok.mod,ok.kind,I.ok.glob,I.ok.blt,le_refl _,fun x y c h1 h2=>I.ok.inj x y c (hc1 x c h1) (hc1 y c h2),fun x hx=>?_,(fun x c h=>absurd h (by show ¬ (false=true);decide)),I.ok.hd,I.ok.frames,.inl rfl,fun b hb=>⟨fpC b hb,fun x c e=>(hf b hb).2.2.2.2.1 x c (hc1 x c e)⟩,I.bs,le_trans I.ok.bsz I.sz,fun b o e hb=>?_,fun b hb hs=>?_,I.stack,I.stkFree⟩,
  rfl,I.bare,Un.kept kp,⟨_,hns,fun i x v e1 e2 e3=>?_⟩,fun x c e=>?_,I.hok.fresh (le_refl _),fun x c e=>I.freeC x c (hc1 x c e),fun p hp=>absurd (show p∈([]:List (LB×Obj))from hp) (by simp),I.hok.kept kp,?_⟩
 ·obtain⟨y,hy,e,hfr⟩:=iK ok.cell hx;rw[<- e];exact hc2 y hy hfr
 ·rcases (hf b hb).2.2.2.1 with z|z
  ·exact I.ok.noex b o e z
  ·exact absurd (Me (LQ e) (le_trans I.ok.bsz z)) (Nat.lt_irrefl _)
 ·rcases L_.mp (I.stkSub b hs)with z|z
  ·exact (hf b hb).2.1 z
  ·exact (hf b hb).2.2.1 z
 ·-- a name that is known: it is drawn from around
  have hi:T.length<=i:=by
   refine Nat.le_of_not_lt fun hlt=>?_;unfold ent at e2;rw[List.getElem?_append_left (by simpa using hlt),L4]at e2
   cases q:T[i]? with
   | none=>rw[q]at e2;cases e2
   | some z=>rw[q]at e2;cases e2
  have e0':M[i - T.length]?=some x:=by
   have:=e1;show M[i - T.length]?=some x
   rw[<- List.getElem?_append_right hi];exact this
  have e1':X.N[i - T.length]?=some x:=by
   rcases ok.sub _ x e0' with z|z
   ·exact z
   ·exfalso;rcases e3 with e3|e3|e3
    ·obtain⟨y,hy,e,hl⟩:=m4 e3;exact z y hy e
    ·obtain⟨y,hy,e,_⟩:=iK ok.cell (.inl e3);exact z y hy e
    ·obtain⟨y,hy,e,_⟩:=iK ok.cell (.inr e3);exact z y hy e
  have e2':σ[i - T.length]?=some (some v):=by
   unfold ent at e2;rw[List.getElem?_append_right (by simpa using hi),LG]at e2
   exact e2
  have T_:(Pw scope X.env).names.lookup x=some .cell\/(Pw scope X.env).names.lookup x=some .free:=by
   rcases e3 with e3|e3|e3
   ·obtain⟨y,hy,e,hl⟩:=m4 e3;exact absurd (by rw[<- e];exact ok.loc y hy hl) (ok.off x (LZ e0'))
   ·exact .inl e3
   ·exact .inr e3
  obtain⟨y,hy,e,hfr⟩:=iK ok.cell T_;subst e;have hk:=ok.free y hy hfr;obtain⟨m,hn,hl⟩:=I.loc;obtain⟨u,r,l⟩:=hl _ _ v e1' e2' (by rcases hk with hk|hk;exact .inr (.inl hk);exact .inr (.inr hk))
  refine⟨u,r,.inr ⟨T_,?_⟩⟩;rcases l with ⟨l1,_⟩|⟨_,c,ec,z⟩
  ·rcases hk with hk|hk
   ·rw[hk]at l1;cases l1
   ·rw[hk]at l1;cases l1
  ·obtain⟨c',ec'⟩:=hc2 y hy hfr;have:=hc1 _ _ ec';rw[ec]at this;cases this;obtain⟨o,ho',hd⟩:=z;exact⟨c,ec',o,kp _ _ ho',hd⟩
 ·obtain⟨v,o,ho',hd⟩:=I.cell x c (hc1 x c e);exact⟨v,o,kp _ _ ho',hd⟩
 ·show (ent T σ).length=(T ++ M).length;unfold ent;rw[Mz,Mz,LG,I.len,ok.len]
end
section
variable{X:Cx}{elt tg iter:L7}{ifs:List L7}{scope:NV}{T M:List Str}{pos:Pos}{wi:TI}{g:TG}{tt:TT}{te:TE}
theorem zx{pins:List (LB×Obj)}{s2:LF}{σ:St}{H1:Hp}{Q:VK}{J:It}{it:LB}{fp:List LB}{tn:Nat->L5->Prop}{cl:List (Str×LB)}{RR:LC->LB->PL->LF->Prop}{E:LC->LF->Prop}(ok:CompOk X scope T M)
  (hin:∀ cl C s₀ H₀ fp,PG (bS X (T ++ M) scope cl C s₀ H₀ fp) tg g/\EK (bS X (T ++ M) scope cl C s₀ H₀ fp) ifs tt/\PE (bS X (T ++ M) scope cl C s₀ H₀ fp) elt te)
  (hc1:∀ x c,cl.lookup x=some c->X.env.cells.lookup x=some c) (hc2:∀ x∈scope.names,x.2=.free->∃ c,cl.lookup x.1=some c)
  (I2:Inv X pins σ H1 s2) (Tn:Turn X.prog X.w X.K tg J fp it tn) (st2:tn 0 s2.heap) (f2:∀ b∈fp,mx X pins H1 b)
  (h:∀ D,H1 D=none->∃ W:Nat->Nat->List V->St->Hp->Prop,(∃ m,W 0 m [] (ent T σ) (bv H1 D (.lst [])))/\
   ∀ i m ys σ1 H2,W i m ys σ1 H2->H2 D=some (.lst ys)/\((J.stop i H2/\Q (.ref D) H2)\/(J.go i H2/\∃ N:List V->St->Hp->Prop,(∀ ys' σ' H',N ys' σ' H'->∃ m',m' < m/\W (i+1) m' ys' σ' H')/\
    ∀ x H',J.yld i H2 x H'->g x σ1 H' fun σ2 H3=>tt σ2 H3 fun b H4=>if b=true then te σ2 H4 fun y H5=>H5 D=some (.lst ys)/\ys.length < LL/\N (ys ++ [y]) σ2 (bv H5 D (.lst (ys ++ [y])))else N ys σ2 H4)))
  (hRR:∀ D C H' s',Inv X pins σ H' s'->(∃ m,s'.heap.Ns C m)->H' C=none->C≠X.env.locals->X.s₀.heap.objs.size<=C->(∀ x c,X.env.cells.lookup x=some c->c≠C)->(∀ p∈X.pn ++ pins,p.1≠C)->Q (.ref D) H'->RR (.ref D) C (.ok .next) s'):
  LJ (LN X.prog X.w) X.A (newList []) (fun acc s₃=>LJ (LN X.prog X.w) X.A (newFunctionEnv scope X.env.globals cl [] X.env.qual none .none (some X.env)) (fun cenv s₄=>
   NN (LN X.prog X.w) X.A (.compStart (.ListComp elt [⟨tg,iter,ifs,0⟩] scope pos) 0 (.ref it) acc { cenv with scope:=Pw scope X.env }) (RR acc cenv.locals) s₄) E s₃) E s2:=by
 refine Ma ?_;have hD:H1 s2.heap.objs.size=none:=I2.hok.fresh (le_refl _);obtain⟨W,⟨m0,w0⟩,turn⟩:=h _ hD;have I3:Inv X pins σ (bv H1 s2.heap.objs.size (.lst [])) { s2 with heap:=s2.heap.push { cls:=.type "list",data:=.seq ([]:List LC).toArray } }:=I2.lnew (t':=s2.toks) .nil (Mg _)
 have f3:∀ b∈fp,mx X pins (bv H1 s2.heap.objs.size (.lst [])) b:=fun b hb=>by
  have q:=f2 b hb;obtain⟨o,e,_⟩:=Tn.obj 0 _ st2 b hb;exact⟨by rw[aA (L9 (LQ e))];exact q.1,q.2⟩
 have st3:tn 0 (s2.heap.push { cls:=.type "list",data:=.seq ([]:List LC).toArray }):=Tn.keep _ _ _ st2 fun b _ o e=>LH _ e;generalize hs3:({ s2 with heap:=s2.heap.push { cls:=.type "list",data:=.seq ([]:List LC).toArray } }:LF)=s3 at I3 ⊢
 have UN:tn 0 s3.heap:=by rw[<- hs3];exact st3
 generalize hH3:bv H1 s2.heap.objs.size (.lst [])=H3 at I3 f3 w0;generalize hDD:s2.heap.objs.size=D at *
 refine wpAny_newFunctionEnv ok.cell (by intro y hy;simp at hy) (fun h₁ U_ hsb₁=>?_) ok.kind
 have kp:∀ b o,s3.heap.get? b=some o->h₁.get? b=some o:=fun b o e=>hsb₁.extBut b o (L9 (LQ e)) (LH _ e);have hns:h₁.Ns s3.heap.objs.size fun _=>none:=by simpa using U_
 have I4:Inv (bS X (T ++ M) scope cl s3.heap.objs.size s3 H3 fp) [] (ent T σ) H3 { s3 with heap:=h₁,toks:=s3.toks+([]:List (Str×LC)).length }:=
  I3.block ok f3 (fun b hb=>let ⟨o,e,_⟩:=Tn.obj 0 _ UN b hb;⟨o,e⟩) hc1 hc2 hns kp
 have st4:tn 0 h₁:=Tn.keep _ _ _ UN fun b _ o e=>kp b o e;obtain⟨hG,hT,hE⟩:=hin cl s3.heap.objs.size s3 H3 fp;have back:∀ {SK:List (LB×Obj)} {σ':St} {H':Hp} {s':LF},Inv (bS X (T ++ M) scope cl s3.heap.objs.size s3 H3 fp) SK σ' H' s'->Inv X pins σ H' s':=fun {SK σ' H' s'} I'=>
  I3.call' (ch:=fp) I'.os I'.base I'.hok I'.bare fun b hb=>let q:=f3 b hb;⟨q.2.2.2.1,q.2.1,q.2.2.2.2.1,q.2.2.2.2.2⟩
 have loop:∀ s4:LF,Inv (bS X (T ++ M) scope cl s3.heap.objs.size s3 H3 fp) [] (ent T σ) H3 s4->tn 0 s4.heap->
   NN (LN X.prog X.w) X.A (.compLoop (.ListComp elt [⟨tg,iter,ifs,0⟩] scope pos) 0 (.ref it) (.ref D) (compEnvC scope cl s3.heap.objs.size X.env)) (RR (.ref D) s3.heap.objs.size) s4:=by
  intro s4 I4 st4;have fpX:∀ {SK:List (LB×Obj)} {H':Hp},SK=[]->(∀ b∈fp,H' b=none)->∀ b∈fp,mx (bS X (T ++ M) scope cl s3.heap.objs.size s3 H3 fp) SK H' b:=fun {SK H'} ep hn b hb=>by
   subst ep;refine⟨hn b hb,(I4.ok.exf b hb).1,I4.ok.exfs b hb,.inl hb,(I4.ok.exf b hb).2,fun p hp=>absurd (show p∈([]:List (LB×Obj))from hp) (by simp)⟩
  refine mv (fun n s'=>∃ i ys σ' H',Inv (bS X (T ++ M) scope cl s3.heap.objs.size s3 H3 fp) [] σ' H' s'/\tn i s'.heap/\(∀ b∈fp,H' b=none)/\W i n ys σ' H') ?_ m0 ⟨0,[],ent T σ,H3,I4,st4,fun b hb=>(f3 b hb).1,w0⟩
  rintro n s5 ⟨i,ys,σ5,H5,I5,st5,fr5,w5⟩
  obtain⟨hDl,hstep⟩:=turn i n ys σ5 H5 w5;rcases hstep with ⟨stop,qn⟩|⟨go,N,hN,step⟩
  ·refine cI (Tn.done (bS X (T ++ M) scope cl s3.heap.objs.size s3 H3 fp) rfl rfl rfl ok.calm i [] s5 _ H5 _ I5 (fpX rfl fr5) st5 stop) fun r s6 zz=>?_;obtain⟨hr,I6⟩:=zz;subst hr;have I7:=back I6;obtain⟨m,hm,_⟩:=I6.loc;refine hRR D s3.heap.objs.size H5 s6 I7 ⟨m,hm⟩ I6.free ?_ ?_ ?_ ?_ qn
   ·exact N7 I3.lt
   ·exact I3.sz
   ·intro x c e z;obtain⟨v,q⟩:=I3.cell x c e;exact absurd q.lt (by rw[z];exact Nat.lt_irrefl _)
   ·intro p hp z;exact absurd (LQ (I3.pin p hp).1) (by rw[z];exact Nat.lt_irrefl _)
  ·refine cI (Tn.item (bS X (T ++ M) scope cl s3.heap.objs.size s3 H3 fp) rfl rfl rfl ok.calm i [] s5 _ H5 _ I5 (fpX rfl fr5) st5 go) fun r s6 zz=>?_;obtain⟨u,hr,h6⟩:=zz;subst hr;refine cI h6 fun _ s7 zz=>?_;obtain⟨x,H7,I7,r7,y7,st7,fr7⟩:=zz;have I7':=I7.pinned (fpX rfl fr7) (Tn.obj _ _ st7);refine cI (hG _ s7 _ H7 x u _ I7' r7 (step x H7 y7)) fun _ s8 zz=>?_;obtain⟨σ8,H8,I8,q8⟩:=zz;have again:∀ {s9:LF} {H9:Hp} {ys':List V},Inv (bS X (T ++ M) scope cl s3.heap.objs.size s3 H3 fp) ([] ++ qe fp s7.heap) σ8 H9 s9->N ys' σ8 H9->
     ∃ m,m < n/\∃ i ys σ' H',Inv (bS X (T ++ M) scope cl s3.heap.objs.size s3 H3 fp) [] σ' H' s9/\tn i s9.heap/\(∀ b∈fp,H' b=none)/\W i m ys σ' H':=fun {s9 H9 ys'} I9 n9=>by
    obtain⟨m',hm,w9⟩:=hN ys' σ8 H9 n9;refine⟨m',hm,i+1,ys',σ8,H9,I9.unpinned,Tn.keep _ _ _ st7 fun b hb o e=>(I9.pin (b,o) (Ms _ (Ms _ (je hb e)))).1,fun b hb=>?_,w9⟩;obtain⟨o,e,d⟩:=Tn.obj _ _ st7 b hb;exact (I9.pin (b,o) (Ms _ (Ms _ (je hb e)))).2.1
   refine cI (hT _ s8 σ8 H8 _ I8 q8) fun b s9 zz=>?_;obtain⟨H9,I9,q9⟩:=zz;cases b with
   | false=>exact again I9 q9
   | true=>
    refine cI (hE _ s9 σ8 H9 _ I9 q9) fun u10 s10 zz=>?_;obtain⟨y,H10,I10,r10,e10,l10,n10⟩:=zz;refine cI (vW (X:=bS X (T ++ M) scope cl s3.heap.objs.size s3 H3 fp) _ s10 σ8 H10 (.ref D) [y] (.ref D) [u10] (fun v H'=>v=.non/\H'=bv H10 D (.lst (ys ++ [y]))) I10 rfl (.cons r10 .nil) ⟨D,ys,y,rfl,rfl,e10,l10,rfl,rfl⟩) fun u11 s11 zz=>?_;obtain⟨z,H11,I11,r11,_,e11⟩:=zz;subst e11;exact again I11 n10
 exact codeAny_compStart_list (loop _ I4 st4) (Tn.self _ 0 _ _ _ st4 (loop _ I4 st4))
theorem Bs(ok:CompOk X scope T M){pins:List (LB×Obj)}{σ:St}{H:Hp}{s:LF}(I:Inv X pins σ H s):∃ cl,QP scope X.env=pure cl/\(∀ x c,cl.lookup x=some c->X.env.cells.lookup x=some c)/\(∀ x∈scope.names,x.2=.free->∃ c,cl.lookup x.1=some c):=
 AJ scope.names scope rfl fun x hx hf=>I.ok.has x.1 (ok.free x hx hf)
theorem A9(ok:CompOk X scope T M)
  (hin:∀ cl C s₀ H₀ fp,PG (bS X (T ++ M) scope cl C s₀ H₀ fp) tg g/\EK (bS X (T ++ M) scope cl C s₀ H₀ fp) ifs tt/\PE (bS X (T ++ M) scope cl C s₀ H₀ fp) elt te)
  (hi:PI X tg iter wi) (hs:∀ x,MM iter X.env x=pure x:=by intro _;rfl):PE X (.ListComp elt [⟨tg,iter,ifs,0⟩] scope pos) (AW (ent T) wi g tt te):=by
 intro pins s σ H Q I h;obtain⟨cl,hcl,hc1,hc2⟩:=Bs ok I;rw[eval_ListComp];refine PQ (use:=none) rfl hs hcl ok.kind ok.names (cI (hi pins s σ H _ I h) fun v s1 h1=>cI h1 fun itv s2 h2=>?_);obtain⟨it,fp,tn,J,H2,e,I2,Tn,st2,f2,hh⟩:=h2;subst e;refine zx (Q:=Q) (RR:=fun acc C=>compPost (LN X.prog X.w) X.A X.xe none (EP X pins σ Q) acc C) ok hin hc1 hc2 I2 Tn st2 f2 hh ?_;intro D C H' s' I' hm hn n1 n2 n3 n4 q;obtain⟨m,hm⟩:=hm;exact⟨m,hm,fun h' sb=>⟨.ref D,H',I'.turned (t':=s'.toks) (fun b o hb e=>(sb.2 b hb).trans e) hn (Ne.symm (Ne.symm n1)) (.inr n2) n3 n4,rfl,q⟩⟩
theorem Fg{i:Nat}{x:Str}{px spos:Pos}(ok:CompOk X scope T M)(hN:X.N.Nodup)(hix:X.N[i]?=some x)(hx:X.env.scope.names.lookup x=some .local)
  (hin:∀ cl C s₀ H₀ fp,PG (bS X (T ++ M) scope cl C s₀ H₀ fp) tg g/\EK (bS X (T ++ M) scope cl C s₀ H₀ fp) ifs tt/\PE (bS X (T ++ M) scope cl C s₀ H₀ fp) elt te)
  (hi:PI X tg iter wi) (hsw:NA (.ListComp elt [⟨tg,iter,ifs,0⟩] scope pos) (some (.Name x px)) spos.line X.env=pure true:=by rfl) (hs:∀ x,MM iter X.env x=pure x:=by intro _;rfl):
  PS X (.Assign [.Name x px] (.ListComp elt [⟨tg,iter,ifs,0⟩] scope pos) spos) (GS (gh (AW (ent T) wi g tt te)) (zm i)):=by
 intro pins s σ H D3 I h;obtain⟨cl,hcl,hc1,hc2⟩:=Bs ok I;rw[exec_Assign_Name_used _ _ _ _ hsw];refine LA (OX (LA ?_));show LJ _ X.A (do let _ <- comprehension (.ListComp elt [⟨tg,iter,ifs,0⟩] scope pos) scope X.env _ (newList []) false (eval iter X.env) (some (assign (.Name x px) X.env))) _ _ s
 refine LA (MC (PQ (use:=some (assign (.Name x px) X.env)) (Q:=fun _ s'=>SP X pins D3 .next s') rfl hs hcl ok.kind ok.names
  (cI (hi pins s σ H _ I h) fun v s1 h1=>cI h1 fun itv s2 h2=>?_)) (fun _ s' hq=>LD (LD hq)) fun _ _ e=>e)
 obtain⟨it,fp,tn,J,H2,e,I2,Tn,st2,f2,hh⟩:=h2;subst e;refine zx (Q:=fun v H1=>zm i v σ H1 D3.nx\/∃ p xs,v=.ref p/\H1 p=some (.lst xs)/\∀ o,zm i v σ (bv H1 p (.frz o (.lst xs))) D3.nx) (RR:=fun acc C=>compPost (LN X.prog X.w) X.A X.xe (some (assign (.Name x px) X.env)) (fun _ s'=>SP X pins D3 .next s') acc C) ok hin hc1 hc2 I2 Tn st2 f2 hh ?_;intro D C H' s' I' hm hn n1 n2 n3 n4 q;obtain⟨m,hm⟩:=hm;have fin:∀ {H'':Hp},Inv X pins σ H'' s'->H'' C=none->D3.nx (σ.set i (some (.ref D))) H''->
   LJ (LN X.prog X.w) X.A (assign (.Name x px) X.env (.ref D)) (fun _ s''=>∃ m,s''.heap.Ns C m/\∀ h',MV C s''.heap h'->SP X pins D3 .next { s'' with heap:=h' }) X.xe s':=fun {H''} J' hn' q'=>by
  refine QT (vK (v:=V.ref D) J' hN hix (.inl hx) rfl (fun s'' I'' ⟨a,sb,ha⟩=>?_) (.inr hx));have aC:C≠a:=by
   rcases ha with z|z
   ·rw[z];exact n1
   ·exact fun y=>n3 _ _ z y.symm
  refine⟨m,hm.sameBut sb aC,fun h' sb'=>⟨_,H'',I''.turned (t':=s''.toks) (fun b o hb e=>(sb'.2 b hb).trans e) hn' n1 (.inr n2) n3 n4,q'⟩⟩
 rcases q with q|⟨p,xs,ep,e1,q⟩
 ·exact fin I' hn q
 ·obtain⟨o,I''⟩:=I'.freeze e1;refine fin I'' ?_ (q o);rw[aA (fun z=>by subst z;rw[hn]at e1;cases e1)];exact hn
end
section
variable{X:Cx}{tg:L7}
theorem PG.imp{e:L7}{t t':TG}(h:PG X e t)(i:∀ v σ H Q,t' v σ H Q->t v σ H Q):PG X e t':=fun pins s σ H v u Q I r q=>h pins s σ H v u Q I r (i v σ H Q q)
theorem ED.imp{es:List L7}{t t':Gd}(h:ED X es t)(i:∀ vs σ H Q,t' vs σ H Q->t vs σ H Q):ED X es t':=fun pins s σ H v u Q I r q=>h pins s σ H v u Q I r (i v σ H Q q)
theorem PI.imp{e:L7}{t t':TI}(h:PI X tg e t)(i:∀ σ H R,t' σ H R->t σ H R):PI X tg e t':=fun pins s σ H R I q=>h pins s σ H R I (i σ H R q)
variable{pins:List (LB×Obj)}{σ:St}{H:Hp}{s:LF}{R:It->Hp->Prop}{E:LC->LF->Prop}{a:LB}{xs:List V}
theorem qE(I:Inv X pins σ H s)(hq:jT X.K H a xs)(q:R (J7 X.K a) H):LJ (LN X.prog X.w) X.A (Oh (.ref a)) (GC X pins σ tg R) E s:=by
 obtain⟨its,rv,p,hz⟩:=I.list hq;refine Oo p.isList ?_;refine⟨s.heap.objs.size,[s.heap.objs.size],_,_,H,rfl,I.kept (t':=s.toks) fun b o e=>LH _ e,BD a _,⟨_,LK _ rfl,rfl,rfl⟩,fun b hb=>?_,q⟩;have e:b=s.heap.objs.size:=by simpa using hb
 subst e;exact I.fpOk (le_refl _) (I.hok.fresh (le_refl _))
theorem zd(I:Inv X pins σ H s)(hq:kP X.K H a xs)(q:R (K6 X.K a) H):LJ (LN X.prog X.w) X.A (Oh (.ref a)) (GC X pins σ tg R) E s:=by
 obtain⟨its,rv,p,hz⟩:=I.tuple hq;refine wpAny_pyIter_tuple (show s.heap.IsTuple a its.toArray from p) ?_
 refine⟨s.heap.objs.size,[s.heap.objs.size],_,_,H,rfl,I.kept (t':=s.toks) fun b o e=>LH _ e,zN a _,⟨_,LK _ rfl,rfl,rfl⟩,fun b hb=>?_,q⟩;have e:b=s.heap.objs.size:=by simpa using hb
 subst e;exact I.fpOk (le_refl _) (I.hok.fresh (le_refl _))
theorem ze{z:Str}{t:Tok}(I:Inv X pins σ H s)(q:R (K7 (dO z)) H):LJ (LN X.prog X.w) X.A (Oh (.str z t)) (GC X pins σ tg R) E s:=by
 have fin:∀ (ty:String),(ty="str_ascii_iterator"\/ty="str_iterator")->GC X pins σ tg R (.ref s.heap.objs.size) { s with heap:=s.heap.push { cls:=.type ty,data:=.fields #[.str z t,.int 0 0] } }:=fun ty hty=>by
  refine⟨s.heap.objs.size,[s.heap.objs.size],_,_,H,rfl,I.kept (t':=s.toks) fun b o e=>LH _ e,CQ _ z t ty hty,⟨_,LK _ rfl,rfl,rfl⟩,fun b hb=>?_,q⟩;have e:b=s.heap.objs.size:=by simpa using hb
  subst e;exact I.fpOk (le_refl _) (I.hok.fresh (le_refl _))
 cases ha:z.cps.all (· < 128)
 ·exact wpAny_pyIter_wide ha (fin _ (.inr rfl))
 ·exact wpAny_pyIter_ascii ha (fin _ (.inl rfl))
end
end L2
namespace L3
open PySem PySem.Spec PyProof.Rows L2
abbrev sm:=D->fO->Gp->(fO->Gp->Prop)->Prop
abbrev CA:=List D->fO->Gp->(fO->Gp->Prop)->Prop
def js(K:PySem.W.Frag)(g:sm):TG:=fun v τ H Q=>∃ d σ G Q3,RD K H d v/\RS K H σ τ/\RG K H G/\g d σ G Q3/\∀ σ' G' τ' H',Q3 σ' G'->Kp G H G' H'->RG K H' G'->RS K H' σ' τ'->Q τ' H'
def xp(K:PySem.W.Frag)(g:CA):Gd:=fun vs τ H Q=>∃ ds σ G Q3,RDs K H ds vs/\RS K H σ τ/\RG K H G/\g ds σ G Q3/\∀ σ' G' τ' H',Q3 σ' G'->Kp G H G' H'->RG K H' G'->RS K H' σ' τ'->Q τ' H'
def gN(i:Nat):sm:=fun d σ G Q=>Q (σ.set i (some d)) G
def qY:CA:=fun ds σ G Q=>match ds with
 | []=>Q σ G
 | _=>False
def gM(t:sm)(u:CA):CA:=fun ds σ G Q=>match ds with
 | d::r=>t d σ G fun σ' G'=>u r σ' G' Q
 | []=>False
def qX(n:Nat)(t:CA):sm:=fun d σ G Q=>match d with
 | .tup ds=>ds.length=n/\t ds σ G Q
 | _=>False
section
variable{X:Cx}{pos:Pos}{e:L7}{es:List L7}{t:sm}{u:CA}
theorem bu{i:Nat}{x:Str}(hN:X.N.Nodup)(hi:X.N[i]?=some x)(hx:Iz X.env.scope x)(hf:X.fn x=true\/X.env.scope.names.lookup x=some .local:=by first|exact .inl rfl|exact .inr rfl|assumption):PG X (.Name x pos) (js X.K (gN i)):=
 (Fl hN hi hx hf).imp fun v τ H Q zz=>by
 obtain⟨d,σ,G,Q3,rd,rs,rg,h,k⟩:=zz;exact (
  k _ G _ H h Kp.refl rg (rs.set rd i))
theorem Bl:ED X [] (xp X.K qY):=Fk.imp fun vs τ H Q zz=>by
 obtain⟨ds,σ,G,Q3,rd,rs,rg,h,k⟩:=zz;cases ds with
 | nil=>exact⟨rd.inv_nil,k _ G _ H h Kp.refl rg rs⟩
 | cons _ _=>exact h.elim
theorem mn(h1:PG X e (js X.K t))(h2:ED X es (xp X.K u))(hs:(M7 (e::es) X.env).map (·.2)=assign e X.env::(M7 es X.env).map (·.2):=by rfl):ED X (e::es) (xp X.K (gM t u)):=
 (DG h1 h2 hs).imp fun vs τ H Q zz=>by
  obtain⟨ds,σ,G,Q3,rd,rs,rg,h,k⟩:=zz;cases ds with
  | nil=>exact h.elim
  | cons d r=>
   obtain⟨x,xs,e1,r1,r2⟩:=rd.inv_cons;refine⟨x,xs,e1,d,σ,G,_,r1,rs,rg,h,fun σ' G' τ' H' q k' rg' rs'=>⟨r,σ',G',Q3,RDs.mono (k'.stb rg) _ _ r2,rs',rg',q,fun σ2 G2 τ2 H2 q2 k2=>k σ2 G2 τ2 H2 q2 (k'.trans k2)⟩⟩
theorem Bk{k:Nat}{n:Nat}(hc:X.calm=true)(h:ED X es (xp X.K u))(hn:(M7 es X.env).length=n:=by rfl)(hst:(M7 es X.env).findIdx? (·.1)=none:=by rfl):PG X (.Tuple es k pos) (js X.K (qX n u)):=
 (Hh hc h hn hst).imp fun v τ H Q zz=>by
  obtain⟨d,σ,G,Q3,rd,rs,rg,h,k⟩:=zz;cases d with
  | tup ds=>
   simp only[RD]at rd;obtain⟨a,xs,e1,q,r⟩:=rd;exact⟨a,xs,e1,q,by rw[<- r.length];exact h.1,ds,σ,G,Q3,r,rs,rg,h.2,k⟩
  | _=>exact h.elim
end
abbrev EJ:=fO->Gp->(List D->Gp->Prop)->Prop
def ye(K:PySem.W.Frag)(G0:Gp)(H0:Hp)(ds:List D)(J:It):Prop:=∀ i G H,Kp G0 H0 G H->RG K H G->
 (i < ds.length->J.go i H/\∀ x H',J.yld i H x H'->Kp G H G H'/\RG K H' G/\∃ d,ds[i]?=some d/\RD K H' d x)/\(i=ds.length->J.stop i H)
def qU(K:PySem.W.Frag)(ti:EJ):TI:=fun τ H R=>∃ σ G Q3,RS K H σ τ/\RG K H G/\ti σ G Q3/\∀ ds G' J H',Q3 ds G'->Kp G H G' H'->RG K H' G'->ye K G' H' ds J->R J H'
def signs(x:Str):List D:=x.cps.toList.map fun c=>D.str ⟨#[c]⟩
theorem Bi{K:PySem.W.Frag}{G0:Gp}{H0:Hp}{ds:List D}{xs:List V}(r:∀ H,RDs K H ds xs):ye K G0 H0 ds (K7 xs):=fun i G H _ rg=>by
 have hl:=(r H).length;refine⟨fun hi=>⟨(show i < xs.length by walk_at "o"),fun x H' y=>?_⟩,fun e=>(show i=xs.length by walk_at "o")⟩
 obtain⟨rfl,hx⟩:=y;refine⟨Kp.refl,rg,ds[i],by simp[hi],?_⟩
 obtain⟨y,e,q⟩:=(r H').get (i:=i) (d:=ds[i]) (by simp[hi])
 rw[hx]at e;cases e;exact q
theorem Bj{K:PySem.W.Frag}{G0:Gp}{H0:Hp}{ds:List D}{xs:List V}{a:LB}(rg0:RG K H0 G0)(f:EF K H0 a xs)(r:RDs K H0 ds xs):ye K G0 H0 ds (J7 K a):=fun i G H k rg=>by
 have hl:=r.length;have f':=(k.stb rg0).l _ _ f;have r':=RDs.mono (k.stb rg0) _ _ r;refine⟨fun hi=>⟨⟨xs,xs[i]'(by walk_at "o"),f'.sq,by simp[show i < xs.length by walk_at "o"]⟩,fun x H' y=>?_⟩,fun e=>⟨xs,f'.sq,by walk_at "o"⟩⟩
 obtain⟨rfl,hx⟩:=y;refine⟨Kp.refl,rg,ds[i],by simp[hi],?_⟩
 obtain⟨y,e,q⟩:=r'.get (i:=i) (d:=ds[i]) (by simp[hi])
 rw[hx xs f'.sq]at e;cases e;exact q
theorem Ec{K:PySem.W.Frag}{G0:Gp}{H0:Hp}{ds:List D}{xs:List V}{a:LB}(rg0:RG K H0 G0)(f:kP K H0 a xs)(r:RDs K H0 ds xs):ye K G0 H0 ds (K6 K a):=fun i G H k rg=>by
 have hl:=r.length;have f':=(k.stb rg0).t _ _ f;have r':=RDs.mono (k.stb rg0) _ _ r;refine⟨fun hi=>⟨⟨xs,xs[i]'(by walk_at "o"),f',by simp[show i < xs.length by walk_at "o"]⟩,fun x H' y=>?_⟩,fun e=>⟨xs,f',by walk_at "o"⟩⟩
 obtain⟨rfl,hx⟩:=y;refine⟨Kp.refl,rg,ds[i],by simp[hi],?_⟩
 obtain⟨y,e,q⟩:=r'.get (i:=i) (d:=ds[i]) (by simp[hi])
 rw[hx xs f']at e;cases e;exact q
def fF:D->Option (List D)
 | .lst ds=>some ds
 | .fl ds=>some ds
 | .tup ds=>some ds
 | .str x=>some (signs x)
 | _=>none
def gy(te:bH):EJ:=fun σ G Q=>te σ G fun d G'=>match fF d with
 | some ds=>Q ds G'
 | none=>False
def gI(lo:Int)(n:Nat):List D:=(List.range n).map fun k=>D.int (lo+(k:Nat))
theorem zf{K:PySem.W.Frag}{G0:Gp}{H0:Hp}{lo:Int}{n:Nat}:ye K G0 H0 (gI lo n) (J6 lo n):=fun i G H _ rg=>by
 have hl:(gI lo n).length=n:=by simp[gI]
 rw[hl];refine⟨fun hi=>⟨hi,fun x H' y=>?_⟩,fun e=>(show n<=i by walk_at "o")⟩
 obtain⟨rfl,rfl⟩:=y;exact⟨Kp.refl,rg,.int (lo+(i:Nat)),by simp[gI,hi],fH⟩
def Jw(ta:pL):EJ:=fun σ G Q=>ta σ G fun ds G'=>match ds with
 | [.int j]=>(-(2 ^ 62)<=j/\j < 2 ^ 62)/\Q (gI 0 j.toNat) G'
 | _=>False
def KO(ta:pL):EJ:=fun σ G Q=>ta σ G fun ds G'=>match ds with
 | [.int i,.int j]=>(-(2 ^ 62)<=i/\i < 2 ^ 62/\-(2 ^ 62)<=j/\j < 2 ^ 62)/\Q (gI i (j - i).toNat) G'
 | _=>False
section
variable{X:Cx}{tg e:L7}{te:bH}
theorem ft(h:PE X e (aE X.K te)):PI X tg e (qU X.K (gy te)):=by
 intro pins s τ H R I hq;obtain⟨σ,G,Q3,rs,rg,hq,k⟩:=hq;refine cI (dW h pins s τ H (fun v H1=>∃ d G1,Kp G H G1 H1/\RG X.K H1 G1/\RD X.K H1 (val d) v/\(match fF d with|some ds=>Q3 ds G1|none=>False)) I ⟨σ,G,_,rs,rg,hq,fun d G' v H' q k' rg' rd=>⟨d,G',k',rg',rd,q⟩⟩) fun u s1 zz=>?_
 obtain⟨v,H1,I1,r1,d,G1,k1,rg1,rd,q⟩:=zz;have seq:∀ {a:LB} {xs:List V} {ds:List D},EF X.K H1 a xs->RDs X.K H1 ds xs->Q3 ds G1->LJ (LN X.prog X.w) X.A (Oh (.ref a)) (GC X pins τ tg R) X.xe s1:=fun f r q=>qE I1 f.sq (k _ G1 _ H1 q k1 rg1 (Bj rg1 f r));cases d with
 | lst ds=>
  simp only[val,RD]at rd;obtain⟨a,xs,rfl,f,r⟩:=rd;cases r1;exact seq f r q
 | fl ds=>
  simp only[val,RD]at rd;obtain⟨a,xs,rfl,f,r⟩:=rd;cases r1;exact seq f r q
 | tup ds=>
  simp only[val,RD]at rd;obtain⟨a,xs,rfl,f,r⟩:=rd;cases r1;exact zd I1 f (k _ G1 _ H1 q k1 rg1 (Ec rg1 f r))
 | str z=>
  simp only[val,RD]at rd;subst rd;obtain⟨t,rfl⟩:=r1;refine ze I1 (k _ G1 _ H1 q k1 rg1 (Bi fun H'=>?_));have:signs z=(z.cps.toList.map fun c=>(⟨#[c]⟩:Str)).map D.str:=by simp[signs]
  rw[this];have e2:dO z=(z.cps.toList.map fun c=>(⟨#[c]⟩:Str)).map V.str:=by simp[dO]
  rw[e2];exact RDs.strs _
 | _=>exact q.elim
theorem uc{a:L7}{ta:pL}{p pos:Pos}(hg:Gl X "range")(hm:X.mg "range"=none)(ha:PA X [a] (fq X.K ta))(hs:LR [a] X.env=[(false,eval a X.env)]:=by rfl):PI X tg (.Call (.Name "range" p) [a] [] pos) (qU X.K (Jw ta)):=
 (BU hg hm ha hs).imp fun τ H R zz=>by
 obtain⟨σ,G,Q3,rs,rg,h,k⟩:=zz;exact (
  ⟨σ,G,_,rs,rg,h,fun ds G1 vs H1 q k1 rg1 rds=>by
    split at q
    ·rename_i j;obtain⟨x,r,e1,r1,r2⟩:=rds.inv_cons;have:=r2.inv_nil;simp only[RD]at r1;subst e1 this r1;exact⟨j,rfl,q.1.1,q.1.2,k _ G1 _ H1 q.2 k1 rg1 zf⟩
    ·exact q.elim⟩)
theorem Ef{a b:L7}{ta:pL}{p pos:Pos}(hg:Gl X "range")(hm:X.mg "range"=none)(ha:PA X [a,b] (fq X.K ta))(hs:LR [a,b] X.env=[(false,eval a X.env),(false,eval b X.env)]:=by rfl)(hs2:LR [b] X.env=[(false,eval b X.env)]:=by rfl):
  PI X tg (.Call (.Name "range" p) [a,b] [] pos) (qU X.K (KO ta)):=
 (BS hg hm ha hs hs2).imp fun τ H R zz=>by
 obtain⟨σ,G,Q3,rs,rg,h,k⟩:=zz;exact (
  ⟨σ,G,_,rs,rg,h,fun ds G1 vs H1 q k1 rg1 rds=>by
    split at q
    ·rename_i i j;obtain⟨x,r,e1,r1,r2⟩:=rds.inv_cons;obtain⟨x',r',e1',r1',r2'⟩:=r2.inv_cons;have:=r2'.inv_nil;simp only[RD]at r1 r1';subst e1 e1' this r1 r1';exact⟨i,j,rfl,q.1,k _ G1 _ H1 q.2 k1 rg1 zf⟩
    ·exact q.elim⟩)
end
def ForIn(g:sm)(tb:cn)(E:Ends3)(σ:fO)(ds:List D)(G1:Gp):Prop:=∃ Pv:Nat->fO->Gp->Prop,Pv 0 σ G1/\
 (∀ (i:Nat) d σ' G',ds[i]?=some d->Pv i σ' G'->g d σ' G' fun σ2 G2=>tb { E with nx:=Pv (i+1),ct:=Pv (i+1),bk:=E.nx } σ2 G2)/\∀ σ' G',Pv ds.length σ' G'->E.nx σ' G'
def kQ(ti:EJ)(g:sm)(tb:cn):cn:=fun D σ G=>ti σ G fun ds G1=>ForIn g tb D σ ds G1
theorem kL{X:Cx}{tg iter:L7}{body:List Md}{ti:EJ}{g:sm}{tb:cn}{pos:Pos}(hp:OU (LN X.prog X.w) X.A X.env X.xe)(hc:X.calm=true)(hi:PI X tg iter (qU X.K ti))(hg:PG X tg (js X.K g))(hb:rm X body (cE X.K tb))
  (hs:∀ x,MM iter X.env x=pure x:=by intro _;rfl):PS X (.For tg iter body [] pos) (cE X.K (kQ ti g tb)):=
 (DB hp hc hi hg hb hs).imp fun D τ H zz=>by
 obtain⟨σ,G,D3,rs,rg,h,k⟩:=zz;exact (
  ⟨σ,G,_,rs,rg,h,fun ds G1 J H1 q k1 rg1 it=>by
    obtain⟨Pv,p0,step,fin⟩:=q;refine⟨fun i m τ' H'=>m=ds.length - i/\i<=ds.length/\∃ σ' G',RS X.K H' σ' τ'/\RG X.K H' G'/\Pv i σ' G'/\Kp G1 H1 G' H',⟨ds.length,rfl,Mg _,σ,G1,rs.mono (k1.stb rg),rg1,p0,Kp.refl⟩,?_⟩
    rintro i m τ' H' ⟨rfl,hi',σ',G',rs',rg',pv,k'⟩
    obtain⟨hgo,hstop⟩:=it i G' H' k' rg'
    by_cases hlt:i < ds.length
    ·obtain⟨go,yld⟩:=hgo hlt;refine .inr ⟨go,fun τ2 H2=>∃ σ2 G2,RS X.K H2 σ2 τ2/\RG X.K H2 G2/\Pv (i+1) σ2 G2/\Kp G1 H1 G2 H2,fun τ2 H2 ⟨σ2,G2,a,b,c,d⟩=>⟨ds.length - (i+1),by walk_at "o",rfl,hlt,σ2,G2,a,b,c,d⟩,fun x H2 y=>?_⟩
     obtain⟨ky,rgy,d,hd,rd⟩:=yld x H2 y;refine⟨d,σ',G',_,rd,rs'.mono (ky.stb rg'),rgy,step i d σ' G' hd pv,fun σ3 G3 τ3 H3 q3 k3 rg3 rs3=>?_⟩;have kk:Kp G1 H1 G3 H3:=k'.trans (ky.trans k3);have kG:Kp G H G3 H3:=k1.trans kk;refine⟨σ3,G3,_,rs3,rg3,q3,⟨fun σ4 G4 τ4 H4 q4 k4 rg4 rs4=>⟨σ4,G4,rs4,rg4,q4,kk.trans k4⟩,k.rt.base kG,fun σ4 G4 τ4 H4 q4 k4=>k.nx σ4 G4 τ4 H4 q4 (kG.trans k4),fun σ4 G4 τ4 H4 q4 k4 rg4 rs4=>⟨σ4,G4,rs4,rg4,q4,kk.trans k4⟩⟩⟩
    ·have e:i=ds.length:=by walk_at "o"
     refine .inl ⟨hstop e,k.nx σ' G' τ' H' (fin σ' G' (by rw[<- e];exact pv)) (k1.trans k') rg' rs'⟩⟩)
def iH:pK:=fun _ G Q=>Q true G
def uw(k:Nat)(g:sm)(tt:pK)(te:bH)(σ:fO)(ds:List D)(G1:Gp)(Q:mZ):Prop:=ds.length<=LL/\∃ Pv:Nat->List D->Gp->Prop,Pv 0 [] G1/\
 (∀ (i:Nat) d acc G',ds[i]?=some d->Pv i acc G'->g d (List.replicate k none ++ σ) G' fun σ2 G2=>(k<=σ2.length/\σ2.drop k=σ)/\tt σ2 G2 fun b G3=>if b=true then te σ2 G3 fun y G4=>Pv (i+1) (acc ++ [val y]) G4 else Pv (i+1) acc G3)/\
 ∀ acc G',Pv ds.length acc G'->Q (.fl acc) G'
def e_(k:Nat)(ti:EJ)(g:sm)(tt:pK)(te:bH):bH:=fun σ G Q=>ti σ G fun ds G1=>uw k g tt te σ ds G1 Q
theorem gu{k:Nat}{g:sm}{te:bH}{σ:fO}{ds:List D}{G1:Gp}{Q:mZ}(f:D->D)(hl:ds.length<=LL)
  (he:∀ d∈ds,∀ P:mZ,(∀ y,val y=f d->P y G1)->g d (List.replicate k none ++ σ) G1 fun σ2 G2=>(k<=σ2.length/\σ2.drop k=σ)/\te σ2 G2 P) (hq:Q (.fl (ds.map f)) G1):uw k g iH te σ ds G1 Q:=by
 refine⟨hl,fun i acc G'=>acc=(ds.take i).map f/\G'=G1,⟨by simp,rfl⟩,fun i d acc G' hd ⟨ha,hG⟩=>?_,fun acc G' ⟨ha,hG⟩=>?_⟩
 ·subst hG;exact he d (LZ hd) (fun y G4=>acc ++ [val y]=(ds.take (i+1)).map f/\G4=G') fun y hy=>⟨by rw[ha,hy,MH,hd];simp,rfl⟩
 ·subst hG;rw[ha,Mo];exact hq
theorem zy{k:Nat}{g:sm}{tt:pK}{te:bH}{σ:fO}{ds:List D}{G1:Gp}{Q:mZ}(p:D->Bool)(f:D->D)(hl:ds.length<=LL)
  (he:∀ d∈ds,∀ (P:mZ) (R:Gp->Prop),(p d=true->∀ y,val y=f d->P y G1)->(p d=false->R G1)->g d (List.replicate k none ++ σ) G1 fun σ2 G2=>(k<=σ2.length/\σ2.drop k=σ)/\tt σ2 G2 fun b G3=>if b=true then te σ2 G3 P else R G3)
  (hq:Q (.fl ((ds.filter p).map f)) G1):uw k g tt te σ ds G1 Q:=by
 refine⟨hl,fun i acc G'=>acc=((ds.take i).filter p).map f/\G'=G1,⟨by simp,rfl⟩,fun i d acc G' hd ⟨ha,hG⟩=>?_,fun acc G' ⟨ha,hG⟩=>?_⟩
 ·subst hG;have e:(ds.take (i+1)).filter p=(ds.take i).filter p ++ (if p d=true then [d]else []):=by
   rw[MH,hd,NI];cases hp:p d<;>simp[hp]
  refine he d (LZ hd) (fun y G4=>acc ++ [val y]=((ds.take (i+1)).filter p).map f/\G4=G') (fun G4=>acc=((ds.take (i+1)).filter p).map f/\G4=G') (fun hp y hy=>⟨?_,rfl⟩) fun hp=>⟨?_,rfl⟩
  ·rw[e,hp,ha,hy];simp
  ·rw[e,hp,ha];simp
 ·subst hG;rw[ha,Mo];exact hq
section
variable{X:Cx}{elt tg iter:L7}{ifs:List L7}{scope:NV}{T M:List Str}{pos:Pos}{ti:EJ}{g:sm}{tt:pK}{te:bH}
theorem Df{K:PySem.W.Frag}{H:Hp}{σ:fO}{τ:St}(T:List Str)(r:RS K H σ τ):RS K H (List.replicate T.length none ++ σ) (ent T τ):=by
 unfold ent
 induction T with
 | nil=>exact r
 | cons a t ih=>exact .cons (show CC K H none none from trivial) ih
theorem p6{K:PySem.W.Frag}{H:Hp}:∀ (k:Nat) {σ:fO} {τ:St},k<=σ.length->RS K H σ τ->RS K H (List.replicate k none ++ σ.drop k) τ
 | 0,_,_,_,r=>r
 | k+1,[],_,h,_=>absurd h (by simp)
 | k+1,a::t,_,h,.cons _ r=>.cons (show CC K H none _ from trivial) (p6 k (by simpa using h) r)
theorem v5{K:PySem.W.Frag}{τ:St}{H:Hp}{Q:VK}(h:aE K (e_ T.length ti g tt te) τ H Q):
  AW (ent T) (qU K ti) (js K g) (cY K tt) (vX K te) τ H Q:=by
 obtain⟨σ,G,Q3,rs,rg,h,k⟩:=h;refine⟨σ,G,_,rs,rg,h,fun ds G1 J H1 q k1 rg1 it Da hD=>?_⟩;obtain⟨hsz,Pv,p0,step,fin⟩:=q;have kD:Kp G1 H1 G1 (bv H1 Da (.lst [])):=Kp.laid hD;have rgD:RG K (bv H1 Da (.lst [])) G1:=rg1.laid hD;have gD:G1 Da=none:=rg1.free hD;refine⟨fun i m ys τ2 H2=>m=ds.length - i/\i<=ds.length/\∃ acc G2,H2 Da=some (.lst ys)/\G2 Da=none/\RG K H2 G2/\RS K H2 (List.replicate T.length none ++ σ) τ2/\RDs K H2 acc ys/\acc.length<=i/\Pv i acc G2/\(∀ a h,a≠Da->H1 a=some h->G1 a=none->H2 a=some h/\G2 a=none),
  ⟨ds.length,rfl,Mg _,[],G1,aM,gD,rgD,Df T (rs.mono ((k1.trans kD).stb rg)),RDs.nil,le_refl _,p0,fun a h ha e n=>⟨by rw[aA ha];exact e,n⟩⟩,?_⟩
 rintro i m ys τ2 H2 ⟨rfl,hi',acc,G2,eD,nD,rg2,rs2,ra,la,pv,k2⟩
 have k2':Kp G1 H1 G2 H2:=fun a h e n=>k2 a h (bZ e hD) e n;refine⟨eD,?_⟩;obtain⟨hgo,hstop⟩:=it i G2 H2 k2' rg2
 by_cases hlt:i < ds.length
 ·obtain⟨go,yld⟩:=hgo hlt;refine .inr ⟨go,fun ys' τ' H'=>∃ acc G',H' Da=some (.lst ys')/\G' Da=none/\RG K H' G'/\RS K H' (List.replicate T.length none ++ σ) τ'/\RDs K H' acc ys'/\acc.length<=i+1/\Pv (i+1) acc G'/\(∀ a h,a≠Da->H1 a=some h->G1 a=none->H' a=some h/\G' a=none),
   fun ys' τ' H' q'=>⟨ds.length - (i+1),by walk_at "o",rfl,hlt,q'⟩,fun x H3 y=>?_⟩
  obtain⟨ky,rgy,d,hd,rd⟩:=yld x H3 y;refine⟨d,List.replicate T.length none ++ σ,G2,_,rd,rs2.mono (ky.stb rg2),rgy,step i d acc G2 hd pv,fun σ4 G4 τ4 H4 q4 k4 rg4 rs4=>?_⟩;obtain⟨⟨hlen,hdrop⟩,q4⟩:=q4;have rs4':RS K H4 (List.replicate T.length none ++ σ) τ4:=by
   have:=p6 T.length hlen rs4;rw[hdrop]at this;exact this
  refine⟨σ4,G4,_,rs4,rg4,q4,fun b G5 H5 q5 k5 rg5=>?_⟩;have e3:H3 Da=some (.lst ys):=(ky Da _ eD nD).1;have e4:=k4 Da _ e3 nD;have e5:=k5 Da _ e4.1 e4.2;have kk:∀ {G6:Gp} {H6:Hp},Kp G5 H5 G6 H6->∀ a h,a≠Da->H1 a=some h->G1 a=none->H6 a=some h/\G6 a=none:=fun k6 a h ha e n=>((((Kp.trans k2' ky).trans k4).trans k5).trans k6) a h e n;cases b with
  | false=>
   refine iteF ⟨acc,G5,e5.1,e5.2,rg5,rs4'.mono (k5.stb rg4),RDs.mono (((ky.trans k4).trans k5).stb rg2) _ _ ra,by walk_at "o",q5,kk Kp.refl⟩
  | true=>
   refine iteT ⟨σ4,G5,_,rs4.mono (k5.stb rg4),rg5,q5,fun yv G6 v H6 q6 k6 rg6 rd6=>?_⟩;have e6:=k6 Da _ e5.1 e5.2;have la':=ra.length;have st:Stb K H6 (bv H6 Da (.lst (ys ++ [v]))):=by
    constructor
    ·intro a zs q;rcases q with (q|⟨o,q⟩)|q
     ·exact .inl (.inl (by rw[aA (fun z=>by subst z;rw[e6.1]at q;cases q)];exact q))
     ·exact .inl (.inr ⟨o,by rw[aA (fun z=>by subst z;rw[e6.1]at q;cases q)];exact q⟩)
     ·exact .inr q
    ·intro a zs q;rcases q with ⟨o,q⟩|q
     ·exact .inl ⟨o,by rw[aA (fun z=>by subst z;rw[e6.1]at q;cases q)];exact q⟩
     ·exact .inr q
   refine⟨e6.1,by walk_at "o",acc ++ [val yv],G6,aM,e6.2,fun a o q=>?_,(rs4'.mono ((k5.trans k6).stb rg4)).mono st,?_,by simp;omega,q6,fun a h ha e n=>?_⟩
   ·obtain⟨h',q1,q2⟩:=rg6 a o q;exact⟨h',by rw[aA (fun z=>by subst z;rw[e6.2]at q;cases q)];exact q1,q2.mono st⟩
   ·exact RDs.append (RDs.mono st _ _ (RDs.mono ((((ky.trans k4).trans k5).trans k6).stb rg2) _ _ ra)) (RDs.cons (RD.mono st _ _ rd6) RDs.nil)
   ·rw[aA ha];exact kk k6 a h ha e n
 ·have e:i=ds.length:=by walk_at "o"
  refine .inl ⟨hstop e,k _ G2 _ H2 (fin acc G2 (by rw[<- e];exact pv)) (k1.trans k2') rg2 (.inl ⟨acc,Da,ys,rfl,rfl,eD,nD,ra,?_⟩)⟩
  exact k1.fr (pB hD)
theorem im:EK X [] (cY X.K iH):=fun pins s τ H Q I h=>by
 obtain⟨σ,G,Q3,rs,rg,h,k⟩:=h;exact Fc pins s τ H Q I (k true G H h Kp.refl rg)
theorem sx{c:L7}{tc:pK}(h:PT X c (cY X.K tc)):EK X [c] (cY X.K tc):=Fb h
theorem gK(ok:CompOk X scope T M)
  (hin:∀ cl C s₀ H₀ fp,PG (bS X (T ++ M) scope cl C s₀ H₀ fp) tg (js X.K g)/\EK (bS X (T ++ M) scope cl C s₀ H₀ fp) ifs (cY X.K tt)/\PE (bS X (T ++ M) scope cl C s₀ H₀ fp) elt (aE X.K te))
  (hi:PI X tg iter (qU X.K ti)) (hs:∀ x,MM iter X.env x=pure x:=by intro _;rfl):PE X (.ListComp elt [⟨tg,iter,ifs,0⟩] scope pos) (aE X.K (e_ T.length ti g tt te)):=
 (A9 ok (fun cl C s₀ H₀ fp=>let ⟨a,b,c⟩:=hin cl C s₀ H₀ fp;⟨a,b,dW c⟩) hi hs).imp fun _ _ _ h=>v5 h
theorem Dp{i:Nat}{x:Str}{px spos:Pos}(ok:CompOk X scope T M)(hN:X.N.Nodup)(hix:X.N[i]?=some x)(hx:X.env.scope.names.lookup x=some .local)
  (hin:∀ cl C s₀ H₀ fp,PG (bS X (T ++ M) scope cl C s₀ H₀ fp) tg (js X.K g)/\EK (bS X (T ++ M) scope cl C s₀ H₀ fp) ifs (cY X.K tt)/\PE (bS X (T ++ M) scope cl C s₀ H₀ fp) elt (aE X.K te))
  (hi:PI X tg iter (qU X.K ti)) (hsw:NA (.ListComp elt [⟨tg,iter,ifs,0⟩] scope pos) (some (.Name x px)) spos.line X.env=pure true:=by rfl) (hs:∀ x,MM iter X.env x=pure x:=by intro _;rfl):
  PS X (.Assign [.Name x px] (.ListComp elt [⟨tg,iter,ifs,0⟩] scope pos) spos) (cE X.K (bW i (e_ T.length ti g tt te))):=
 (Fg ok hN hix hx (fun cl C s₀ H₀ fp=>let ⟨a,b,c⟩:=hin cl C s₀ H₀ fp;⟨a,b,dW c⟩) hi hsw hs).imp fun D τ H zz=>by
  obtain⟨σ,G,D3,rs,rg,h,k⟩:=zz;refine v5 (Q:=fun v H1=>D.nx (τ.set i (some v)) H1\/∃ p xs,v=.ref p/\H1 p=some (.lst xs)/\∀ o,D.nx (τ.set i (some v)) (bv H1 p (.frz o (.lst xs)))) ⟨σ,G,_,rs,rg,h,fun d G' v H' q k' rg' re=>?_⟩;cases d with
  | fl ds=>
   obtain⟨p,xs,rfl,e1,e2,e3,e4⟩:=re.fl;refine .inr ⟨p,xs,rfl,e1,fun o=>?_⟩;obtain⟨rg2,st⟩:=AC (o:=o) rg' e1 e2;exact k.nx _ G' _ _ q (Ej (K:=X.K) k' e4) rg2 (((rs.mono (k'.stb rg)).mono st).set (qd (.inl ⟨o,aM⟩) (RDs.mono st _ _ e3)) i)
  | _=>exact .inl (k.nx _ G' _ H' q k' rg' ((rs.mono (k'.stb rg)).set (re.rd (by intro ds z;cases z)) i))
end
open PySem.SeqAt
def eJ(x y:D):Bool:=@decide (x=y) (Classical.propDecidable _)
theorem kF{x y:D}:eJ x y=true↔x=y:=by unfold eJ;exact @decide_eq_true_iff _ (Classical.propDecidable _)
theorem bc(x:D):eJ x x=true:=kF.mpr rfl
theorem xP{x y:D}(h:x=y):eJ x y=true:=kF.mpr h
theorem bO{x y:D}(h:x≠y):eJ x y=false:=by
 cases e:eJ x y with
 | false=>rfl
 | true=>exact absurd (kF.mp e) h
theorem pF{x y:D}{b:Bool}(h:(b=true)↔x=y):eJ x y=b:=by
 cases b with
 | true=>exact xP (h.mp rfl)
 | false=>exact bO fun e=>nomatch h.mpr e
def pl:Nat->D->Prop
 | _,.non=>True
 | _,.int _=>True
 | _,.str _=>True
 | n+1,.tup ds=>∀ d∈ds,pl n d
 | n+1,.lst ds=>∀ d∈ds,pl n d
 | _,_=>False
section
variable{X:Cx}{pins:List (LB×Obj)}{σ:St}{H:Hp}{s:LF}
theorem Bc(I:Inv X pins σ H s){a:LB}{xs ys:List V}(h1:kP X.K H a xs)(h2:jT X.K H a ys):False:=by
 obtain⟨_,_,⟨o,e,c,_⟩,_⟩:=I.tuple h1;obtain⟨_,_,p,_⟩:=I.list h2;obtain⟨o',e',c',_⟩:=p.isList;rw[e]at e';cases e';rw[c]at c';injection c' with z
 exact absurd z (by decide)
theorem Dj(I:Inv X pins σ H s):∀ (n:Nat) {x y:D} {v:V},pl n x->pl n y->RD X.K H x v->RD X.K H y v->x=y:=by
 intro n
 induction n with
 | zero=>
  intro x y v px py rx ry;cases x<;>first|exact px.elim|(cases y<;>first|exact py.elim|(simp only[RD]at rx ry;subst rx;first|rfl|(cases ry;rfl)|cases ry))
 | succ n ih=>
  have seq:∀ {ds es:List D} {xs:List V},(∀ d∈ds,pl n d)->(∀ d∈es,pl n d)->RDs X.K H ds xs->RDs X.K H es xs->ds=es:=by
   intro ds
   induction ds with
   | nil=>
    intro es xs _ _ r1 r2;have:=r1.inv_nil;subst this;cases es with
    | nil=>rfl
    | cons e t=>have:=r2.length;simp at this
   | cons d t ihd=>
    intro es xs p1 p2 r1 r2;obtain⟨v,vs,e1,a1,b1⟩:=r1.inv_cons;subst e1;cases es with
    | nil=>have:=r2.length;simp at this
    | cons e u=>
     obtain⟨v',vs',e2,a2,b2⟩:=r2.inv_cons;cases e2;rw[ih (p1 d LV) (p2 e LV) a1 a2,ihd (fun z hz=>p1 z (LU _ hz)) (fun z hz=>p2 z (LU _ hz)) b1 b2]
  intro x y v px py rx ry;cases x with
  | tup ds=>
   simp only[RD]at rx;obtain⟨a,xs,rfl,s1,r1⟩:=rx;cases y with
   | tup es=>
    simp only[RD]at ry;obtain⟨b,ys,e,s2,r2⟩:=ry;cases e;have:=I.tuple_inj s1 s2;subst this;rw[seq px py r1 r2]
   | lst es=>
    simp only[RD]at ry;obtain⟨b,ys,e,s2,r2⟩:=ry;cases e;exact (Bc I s1 s2.sq).elim
   | _=>first|exact py.elim|(simp only[RD]at ry;cases ry)
  | lst ds=>
   simp only[RD]at rx;obtain⟨a,xs,rfl,s1,r1⟩:=rx;cases y with
   | lst es=>
    simp only[RD]at ry;obtain⟨b,ys,e,s2,r2⟩:=ry;cases e;have:=I.list_inj s1.sq s2.sq;subst this;rw[seq px py r1 r2]
   | tup es=>
    simp only[RD]at ry;obtain⟨b,ys,e,s2,r2⟩:=ry;cases e;exact (Bc I s2 s1.sq).elim
   | _=>first|exact py.elim|(simp only[RD]at ry;cases ry)
  | _=>first|exact px.elim|(cases y with
   | tup es=>simp only[RD]at rx ry;obtain⟨b,ys,e,_⟩:=ry;rw[rx]at e;cases e
   | lst es=>simp only[RD]at rx ry;obtain⟨b,ys,e,_⟩:=ry;rw[rx]at e;cases e
   | _=>first|exact py.elim|(simp only[RD]at rx ry;subst rx;first|rfl|(cases ry;rfl)|cases ry))
structure Cmp3(A:LY)(s:LF)(v u:LC)(b:Bool):Prop where
 eq:EqAt A s v u b
 rc:RcAt A s v u b
 ne:RcNeAt A s v u (!b)
theorem yb{ds es:List D}(n:Nat)(hn:n=min ds.length es.length):((List.range n).all (fun j=>eJ (ds.getD j .non) (es.getD j .non)) && ds.length == es.length)=eJ (.tup ds) (.tup es):=by
 symm;refine pF ?_;rw[Bool.and_eq_true,List.all_eq_true,beq_iff_eq];constructor
 ·rintro⟨h1,h2⟩
  congr 1;refine List.ext_getElem h2 fun i hi hj=>?_;have:=kF.mp (h1 i (mem_range.mpr (by walk_at "o")))
  rw[LW,LW,LP hi,LP hj]at this
  simpa using this
 ·intro h;cases h;exact⟨fun i _=>bc _,rfl⟩
theorem FW{ds es:List D}:eJ (.lst ds) (.lst es)=eJ (.tup ds) (.tup es):=pF (by rw[kF];constructor<;>(intro h;cases h;rfl))
theorem Vals.getV:∀ {xs:List V} {us:List LC} {i:Nat} {u:LC},Vals xs us->us[i]?=some u->∃ x,xs[i]?=some x/\aJ x u
 | _,_,_,_,.nil,e=>by simp at e
 | _,_,0,_,.cons r _,e=>by simp at e;subst e;exact⟨_,rfl,r⟩
 | _,_,i+1,u,.cons _ t,e=>by
  obtain⟨x,h1,h2⟩:=Vals.getV (i:=i) (u:=u) t (by simpa using e)
  exact⟨x,by simpa using h1,h2⟩
theorem RDs.getV{K:PySem.W.Frag}{H:Hp}:∀ {ds:List D} {xs:List V} {i:Nat} {x:V},RDs K H ds xs->xs[i]?=some x->∃ d,ds[i]?=some d/\RD K H d x
 | [],xs,i,x,h,e=>by rw[h.inv_nil]at e;simp at e
 | d::ds,xs,i,x,h,e=>by
  obtain⟨y,r,e1,h1,h2⟩:=h.inv_cons;subst e1;cases i with
  | zero=>simp at e;subst e;exact⟨d,rfl,h1⟩
  | succ i=>
   obtain⟨z,q1,q2⟩:=RDs.getV (i:=i) (x:=x) h2 (by simpa using e)
   exact⟨z,by simpa using q1,q2⟩
def sc:D->Prop
 | .non=>True
 | .int _=>True
 | .str _=>True
 | _=>False
theorem Io{j:Int}{t:Tok}{A:LY}:Cmp3 A s .none (.int j t) (eJ .non (.int j)):=by rw[bO (by intro z;cases z)];exact⟨EqAt.none_int _ _,RcAt.none_int _ _,RcNeAt.none_int _ _⟩
theorem Il{j:Str}{t:Tok}{A:LY}:Cmp3 A s .none (.str j t) (eJ .non (.str j)):=by rw[bO (by intro z;cases z)];exact⟨EqAt.none_str _ _,RcAt.none_str _ _,RcNeAt.none_str _ _⟩
theorem Iq{j:Int}{t:Tok}{A:LY}:Cmp3 A s (.int j t) .none (eJ (.int j) .non):=by rw[bO (by intro z;cases z)];exact⟨EqAt.int_none _ _,RcAt.int_none _ _,RcNeAt.int_none _ _⟩
theorem Ij{j:Str}{t:Tok}{A:LY}:Cmp3 A s (.str j t) .none (eJ (.str j) .non):=by rw[bO (by intro z;cases z)];exact⟨EqAt.str_none _ _,RcAt.str_none _ _,RcNeAt.str_none _ _⟩
theorem Ip{i:Int}{j:Str}{t u:Tok}{A:LY}:Cmp3 A s (.int i t) (.str j u) (eJ (.int i) (.str j)):=by rw[bO (by intro z;cases z)];exact⟨EqAt.int_str _ _ _ _,RcAt.int_str _ _ _ _,RcNeAt.int_str _ _ _ _⟩
theorem Ik{i:Str}{j:Int}{t u:Tok}{A:LY}:Cmp3 A s (.str i t) (.int j u) (eJ (.str i) (.int j)):=by rw[bO (by intro z;cases z)];exact⟨EqAt.str_int _ _ _ _,RcAt.str_int _ _ _ _,RcNeAt.str_int _ _ _ _⟩
theorem Ir{i j:Int}{t u:Tok}{A:LY}:Cmp3 A s (.int i t) (.int j u) (eJ (.int i) (.int j)):=by
 have e:eJ (.int i) (.int j)=(i == j):=pF (by rw[beq_iff_eq];exact⟨fun z=>by rw[z],fun z=>by cases z;rfl⟩)
 rw[e];exact⟨EqAt.int_int _ _ _ _,RcAt.int_int _ _ _ _,RcNeAt.int_int _ _ _ _⟩
theorem Ii{i j:Str}{t u:Tok}{A:LY}:Cmp3 A s (.str i t) (.str j u) (eJ (.str i) (.str j)):=by
 have e:eJ (.str i) (.str j)=(i == j):=pF (by rw[beq_iff_eq];exact⟨fun z=>by rw[z],fun z=>by cases z;rfl⟩)
 rw[e];exact⟨EqAt.str_str _ _ _ _,RcAt.str_str _ _ _ _,RcNeAt.str_str _ _ _ _⟩
theorem Im{A:LY}:Cmp3 A s .none .none (eJ .non .non):=by rw[bc];exact⟨EqAt.same _,RcAt.none_none,RcNeAt.none_none⟩
theorem pS{K:PySem.W.Frag}{x:D}{v:V}{v':LC}(h:sc x)(r:RD K H x v)(l:aJ v v'):(x=.non/\v'=.none)\/(∃ i t,x=.int i/\v'=.int i t)\/(∃ i t,x=.str i/\v'=.str i t):=by
 cases x with
 | non=>simp only[RD]at r;subst r;exact .inl ⟨rfl,l⟩
 | int i=>simp only[RD]at r;subst r;obtain⟨t,e⟩:=l;exact .inr (.inl ⟨i,t,rfl,e⟩)
 | str i=>simp only[RD]at r;subst r;obtain⟨t,e⟩:=l;exact .inr (.inr ⟨i,t,rfl,e⟩)
 | _=>exact h.elim
theorem Ew{K:PySem.W.Frag}{A:LY}{x y:D}{v u:V}{v' u':LC}(h1:sc x)(h2:sc y)(rx:RD K H x v)(ry:RD K H y u)(lx:aJ v v')(ly:aJ u u'):Cmp3 A s v' u' (eJ x y):=by
 rcases pS h1 rx lx with ⟨rfl,rfl⟩|⟨i,t,rfl,rfl⟩|⟨i,t,rfl,rfl⟩
 ·rcases pS h2 ry ly with ⟨rfl,rfl⟩|⟨j,u,rfl,rfl⟩|⟨j,u,rfl,rfl⟩
  ·exact Im
  ·exact Io
  ·exact Il
 ·rcases pS h2 ry ly with ⟨rfl,rfl⟩|⟨j,u,rfl,rfl⟩|⟨j,u,rfl,rfl⟩
  ·exact Iq
  ·exact Ir
  ·exact Ip
 ·rcases pS h2 ry ly with ⟨rfl,rfl⟩|⟨j,u,rfl,rfl⟩|⟨j,u,rfl,rfl⟩
  ·exact Ij
  ·exact Ik
  ·exact Ii
theorem vO{n:Nat}{x:D}(p:pl n x):sc x\/(∃ m ds,n=m+1/\x=.tup ds/\∀ d∈ds,pl m d)\/(∃ m ds,n=m+1/\x=.lst ds/\∀ d∈ds,pl m d):=by
 cases x with
 | non=>exact .inl trivial
 | int _=>exact .inl trivial
 | str _=>exact .inl trivial
 | tup ds=>cases n with
  | zero=>exact p.elim
  | succ m=>exact .inr (.inl ⟨m,ds,rfl,rfl,p⟩)
 | lst ds=>cases n with
  | zero=>exact p.elim
  | succ m=>exact .inr (.inr ⟨m,ds,rfl,rfl,p⟩)
 | bl _=>cases n<;>exact p.elim
 | fl _=>cases n<;>exact p.elim
 | ref _=>cases n<;>exact p.elim
 | ty _=>cases n<;>exact p.elim
theorem Eu{K:PySem.W.Frag}{A:LY}{b:LB}{its:Array LC}{es:List D}(hu0:A.units < Mp)(t2:s.heap.IsTuple b its){x:D}{v:V}{v':LC}(h:sc x)(rx:RD K H x v)(lx:aJ v v'):Cmp3 A s v' (.ref b) (eJ x (.tup es))/\Cmp3 A s (.ref b) v' (eJ (.tup es) x):=by
 rcases pS h rx lx with ⟨rfl,rfl⟩|⟨i,t,rfl,rfl⟩|⟨i,t,rfl,rfl⟩
 ·rw[bO (by intro z;cases z),bO (by intro z;cases z)]
  exact⟨⟨EqAt.none_tuple t2 hu0,RcAt.none_tuple t2 hu0,RcNeAt.none_tuple t2 hu0⟩,⟨EqAt.tuple_none t2 hu0,RcAt.tuple_none t2 hu0,RcNeAt.tuple_none t2 hu0⟩⟩
 ·rw[bO (by intro z;cases z),bO (by intro z;cases z)]
  exact⟨⟨EqAt.int_tuple _ _ t2 hu0,RcAt.int_tuple _ _ t2 hu0,RcNeAt.int_tuple _ _ t2 hu0⟩,⟨EqAt.tuple_int _ _ t2 hu0,RcAt.tuple_int _ _ t2 hu0,RcNeAt.tuple_int _ _ t2 hu0⟩⟩
 ·rw[bO (by intro z;cases z),bO (by intro z;cases z)]
  exact⟨⟨EqAt.str_tuple _ _ t2 hu0,RcAt.str_tuple _ _ t2 hu0,RcNeAt.str_tuple _ _ t2 hu0⟩,⟨EqAt.tuple_str _ _ t2 hu0,RcAt.tuple_str _ _ t2 hu0,RcNeAt.tuple_str _ _ t2 hu0⟩⟩
theorem Ev{K:PySem.W.Frag}{A:LY}{b:LB}{its:Array LC}{es:List D}(hu0:A.units < Mp)(t2:s.heap.IsList b its){x:D}{v:V}{v':LC}(h:sc x)(rx:RD K H x v)(lx:aJ v v'):Cmp3 A s v' (.ref b) (eJ x (.lst es))/\Cmp3 A s (.ref b) v' (eJ (.lst es) x):=by
 rcases pS h rx lx with ⟨rfl,rfl⟩|⟨i,t,rfl,rfl⟩|⟨i,t,rfl,rfl⟩
 ·rw[bO (by intro z;cases z),bO (by intro z;cases z)]
  exact⟨⟨EqAt.none_list t2 hu0,RcAt.none_list t2 hu0,RcNeAt.none_list t2 hu0⟩,⟨EqAt.list_none t2 hu0,RcAt.list_none t2 hu0,RcNeAt.list_none t2 hu0⟩⟩
 ·rw[bO (by intro z;cases z),bO (by intro z;cases z)]
  exact⟨⟨EqAt.int_list _ _ t2 hu0,RcAt.int_list _ _ t2 hu0,RcNeAt.int_list _ _ t2 hu0⟩,⟨EqAt.list_int _ _ t2 hu0,RcAt.list_int _ _ t2 hu0,RcNeAt.list_int _ _ t2 hu0⟩⟩
 ·rw[bO (by intro z;cases z),bO (by intro z;cases z)]
  exact⟨⟨EqAt.str_list _ _ t2 hu0,RcAt.str_list _ _ t2 hu0,RcNeAt.str_list _ _ t2 hu0⟩,⟨EqAt.list_str _ _ t2 hu0,RcAt.list_str _ _ t2 hu0,RcNeAt.list_str _ _ t2 hu0⟩⟩
theorem um(I:Inv X pins σ H s):∀ (n:Nat) {x y:D} {v u:V} {v' u':LC} {A:LY},pl n x->pl n y->RD X.K H x v->RD X.K H y u->aJ v v'->aJ u u'->A.units+n < Mp->Cmp3 A s v' u' (eJ x y):=by
 intro n
 induction n with
 | zero=>
  intro x y v u v' u' A px py rx ry lx ly hu;rcases vO px with h1|⟨m,_,e,_⟩|⟨m,_,e,_⟩
  ·rcases vO py with h2|⟨m,_,e,_⟩|⟨m,_,e,_⟩
   ·exact Ew h1 h2 rx ry lx ly
   ·cases e
   ·cases e
  ·cases e
  ·cases e
 | succ n ih=>
  intro x y v u v' u' A px py rx ry lx ly hu;have hu0:A.units < Mp:=by walk_at "o"
  have hu1:A.in1.units+n < Mp:=by show A.units+1+n < Mp;omega
  have items:∀ {ds es:List D} {xs ys:List V} {its its2:List LC},(∀ d∈ds,pl n d)->(∀ d∈es,pl n d)->RDs X.K H ds xs->RDs X.K H es ys->Vals xs its->Vals ys its2->
    ∀ j (h1:j < its.toArray.size) (h2:j < its2.toArray.size),EqAt A.in1 s its.toArray[j] its2.toArray[j] (eJ (ds.getD j .non) (es.getD j .non)):=by
   intro ds es xs ys its its2 p1 p2 r1 r2 w1 w2 j h1 h2;obtain⟨x1,e1,q1⟩:=Vals.getV (i:=j) (u:=its.toArray[j]) w1 (by simp at h1;simp[h1])
   obtain⟨x2,e2,q2⟩:=Vals.getV (i:=j) (u:=its2.toArray[j]) w2 (by simp at h2;simp[h2])
   obtain⟨d1,f1,g1⟩:=RDs.getV r1 e1;obtain⟨d2,f2,g2⟩:=RDs.getV r2 e2;have:=(ih (A:=A.in1) (p1 d1 (LZ f1)) (p2 d2 (LZ f2)) g1 g2 q1 q2 hu1).eq;rw[LW,LW,f1,f2];exact this
  rcases vO px with h1|⟨m,ds,e1,rfl,p1⟩|⟨m,ds,e1,rfl,p1⟩
  ·rcases vO py with h2|⟨m,es,e2,rfl,p2⟩|⟨m,es,e2,rfl,p2⟩
   ·exact Ew h1 h2 rx ry lx ly
   ·simp only[RD]at ry;obtain⟨b,ys,rfl,s2,r2⟩:=ry;cases ly;obtain⟨its2,w2,t2,z2⟩:=I.tuple s2;exact (Eu hu0 t2 h1 rx lx).1
   ·simp only[RD]at ry;obtain⟨b,ys,rfl,s2,r2⟩:=ry;cases ly;obtain⟨its2,w2,t2,z2⟩:=I.list s2.sq;exact (Ev hu0 t2.isList h1 rx lx).1
  ·cases e1;simp only[RD]at rx;obtain⟨a,xs,rfl,s1,r1⟩:=rx;cases lx;obtain⟨its,w1,t1,z1⟩:=I.tuple s1;have l1:=w1.length;have l1':=r1.length;rcases vO py with h2|⟨m,es,e2,rfl,p2⟩|⟨m,es,e2,rfl,p2⟩
   ·exact (Eu hu0 t1 h2 ry ly).2
   ·cases e2;simp only[RD]at ry;obtain⟨b,ys,rfl,s2,r2⟩:=ry;cases ly;obtain⟨its2,w2,t2,z2⟩:=I.tuple s2;have l2:=w2.length;have l2':=r2.length;have he:=items p1 p2 r1 r2 w1 w2;have hsz:its.toArray.size=ds.length:=by simp only[LM];omega
    have UA:its2.toArray.size=es.length:=by simp only[LM];omega
    have rc:=RcAt.tuples (A:=A) t1 t2 hu0 he;have rn:=RcNeAt.tuples (A:=A) t1 t2 hu0 he;rw[hsz,UA,yb _ rfl]at rc;rw[hsz,UA,yb _ rfl]at rn;refine⟨?_,rc,rn⟩
    by_cases hab:a=b
    ·subst hab;have:D.tup ds=D.tup es:=Dj I (n+1) (v:=.ref a) px py (qc s1 r1) (qc s2 r2);rw[this,bc];exact EqAt.same _
    ·exact EqAt.of_refs hab rc
   ·simp only[RD]at ry;obtain⟨b,ys,rfl,s2,r2⟩:=ry;cases ly;obtain⟨its2,w2,t2,z2⟩:=I.list s2.sq;rw[bO (by intro z;cases z)]
    exact⟨EqAt.tuple_list t1 t2.isList hu0,RcAt.tuple_list t1 t2.isList hu0,RcNeAt.tuple_list t1 t2.isList hu0⟩
  ·cases e1;simp only[RD]at rx;obtain⟨a,xs,rfl,s1,r1⟩:=rx;cases lx;obtain⟨its,w1,t1,z1⟩:=I.list s1.sq;have l1:=w1.length;have l1':=r1.length;rcases vO py with h2|⟨m,es,e2,rfl,p2⟩|⟨m,es,e2,rfl,p2⟩
   ·exact (Ev hu0 t1.isList h2 ry ly).2
   ·simp only[RD]at ry;obtain⟨b,ys,rfl,s2,r2⟩:=ry;cases ly;obtain⟨its2,w2,t2,z2⟩:=I.tuple s2;rw[bO (by intro z;cases z)]
    exact⟨EqAt.list_tuple t1.isList t2 hu0,RcAt.list_tuple t1.isList t2 hu0,RcNeAt.list_tuple t1.isList t2 hu0⟩
   ·cases e2;simp only[RD]at ry;obtain⟨b,ys,rfl,s2,r2⟩:=ry;cases ly;obtain⟨its2,w2,t2,z2⟩:=I.list s2.sq;have l2:=w2.length;have l2':=r2.length;have he:=items p1 p2 r1 r2 w1 w2;have hsz:its.toArray.size=ds.length:=by simp only[LM];omega
    have UA:its2.toArray.size=es.length:=by simp only[LM];omega
    have rc:RcAt A s (.ref a) (.ref b) (eJ (.lst ds) (.lst es))/\RcNeAt A s (.ref a) (.ref b) (!eJ (.lst ds) (.lst es)):=by
     rw[FW]
     by_cases hl:ds.length=es.length
     ·have rc:=RcAt.lists (A:=A) t1.isList t2.isList (by walk_at "o") hu0 he
      have rn:=RcNeAt.lists (A:=A) t1.isList t2.isList (by walk_at "o") hu0 he
      have e:=yb (ds:=ds) (es:=es) its.toArray.size (by walk_at "o")
      rw[hl,beq_self_eq_true,Bool.and_true]at e;rw[e]at rc rn;exact⟨rc,rn⟩
     ·rw[bO (by intro z;cases z;exact hl rfl)]
      exact⟨RcAt.lists_lengths t1.isList t2.isList (by rw[hsz,UA];simpa using hl) hu0,RcNeAt.lists_lengths t1.isList t2.isList (by rw[hsz,UA];simpa using hl) hu0⟩
    refine⟨?_,rc.1,rc.2⟩
    by_cases hab:a=b
    ·subst hab;have:D.lst ds=D.lst es:=Dj I (n+1) (v:=.ref a) px py (qd s1 r1) (qd s2 r2);rw[this,bc];exact EqAt.same _
    ·exact EqAt.of_refs hab rc.1
end
end L3
namespace L2
open PySem PySem.Spec PyProof.Rows
def jQ(cs:List Nat)(lo hi:Option Int):List Nat:=(cs.drop (HT.sIx cs.length 0 lo)).take (HT.sIx cs.length cs.length hi - HT.sIx cs.length 0 lo)
theorem DF(cs:Array Nat)(i k:Nat):(List.range k).filterMap (fun m=>cs[i+m]?)=(cs.toList.drop i).take k:=by
 induction k generalizing i with
 | zero=>simp
 | succ k ih=>
  rw[List.range_succ_eq_map,List.filterMap_cons,List.filterMap_map];have e:(fun m=>cs[i+m]?) ∘ Nat.succ=fun m=>cs[(i+1)+m]?:=by funext m;simp[Nat.succ_eq_add_one];congr 1;omega
  rw[e,ih (i+1)];cases h:cs.toList.drop i with
  | nil=>
   have hl:cs.toList.length<=i:=List.drop_eq_nil_iff.mp h;have h1:cs[i+0]?=none:=by simp at hl;simp[hl]
   have h2:cs.toList.drop (i+1)=[]:=List.drop_eq_nil_iff.mpr (by walk_at "o")
   rw[h1,h2];simp
  | cons c r=>
   have hlt:i < cs.toList.length:=by
    refine Nat.lt_of_not_le fun hle=>?_;rw[List.drop_eq_nil_iff.mpr hle]at h;cases h
   have h0:=List.drop_eq_getElem_cons hlt;rw[h]at h0;cases h0;have h1:cs[i+0]?=some cs.toList[i]:=by simp at hlt;simp[hlt]
   rw[h1,List.take_succ_cons]
theorem zA(n:Nat)(o:Option Int)(d:Nat)(hd:d<=n):(match o with
  | none=>(d:Int)
  | some i=>max 0 (min (if i < 0 then i+(n:Int)else i) (n:Int)))=((HT.sIx n d o:Nat):Int):=by
 cases o with
 | none=>rfl
 | some i=>
  simp only[HT.sIx]
  by_cases h:i < 0
  ·simp only[h,if_true];omega
  ·simp only[h,if_false];omega
theorem ub(lo hi:Option Int)(n:Nat):MW lo hi 1 n=(List.range (HT.sIx n n hi - HT.sIx n 0 lo)).map fun m=>HT.sIx n 0 lo+m:=by
 have h1:=zA n lo 0 (Mg _);have h2:=zA n hi n (le_refl _);have e:MW lo hi 1 n=QL ((HT.sIx n 0 lo:Nat):Int) ((HT.sIx n n hi:Nat):Int) 1:=by
  rw[<- h1,<- h2];unfold MW;cases lo<;>cases hi<;>simp
 rw[e];unfold QL;simp only[show (1:Int) > 0 by decide,if_true]
 have c:(if ((HT.sIx n 0 lo:Nat):Int) < ((HT.sIx n n hi:Nat):Int)then (((HT.sIx n n hi:Nat):Int) - ((HT.sIx n 0 lo:Nat):Int)+1 - 1) / 1 else 0).toNat=HT.sIx n n hi - HT.sIx n 0 lo:=by
  rw[Int.ediv_one];split<;>omega
 rw[c];refine MR fun k _=>?_;omega
theorem jg(cs:List Nat)(lo hi:Option Int):(jQ cs lo hi).length<=cs.length:=by
 unfold jQ;rw[Mm,N8];omega
theorem BI(x:Str)(lo hi:Option Int):Txt.slice x lo hi=⟨(jQ x.cps.toList lo hi).toArray⟩:=by
 have hn:x.length=x.cps.toList.length:=by simp[Ny]
 have key:(MW lo hi 1 x.length).filterMap (x.cps[·]?)=jQ x.cps.toList lo hi:=by
  rw[ub,List.filterMap_map];unfold jQ;rw[<- hn,<- DF];rfl
 unfold Txt.slice;split
 ·rename_i h;rw[Bool.and_eq_true]at h;have hl:(MW lo hi 1 x.length).length=x.length:=by simpa using h.2
  rw[ub,LG,List.length_range]at hl;have b1:HT.sIx x.length x.length hi<=x.length:=HT.sIx_le _ _ (le_refl _) _;have h0:HT.sIx x.length 0 lo=0\/x.length=0:=by walk_at "o"
  have e:jQ x.cps.toList lo hi=x.cps.toList:=by
   unfold jQ;rw[<- hn];rcases h0 with h0|h0
   ·have h3:HT.sIx x.length x.length hi=x.length:=by walk_at "o"
    rw[h0,h3,Pi,Nat.sub_zero,hn,Mo]
   ·have:x.cps.toList=[]:=length_eq_zero_iff.mp (by walk_at "o")
    rw[this];simp
  rw[e]
 ·rw[key]
section
variable{X:Cx}
theorem EV{ns:List Str}:∀ {us:List LC},Vals (ns.map V.str) us->StrsAre us ns:=by
 induction ns with
 | nil=>intro us r;cases r;exact .nil
 | cons n t ih=>
  intro us r;cases r with
  | cons a b=>
   obtain⟨tk,rfl⟩:=a;exact .cons n tk (ih b)
theorem FE:K4 X "str.join" (fun x xs H Q=>∃ (z:Str) (a:LB) (ys:List Str),x=.str z/\xs=[.ref a]/\jT X.K H a (ys.map V.str)/\(ys.map (·.length)).sum+ys.length*z.length<=16777216/\Q (.str (Qx z ys)) H):=by
 intro pins s σ H x xs v us Q I rx rs h;obtain⟨z,a,ys,rfl,rfl,hq,hl,q⟩:=h;obtain⟨t,rfl⟩:=rx;obtain⟨u,rfl,ru⟩:=vI rs;cases ru;obtain⟨its,rv,p,hz⟩:=I.list hq;exact join_list p.isList (by simpa using EV rv) hl fun t' k=>⟨.str _,H,I.tok k,⟨t',rfl⟩,q⟩
def yE(x:Str)(k:Nat):Str:=⟨(List.replicate k x.cps.toList).flatten.toArray⟩
theorem qH(x:Array Nat):∀ (k:Nat) (acc:List Nat),(List.replicate k x).foldl (· ++ ·) acc.toArray=(acc ++ (List.replicate k x.toList).flatten).toArray
 | 0,acc=>by simp
 | k+1,acc=>by
  rw[List.replicate_succ,OD,List.replicate_succ,List.flatten_cons];have:acc.toArray ++ x=(acc ++ x.toList).toArray:=by simp
  rw[this,qH x k];simp
theorem Ai:iW X (MZ .Mult) (fun x y H Q=>∃ z n,x=.str z/\y=.int n/\-(2 ^ 63)<=n/\n < 2 ^ 63/\z.length*n.toNat<=LL/\Q (.str (yE z n.toNat)) H):=by
 intro pins s σ H x y v u Q I rx ry h;obtain⟨z,n,rfl,rfl,h1,h2,hl,q⟩:=h;obtain⟨t,rfl⟩:=rx;obtain⟨t',rfl⟩:=ry;have hn:=mh;have len_rep:(yE z n.toNat).length=z.length*n.toNat:=by
  simp[yE,Ny,Nat.mul_comm]
 have bound:¬ n < 1->(z.length:Int)<=(2 ^ 63 - 1) / n:=fun h=>by
  rw[Int.le_ediv_iff_mul_le (by walk_at "o")]
  have e:(z.length:Int)*n=((z.length*n.toNat:Nat):Int):=by
   rw[Int.natCast_mul,Int.toNat_of_nonneg (by walk_at "o")]
  rw[e];omega
 refine PySem.P.mul_str (by rw[decide_eq_false (by walk_at "o"),decide_eq_false (by walk_at "o")];rfl) (fun h _=>by have:=bound h;omega) (fun h _=>?_) ?_
 ·unfold Builtin.Str.tooLong;exact decide_eq_false (by walk_at "o")
 ·have fin:∀ tk s',Inv X pins σ H s'->∀ w,w=yE z n.toNat->EP X pins σ Q (.str w tk) s':=fun tk s' I' w e=>⟨.str (yE z n.toNat),H,I',⟨tk,by rw[e]⟩,q⟩
  split
  ·rename_i hlt;have:n.toNat=0:=by walk_at "o"
   exact⟨by decide,fin _ _ (I.tok _) _ (by rw[this];rfl)⟩
  ·split
   ·rename_i hlt he;refine fin _ _ I _ ?_;rw[Bool.or_eq_true]at he;rcases he with he|he
    ·have:n=1:=by simpa using he
     subst this;simp[yE]
    ·have hz:z.length=0:=by simpa using he
     have hz':z.cps=#[]:=Array.eq_empty_of_size_eq_zero hz;cases z;simp only at hz';subst hz';simp[yE]
   ·refine⟨?_,fin _ _ (I.tok _) _ ?_⟩
    ·show (⟨_⟩:Str).length<=LL;have e:=qH z.cps n.toNat [];simp only[NZ]at e;rw[show (#[]:Array Nat)=[].toArray from rfl,e]
     exact le_trans (Nat.le_of_eq len_rep) hl
    ·have e:=qH z.cps n.toNat [];simp only[NZ]at e;rw[show (#[]:Array Nat)=[].toArray from rfl,e]
     rfl
theorem GU:CB X (fun x lo hi H Q=>∃ z,x=.str z/\z.length<=LL/\Q (.str ⟨(jQ z.cps.toList lo hi).toArray⟩) H):=by
 intro pins s σ H x v vl vu lo hi sl Q I rx hs pl pu h;obtain⟨z,rfl,hz,q⟩:=h;obtain⟨t,rfl⟩:=rx;refine⟨"str",_,PySem.F.slot_str_getitem.lookup,QJ _ _ _,?_⟩;have part:∀ {v:LC} {o:Option Int},O5 v o->∃ p:Option (Int×Tok),v=partValue p/\p.map (·.1)=o:=by
  intro v o h;cases h with
  | none=>exact⟨none,rfl,rfl⟩
  | int i t=>exact⟨some (i,t),rfl,rfl⟩
 obtain⟨pl',e1,f1⟩:=part pl;obtain⟨pu',e2,f2⟩:=part pu;subst e1 e2;refine wpAny_getItem_str_slice (l:=pl') (u:=pu') (st:=none) ?_ rfl ?_
 ·obtain⟨o,a,b,c⟩:=hs;exact⟨o,a,b,c⟩
 ·unfold sliceMade;subst f1 f2;have e:(if (((none:Option (Int×Tok)).map (·.1)).getD 1 == 1 && (slicePicked z pl' pu' none).length == z.length)=true then z else ⟨((slicePicked z pl' pu' none).filterMap (z.cps[·]?)).toArray⟩)=(⟨(jQ z.cps.toList (pl'.map (·.1)) (pu'.map (·.1))).toArray⟩:Str):=by
   rw[<- BI];rfl
  refine post_val_or_str ⟨?_,fun t' k=>?_⟩
  ·rw[e];show (jQ z.cps.toList (pl'.map (·.1)) (pu'.map (·.1))).toArray.size<=LL
   rw[LM];refine le_trans (jg _ _ _) ?_
   simpa[Ny]using hz
  ·rw[e];exact⟨.str _,H,I.tok k,⟨t',rfl⟩,q⟩
end
end L2
namespace L3
open PySem PySem.Spec PyProof.Rows L2
def kB(K:PySem.W.Frag)(r3:R3):R2:=fun v u H Q=>∃ x y G Q3,RD K H x v/\RD K H y u/\RG K H G/\r3 x y G Q3/\uu K G H Q3 Q
def fj(r:R3)(ta tb:bH):bH:=fun σ G Q=>ta σ G fun x G1=>tb σ G1 fun y G2=>r (val x) (val y) G2 Q
section
variable{X:Cx}{a b c:L7}{ta tb tc:bH}{pos:Pos}{r:R3}
theorem IG{K:PySem.W.Frag}{Q:VK}{τ:St}{H:Hp}(h:aE K (fj r ta tb) τ H Q):IB (kB K r) (vX K ta) (vX K tb) τ H Q:=by
 obtain⟨σ,G,Q3,rs,rg,h,k⟩:=h;refine⟨σ,G,_,rs,rg,h,fun x G1 v H1 h1 k1 rg1 re1=>⟨σ,G1,_,rs.mono (k1.stb rg),rg1,h1,fun y G2 u H2 h2 k2 rg2 re2=>?_⟩⟩;exact⟨val x,val y,G2,Q3,RD.mono (k2.stb rg1) _ _ re1,re2,rg2,h2,k.base (k1.trans k2)⟩
theorem Ag{op:OH}(ho:iW X (Mj op) (kB X.K r))(ha:PE X a (aE X.K ta))(hb:PE X b (aE X.K tb))(hm:MK op b=false):PE X (.Compare a [op] [b] pos) (aE X.K (fj r ta tb)):=
 (Fo ho (dW ha) (dW hb) hm).imp fun _ _ _ h=>IG h
theorem bE{op:OH}(ho:iW X (Mj op) (kB X.K r))(ha:PE X a (aE X.K ta))(hb:PE X b (aE X.K tb))(hm:MK op b=false):PT X (.Compare a [op] [b] pos) (cY X.K (cJ (fj r ta tb))):=
 (A6 ho (dW ha) (dW hb) hm).imp fun _ _ _ h=>IG (wn h)
def zI:R3:=fun x y G Q=>match x,y with
 | .bl a,.bl b=>Q (.bl (a == b)) G
 | x,y=>pl 8 x/\pl 8 y/\Q (.bl (eJ x y)) G
def yT:R3:=fun x y G Q=>match x,y with
 | .bl a,.bl b=>Q (.bl (!(a == b))) G
 | x,y=>pl 8 x/\pl 8 y/\Q (.bl (!eJ x y)) G
theorem pO(hu:X.A.units+8 < Mp):iW X (Mj .Eq) (kB X.K zI):=by
 rintro pins s σ H v u v' u' Q I rv ru ⟨x,y,G,Q3,rx,ry,rg,h,k⟩
 unfold zI at h;split at h
 ·rename_i a b;simp only[RD]at rx ry;subst rx ry;cases rv;cases ru;exact SeqAt.RcAt.bool_bool a b X.prog X.w X.xe _ ⟨.bl (a == b),H,I,rfl,k _ G _ H h Kp.refl rg (.of h8)⟩
 ·obtain⟨p1,p2,q⟩:=h;exact (um I 8 p1 p2 rx ry rv ru hu).rc X.prog X.w X.xe _ ⟨.bl _,H,I,rfl,k _ G _ H q Kp.refl rg (.of h8)⟩
theorem on(hu:X.A.units+8 < Mp):iW X (Mj .NotEq) (kB X.K yT):=by
 rintro pins s σ H v u v' u' Q I rv ru ⟨x,y,G,Q3,rx,ry,rg,h,k⟩
 unfold yT at h;split at h
 ·rename_i a b;simp only[RD]at rx ry;subst rx ry;cases rv;cases ru;exact SeqAt.RcNeAt.bool_bool a b X.prog X.w X.xe _ ⟨.bl (!(a == b)),H,I,rfl,k _ G _ H h Kp.refl rg (.of h8)⟩
 ·obtain⟨p1,p2,q⟩:=h;exact (um I 8 p1 p2 rx ry rv ru hu).ne X.prog X.w X.xe _ ⟨.bl _,H,I,rfl,k _ G _ H q Kp.refl rg (.of h8)⟩
abbrev cX:=List D->Gp->mZ->Prop
def ax(K:PySem.W.Frag)(sp:cX):Sp:=fun vs H Q _=>∃ ds G Q3,RDs K H ds vs/\RG K H G/\sp ds G Q3/\uu K G H Q3 Q
def jw(N:List Str)(ds:List D):fO:=ds.map some ++ List.replicate (N.length - ds.length) none
theorem De{K:PySem.W.Frag}{H:Hp}{N:List Str}{ds:List D}{vs:List V}(r:RDs K H ds vs):RS K H (jw N ds) (L2.start N vs):=by
 unfold jw L2.start;have hl:=r.length;rw[hl];have rep:∀ n:Nat,Oj (CC K H) (List.replicate n none) (List.replicate n none):=fun n=>by
  induction n with
  | zero=>exact .nil
  | succ n ih=>exact .cons (show CC K H none none from trivial) ih
 have go:∀ {ds:List D} {vs:List V} {σ:fO} {τ:St},RDs K H ds vs->Oj (CC K H) σ τ->Oj (CC K H) (ds.map some ++ σ) (vs.map some ++ τ):=by
  intro ds
  induction ds with
  | nil=>intro vs σ τ r q;rw[r.inv_nil];exact q
  | cons d t ih=>
   intro vs σ τ r q;obtain⟨x,xs,e,h1,h2⟩:=r.inv_cons;subst e;exact .cons (show CC K H (some d) (some x)from h1) (ih h2 q)
 exact go r (rep _)
variable{P:LS}{w:L6}{K:PySem.W.Frag}{mg:Str->Option LC}{base:L5}
structure Fn3(P:LS)(w:L6)(K:PySem.W.Frag)(mg:Str->Option LC)(base:L5)(k:Nat)(x:Str)(dds:List D)(sp:cX):Prop where
 ex:∃ f fd ps ds dvs,FnOk P w K mg base dz k f fd ps (ax K sp)/\mg x=some (.ref f)/\PySem.W.keepIn K (.ref f)=true/\fw K fd ps ds/\Vals dvs ds/\∀ H,RDs K H dds dvs
structure Mt3(P:LS)(w:L6)(K:PySem.W.Frag)(mg:Str->Option LC)(base:L5)(k:Nat)(C:LB)(m:Str)(dds:List D)(sp:cX):Prop where
 cl:Cls K C
 ex:∃ f fd ps ds dvs,FnOk P w K mg base dz k f fd ps (ax K sp)/\Meth K C m f/\fw K fd ps ds/\Vals dvs ds/\∀ H,RDs K H dds dvs
structure Mk3(P:LS)(w:L6)(K:PySem.W.Frag)(mg:Str->Option LC)(base:L5)(k:Nat)(x:Str)(C:LB)(dds:List D)(sp:cX):Prop where
 ex:∃ f fd ps ds dvs,Mk K C f/\mg x=some (.ref C)/\FnOk P w K mg base dz k f fd ps (ax K sp)/\fw K fd ps ds/\Vals dvs ds/\∀ H,RDs K H dds dvs
def aY(sp:cX)(dds:List D)(ta:pL):bH:=fun σ G Q=>ta σ G fun ds G1=>sp (ds ++ dds) G1 Q
def aW(C:LB)(L:List Str)(sp:cX)(dds:List D)(to:bH)(ta:pL):bH:=fun σ G Q=>to σ G fun x G1=>match x with
 | .ref a=>match G1 a with
  | some (.ins C' L' _)=>(C'=C/\L'=L)/\ta σ G1 fun ds G2=>sp (.ref a::(ds ++ dds)) G2 Q
  | _=>False
 | _=>False
def kO(C:LB)(sp:cX)(dds:List D)(ta:pL):bH:=fun σ G Q=>ta σ G fun ds G1=>∀ a,G1 a=none->sp (.ref a::(ds ++ dds)) (gset G1 a (.ins C [] [])) fun d G2=>d=.non/\Q (.ref a) G2
variable{e o:L7}{es:List L7}{t:pL}{te to:bH}{k:Nat}{x m:Str}{p apos:Pos}{dds:List D}{sp:cX}{C:LB}
theorem Cw{Q:VK}{τ:St}{H:Hp}{dvs:List V}(hd:∀ H,RDs K H dds dvs)(h:aE K (aY sp dds t) τ H Q)(E:XK):Gn (ax K sp) dvs E (fq K t) τ H Q:=by
 obtain⟨σ,G,Q3,rs,rg,h,kk⟩:=h;exact⟨σ,G,_,rs,rg,h,fun ds G1 vs H1 q k1 rg1 rds=>⟨ds ++ dds,G1,Q3,rds.append (hd H1),rg1,q,kk.base k1⟩⟩
theorem aP(F:Fn3 X.prog X.w X.K X.mg X.base k x dds sp)(hr:Room k X.A)(hg:Gl X x)(ha:PA X (e::es) (fq X.K t))(hdb:(x == ("__debug__":Str))=false:=by decide)(he:LR (e::es) X.env=(false,eval e X.env)::LR es X.env:=by rfl)
  (hpl:(MQ pos (LR es X.env)).any (·.1)=false:=by rfl):PE X (.Call (.Name x p) (e::es) [] pos) (aE X.K (aY sp dds t)):=by
 obtain⟨f,fd,ps,ds,dvs,ok,hm,hk,hb,hv,hd⟩:=F.ex;exact (Fp ok hr hg hm hk hb hv vR ha hdb he hpl).imp fun _ _ _ h=>Cw hd h E0
theorem qv{K:PySem.W.Frag}{gs:List (Str×V)}{L:List Str}{m:Str}(h:gs.map (·.1)=L)(n:m∉L):gs.lookup m=none:=by
 subst h
 induction gs with
 | nil=>rfl
 | cons g r ih=>
  obtain⟨y,v⟩:=g;rw[L1,L_,not_or]at n;rw[MX,show (m == y)=false by simpa using n.1]
  exact ih n.2
theorem B5{Q:VK}{τ:St}{H:Hp}{dvs:List V}{L:List Str}(hL:m∉L)(hd:∀ H,RDs K H dds dvs)(h:aE K (aW C L sp dds to t) τ H Q)(E:XK):CU C m (ax K sp) dvs E (aE K to) (fq K t) τ H Q:=by
 obtain⟨σ,G,Q3,rs,rg,h,kk⟩:=h;refine⟨σ,G,_,rs,rg,h,fun d G1 v H1 q k1 rg1 re=>?_⟩;cases d with
 | ref a=>
  dsimp only at q;split at q
  ·rename_i C' L' ds hg;obtain⟨⟨rfl,rfl⟩,q⟩:=q;obtain⟨ho,e1,ro⟩:=rg1 a _ hg;cases ho with
   | ins C2 dx gs=>
    obtain⟨rfl,r2,r3⟩:=ro;refine⟨a,dx,gs,re.ref,e1,qv (K:=K) r2 hL,σ,G1,_,rs.mono (k1.stb rg),rg1,q,fun ds' G2 vs H2 q2 k2 rg2 rds=>?_⟩;rw[re.ref];exact⟨.ref a::(ds' ++ dds),G2,Q3,RDs.cons iD (rds.append (hd H2)),rg2,q2,kk.base (k1.trans k2)⟩
   | _=>exact ro.elim
  ·exact q.elim
 | _=>exact q.elim
theorem cT{pl:Sem Bool}{L:List Str}(F:Mt3 X.prog X.w X.K X.mg X.base k C m dds sp)(hL:m∉L)(hr:Room k X.A)(ho:PE X o (aE X.K to))(ha:PA X (e::es) (fq X.K t))
  (hst:LR (e::es) X.env=(false,eval e X.env)::LR es X.env:=by rfl) (hpl:(MQ pos (LR es X.env)).any (·.1)=false:=by rfl)
  (ht:eval (.Call (.Attribute o m apos) (e::es) [] pos) X.env=(do
   let ov <- eval o X.env
   Ob apos.atName
   let (f,first) <- holding [ov] (Oe ov m pl)
   O_ pos f first (MQ pos (LR (e::es) X.env)) (N9 pos (Nf [] X.env))):=by rfl):
  PE X (.Call (.Attribute o m apos) (e::es) [] pos) (aE X.K (aW C L sp dds to t)):=by
 obtain⟨f,fd,ps,ds,dvs,ok,hm,hb,hv,hd⟩:=F.ex;exact (Fm ho F.cl hm ok hr hb hv vR ha hst hpl ht).imp fun _ _ _ h=>B5 hL hd h E0
theorem bg{pl:Sem Bool}{L:List Str}(F:Mt3 X.prog X.w X.K X.mg X.base k C m dds sp)(hL:m∉L)(hr:Room k X.A)(ho:PE X o (aE X.K to))
  (ht:eval (.Call (.Attribute o m apos) [] [] pos) X.env=(do
   let ov <- eval o X.env
   Ob apos.atName
   let (f,first) <- holding [ov] (Oe ov m pl)
   O_ pos f first (MQ pos (LR [] X.env)) (N9 pos (Nf [] X.env))):=by rfl):
  PE X (.Call (.Attribute o m apos) [] [] pos) (aE X.K (aW C L sp dds to au)):=by
 obtain⟨f,fd,ps,ds,dvs,ok,hm,hb,hv,hd⟩:=F.ex;refine (DJ ho F.cl hm ok hr hb hv vR ht).imp fun τ H Q h=>?_;obtain⟨σ,G,Q3,rs,rg,h,kk⟩:=h;refine⟨σ,G,_,rs,rg,h,fun d G1 v H1 q k1 rg1 re=>?_⟩;cases d with
 | ref a=>
  dsimp only at q;split at q
  ·rename_i C' L' ds hg;obtain⟨⟨rfl,rfl⟩,q⟩:=q;obtain⟨ho,e1,ro⟩:=rg1 a _ hg;cases ho with
   | ins C2 dx gs=>
    obtain⟨rfl,r2,r3⟩:=ro;refine⟨a,dx,gs,re.ref,e1,qv (K:=X.K) r2 hL,?_⟩;rw[re.ref];exact⟨.ref a::([] ++ dds),G1,Q3,RDs.cons iD (hd H1),rg1,q,kk.base k1⟩
   | _=>exact ro.elim
  ·exact q.elim
 | _=>exact q.elim
theorem B6{Q:VK}{τ:St}{H:Hp}{dvs:List V}(hd:∀ H,RDs K H dds dvs)(h:aE K (kO C sp dds t) τ H Q)(E:XK):Gm C (ax K sp) dvs E (fq K t) τ H Q:=by
 obtain⟨σ,G,Q3,rs,rg,h,kk⟩:=h;refine⟨σ,G,_,rs,rg,h,fun ds G1 vs H1 q k1 rg1 rds a dx na nd ne=>?_⟩;have kd:Kp G1 H1 G1 (bv H1 dx (.own a)):=Kp.laid nd;have rgd:RG K (bv H1 dx (.own a)) G1:=rg1.laid nd;have na':bv H1 dx (.own a) a=none:=by rw[aA (Ne.symm ne)];exact na
 have ka:Kp G1 H1 (gset G1 a (.ins C [] [])) (bv (bv H1 dx (.own a)) a (.ins C dx [])):=fun b h' e n=>by
  have:b≠a:=bZ e na;exact⟨by rw[aA this,aA (bZ e nd)];exact e,by rw[aj this];exact n⟩
 have st:Stb K H1 (bv (bv H1 dx (.own a)) a (.ins C dx [])):=ka.stb rg1;have rga:RG K (bv (bv H1 dx (.own a)) a (.ins C dx [])) (gset G1 a (.ins C [] [])):=fun b o q=>by
  by_cases hb:b=a
  ·subst hb;rw[av]at q;cases q;exact⟨_,aM,rfl,rfl,RDs.nil⟩
  ·rw[aj hb]at q;obtain⟨h',e1,r⟩:=rg1 b o q;exact⟨h',by rw[aA hb,aA (bZ e1 nd)];exact e1,r.mono st⟩
 refine⟨.ref a::(ds ++ dds),_,_,RDs.cons iD (RDs.append (RDs.mono st _ _ rds) (hd _)),rga,q a (rg1.free na),fun d G2 v H2 q2 k2 rg2 re=>?_⟩;obtain⟨rfl,q2⟩:=q2;exact⟨re.non,kk _ G2 _ H2 q2 (k1.trans (ka.trans k2)) rg2 (.of iD)⟩
theorem kq(F:Mk3 X.prog X.w X.K X.mg X.base k x C dds sp)(hr:Room (k+1) X.A)(hg:Gl X x)(ha:PA X (e::es) (fq X.K t))(hdb:(x == ("__debug__":Str))=false:=by decide)(he:LR (e::es) X.env=(false,eval e X.env)::LR es X.env:=by rfl)
  (hpl:(MQ pos (LR es X.env)).any (·.1)=false:=by rfl):PE X (.Call (.Name x p) (e::es) [] pos) (aE X.K (kO C sp dds t)):=by
 obtain⟨f,fd,ps,ds,dvs,M,hm,ok,hb,hv,hd⟩:=F.ex;exact (Fn M ok hr hg hm hb hv vR ha hdb he hpl).imp fun _ _ _ h=>B6 hd h E0
def iF(C:LB)(L:List Str)(i:Nat)(to:bH):bH:=fun σ G Q=>to σ G fun x G1=>match x with
 | .ref a=>match G1 a with
  | some (.ins C' L' ds)=>(C'=C/\L'=L)/\match ds[i]? with
   | some d=>Q d G1
   | none=>False
  | _=>False
 | _=>False
def vG(L:List Str)(f:Str)(i:Nat):Prop:=L[i]?=some f/\∀ j,j < i->L[j]?≠some f
theorem Be:∀ {gs:List (Str×V)} {f:Str} {i:Nat} {v:V},vG (gs.map (·.1)) f i->(gs.map (·.2))[i]?=some v->gs.lookup f=some v
 | [],f,i,v,h,e=>by simp at e
 | (g,u)::r,f,0,v,h,e=>by
  have:g=f:=by simpa using h.1
  subst this;simp at e;subst e;rw[MX,beq_self_eq_true]
 | (g,u)::r,f,i+1,v,h,e=>by
  have ne:g≠f:=fun z=>h.2 0 (Nat.succ_pos _) (by simp[z])
  rw[MX,show (f == g)=false by simpa using Ne.symm ne]
  exact Be (i:=i) ⟨by simpa using h.1,fun j hj z=>h.2 (j+1) (Nat.succ_lt_succ hj) (by simpa using z)⟩ (by simpa using e)
theorem Dq:∀ {gs:List (Str×V)} {f:Str} {i:Nat} (v:V),vG (gs.map (·.1)) f i->(f9 f v gs).map (·.1)=gs.map (·.1)/\(f9 f v gs).map (·.2)=(gs.map (·.2)).set i v
 | [],f,i,v,h=>by have:=h.1;simp at this
 | (g,u)::r,f,0,v,h=>by
  have:g=f:=by simpa using h.1
  subst this;simp[f9]
 | (g,u)::r,f,i+1,v,h=>by
  have ne:g≠f:=fun z=>h.2 0 (Nat.succ_pos _) (by simp[z])
  have ih:=Dq (gs:=r) (i:=i) v ⟨by simpa using h.1,fun j hj z=>h.2 (j+1) (Nat.succ_lt_succ hj) (by simpa using z)⟩
  simp only[f9,if_neg ne,L1,My,ih.1,ih.2,and_self]
theorem put_new:∀ {gs:List (Str×V)} {f:Str} (v:V),f∉gs.map (·.1)->f9 f v gs=gs ++ [(f,v)]
 | [],f,v,h=>rfl
 | (g,u)::r,f,v,h=>by
  rw[L1,L_,not_or]at h;simp only[f9,if_neg (Ne.symm h.1),put_new v h.2,NR]
theorem fo{f:Str}{L:List Str}{i:Nat}(cl:Cls X.K C)(na:cZ X.K C f)(hi:vG L f i)(ho:PE X o (aE X.K to))(hb:ML o f X.env (eval o X.env)=eval o X.env:=by rfl):PE X (.Attribute o f pos) (aE X.K (iF C L i to)):=
 (DK ho hb).imp fun τ H Q zz=>by
 obtain⟨σ,G,Q3,rs,rg,h,kk⟩:=zz;exact (
  ⟨σ,G,_,rs,rg,h,fun d G1 v H1 q k1 rg1 re=>by
    cases d with
    | ref a=>
     dsimp only at q;split at q
     ·rename_i C' L' ds hg;obtain⟨⟨rfl,rfl⟩,q⟩:=q;split at q
      ·rename_i d hd;obtain⟨ho,e1,ro⟩:=rg1 a _ hg;cases ho with
       | ins C2 dx gs=>
        obtain⟨rfl,r2,r3⟩:=ro;subst r2;obtain⟨w,hw,rd⟩:=r3.get hd;exact⟨a,_,dx,gs,w,re.ref,e1,cl,na,Be hi hw,kk _ G1 _ H1 q k1 rg1 (.of rd)⟩
       | _=>exact ro.elim
      ·exact q.elim
     ·exact q.elim
    | _=>exact q.elim⟩)
def A5(C:LB)(L:List Str)(i:Nat)(to tv:bH):cn:=fun D σ G=>tv σ G fun d G1=>to σ G1 fun x G2=>match x with
 | .ref a=>match G2 a with
  | some (.ins C' L' ds)=>(C'=C/\L'=L)/\D.nx σ (gset G2 a (.ins C L (ds.set i (val d))))
  | _=>False
 | _=>False
def sK(C:LB)(L:List Str)(f:Str)(to tv:bH):cn:=fun D σ G=>tv σ G fun d G1=>to σ G1 fun x G2=>match x with
 | .ref a=>match G2 a with
  | some (.ins C' L' ds)=>(C'=C/\L'=L)/\D.nx σ (gset G2 a (.ins C (L ++ [f]) (ds ++ [val d])))
  | _=>False
 | _=>False
theorem Ab{H:Hp}{G:Gp}{a:LB}{C2 dx:LB}{gs gs':List (Str×V)}{L':List Str}{ds':List D}(rg:RG K H G)(e1:H a=some (.ins C2 dx gs))(r1:gs'.map (·.1)=L')(r2:RDs K H ds' (gs'.map (·.2)))(hg:G a≠none):
  Kp G H (gset G a (.ins C2 L' ds')) (bv H a (.ins C2 dx gs'))/\RG K (bv H a (.ins C2 dx gs')) (gset G a (.ins C2 L' ds')):=by
 have kp:Kp G H (gset G a (.ins C2 L' ds')) (bv H a (.ins C2 dx gs')):=fun b h e n=>by
  have:b≠a:=fun z=>by subst z;exact hg n
  exact⟨by rw[aA this];exact e,by rw[aj this];exact n⟩
 have st:=kp.stb rg;refine⟨kp,fun b o q=>?_⟩
 by_cases hb:b=a
 ·subst hb;rw[av]at q;cases q;exact⟨_,aM,rfl,r1,RDs.mono st _ _ r2⟩
 ·rw[aj hb]at q;obtain⟨h',e2,r⟩:=rg b o q;exact⟨h',by rw[aA hb];exact e2,r.mono st⟩
theorem IY{f:Str}{L:List Str}{i:Nat}{pos':Pos}(cl:Cls X.K C)(na:cZ X.K C f)(hi:vG L f i)(hl:L.length < 1000)(ho:PE X o (aE X.K to))(hv:PE X e (aE X.K te))(hs:NA e (some (.Attribute o f pos')) pos.line X.env=pure false:=by rfl):
  PS X (.Assign [.Attribute o f pos'] e pos) (cE X.K (A5 C L i to te)):=
 (Ac ho (dW hv) hs).imp fun D τ H zz=>by
 obtain⟨σ,G,D3,rs,rg,h,kk⟩:=zz;exact (
  ⟨σ,G,_,rs,rg,h,fun d G1 v H1 q1 k1 rg1 rd=>⟨σ,G1,_,rs.mono (k1.stb rg),rg1,q1,fun x G2 u H2 q2 k2 rg2 re=>by
    cases x with
    | ref a=>
     dsimp only at q2;split at q2
     ·rename_i C' L' ds hg;obtain⟨⟨rfl,rfl⟩,q2⟩:=q2;obtain⟨ho,e1,ro⟩:=rg2 a _ hg;cases ho with
      | ins C2 dx gs=>
       obtain⟨rfl,r2,r3⟩:=ro;subst r2;obtain⟨p1,p2⟩:=Dq (gs:=gs) v hi;have rd2:=RD.mono (k2.stb rg1) _ _ rd;obtain⟨kp,rg3⟩:=Ab (gs':=f9 f v gs) (L':=gs.map (·.1)) (ds':=ds.set i (val d)) rg2 e1 p1 (by rw[p2];exact r3.set i rd2) (by rw[hg];exact fun z=>nomatch z)
       exact⟨a,_,dx,gs,re.ref,e1,cl,na,by simpa using hl,kk.nx _ _ _ _ q2 ((k1.trans k2).trans kp) rg3 (rs.mono ((((k1.trans k2).trans kp)).stb rg))⟩
      | _=>exact ro.elim
     ·exact q2.elim
    | _=>exact q2.elim⟩⟩)
theorem sW{f:Str}{L:List Str}{pos':Pos}(cl:Cls X.K C)(na:cZ X.K C f)(hi:f∉L)(hl:L.length < 1000)(ho:PE X o (aE X.K to))(hv:PE X e (aE X.K te))(hs:NA e (some (.Attribute o f pos')) pos.line X.env=pure false:=by rfl):
  PS X (.Assign [.Attribute o f pos'] e pos) (cE X.K (sK C L f to te)):=
 (Ac ho (dW hv) hs).imp fun D τ H zz=>by
 obtain⟨σ,G,D3,rs,rg,h,kk⟩:=zz;exact (
  ⟨σ,G,_,rs,rg,h,fun d G1 v H1 q1 k1 rg1 rd=>⟨σ,G1,_,rs.mono (k1.stb rg),rg1,q1,fun x G2 u H2 q2 k2 rg2 re=>by
    cases x with
    | ref a=>
     dsimp only at q2;split at q2
     ·rename_i C' L' ds hg;obtain⟨⟨rfl,rfl⟩,q2⟩:=q2;obtain⟨ho,e1,ro⟩:=rg2 a _ hg;cases ho with
      | ins C2 dx gs=>
       obtain⟨rfl,r2,r3⟩:=ro;subst r2;have rd2:=RD.mono (k2.stb rg1) _ _ rd;obtain⟨kp,rg3⟩:=Ab (gs':=f9 f v gs) (L':=gs.map (·.1) ++ [f]) (ds':=ds ++ [val d]) rg2 e1 (by rw[put_new v hi];simp) (by rw[put_new v hi,MB];exact r3.append (RDs.cons rd2 RDs.nil)) (by rw[hg];exact fun z=>nomatch z)
       exact⟨a,_,dx,gs,re.ref,e1,cl,na,by simpa using hl,kk.nx _ _ _ _ q2 ((k1.trans k2).trans kp) rg3 (rs.mono ((((k1.trans k2).trans kp)).stb rg))⟩
      | _=>exact ro.elim
     ·exact q2.elim
    | _=>exact q2.elim⟩⟩)
def GY(te:bH)(g:sm):cn:=fun D σ G=>te σ G fun d G'=>g (val d) σ G' D.nx
theorem IZ{tg:L7}{g:sm}(he:PE X e (aE X.K te))(hg:PG X tg (js X.K g))(hs:PR [tg] e pos.line X.env=pure false:=by rfl)(hw:PU [tg] e X.env=pure none:=by rfl)
  (h1:(M7 [tg] X.env).map (·.2)=[assign tg X.env]:=by rfl):PS X (.Assign [tg] e pos) (cE X.K (GY te g)):=
 (DC (dW he) hg hs hw h1).imp fun D τ H zz=>by
 obtain⟨σ,G,D3,rs,rg,h,kk⟩:=zz;exact (
  ⟨σ,G,_,rs,rg,h,fun d G1 v H1 q k1 rg1 rd=>⟨val d,σ,G1,_,rd,rs.mono (k1.stb rg),rg1,q,fun σ' G' τ' H' q' k'=>kk.nx σ' G' τ' H' q' (k1.trans k')⟩⟩)
abbrev BA:=List D->Gp->mZ->Prop
def oZ(K:PySem.W.Frag)(r3:BA):List V->Hp->VK->Prop:=fun vs H Q=>∃ ds G Q3,RDs K H ds vs/\RG K H G/\r3 ds G Q3/\uu K G H Q3 Q
def eB(r:BA)(ta:pL):bH:=fun σ G Q=>ta σ G fun ds G1=>r ds G1 Q
variable{id T:String}{r3:BA}
theorem GB{Q:VK}{τ:St}{H:Hp}(h:aE K (eB r3 t) τ H Q):Kv (oZ K r3) (fq K t) τ H Q:=by
 obtain⟨σ,G,Q3,rs,rg,h,kk⟩:=h;exact⟨σ,G,_,rs,rg,h,fun ds G1 vs H1 q k1 rg1 rds=>⟨ds,G1,Q3,rds,rg1,q,kk.base k1⟩⟩
theorem bN(hc:fb X (.builtin id) (oZ X.K r3))(hg:Gl X x)(hm:X.mg x=none)(hv:Nl x=some (.builtin id))(ha:PA X (e::es) (fq X.K t))(hn:x≠"__name__":=by decide)(hdb:(x == ("__debug__":Str))=false:=by decide)
  (he:LR (e::es) X.env=(false,eval e X.env)::LR es X.env:=by rfl) (hpl:(MQ pos (LR es X.env)).any (·.1)=false:=by rfl):PE X (.Call (.Name x p) (e::es) [] pos) (aE X.K (eB r3 t)):=
 (DM hc hg hm hv ha hn hdb he hpl).imp fun _ _ _ h=>GB h
theorem i9(hc:fb X (.type T) (oZ X.K r3))(hg:Gl X x)(hm:X.mg x=none)(hv:Nl x=some (.type T))(ha:PA X (e::es) (fq X.K t))(hn:x≠"__name__":=by decide)(hdb:(x == ("__debug__":Str))=false:=by decide)
  (he:LR (e::es) X.env=(false,eval e X.env)::LR es X.env:=by rfl) (hpl:(MQ pos (LR es X.env)).any (·.1)=false:=by rfl):PE X (.Call (.Name x p) (e::es) [] pos) (aE X.K (eB r3 t)):=
 (BZ hc hg hm hv ha hn hdb he hpl).imp fun _ _ _ h=>GB h
def ji:BA:=fun ds G Q=>match ds with
 | [.str z]=>z.length<=LL/\Q (.int z.length) G
 | [d]=>match EI G d with
  | some es=>Q (.int es.length) G
  | none=>False
 | _=>False
theorem hJ{H:Hp}{d:D}{vs:List V}(r:RDs K H [d] vs):∃ v,vs=[v]/\RD K H d v:=by
 obtain⟨v,t,e,h1,h2⟩:=r.inv_cons;have:=h2.inv_nil;subst this;exact⟨v,e,h1⟩
theorem b_len:fb X (.builtin "len") (oZ X.K ji):=((xY (X:=X)).or (xZ (X:=X))).imp fun vs H Q zz=>by
 obtain⟨ds,G,Q3,rds,rg,h,kk⟩:=zz;unfold ji at h;split at h
 ·rename_i z;obtain⟨v,rfl,rd⟩:=hJ rds;simp only[RD]at rd;subst rd;exact .inl ⟨z,rfl,h.1,kk _ G _ H h.2 Kp.refl rg (.of fH)⟩
 ·rename_i d _;obtain⟨v,rfl,rd⟩:=hJ rds;split at h
  ·rename_i es he;obtain⟨a,xs,rfl,s,r⟩:=ur (G:=G) (H:=H) he (.of rd) rg;exact .inr ⟨a,xs,rfl,s,by rw[<- r.length];exact kk _ G _ H h Kp.refl rg (.of fH)⟩
  ·exact h.elim
 ·exact h.elim
def rj:BA:=fun ds G Q=>match ds with
 | [d]=>match EI G d with
  | some es=>Q (.fl es) G
  | none=>False
 | _=>False
theorem b_list:fb X (.type "list") (oZ X.K rj):=(xX (X:=X)).imp fun vs H Q zz=>by
 obtain⟨ds,G,Q3,rds,rg,h,kk⟩:=zz;unfold rj at h;split at h
 ·rename_i d;obtain⟨v,rfl,rd⟩:=hJ rds;split at h
  ·rename_i es he;obtain⟨a,xs,rfl,s,r⟩:=ur (G:=G) (H:=H) he (.of rd) rg;exact⟨a,xs,rfl,s,fun p hp=>kk _ G _ _ h (Kp.laid hp) (rg.laid hp) (xO rg hp r)⟩
  ·exact h.elim
 ·exact h.elim
def uq:BA:=fun ds G Q=>match ds with
 | [d]=>match EI G d with
  | some es=>Q (.tup es) G
  | none=>False
 | _=>False
theorem b_tuple:fb X (.type "tuple") (oZ X.K uq):=(vF (X:=X)).imp fun vs H Q zz=>by
 obtain⟨ds,G,Q3,rds,rg,h,kk⟩:=zz;unfold uq at h;split at h
 ·rename_i d;obtain⟨v,rfl,rd⟩:=hJ rds;split at h
  ·rename_i es he;obtain⟨a,xs,rfl,s,r⟩:=ur (G:=G) (H:=H) he (.of rd) rg;refine⟨a,xs,rfl,?_⟩;rcases s with s|s
   ·exact .inl ⟨s,fun p hp=>kk _ G _ _ h (Kp.laid hp) (rg.laid hp) (.of (mz rg hp r))⟩
   ·exact .inr ⟨s,kk _ G _ H h Kp.refl rg (.of (qc s r))⟩
  ·exact h.elim
 ·exact h.elim
def KY:BA:=fun ds G Q=>match ds with
 | [d]=>∃ ns:List Int,n6 G d=some (ns.map D.int)/\Q (.int ns.sum) G
 | _=>False
def EA:BA:=fun ds G Q=>match ds with
 | [.int i,.int j]=>Q (.int (if j < i then j else i)) G
 | _=>False
def KZ:BA:=fun ds G Q=>match ds with
 | [.int i,.int j]=>Q (.int (if j > i then j else i)) G
 | _=>False
theorem CP{H:Hp}{i j:Int}{vs:List V}(r:RDs K H [.int i,.int j] vs):vs=[.int i,.int j]:=by
 obtain⟨v,t,e,h1,h2⟩:=r.inv_cons;obtain⟨u,e2,h3⟩:=hJ h2;simp only[RD]at h1 h3;subst e e2 h1 h3;rfl
theorem b_min(hc:X.calm=true):fb X (.builtin "min") (oZ X.K EA):=(Cy (X:=X) hc).imp fun vs H Q zz=>by
 obtain⟨ds,G,Q3,rds,rg,h,kk⟩:=zz;unfold EA at h;split at h
 ·rename_i i j;exact⟨i,j,CP rds,kk _ G _ H h Kp.refl rg (.of fH)⟩
 ·exact h.elim
end
section
variable{X:Cx}
def An:R3:=fun x y G Q=>match x,y with
 | .int i,.int j=>Gh i j/\Q (.int (i*j)) G
 | .str z,.int n=>(-(2 ^ 63)<=n/\n < 2 ^ 63/\z.length*n.toNat<=LL)/\Q (.str (yE z n.toNat)) G
 | _,_=>False
theorem AT:iW X (MZ .Mult) (d5 X.K An):=((Hx (X:=X)).or (Ai (X:=X))).imp fun v u H Q zz=>by
 obtain⟨x,y,G0,H0,G,Q3,rx,ry,rg,h,k⟩:=zz;unfold An at h;split at h
 ·rename_i i j;exact .inl ⟨i,j,rx.int,ry.int,h.1,k _ G _ H h.2 Kp.refl rg (.of fH)⟩
 ·rename_i z n;exact .inr ⟨z,n,rx.str,ry.int,h.1.1,h.1.2.1,h.1.2.2,k _ G _ H h.2 Kp.refl rg (.of iC)⟩
 ·exact h.elim
def A1:J4:=fun x lo hi G Q=>match x with
 | .str z=>z.length<=LL/\Q (.str ⟨(jQ z.cps.toList lo hi).toArray⟩) G
 | .tup ds=>¬ (HT.sIx ds.length 0 lo=0/\HT.sIx ds.length ds.length hi=ds.length)/\Q (.tup (cutD ds lo hi)) G
 | x=>match n6 G x with
  | some ds=>Q (.fl (cutD ds lo hi)) G
  | none=>False
theorem sr:CB X (D7 X.K A1):=((GU (X:=X)).or ((GT (X:=X)).or (E1 (X:=X)))).imp fun v lo hi H Q zz=>by
 obtain⟨x,G0,H0,G,Q3,rx,rg,h,k⟩:=zz;unfold A1 at h;split at h
 ·rename_i z;exact .inl ⟨z,rx.str,h.1,k _ G _ H h.2 Kp.refl rg (.of iC)⟩
 ·rename_i ds;obtain⟨a,xs,rfl,s,r⟩:=rx.tup;refine .inr (.inl ⟨a,xs,rfl,s,by rw[<- r.length];exact h.1,fun p hp=>k _ G _ _ h.2 (Kp.laid hp) (rg.laid hp) (.of (mz rg hp (Bp r lo hi)))⟩)
 ·split at h
  ·rename_i ds hds;obtain⟨a,xs,rfl,s,r⟩:=kI hds rx rg;exact .inr (.inr ⟨a,xs,rfl,s,fun p hp=>k _ G _ _ h (Kp.laid hp) (rg.laid hp) (xO rg hp (Bp r lo hi))⟩)
  ·exact h.elim
def Bn(to:bH)(ta:pL):bH:=fun σ G Q=>to σ G fun x G1=>match x with
 | .str z=>ta σ G1 fun ds G2=>match ds with
  | [d]=>∃ ys:List Str,n6 G2 d=some (ys.map D.str)/\(ys.map (·.length)).sum+ys.length*z.length<=16777216/\Q (.str (Qx z ys)) G2
  | _=>False
 | _=>False
variable{o e:L7}{es:List L7}{to te:bH}{t:pL}{apos cpos pos p:Pos}
theorem Hu(ho:PE X o (aE X.K to))(ha:PA X [e] (fq X.K t))(Se:ML o "join" X.env (eval o X.env)=eval o X.env:=by rfl)
  (UC:((MQ cpos (LR [e] X.env)).all (fun x=>!x.1) && (N9 cpos (Nf [] X.env)).all (fun x=>x.1.isSome)
   && decide (([e]:List L7).length+([]:List OV).length+(if ([]:List OV).isEmpty then 0 else 1) < 30))=true:=by rfl)
  (Sd:(apos.endLine == cpos.line)=true:=by rfl) (hs:LR [e] X.env=(false,eval e X.env)::LR [] X.env:=by rfl) (Tk:(MQ cpos (LR [] X.env)).any (·.1)=false:=by rfl):
  PE X (.Call (.Attribute o "join" apos) [e] [] cpos) (aE X.K (Bn to t)):=
 (Gr PySem.F.plainAttrs_str PySem.F.slot_str_join PySem.F.type_str_join FE ho ha Se UC Sd hs Tk).imp fun τ H Q zz=>by
 obtain⟨σ,G,Q3,rs,rg,h,k⟩:=zz;exact (
  ⟨σ,G,_,rs,rg,h,fun d G1 v H1 q k1 rg1 re=>by
    cases d with
    | str z=>
     rw[re.str];refine⟨rfl,σ,G1,_,rs.mono (k1.stb rg),rg1,q,fun ds G2 vs H2 q2 k2 rg2 rds=>?_⟩;split at q2
     ·rename_i d;obtain⟨v2,rfl,rd⟩:=hJ rds;obtain⟨ys,he,hl,q2⟩:=q2;obtain⟨a,xs,rfl,s,r⟩:=kI (G:=G2) (H:=H2) he (.of rd) rg2;rw[r.strs_inv ys]at s;exact⟨z,a,ys,rfl,rfl,s,hl,k _ G2 _ H2 q2 (k1.trans k2) rg2 (.of iC)⟩
     ·exact q2.elim
    | _=>exact q.elim⟩)
def gn(to:bH)(ta:pL):bH:=fun σ G Q=>to σ G fun x G1=>match x with
 | .ref a=>(∃ ds,G1 a=some (.lst ds))/\ta σ G1 fun es G2=>match es with
  | [d]=>match G2 a with
   | some (.lst ds)=>ds.length < LL/\Q .non (gset G2 a (.lst (ds ++ [d])))
   | _=>False
  | _=>False
 | _=>False
theorem Bd{K:PySem.W.Frag}{H:Hp}{G:Gp}{a:LB}{xs ys:List V}{ds':List D}(rg:RG K H G)(e1:H a=some (.lst xs))(r2:RDs K H ds' ys)(hg:G a≠none):
  Kp G H (gset G a (.lst ds')) (bv H a (.lst ys))/\RG K (bv H a (.lst ys)) (gset G a (.lst ds')):=by
 have kp:Kp G H (gset G a (.lst ds')) (bv H a (.lst ys)):=fun b h e n=>by
  have:b≠a:=fun z=>by subst z;exact hg n
  exact⟨by rw[aA this];exact e,by rw[aj this];exact n⟩
 have st:=kp.stb rg;refine⟨kp,fun b o q=>?_⟩
 by_cases hb:b=a
 ·subst hb;rw[av]at q;cases q;exact⟨_,aM,RDs.mono st _ _ r2⟩
 ·rw[aj hb]at q;obtain⟨h',e2,r⟩:=rg b o q;exact⟨h',by rw[aA hb];exact e2,r.mono st⟩
theorem qu{K:PySem.W.Frag}{H:Hp}{G:Gp}{a:LB}{ds:List D}(rg:RG K H G)(e:G a=some (.lst ds)):∃ xs,H a=some (.lst xs)/\RDs K H ds xs:=by
 obtain⟨ho,e1,ro⟩:=rg a _ e;cases ho with
 | lst xs=>exact⟨xs,e1,ro⟩
 | _=>exact ro.elim
theorem i_(ho:PE X o (aE X.K to))(ha:PA X [e] (fq X.K t))(Se:ML o "append" X.env (eval o X.env)=eval o X.env:=by rfl)
  (UC:((MQ cpos (LR [e] X.env)).all (fun x=>!x.1) && (N9 cpos (Nf [] X.env)).all (fun x=>x.1.isSome)
   && decide (([e]:List L7).length+([]:List OV).length+(if ([]:List OV).isEmpty then 0 else 1) < 30))=true:=by rfl)
  (Sd:(apos.endLine == cpos.line)=true:=by rfl) (hs:LR [e] X.env=(false,eval e X.env)::LR [] X.env:=by rfl) (Tk:(MQ cpos (LR [] X.env)).any (·.1)=false:=by rfl):
  PE X (.Call (.Attribute o "append" apos) [e] [] cpos) (aE X.K (gn to t)):=
 (Gr PySem.F.plainAttrs_list PySem.F.slot_list_append PySem.F.type_list_append vW ho ha Se UC Sd hs Tk).imp fun τ H Q zz=>by
 obtain⟨σ,G,Q3,rs,rg,h,k⟩:=zz;exact (
  ⟨σ,G,_,rs,rg,h,fun d G1 v H1 q k1 rg1 re=>by
    cases d with
    | ref a=>
     rw[re.ref];obtain⟨⟨ds,hg⟩,q⟩:=q;obtain⟨xs,e1,r1⟩:=qu rg1 hg;refine⟨.inl ⟨rfl,xs,jT.of e1⟩,σ,G1,_,rs.mono (k1.stb rg),rg1,q,fun es G2 vs H2 q2 k2 rg2 rds=>?_⟩;split at q2
     ·rename_i d;obtain⟨v2,rfl,rd⟩:=hJ rds;split at q2
      ·rename_i ds2 hg2;obtain⟨xs2,e2,r2⟩:=qu rg2 hg2;have rr:RDs X.K H2 (ds2 ++ [d]) (xs2 ++ [v2]):=r2.append (RDs.cons rd RDs.nil);obtain⟨kp,rg3⟩:=Bd rg2 e2 rr (by rw[hg2];exact fun z=>nomatch z)
       exact⟨a,xs2,v2,rfl,rfl,e2,by rw[<- r2.length];exact q2.1,k _ _ _ _ q2.2 ((k1.trans k2).trans kp) rg3 (.of wH)⟩
      ·exact q2.elim
     ·exact q2.elim
    | _=>exact q.elim⟩)
def xx(G:Gp):D->Option String
 | .int _=>some "int"
 | .str _=>some "str"
 | .bl _=>some "bool"
 | .tup _=>some "tuple"
 | d=>(n6 G d).map fun _=>"list"
def K0:BA:=fun ds G Q=>match ds with
 | [d,.ty T]=>xx G d=some T/\Q (.bl true) G
 | _=>False
theorem A_{x:Str}{d:D}{v:V}{u:LC}(hg:Gl X x)(hm:X.mg x=some u)(r:aJ v u)(rd:∀ H,RD X.K H d v)(hd:(x == ("__debug__":Str))=false:=by decide):PE X (.Name x pos) (aE X.K (eC d)):=Jl (A8 hg hm r hd) rd
def KU(te:bH):bH:=fun σ G Q=>te σ G fun x G1=>match x with
 | .int i=>Q (.int (-i)) G1
 | _=>False
end
theorem pj{L:List Str}{f:Str}{i:Nat}(h:L.findIdx? (· == f)=some i):vG L f i:=by
 rw[List.findIdx?_eq_some_iff_getElem]at h;obtain⟨hi,h1,h2⟩:=h;refine⟨?_,fun j hj e=>?_⟩
 ·rw[LP hi]
  simpa using h1
 ·have hj':j < L.length:=Nat.lt_trans hj hi;have:=h2 j hj;rw[LP hj']at e;simp only[Option.some.injEq]at e;rw[e]at this;simp at this
def Br(N:List Str)(osc scope:NV)(T M:List Str):Bool:=
 decide (scope.kind=.function) && scope.names.all (fun y=>decide (y.2≠.cell) && (decide (y.2≠.local) || (decide (scope.names.lookup y.1=some .local) && ((".0":Str)::T).contains y.1)) &&
  (decide (y.2≠.free) || (decide (osc.names.lookup y.1=some .cell) || decide (osc.names.lookup y.1=some .free)))) && (M.all fun x=>!((".0":Str)::T).contains x) && decide (M.length=N.length) &&
  ((M.zip N).all fun p=>decide (p.1=p.2) || scope.names.all fun y=>decide (y.1≠p.1))
theorem bR{X:Cx}{scope:NV}{T M:List Str}(hc:X.calm=true)(h:Br X.N X.env.scope scope T M=true):CompOk X scope T M:=by
 unfold Br at h;rw[Bool.and_eq_true,Bool.and_eq_true,Bool.and_eq_true]at h;obtain⟨⟨⟨h12,h3⟩,h4⟩,h5⟩:=h;have hlen:M.length=X.N.length:=of_decide_eq_true h4;simp only[Bool.and_eq_true,List.all_eq_true,Bool.or_eq_true,decide_eq_true_eq,Bool.not_eq_true',List.contains_eq_mem]at h12 h3 h5;obtain⟨h1,h2⟩:=h12;refine⟨hc,h1,fun y hy=>(h2 y hy).1.1,fun y hy hl=>?_,fun y hy hl=>?_,hlen,fun i x hx=>?_,fun x hx=>?_,fun y hy hf=>?_⟩
 ·rcases (h2 y hy).1.2 with z|z
  ·exact absurd hl z
  ·exact z.1
 ·rcases (h2 y hy).1.2 with z|z
  ·exact absurd hl z
  ·simpa using z.2
 ·have hi:i < M.length:=(List.getElem?_eq_some_iff.mp hx).1;have hi2:i < X.N.length:=by walk_at "o"
  have hm:(x,X.N[i])∈M.zip X.N:=by
   refine LZ (i:=i) ?_;rw[List.getElem?_zip_eq_some];exact⟨hx,LP hi2⟩
  rcases h5 _ hm with z|z
  ·left;rw[LP hi2];exact congrArg some (show x=X.N[i]from z).symm
  ·exact .inr fun y hy=>z y hy
 ·simpa using h3 x hx
 ·rcases (h2 y hy).2 with z|z
  ·exact absurd hf z
  ·exact z
structure Fun3(K:PySem.W.Frag)(x qual:Str)(st:Md)(f:LB)(fd:LO):Prop where
 ex:∃ (oc:LC) (od:Option LB) (dV kV doc pm:LC) (an:Option LB) (cdv ct:LC) (osl:Array (Option LC)),
  fd=PySem.W.fnOf x qual (eY st) (eg st) (am st) dV kV doc pm an cdv ct/\K.lookup f=some ⟨oc,od,.func fd,osl⟩/\PySem.W.codeIn K cdv qual=true
section
variable{P:LS}{w:L6}{K:PySem.W.Frag}{mg:Str->Option LC}{base:L5}
theorem Fun3.ok3{x qual:Str}{st:Md}{f:LB}{fd:LO}{N ps:List Str}{k:Nat}{sp:cX}(F:Fun3 K x qual st f fd)(S:FnScope N ps (am st))(len:∀ ds G Q,sp ds G Q->ds.length=ps.length)
  (UD:∀ (cdv:LC) (A:LY) (outer:List Env) (s:LF) (H:Hp) (E:XK),Room k (A.deeper (O3 qual (am st) s.heap.objs.size f cdv))->
   ∃ t:cn,rm (Ct dz P w K mg base N qual (am st) f cdv A outer s H E).nox (eg st) (cE K t)/\∀ ds G Q,sp ds G Q->t { nx:=fun _ G'=>Q .non G',rt:=Q } (jw N ds) G):FnOk P w K mg base dz (k+1) f fd ps (ax K sp):=by
 obtain⟨oc,od,dV,kV,doc,pm,an,cdv,ct,osl,rfl,lk,hcd⟩:=F.ex;refine Jz lk hcd S (fun vs H Q E ⟨ds,G,Q3,rds,rg,h,kk⟩=>by rw[<- rds.length];exact len ds G Q3 h) fun A outer s H vs Q E hr hsp=>?_
 obtain⟨ds,G,Q3,rds,rg,h,kk⟩:=hsp;obtain⟨t,ht,hq⟩:=UD cdv A outer s H E hr;refine⟨cE K t,ht.nox,jw N ds,G,{ nx:=fun _ G'=>Q3 .non G',rt:=Q3 },De rds,rg,hq ds G Q3 h,⟨fun σ' G' τ' H' q k' rg' rs'=>kk _ G' _ H' q k' rg' (.of wH),kk,fun _ _ _ _ q=>q.elim,fun _ _ _ _ q=>q.elim⟩⟩
theorem kE{x qual:Str}{st:Md}{f:LB}{oc:LC}{od an:Option LB}{osl:Array (Option LC)}{dV kV doc pm cdv ct:LC}(l:K.lookup f=some ⟨oc,od,.func (PySem.W.fnOf x qual (eY st) (eg st) (am st) dV kV doc pm an cdv ct),osl⟩)
  (c:PySem.W.codeIn K cdv qual=true):Fun3 K x qual st f (PySem.W.fnOf x qual (eY st) (eg st) (am st) dV kV doc pm an cdv ct):=⟨⟨oc,od,dV,kV,doc,pm,an,cdv,ct,osl,rfl,l,c⟩⟩
end
theorem af{t u:cn}{D:Ends3}{σ:fO}{G:Gp}:sSeq t u D σ G=t { D with nx:=u D } σ G:=rfl
theorem sj{ds:List D}{i:Int}(h:0<=i):cutD ds none (some i)=ds.take i.toNat:=by
 have:HT.sIx ds.length ds.length (some i)=min i.toNat ds.length:=by simp only[HT.sIx];rw[if_neg (by walk_at "o")]
 unfold cutD;rw[this];simp only[HT.sIx,Pi,Nat.sub_zero];rw[List.take_eq_take_iff];omega
theorem pH{ds:List D}{i j:Int}(h:0<=i)(h2:0<=j):cutD ds (some i) (some j)=(ds.drop i.toNat).take (j.toNat - i.toNat):=by
 have e1:HT.sIx ds.length 0 (some i)=min i.toNat ds.length:=by simp only[HT.sIx];rw[if_neg (by walk_at "o")]
 have e2:HT.sIx ds.length ds.length (some j)=min j.toNat ds.length:=by simp only[HT.sIx];rw[if_neg (by walk_at "o")]
 unfold cutD;rw[e1,e2]
 by_cases hi:i.toNat<=ds.length
 ·rw[Nat.min_eq_left hi,List.take_eq_take_iff,N8]
  by_cases hj:j.toNat<=ds.length
  ·rw[Nat.min_eq_left hj]
  ·have hj':=Nat.le_of_not_le hj;rw[Nat.min_eq_right hj',Nat.min_self,Nat.min_eq_right (Nat.sub_le_sub_right hj' _)]
 ·rw[Nat.min_eq_right (Nat.le_of_not_le hi),List.drop_length,List.drop_eq_nil_of_le (le_of_lt (Nat.lt_of_not_le hi))];simp
theorem Bq{cs:List Nat}{i:Int}(h:0<=i):jQ cs none (some i)=cs.take i.toNat:=by
 have:HT.sIx cs.length cs.length (some i)=min i.toNat cs.length:=by simp only[HT.sIx];rw[if_neg (by walk_at "o")]
 unfold jQ;rw[this];simp only[HT.sIx,Pi,Nat.sub_zero];rw[List.take_eq_take_iff];omega
def S(cs:List Nat):Str:=⟨cs.toArray⟩
theorem zE{cs:List Nat}:(S cs).length=cs.length:=by simp[S,Ny]
theorem J3(x:Str):S x.cps.toList=x:=by cases x;simp[S]
theorem zF{a b:List Nat}:S a ++ S b=S (a ++ b):=by
 show PK (S a) (S b)=_
 simp[PK,S]
theorem ot(a b:Str):(a ++ b).length=a.length+b.length:=by
 show (PK a b).length=_
 simp[PK,Ny]
theorem pI{ds:List D}{i:Int}(h0:0<=i)(h:i < ds.length):jJ ds i=some (ds[i.toNat]'(by walk_at "o")):=by
 unfold jJ FO;rw[if_pos h0,if_pos h];simp[show i.toNat < ds.length by walk_at "o"]
theorem Bm:(LI "")=S []:=by decide +kernel
theorem Cc(ys:List Str):Qx (S []) ys=S (ys.map (·.cps.toList)).flatten:=by
 rw[eq_of_beq (join_plain_closes (S []) ys)]
 induction ys with
 | nil=>rfl
 | cons y r ih=>
  cases r with
  | nil=>simp only[Str.join,L1,N3,List.flatten_cons,List.flatten_nil,M8,J3]
  | cons z r=>
   rw[Str.join,ih,L1,List.flatten_cons]
   conv=>lhs;rw[<- J3 y]
   rw[zF,zF,M8]
   all_goals first|rfl|simp
theorem Av(cs:List Nat):Qx (S []) (cs.map fun c=>(⟨#[c]⟩:Str))=S cs:=by
 rw[Cc];congr 1
 induction cs with
 | nil=>rfl
 | cons c r ih=>simp only[L1,List.flatten_cons,ih];rfl
theorem ak:1000000<=LL:=by decide
theorem dC(lo:Int)(n:Nat):(gI lo n).length=n:=by simp[gI]
theorem z_{lo:Int}{n i:Nat}{d:D}(h:(gI lo n)[i]?=some d):i < n/\d=.int (lo+(i:Nat)):=by
 have hl:i < (gI lo n).length:=(List.getElem?_eq_some_iff.mp h).1;rw[dC]at hl;refine⟨hl,?_⟩;rw[gI,L4,List.getElem?_range hl]at h
 simpa using h.symm
def wp:cX:=fun vs _ Q=>match vs with
 | [.lst ds]=>∃ ns:List Int,ds=ns.map D.int/\ns.length<=63/\∀ G',Q (.bl true) G'
 | _=>False
theorem B9{K:PySem.W.Frag}{H:Hp}{a:LB}{ns:List Int}(hl:ns.length<=63)(hO:Gf H)(hS:jT K H a (ns.map V.int))(E:XK):ax K wp [.ref a] H (fun v _=>v=.bl true) E:=by
 have hF:EF K H a (ns.map V.int):=by
  rcases hS with (h|⟨o,h⟩)|h
  ·rcases hO a with e|⟨o,xs,e⟩
   ·rw[h]at e;cases e
   ·rw[h]at e;cases e
  ·exact .inl ⟨o,h⟩
  ·exact .inr h
 refine⟨[.lst (ns.map D.int)],fun _=>none,fun d _=>d=.bl true,RDs.cons (qd hF (RDs.ints ns)) RDs.nil,(fun b o q=>nomatch q),⟨ns,rfl,hl,fun _=>rfl⟩,fun d G' v H' q _ _ re=>?_⟩;subst q;exact re.bl
theorem walk3{l:PySem.W.OpenLaw}{q:LS}{loose:List Str}{XP:(Str->Option LC)->L5->Prop}{YP:L6->L5->Prop}{d:DefRec}{K:Params->PySem.W.Frag}{k:Nat}{x:Str}(hn:l.most=some 63)(hdf:d.params.defaults=[])(hr:Room k OT)
  (hY:∀ (w:L6) (h:L5),YP w h->(K w.params).In h)
  (F:∀ (w:L6) (mg:Str->Option LC) (fa:LB) (h:L5),(K w.params).In h->h.Ns LX mg->mg d.name=some (.ref fa)->
   ∃ fd:LO,(∀ (s:LF) (u:LC),PB s fd ⟨[u],[]⟩ [(x,u)])/\∀ base:L5,(K w.params).In base->base.Ns LX mg->FnOk l.prog w (K w.params) mg base dz k fa fd [x] (ax (K w.params) wp)):
  PySem.W.WalkO q loose XP YP l.row.toRowW d [] (fun f vs=>PySem.call f vs):=
 L2.walk_of (n:=63) (k:=k) (x:=x) (CX:=fun _=>dz) (sp:=fun w=>ax (K w.params) wp) hn (by decide) hdf hr hY F (fun _ _ _ _ hl hO hS=>B9 hl hO hS _) fun _ _ _ _ _ z=>z
end L3
namespace L2
open PySem PySem.Spec PyProof.Rows
section
variable{X:Cx}
theorem Jb{st:Md}{t:TS}(h:PS X st t):PS X st (fun D σ H=>∃ p xs,H p=some (.lst xs)/\∀ o,t D σ (bv H p (.frz o (.lst xs)))):=fun pins s σ H D I zz=>by
 obtain⟨p,xs,e,q⟩:=zz;obtain⟨o,I2⟩:=I.freeze e;exact h pins s σ _ D I2 (q o)
theorem PS.or{st:Md}{t t':TS}(h:PS X st t)(h':PS X st t'):PS X st (fun D σ H=>t D σ H\/t' D σ H):=fun pins s σ H D I q=>by
 rcases q with q|q
 ·exact h pins s σ H D I q
 ·exact h' pins s σ H D I q
end
end L2
namespace L3
open PySem PySem.Spec PyProof.Rows L2
def C7(i:Nat)(t:cn):cn:=fun D σ G=>match σ[i]? with
 | some (some (.ref p))=>match G p with
  | some (.lst ds)=>t D (σ.set i (some (.lst ds))) (fu G p)
  | _=>False
 | some (some (.lst _))=>t D σ G
 | _=>False
theorem qQ{K:PySem.W.Frag}{H:Hp}:∀ {σ:fO} {τ:St} {i:Nat} {d:D} {v:V},RS K H σ τ->τ[i]?=some (some v)->RD K H d v->RS K H (σ.set i (some d)) τ
 | _,_,_,_,_,.nil,e,_=>by simp at e
 | _,_,0,d,v,.cons (b:=b) _ t,e,r=>by
  simp at e;subst e;exact .cons (show CC K H (some d) (some v)from r) t
 | _,_,i+1,d,v,.cons q t,e,r=>.cons q (qQ (i:=i) t (by simpa using e) r)
theorem Gq{X:Cx}{st:Md}{t:cn}(i:Nat)(h:PS X st (cE X.K t)):PS X st (cE X.K (C7 i t)):=((Jb h).or h).imp fun D τ H zz=>by
 obtain⟨σ,G,D3,rs,rg,q,k⟩:=zz;unfold C7 at q;split at q
 ·rename_i p hp;split at q
  ·rename_i ds hg;obtain⟨v,e1,r⟩:=rs.get hp;simp only[RD]at r;subst r;obtain⟨xs,e2,r2⟩:=(show ∃ xs,H p=some (.lst xs)/\RDs X.K H ds xs by
    obtain⟨ho,e1,ro⟩:=rg p _ hg;cases ho with
    | lst xs=>exact⟨xs,e1,ro⟩
    | _=>exact ro.elim)
   refine .inl ⟨p,xs,e2,fun o=>?_⟩;have rg2:RG X.K H (fu G p):=fun a o q=>by
    by_cases ha:a=p
    ·subst ha;rw[dH]at q;cases q
    ·rw[cF ha]at q;exact rg a o q
   obtain⟨rg3,st3⟩:=AC (o:=o) rg2 e2 dH;have kp:Kp G H (fu G p) (bv H p (.frz o (.lst xs))):=fun a h e n=>by
    have:a≠p:=fun z=>by subst z;rw[hg]at n;cases n
    exact⟨by rw[aA this];exact e,by rw[cF this];exact n⟩
   exact⟨_,_,D3,qQ (rs.mono st3) e1 (qd (.inl ⟨o,aM⟩) (RDs.mono st3 _ _ r2)),rg3,q,k.base kp⟩
  ·exact q.elim
 ·exact .inr ⟨σ,G,D3,rs,rg,q,k⟩
 ·exact q.elim
def KN(ta:pL):EJ:=fun σ G Q=>ta σ G fun ds G'=>match ds with
 | [.lst es]=>Q es.reverse G'
 | _=>False
theorem JX{a:D}:jJ [a] 0=some a:=rfl
theorem JW{a b:D}:jJ [a,b] 0=some a:=rfl
theorem JV{a b:D}:jJ [a,b] 1=some b:=rfl
theorem JU{a b c:D}:jJ [a,b,c] 0=some a:=rfl
theorem JT{a b c:D}:jJ [a,b,c] 1=some b:=rfl
theorem JS{a b c:D}:jJ [a,b,c] 2=some c:=rfl
theorem JR{a b c d:D}:jJ [a,b,c,d] 0=some a:=rfl
theorem JQ{a b c d:D}:jJ [a,b,c,d] 1=some b:=rfl
theorem JP{a b c d:D}:jJ [a,b,c,d] 2=some c:=rfl
theorem JO{a b c d:D}:jJ [a,b,c,d] 3=some d:=rfl
theorem JN{a b c d e:D}:jJ [a,b,c,d,e] 0=some a:=rfl
theorem JM{a b c d e:D}:jJ [a,b,c,d,e] 1=some b:=rfl
theorem JL{a b c d e:D}:jJ [a,b,c,d,e] 2=some c:=rfl
theorem JK{a b c d e:D}:jJ [a,b,c,d,e] 3=some d:=rfl
theorem JJ{a b c d e:D}:jJ [a,b,c,d,e] 4=some e:=rfl
theorem cB{c:pK}{t u:cn}{E:Ends3}{σ:fO}{G:Gp}(b:Bool)(hc:∀ K:Bool->Gp->Prop,K b G->c σ G K)(h:if b=true then t E σ G else u E σ G):lV c t u E σ G:=hc _ h
theorem C5{t u:cn}{E:Ends3}{σ:fO}{G:Gp}{NX:fO->Gp->Prop}(h2:∀ σ' G',NX σ' G'->u E σ' G')(h1:∀ NX':fO->Gp->Prop,(∀ σ' G',NX σ' G'->NX' σ' G')->t { E with nx:=NX' } σ G):sSeq t u E σ G:=h1 (u E) h2
open PySem.SeqAt
def KL(x:D)(ds:List D):Bool:=ds.any fun d=>eJ d x
def HC:R3:=fun x y G Q=>match EI G y with
 | some ds=>(pl 7 x/\∀ d∈ds,pl 7 d)/\Q (.bl (!KL x ds)) G
 | none=>False
section
variable{κ:Type}[DecidableEq κ]
def dy(kvs:List (κ×D))(k:κ):Option D:=(kvs.find? fun kv=>decide (kv.1=k)).map (·.2)
def bF(kvs:List (κ×D))(k:κ)(v:D):List (κ×D):=
 if (kvs.any fun kv=>decide (kv.1=k))=true then kvs.map (fun kv=>if kv.1=k then (kv.1,v)else kv)else kvs ++ [(k,v)]
theorem pJ(k:κ):∀ kvs:List (κ×D),(kvs.any fun kv=>decide (kv.1=k))=(dy kvs k).isSome
 | []=>rfl
 | p::r=>by
  by_cases e:p.1=k
  ·simp[dy,Mf,e]
  ·have ih:=pJ k r;simp only[OP,e,decide_false,Bool.false_or,ih];simp[dy,Mf,e]
theorem fM(kvs:List (κ×D))(k:κ)(v:D):(bF kvs k v).length<=kvs.length+1:=by
 unfold bF;split<;>simp
theorem BP(kvs:List (κ×D))(k:κ)(v:D):(bF kvs k v).map (·.1)=if k∈kvs.map (·.1)then kvs.map (·.1)else kvs.map (·.1) ++ [k]:=by
 unfold bF;have e:((kvs.any fun kv=>decide (kv.1=k))=true)↔k∈kvs.map (·.1):=by
  rw[List.any_eq_true,mem_map];constructor
  ·rintro⟨p,hp,q⟩;exact⟨p,hp,of_decide_eq_true q⟩
  ·rintro⟨p,hp,rfl⟩;exact⟨p,hp,decide_eq_true rfl⟩
 by_cases h:k∈kvs.map (·.1)
 ·rw[if_pos (e.mpr h),if_pos h,Mn];refine MR fun p _=>?_;simp only[Function.comp_apply];split<;>rfl
 ·rw[if_neg (fun z=>h (e.mp z)),if_neg h];simp
theorem nH{kvs:List (κ×D)}(k:κ)(v:D)(h:(kvs.map (·.1)).Nodup):((bF kvs k v).map (·.1)).Nodup:=by
 rw[BP];split
 ·exact h
 ·rename_i hk;rw[List.nodup_append];refine⟨h,by simp,fun a ha b hb=>?_⟩
  have:b=k:=by simpa using hb
  subst this;exact fun z=>hk (z ▸ ha)
end
def FM:D->Option aH
 | .int i=>some (.inl i)
 | .str x=>some (.inr x)
 | _=>none
def kD:aH->D
 | .inl i=>.int i
 | .inr x=>.str x
def zb:List D->Option (List aH)
 | []=>some []
 | d::r=>match FM d,zb r with
  | some k,some ks=>some (k::ks)
  | _,_=>none
def pi:D->Option (List aH)
 | .tup ds=>zb ds
 | _=>none
theorem HS(k:aH):FM (kD k)=some k:=by cases k<;>rfl
theorem Bg:∀ ks:List aH,zb (ks.map kD)=some ks
 | []=>rfl
 | k::r=>by simp only[L1,zb,HS,Bg r]
section
variable{K:PySem.W.Frag}{H:Hp}
theorem Au{d:D}{k:aH}{v:V}(h:FM d=some k)(r:RD K H d v):v=kV k:=by
 cases d with
 | int i=>simp only[FM,Option.some.injEq]at h;subst h;simp only[RD]at r;exact r
 | str i=>simp only[FM,Option.some.injEq]at h;subst h;simp only[RD]at r;exact r
 | _=>simp[FM]at h
theorem za:∀ {ds:List D} {ks:List aH} {vs:List V},zb ds=some ks->RDs K H ds vs->vs=ks.map kV
 | [],ks,vs,h,r=>by
  simp only[zb,Option.some.injEq]at h;subst h;exact r.inv_nil
 | d::t,ks,vs,h,r=>by
  obtain⟨x,u,e,h1,h2⟩:=r.inv_cons;subst e;simp only[zb]at h;split at h
  ·rename_i k kr e1 e2;simp only[Option.some.injEq]at h;subst h;rw[Au e1 h1,za e2 h2];rfl
  ·cases h
theorem sf{d:D}{ks:List aH}{v:V}(h:pi d=some ks)(r:RD K H d v):∃ b,v=.ref b/\kP K H b (ks.map kV):=by
 cases d with
 | tup ds=>
  simp only[RD]at r;obtain⟨a,xs,e,q,rr⟩:=r;exact⟨a,e,by rw[<- za h rr];exact q⟩
 | _=>simp[pi]at h
theorem pM.keys{kvs:List (List aH×D)}{xs:List (List aH×LB×LC)}(r:pM K H kvs xs):kvs.map (·.1)=xs.map (·.1):=by
 unfold pM at r
 induction r with
 | nil=>rfl
 | cons h _ ih=>rw[L1,L1,h.1,ih]
theorem pM.val{kvs:List (List aH×D)}{xs:List (List aH×LB×LC)}(r:pM K H kvs xs)(k:List aH):
  (dy kvs k=none/\N_ xs k=none)\/∃ d b u v,dy kvs k=some d/\N_ xs k=some (b,u)/\RD K H d v/\aJ v u:=by
 unfold pM at r
 induction r with
 | nil=>exact .inl ⟨rfl,rfl⟩
 | @cons p q ps qs h t ih=>
  obtain⟨h1,_,v,h2,h3⟩:=h
  by_cases e:p.1=k
  ·have e':q.1=k:=h1.symm.trans e;exact .inr ⟨p.2,q.2.1,q.2.2,v,by simp[dy,Mf,e],by simp[N_,Mf,e'],h2,h3⟩
  ·have e':¬ q.1=k:=fun z=>e (h1.trans z);have a1:dy (p::ps) k=dy ps k:=by simp[dy,Mf,e]
   have a2:N_ (q::qs) k=N_ qs k:=by simp[N_,Mf,e']
   rw[a1,a2];exact ih
theorem pM.put{kvs:List (List aH×D)}{xs:List (List aH×LB×LC)}(r:pM K H kvs xs)(k:List aH){b:LB}{d:D}{v:V}{u:LC}(hb:kP K H b (k.map kV))(hd:RD K H d v)(hu:aJ v u):pM K H (bF kvs k d) (OR xs k b u):=by
 have e:(kvs.any fun kv=>decide (kv.1=k))=(N_ xs k).isSome:=by
  rw[pJ];rcases r.val k with ⟨a,b⟩|⟨_,_,_,_,a,b,_⟩<;>rw[a,b]<;>rfl
 unfold bF OR;rw[e]
 by_cases q:(N_ xs k).isSome=true
 ·rw[if_pos q,if_pos q];unfold pM at r ⊢;clear e q
  induction r with
  | nil=>exact .nil
  | @cons p q ps qs h t ih=>
   rw[L1,L1];refine .cons ?_ ih;obtain⟨h1,h2,v',h3,h4⟩:=h;unfold putAt
   by_cases e:p.1=k
   ·rw[if_pos e,if_pos (h1.symm.trans e)];exact⟨h1,h2,v,hd,hu⟩
   ·rw[if_neg e,if_neg (fun z=>e (h1.trans z))];exact⟨h1,h2,v',h3,h4⟩
 ·rw[if_neg q,if_neg q];exact OQ r ⟨rfl,hb,v,hd,hu⟩
theorem yd.val{kvs:List (aH×D)}{xs:List (aH×V)}(r:yd K H kvs xs)(k:aH):(dy kvs k=none/\m8 xs k=none)\/∃ d v,dy kvs k=some d/\m8 xs k=some v/\RD K H d v:=by
 unfold yd at r
 induction r with
 | nil=>exact .inl ⟨rfl,rfl⟩
 | @cons p q ps qs h t ih=>
  obtain⟨h1,h2⟩:=h
  by_cases e:p.1=k
  ·have e':q.1=k:=h1.symm.trans e;exact .inr ⟨p.2,q.2,by simp[dy,Mf,e],oo e',h2⟩
  ·have e':¬ q.1=k:=fun z=>e (h1.trans z);have a1:dy (p::ps) k=dy ps k:=by simp[dy,Mf,e]
   rw[a1,oq e'];exact ih
theorem yd.put{kvs:List (aH×D)}{xs:List (aH×V)}(r:yd K H kvs xs)(k:aH){d:D}{v:V}(hd:RD K H d v):yd K H (bF kvs k d) (oQ xs k v):=by
 have e:(kvs.any fun kv=>decide (kv.1=k))=(xs.any fun kv=>decide (kv.1=k)):=by
  rw[pJ,su];rcases r.val k with ⟨a,b⟩|⟨_,_,a,b,_⟩<;>rw[a,b]<;>rfl
 unfold bF oQ;rw[e]
 by_cases q:(xs.any fun kv=>decide (kv.1=k))=true
 ·rw[if_pos q,if_pos q];unfold yd at r ⊢;clear e q
  induction r with
  | nil=>exact .nil
  | @cons p q ps qs h t ih=>
   rw[L1,L1];refine .cons ?_ ih;obtain⟨h1,h2⟩:=h
   by_cases e:p.1=k
   ·rw[if_pos e,if_pos (h1.symm.trans e)];exact⟨h1,hd⟩
   ·rw[if_neg e,if_neg (fun z=>e (h1.trans z))];exact⟨h1,h2⟩
 ·rw[if_neg q,if_neg q];exact OQ r ⟨rfl,hd⟩
theorem yd.length{kvs:List (aH×D)}{xs:List (aH×V)}(r:yd K H kvs xs):kvs.length=xs.length:=N6 r
theorem pM.length{kvs:List (List aH×D)}{xs:List (List aH×LB×LC)}(r:pM K H kvs xs):kvs.length=xs.length:=N6 r
end
def ah(P:LS)(w:L6):List aH->Int:=tupleKeyHash (aO P w)
section
variable{X:Cx}{pins:List (LB×Obj)}{σ:St}{H:Hp}{s:LF}{a:LB}
theorem key_at(I:Inv X pins σ H s){b:LB}{ks:List aH}(h:kP X.K H b (ks.map kV)):(MO (aO X.prog X.w)).is s.heap ks b:=by
 obtain⟨its,r,⟨o,h1,h2,n,h3⟩,_⟩:=I.tuple h;exact⟨o,its.toArray,n,h1,h2,h3,by simpa using qF r⟩
theorem xT(I:Inv X pins σ H s){kvs:List (List aH×D)}{xs:List (List aH×LB×LC)}(e:H a=some (.ext (yh (ah X.prog X.w) a xs)))(r:pM X.K H kvs xs)(nd:(kvs.map (·.1)).Nodup):
  (a == ME)=false/\s.heap.DictOfH (MO (aO X.prog X.w)) a xs:=by
 obtain⟨hd,o,es,ep,h1,h2,h3,h4⟩:=(show cg X.prog X.w H s.heap a (.ext (yh (ah X.prog X.w) a xs))from I.hok a _ e).1
 refine⟨hd,o,es,ep,h1,h2,h3,h4,?_,by rw[<- r.keys];exact nd⟩
 unfold pM at r;clear h4 e nd
 induction r with
 | nil=>intro x hx;exact nomatch hx
 | @cons p q ps qs hq t ih=>
  intro x hx;rcases L_.mp hx with e|hx
  ·subst e;exact key_at I (by rw[<- hq.1];exact hq.2.1)
  ·exact ih x hx
theorem qK{P:LS}{w:L6}{H':Hp}{h:L5}{hw:List aH->Int}{xs:List (List aH×LB×LC)}(h1:yh hw a xs h):cg P w H' h a (.ext (yh hw a xs)):=by
 obtain⟨hd,o,es,ep,e,r⟩:=h1;exact⟨⟨hd,o,es,ep,e,r⟩,⟨o,e⟩,fun h1 h2 ⟨hd,o,es,ep,e,r⟩ k=>⟨hd,o,es,ep,k o e,r⟩⟩
end
section
variable{K:PySem.W.Frag}{H:Hp}{G:Gp}
theorem FT{p:LB}{o:GO}{ho:HO}(rg:RG K H G)(e:H p=none)(ro:∀ H':Hp,Stb K H H'->RO K H' p o ho):Kp G H (gset G p o) (bv H p ho)/\RG K (bv H p ho) (gset G p o):=by
 have kp:Kp G H (gset G p o) (bv H p ho):=fun b h q n=>by
  have:b≠p:=bZ q e;exact⟨by rw[aA this];exact q,by rw[aj this];exact n⟩
 refine⟨kp,fun b u q=>?_⟩
 by_cases hb:b=p
 ·subst hb;rw[av]at q;cases q;exact⟨_,aM,ro _ (kp.stb rg)⟩
 ·rw[aj hb]at q;obtain⟨h,q1,q2⟩:=rg b u q;exact⟨h,by rw[aA hb];exact q1,q2.mono (kp.stb rg)⟩
theorem xJ{a:LB}{o:GO}{ho:HO}(rg:RG K H G)(hg:G a≠none)(ro:∀ H':Hp,Stb K H H'->RO K H' a o ho):Kp G H (gset G a o) (bv H a ho)/\RG K (bv H a ho) (gset G a o):=by
 have kp:Kp G H (gset G a o) (bv H a ho):=fun b h e n=>by
  have:b≠a:=fun z=>by subst z;exact hg n
  exact⟨by rw[aA this];exact e,by rw[aj this];exact n⟩
 refine⟨kp,fun b u q=>?_⟩
 by_cases hb:b=a
 ·subst hb;rw[av]at q;cases q;exact⟨_,aM,ro _ (kp.stb rg)⟩
 ·rw[aj hb]at q;obtain⟨h,q1,q2⟩:=rg b u q;exact⟨h,by rw[aA hb];exact q1,q2.mono (kp.stb rg)⟩
end
def qZ(hw:List aH->Int):bH:=fun _ G Q=>∀ p,G p=none->Q (.ref p) (gset G p (.dT hw []))
def Bo:bH:=fun _ G Q=>∀ p,G p=none->Q (.ref p) (gset G p (.dK []))
section
variable{X:Cx}{pos:Pos}
theorem qh:PE X (.Dict [] [] pos) (aE X.K (qZ (ah X.prog X.w))):=fun pins s τ H Q I zz=>by
 obtain⟨σ,G,Q3,rs,rg,h,k⟩:=zz;have hf:H s.heap.objs.size=none:=I.hok.fresh (le_refl _);obtain⟨kp,rg2⟩:=FT (o:=.dT (ah X.prog X.w) []) (ho:=.ext (yh (ah X.prog X.w) s.heap.objs.size [])) rg hf fun H' _=>⟨[],rfl,.nil,Ph,Mg _⟩;have hd:(s.heap.objs.size == ME)=false:=beq_eq_false_iff_ne.mpr (Ne.symm (L9 I.big));exact wpAny_Dict_empty ⟨.ref s.heap.objs.size,_,I.laid (a:=s.heap.objs.size) (t':=s.toks) (fun _ _ q=>LH _ q) (le_refl _) (qK ⟨hd,_,#[],0,LK _ rfl,⟨rfl,rfl,rfl⟩,rfl,rfl⟩),rfl,
  k _ _ _ _ (h _ (rg.free hf)) kp rg2 (.of iD)⟩
theorem DN:PE X (.Dict [] [] pos) (aE X.K Bo):=DL.imp fun τ H Q ⟨σ,G,Q3,rs,rg,h,k⟩ p hp=>by
 obtain⟨kp,rg2⟩:=FT (o:=.dK []) (ho:=.dK []) rg hp fun H' _=>(show yd X.K H' [] []from .nil)
 exact k _ _ _ _ (h _ (rg.free hp)) kp rg2 (.of iD)
end
def l9(hw:List aH->Int):D->D->D->Gp->(Gp->Prop)->Prop:=fun o i v G Q=>match o with
 | .ref a=>match G a with
  | some (.dT hw' kvs)=>hw'=hw/\∃ ks,pi i=some ks/\kvs.length < LL/\Q (gset G a (.dT hw (bF kvs ks v)))
  | some (.dK kvs)=>∃ k,FM i=some k/\kvs.length < LL/\Q (gset G a (.dK (bF kvs k v)))
  | some (.lst ds)=>match i with
   | .int j=>∃ m,FO ds.length j=some m/\Q (gset G a (.lst (ds.set m v)))
   | _=>False
  | _=>False
 | _=>False
def FH(K:PySem.W.Frag)(r:D->D->D->Gp->(Gp->Prop)->Prop):Gc:=fun o i v H Q=>∃ x y z G Q3,RD K H x o/\RD K H y i/\RD K H z v/\RG K H G/\r x y z G Q3/\∀ G' H',Q3 G'->Kp G H G' H'->RG K H' G'->Q H'
def d7(hw:List aH->Int)(to ti te:bH):cn:=fun E σ G=>te σ G fun v G1=>to σ G1 fun o G2=>ti σ G2 fun i G3=>l9 hw (val o) (val i) (val v) G3 fun G4=>E.nx σ G4
section
variable{X:Cx}
theorem GF(hu:X.A.units+8 < Mp):Iy X (FH X.K (l9 (ah X.prog X.w))):=by
 rintro pins s σ H o i v ov iv u Q I ro ri rv ⟨x,y,z,G,Q3,rx,ry,rz,rg,h,k⟩
 unfold l9 at h;split at h
 ·rename_i a;simp only[RD]at rx;subst rx;cases ro;split at h
  ·rename_i hw' kvs hg;obtain⟨rfl,ks,hk,hl,h⟩:=h;obtain⟨b,rfl,sq⟩:=sf hk ry;cases ri;obtain⟨ho,e,r⟩:=rg a _ hg;cases ho with
   | ext φ=>
    obtain⟨xs,rfl,rt,nd,_⟩:=r;obtain⟨hd,dd⟩:=xT I e rt nd;have hz:xs.length<=LL:=by rw[<- rt.length];omega
    refine QD (hsz:=hz) (MD (show X.A.units+1 < Mp by walk_at "o")) (key_at I sq) dd fun h' dd' hs=>?_
    obtain⟨q,es,ep,hq,h2,h3,h4,_,h5⟩:=dd';obtain⟨kp,rg2⟩:=xJ (a:=a) (o:=.dT (ah X.prog X.w) (bF kvs ks z)) (ho:=.ext (yh (ah X.prog X.w) a (OR xs ks b u))) rg (by rw[hg];exact fun z=>nomatch z)
     fun H' st=>⟨_,rfl,(rt.put ks sq rz rv).mono st,nH ks z nd,by have:=fM kvs ks z;omega⟩
    exact⟨_,si I (by rw[e];exact True.intro) hs ⟨q,hq⟩ (qK ⟨hd,q,es,ep,hq,h2,h3,h4⟩),k _ _ h kp rg2⟩
   | _=>exact r.elim
  ·rename_i kvs hg;obtain⟨kk,hk,hl,h⟩:=h;have ei:=Au hk ry;subst ei;obtain⟨ho,e,r⟩:=rg a _ hg;cases ho with
   | dK xs=>
    have r':yd X.K H kvs xs:=r;obtain⟨kp,rg2⟩:=xJ (a:=a) (o:=.dK (bF kvs kk z)) (ho:=.dK (oQ xs kk v)) rg (by rw[hg];exact fun z=>nomatch z) fun H' st=>(r'.put kk rz).mono st
    exact Cr (by walk_at "o") I (Gg.k e (by rw[<- r'.length];exact hl)) ri rv fun s' I'=>⟨_,I',k _ _ h kp rg2⟩
   | _=>exact r.elim
  ·rename_i ds hg;split at h
   ·rename_i j;obtain⟨m,hm,h⟩:=h;simp only[RD]at ry;subst ry;obtain⟨ho,e,r⟩:=rg a _ hg;cases ho with
    | lst xs=>
     have r':RDs X.K H ds xs:=r;obtain⟨kp,rg2⟩:=xJ (a:=a) (o:=.lst (ds.set m z)) (ho:=.lst (xs.set m v)) rg (by rw[hg];exact fun z=>nomatch z) fun H' st=>RDs.mono st _ _ (r'.set m rz)
     exact C4 pins s σ H (.ref a) _ _ _ _ _ _ I rfl ri rv ⟨a,xs,j,m,rfl,rfl,e,by rw[<- r'.length];exact hm,k _ _ h kp rg2⟩
    | _=>exact r.elim
   ·exact h.elim
  ·exact h.elim
 ·exact h.elim
theorem gJ{o i e:L7}{to ti te:bH}{pos pos':Pos}(hu:X.A.units+8 < Mp)(ho:PE X o (aE X.K to))(hi:PE X i (aE X.K ti))(he:PE X e (aE X.K te))
  (hs:PR [.Subscript o i pos'] e pos.line X.env=pure false:=by rfl) (hw:PU [.Subscript o i pos'] e X.env=pure none:=by rfl) (h1:(M7 [.Subscript o i pos'] X.env).map (·.2)=[assign (.Subscript o i pos') X.env]:=by rfl)
  (ha:∀ v,assign (.Subscript o i pos') X.env v=(do
   let ov <- holding [v] (eval o X.env)
   let iv <- holding [v,ov] (eval i X.env)
   Ob pos'
   holding [v,ov,iv] (QX ov iv v)
   release [v,ov,iv] []):=by intro _;rfl):PS X (.Assign [.Subscript o i pos'] e pos) (cE X.K (d7 (ah X.prog X.w) to ti te)):=
 (DC (dW he) (Hi (dW ho) (dW hi) (GF hu) ha) hs hw h1).imp fun E τ H zz=>by
 obtain⟨σ,G,E3,rs,rg,h,k⟩:=zz;exact (
  ⟨σ,G,_,rs,rg,h,fun v G1 u H1 q1 k1 rg1 rd1=>
    ⟨σ,G1,_,rs.mono (k1.stb rg),rg1,q1,fun o G2 u2 H2 q2 k2 rg2 rd2=>⟨σ,G2,_,rs.mono ((k1.trans k2).stb rg),rg2,q2,fun i G3 u3 H3 q3 k3 rg3 rd3=>
     ⟨val o,val i,val v,G3,_,RD.mono (k3.stb rg2) _ _ rd2,rd3,RD.mono ((k2.trans k3).stb rg1) _ _ rd1,rg3,q3,fun G4 H4 q4 k4 rg4=>k.nx σ G4 τ H4 q4 (k1.trans (k2.trans (k3.trans k4))) rg4 (rs.mono ((k1.trans (k2.trans (k3.trans k4))).stb rg))⟩⟩⟩⟩)
end
def cV(hw:List aH->Int)(G:Gp)(o i:D)(r:Option D):Prop:=match o with
 | .ref a=>match G a with
  | some (.dT hw' kvs)=>hw'=hw/\∃ ks,pi i=some ks/\r=dy kvs ks
  | some (.dK kvs)=>∃ k,FM i=some k/\r=dy kvs k
  | _=>False
 | _=>False
def kN(G:Gp)(o:D):Prop:=match o with
 | .ref a=>match G a with
  | some (.dT _ _)=>True
  | some (.dK _)=>True
  | _=>False
 | _=>False
section
variable{X:Cx}{pins:List (LB×Obj)}{σ:St}{H:Hp}{s:LF}{G:Gp}{A:LY}{E:LC->LF->Prop}{x y d z:D}{o i zv:V}{ov iv zu:LC}{r:Option D}
theorem cV.split(h:cV (ah X.prog X.w) G x y r)(I:Inv X pins σ H s)(rg:RG X.K H G)(rx:RD X.K H x o)(ro:aJ o ov)(ry:RD X.K H y i)(ri:aJ i iv):
  ∃ a,ov=.ref a/\((∃ hs k,H a=some (.dK hs)/\i=kV k/\((r=none/\m8 hs k=none)\/∃ d v,r=some d/\m8 hs k=some v/\RD X.K H d v))\/
   ∃ xs ks b,(a == ME)=false/\s.heap.DictOfH (MO (aO X.prog X.w)) a xs/\iv=.ref b/\(MO (aO X.prog X.w)).is s.heap ks b/\
    ((r=none/\N_ xs ks=none)\/∃ d b' u v,r=some d/\N_ xs ks=some (b',u)/\RD X.K H d v/\aJ v u)):=by
 unfold cV at h;split at h
 ·rename_i a;simp only[RD]at rx;subst rx;cases ro;refine⟨a,rfl,?_⟩;split at h
  ·rename_i hw' kvs hg;obtain⟨rfl,ks,hk,rfl⟩:=h;obtain⟨b,rfl,sq⟩:=sf hk ry;cases ri;obtain⟨ho,e,q⟩:=rg a _ hg;cases ho with
   | ext φ=>
    obtain⟨xs,rfl,rt,nd,_⟩:=q;obtain⟨hd,dd⟩:=xT I e rt nd;exact .inr ⟨xs,ks,b,hd,dd,rfl,key_at I sq,rt.val ks⟩
   | _=>exact q.elim
  ·rename_i kvs hg;obtain⟨k,hk,rfl⟩:=h;obtain⟨ho,e,q⟩:=rg a _ hg;cases ho with
   | dK hs=>
    have q':yd X.K H kvs hs:=q;exact .inl ⟨hs,k,e,Au hk ry,q'.val k⟩
   | _=>exact q.elim
  ·exact h.elim
 ·exact h.elim
theorem kN.at(h:kN G x)(I:Inv X pins σ H s)(rg:RG X.K H G)(rx:RD X.K H x o)(ro:aJ o ov):
  s.TypeIs ov "dict"/\(∀ b,ov=.ref b->∃ ob,s.heap.get? b=some ob/\ob.dict=none):=by
 unfold kN at h;split at h
 ·rename_i a;simp only[RD]at rx;subst rx;cases ro;split at h
  ·rename_i hw' kvs hg;obtain⟨ho,e,q⟩:=rg a _ hg;cases ho with
   | ext φ=>
    obtain⟨xs,rfl,rt,nd,_⟩:=q;obtain⟨hd,ob,es,ep,h1,h2,h3,h4⟩:=(show cg X.prog X.w H s.heap a (.ext (yh hw' a xs))from I.hok a _ e).1
    refine⟨⟨ob,h1,h2.1⟩,fun b hb=>?_⟩;cases hb;exact⟨ob,h1,h2.2.1⟩
   | _=>exact q.elim
  ·rename_i kvs hg;obtain⟨ho,e,q⟩:=rg a _ hg;cases ho with
   | dK hs=>
    obtain⟨t1,t2,_⟩:=H_ I (.inl ⟨hs,.inl e⟩);exact⟨t1,t2⟩
   | _=>exact q.elim
  ·exact h.elim
 ·exact h.elim
theorem cV.dct{hw:List aH->Int}(h:cV hw G x y r):kN G x:=by
 unfold cV at h;unfold kN;split at h
 ·split at h
  ·rename_i e;simp only[e]
  ·rename_i e;simp only[e]
  ·exact h.elim
 ·exact h.elim
theorem F3{Q:LC->LF->Prop}(hu:A.units+1 < Mp)(I:Inv X pins σ H s)(rg:RG X.K H G)(h:cV (ah X.prog X.w) G x y (some d))(rx:RD X.K H x o)(ro:aJ o ov)(ry:RD X.K H y i)(ri:aJ i iv)
  (q:∀ v u s',Inv X pins σ H s'->RD X.K H d v->aJ v u->Q u s'):LJ (LN X.prog X.w) A (OC ov iv) Q E s:=by
 obtain⟨a,rfl,⟨hs,k,e,rfl,r⟩|⟨xs,ks,b,hd,dd,rfl,hk,r⟩⟩:=h.split I rg rx ro ry ri
 ·rcases r with ⟨z,_⟩|⟨d',v,e1,e2,rd⟩
  ·cases z
  ·cases e1;exact Cs hu I (.inl ⟨hs,k,.inl e,rfl,e2.symm⟩) ri fun u s' I' rv=>q v u s' I' rd rv
 ·rcases r with ⟨z,_⟩|⟨d',b',u,v,e1,e2,rd,rv⟩
  ·cases z
  ·cases e1;exact QF (MD hu) hk dd e2 (q v u _ (I.tok _) rd rv)
theorem GA{Q:LC->LF->Prop}(hu:A.units+1 < Mp)(I:Inv X pins σ H s)(rg:RG X.K H G)(h:cV (ah X.prog X.w) G x y r)(rx:RD X.K H x o)(ro:aJ o ov)(ry:RD X.K H y i)(ri:aJ i iv)
  (q:∀ s',Inv X pins σ H s'->Q (.bool r.isSome) s'):LJ (LN X.prog X.w) A (Mj .In iv ov) Q E s:=by
 obtain⟨a,rfl,⟨hs,k,e,rfl,l⟩|⟨xs,ks,b,hd,dd,rfl,hk,l⟩⟩:=h.split I rg rx ro ry ri
 ·refine KW hu I (yf.k e) ri fun s' I'=>?_;rcases l with ⟨rfl,e2⟩|⟨d,v,rfl,e2,_⟩<;>rw[e2]<;>exact q s' I'
 ·refine wpAny_in_heap (MD hu) hk hd dd ?_;rcases l with ⟨rfl,e2⟩|⟨d,b',u,v,rfl,e2,_⟩<;>rw[e2]<;>exact q _ (I.tok _)
theorem Er{Q:LC->LF->Prop}(hu:A.units+1 < Mp)(I:Inv X pins σ H s)(rg:RG X.K H G)(h:cV (ah X.prog X.w) G x y r)(rx:RD X.K H x o)(ro:aJ o ov)(ry:RD X.K H y i)(ri:aJ i iv)
  (q:∀ s',Inv X pins σ H s'->Q (.bool (!r.isSome)) s'):LJ (LN X.prog X.w) A (Mj .NotIn iv ov) Q E s:=by
 obtain⟨a,rfl,⟨hs,k,e,rfl,l⟩|⟨xs,ks,b,hd,dd,rfl,hk,l⟩⟩:=h.split I rg rx ro ry ri
 ·refine F2 hu I (yf.k e) ri fun s' I'=>?_;rcases l with ⟨rfl,e2⟩|⟨d,v,rfl,e2,_⟩<;>rw[e2]<;>exact q s' I'
 ·refine wpAny_notIn_heap (MD hu) hk hd dd ?_;rcases l with ⟨rfl,e2⟩|⟨d,b',u,v,rfl,e2,_⟩<;>rw[e2]<;>exact q _ (I.tok _)
theorem F4{Q:LC->LF->Prop}(hu:A.units+1 < Mp)(I:Inv X pins σ H s)(rg:RG X.K H G)(h:cV (ah X.prog X.w) G x y r)(rx:RD X.K H x o)(ro:aJ o ov)(ry:RD X.K H y i)(ri:aJ i iv)(rz:RD X.K H z zv)(rzu:aJ zv zu)
  (q:∀ v u s',Inv X pins σ H s'->RD X.K H (r.getD z) v->aJ v u->Q u s'):LJ (LN X.prog X.w) A (call (.builtin "dict.get") [ov,iv,zu]) Q E s:=by
 obtain⟨a,rfl,⟨hs,k,e,rfl,l⟩|⟨xs,ks,b,hd,dd,rfl,hk,l⟩⟩:=h.split I rg rx ro ry ri
 ·refine Ig hu I (yf.k e) ri rzu fun u s' I' rv=>?_;rcases l with ⟨rfl,e2⟩|⟨d,v,rfl,e2,rd⟩<;>rw[e2]at rv
  ·exact q _ u s' I' rz rv
  ·exact q _ u s' I' rd rv
 ·refine OE PySem.F.slot_dict_get dd.typeIs PySem.F.entry_dict_get (PySem.F.args_dict_get_3 _ _ _) (P4 (MO (aO X.prog X.w)) a b hd zu) ⟨MD hu,ks,xs,hk,dd,?_⟩;rcases l with ⟨rfl,e2⟩|⟨d,b',u,v,rfl,e2,rd,rv⟩<;>rw[e2]
  ·exact q zv _ _ (I.tok _) rz rzu
  ·exact q v _ _ (I.tok _) rd rv
end
def r8(hw:List aH->Int)(to ti:bH):bH:=fun σ G Q=>to σ G fun x G1=>ti σ G1 fun y G2=>∃ d,cV hw G2 (val x) (val y) (some d)/\Q d G2
def xR(hw:List aH->Int)(ti to:bH):bH:=fun σ G Q=>ti σ G fun y G1=>to σ G1 fun x G2=>∃ r,cV hw G2 (val x) (val y) r/\Q (.bl r.isSome) G2
def mJ(hw:List aH->Int)(ti to:bH):bH:=fun σ G Q=>ti σ G fun y G1=>to σ G1 fun x G2=>∃ r,cV hw G2 (val x) (val y) r/\Q (.bl (!r.isSome)) G2
def ms(hw:List aH->Int)(to ti tz:bH):bH:=fun σ G Q=>to σ G fun x G1=>kN G1 (val x)/\ti σ G1 fun y G2=>tz σ G2 fun z G3=>∃ r,cV hw G3 (val x) (val y) r/\Q (r.getD (val z)) G3
section
variable{X:Cx}{o i e f:L7}{to ti tz:bH}{pos apos cpos:Pos}
theorem d4{t:bH}{e:L7}(h:PE X e (aE X.K t)){pins:List (LB×Obj)}{s:LF}{τ:St}{H:Hp}{σ:fO}{G:Gp}{Q3:mZ}(I:Inv X pins τ H s)(rs:RS X.K H σ τ)(rg:RG X.K H G)(ht:t σ G Q3):
  LJ (LN X.prog X.w) X.A (eval e X.env) (EP X pins τ fun v H1=>∃ d G1,Q3 d G1/\Kp G H G1 H1/\RG X.K H1 G1/\RD X.K H1 (val d) v) X.xe s:=
 dW h pins s τ H _ I ⟨σ,G,Q3,rs,rg,ht,fun d G' v H' q k rg' rd=>⟨d,G',q,k,rg',rd⟩⟩
theorem m5(hu:X.A.units+8 < Mp)(ho:PE X o (aE X.K to))(hi:PE X i (aE X.K ti))(hs:J5 i:=by exact fun _ _=>rfl):PE X (.Subscript o i pos) (aE X.K (r8 (ah X.prog X.w) to ti)):=by
 rintro pins s τ H Q I ⟨σ,G,Q3,rs,rg,h,k⟩
 refine EU PySem.F.slot_dict_getitem.lookup hs (cI (d4 ho I rs rg h) fun ov s1 zz=>?_);obtain⟨ox,H1,I1,rox,x,G1,q1,k1,rg1,rd1⟩:=zz;refine cI (d4 hi I1 (rs.mono (k1.stb rg)) rg1 q1) fun iv s2 zz=>?_;obtain⟨iy,H2,I2,riy,y,G2,q2,k2,rg2,rd2⟩:=zz;obtain⟨d,l,q2⟩:=q2;have rx:=RD.mono (k2.stb rg1) _ _ rd1;exact⟨(l.dct.at I2 rg2 rx rox).1,F3 (by walk_at "o") I2 rg2 l rx rox rd2 riy fun v u s3 I3 rd rv=>⟨v,H2,I3,rv,k _ G2 _ H2 q2 (k1.trans k2) rg2 (.of rd)⟩⟩
theorem Jk(hu:X.A.units+8 < Mp)(hi:PE X i (aE X.K ti))(ho:PE X o (aE X.K to))(hm:MK .In o=false:=by rfl):PE X (.Compare i [.In] [o] pos) (aE X.K (xR (ah X.prog X.w) ti to)):=by
 refine Hq (op:=.In) (fun pins s τ H Q I zz=>?_) hm;obtain⟨σ,G,Q3,rs,rg,h,k⟩:=zz;refine cI (d4 hi I rs rg h) fun iv s1 zz=>?_;obtain⟨iy,H1,I1,riy,y,G1,q1,k1,rg1,rd1⟩:=zz;refine cI (d4 ho I1 (rs.mono (k1.stb rg)) rg1 q1) fun ov s2 zz=>?_;obtain⟨ox,H2,I2,rox,x,G2,q2,k2,rg2,rd2⟩:=zz;obtain⟨r,l,q2⟩:=q2;exact GA (by walk_at "o") I2 rg2 l rd2 rox (RD.mono (k2.stb rg1) _ _ rd1) riy fun s3 I3=>⟨.bl r.isSome,H2,I3,rfl,k _ G2 _ H2 q2 (k1.trans k2) rg2 (.of h8)⟩
theorem sd(hu:X.A.units+8 < Mp)(ho:PE X o (aE X.K to))(he:PE X e (aE X.K ti))(hf:PE X f (aE X.K tz))(m:M2 X o "get" apos e f cpos:=by exact⟨rfl,rfl,rfl,rfl⟩):PE X (.Call (.Attribute o "get" apos) [e,f] [] cpos) (aE X.K (ms (ah X.prog X.w) to ti tz)):=by
 rintro pins s τ H Q I ⟨σ,G,Q3,rs,rg,h,k⟩
 refine wpAny_Call_method m.base m.few m.line PySem.F.plainAttrs_dict PySem.F.slot_dict_get PySem.F.type_dict_get (cI (d4 ho I rs rg h) fun ov s1 zz=>?_);obtain⟨ox,H1,I1,rox,x,G1,q1,k1,rg1,rd1⟩:=zz;obtain⟨t1,t2⟩:=q1.1.at I1 rg1 rd1 rox;refine⟨t1,t2,?_⟩;rw[m.trees];refine Nn rfl (QA (M0 (cI (d4 he I1 (rs.mono (k1.stb rg)) rg1 q1.2) fun iv s2 ⟨iy,H2,I2,riy,y,G2,q2,k2,rg2,rd2⟩=>M0 (cI (d4 hf I2 (rs.mono ((k1.trans k2).stb rg)) rg2 q2) fun fv s3 zz=>?_))));obtain⟨fz,H3,I3,rfz,z,G3,q3,k3,rg3,rd3⟩:=zz;refine Nt ?_;obtain⟨r,l,q3⟩:=q3;exact F4 (by walk_at "o") I3 rg3 l (RD.mono ((k2.trans k3).stb rg1) _ _ rd1) rox (RD.mono (k3.stb rg2) _ _ rd2) riy rd3 rfz fun v u s4 I4 rd rv=>⟨v,H3,I4,rv,k _ G3 _ H3 q3 (k1.trans (k2.trans k3)) rg3 (.of rd)⟩
end
end L3
namespace PySem.W
open PySem PyProof.Rows
def KasT.run{α:Type}(lt:Nat->Nat->Bool):QS α->α
 | .ret a=>a
 | .ask i j k=>(k (lt i j)).run lt
theorem KasT.run_bind{α β:Type}(lt:Nat->Nat->Bool)(f:α->QS β):∀ t:QS α,(t.bind f).run lt=(f (t.run lt)).run lt
 | .ret _=>rfl
 | .ask i j k=>by
  show ((k (lt i j)).bind f).run lt=_
  rw[KasT.run_bind lt f (k (lt i j))];rfl
section
variable(r:Nat->Nat)
def mK(i j:Nat):Bool:=decide (r i < r j)
def RR(p:Array Nat)(i:Nat):Nat:=r (p.getD i 0)
def m7(p:Array Nat)(n:Nat):Prop:=∀ i,i+1 < n->RR r p i<=RR r p (i+1)
def uv(p:Array Nat)(n:Nat):Prop:=∀ i,i+1 < n->RR r p (i+1)<=RR r p i
end
section
variable{r:Nat->Nat}{p:Array Nat}
theorem m7.le{n:Nat}(h:m7 r p n){i j:Nat}(hij:i<=j)(hj:j < n):RR r p i<=RR r p j:=by
 induction j with
 | zero=>
      have:i=0:=by walk_at "o"
      subst this;exact le_refl _
 | succ j ih=>
  rcases Nw i (j+1)with h1|h1
  ·exact le_trans (ih (by walk_at "o") (by walk_at "o")) (h j hj)
  ·have:i=j+1:=by walk_at "o"
   subst this;exact le_refl _
theorem uv.le{n:Nat}(h:uv r p n){i j:Nat}(hij:i<=j)(hj:j < n):RR r p j<=RR r p i:=by
 induction j with
 | zero=>
      have:i=0:=by walk_at "o"
      subst this;exact le_refl _
 | succ j ih=>
  rcases Nw i (j+1)with h1|h1
  ·exact le_trans (h j hj) (ih (by walk_at "o") (by walk_at "o"))
  ·have:i=j+1:=by walk_at "o"
   subst this;exact le_refl _
theorem zG{p q:Array Nat}{i j:Nat}(h:p[i]?=q[j]?):RR r p i=RR r q j:=by
 unfold RR;rw[Array.getD_eq_getD_getElem?,Array.getD_eq_getD_getElem?,h]
theorem yc{i j:Nat}(hj:j<=p.size)(k:Nat):RR r (Nr p i j) k=if i<=k/\k < j then RR r p (i+j - 1 - k)else RR r p k:=by
 have e:=getElem?_mirror_all (xs:=p) (i:=i) hj k;unfold Nr;split
 ·rename_i h;rw[if_pos h]at e;exact zG e
 ·rename_i h;rw[if_neg h]at e;exact zG e
theorem i5(i j:Nat):(Nr p i j).size=p.size:=mirror_size _ _ _ _
theorem qO{i j:Nat}(hj:j<=p.size)(he:∀ k,i<=k->k < j->RR r p k=RR r p (j - 1))(k:Nat):RR r (Nr p i j) k=RR r p k:=by
 rw[yc hj];split
 ·rename_i h;rw[he _ (by walk_at "o") (by walk_at "o"),he k h.1 h.2]
 ·rfl
theorem uo{i j:Nat}:mK r i j=true↔r i < r j:=by unfold mK;exact decide_eq_true_iff
theorem jS{i j:Nat}:mK r i j=false↔r j<=r i:=by unfold mK;rw[decide_eq_false_iff_not];omega
theorem AL:∀ (f n:Nat),1<=n->∃ m,(kas_asc p f n).run (mK r)=m/\n<=m/\m<=n+f/\(∀ i,n<=i->i < m->RR r p (i - 1)<=RR r p i)/\(m < n+f->RR r p m < RR r p (m - 1))
 | 0,n,_=>⟨n,rfl,le_refl _,le_refl _,fun i h1 h2=>absurd h1 (by walk_at "o"),fun h=>absurd h (by walk_at "o")⟩
 | f+1,n,hn=>by
  show ∃ m,((fun c=>if c=true then KasT.ret n else kas_asc p f (n+1)) (mK r (p.getD n 0) (p.getD (n - 1) 0))).run (mK r)=m/\_
  cases e:mK r (p.getD n 0) (p.getD (n - 1) 0) with
  | true=>exact⟨n,rfl,le_refl _,by walk_at "o",fun i h1 h2=>absurd h1 (by walk_at "o"),fun _=>uo.mp e⟩
  | false=>
   obtain⟨m,e1,h1,h2,h3,h4⟩:=AL f (n+1) (by walk_at "o")
   refine⟨m,e1,by walk_at "o",by walk_at "o",fun i h5 h6=>?_,fun h=>h4 (by walk_at "o")⟩
   rcases Nw n i with h7|h7
   ·exact h3 i h7 h6
   ·have:i=n:=by walk_at "o"
    subst this;exact jS.mp e
structure DSt(r:Nat->Nat)(p:Array Nat)(n q:Nat):Prop where
 hq:q+1<=n
 hn:n<=p.size
 dec:uv r p n
 eq:∀ k,n - (q+1)<=k->k < n->RR r p k=RR r p (n - 1)
theorem DQ{n:Nat}:∀ k,n+1 - (0+1)<=k->k < n+1->RR r p k=RR r p (n+1 - 1):=fun k h1 h2=>by
 have:k=n+1 - 1:=by walk_at "o"
 subst this;rfl
theorem xV:∀ (f:Nat) (p:Array Nat) (n q:Nat),DSt r p n q->n+f<=p.size->∃ p' n' q',(NT f p n q).run (mK r)=(p',n',q')/\DSt r p' n' q'/\n<=n'/\n'<=n+f/\p'.size=p.size/\p'.Perm p
 | 0,p,n,q,h,_=>⟨p,n,q,rfl,h,le_refl _,le_refl _,rfl,Array.Perm.refl _⟩
 | f+1,p,n,q,h,hf=>by
  have hq:=h.hq;show ∃ p' n' q',((fun c=>if c=true then (if q > 0 then NT f (Nr p (n - (q+1)) n) (n+1) 0 else NT f p (n+1) 0)
   else .ask (p.getD (n - 1) 0) (p.getD n 0) fun d=>if d=true then .ret (p,n,q)else NT f p (n+1) (q+1)) (mK r (p.getD n 0) (p.getD (n - 1) 0))).run (mK r)=(p',n',q')/\_
  cases e:mK r (p.getD n 0) (p.getD (n - 1) 0) with
  | true=>
   have lt:RR r p n < RR r p (n - 1):=uo.mp e;have next:∀ p1:Array Nat,p1.size=p.size->p1.Perm p->(∀ k,RR r p1 k=RR r p k)->∃ p' n' q',(NT f p1 (n+1) 0).run (mK r)=(p',n',q')/\DSt r p' n' q'/\n<=n'/\n'<=n+(f+1)/\p'.size=p.size/\p'.Perm p:=fun p1 hz hp hR=>by
    have hn:=h.hn;have dc:uv r p1 (n+1):=fun i hi=>by
     rw[hR,hR];rcases Nw (i+1) n with h7|h7
     ·exact h.dec i h7
     ·have e2:n=i+1:=by walk_at "o"
      have e3:i=n - 1:=by walk_at "o"
      rw[<- e2,e3];exact le_of_lt lt
    obtain⟨p',n',q',e1,h1,h2,h3,h4,h5⟩:=xV f p1 (n+1) 0 ⟨by walk_at "o",by walk_at "o",dc,DQ⟩ (by walk_at "o")
    exact⟨p',n',q',e1,h1,by walk_at "o",by walk_at "o",by walk_at "o",h5.trans hp⟩
   show ∃ p' n' q',(if q > 0 then NT f (Nr p (n - (q+1)) n) (n+1) 0 else NT f p (n+1) 0).run (mK r)=(p',n',q')/\_
   by_cases hq0:q > 0
   ·rw[if_pos hq0];exact next _ (i5 _ _) (Po _ _ _ _) (qO (by walk_at "o") h.eq)
   ·rw[if_neg hq0];exact next p rfl (Array.Perm.refl _) fun _=>rfl
  | false=>
   have ge:RR r p (n - 1)<=RR r p n:=jS.mp e;show ∃ p' n' q',((fun d=>if d=true then KasT.ret (p,n,q)else NT f p (n+1) (q+1)) (mK r (p.getD (n - 1) 0) (p.getD n 0))).run (mK r)=(p',n',q')/\_
   cases e2:mK r (p.getD (n - 1) 0) (p.getD n 0) with
   | true=>exact⟨p,n,q,rfl,h,le_refl _,by walk_at "o",rfl,Array.Perm.refl _⟩
   | false=>
    have le:RR r p n<=RR r p (n - 1):=jS.mp e2;have dc:uv r p (n+1):=fun i hi=>by
     rcases Nw (i+1) n with h7|h7
     ·exact h.dec i h7
     ·have e2:n=i+1:=by walk_at "o"
      have e3:i=n - 1:=by walk_at "o"
      rw[<- e2,e3];exact le
    have eqq:∀ k,n+1 - (q+1+1)<=k->k < n+1->RR r p k=RR r p (n+1 - 1):=fun k h1 h2=>by
     show RR r p k=RR r p n
     rcases Nw k n with h7|h7
     ·rw[h.eq k (by walk_at "o") h7];omega
     ·have:k=n:=by walk_at "o"
      subst this;rfl
    obtain⟨p',n',q',e1,h1,h2,h3,h4,h5⟩:=xV f p (n+1) (q+1) ⟨by walk_at "o",by walk_at "o",dc,eqq⟩ (by walk_at "o")
    exact⟨p',n',q',e1,h1,by walk_at "o",by walk_at "o",h4,h5⟩
theorem yp{n nrem:Nat}(h1:1<=n)(hn:n<=nrem)(hz:nrem<=p.size)(hd:uv r p n):∃ m p',(NP n nrem p).run (mK r)=(m,p')/\1<=m/\m<=nrem/\p'.size=p.size/\p'.Perm p/\m7 r p' m:=by
 unfold NP;rw[KasT.run_bind];obtain⟨m,e,a1,a2,a3,_⟩:=AL (r:=r) (p:=Nr p 0 n) (nrem - n) n h1;rw[e];refine⟨m,_,rfl,by walk_at "o",by walk_at "o",i5 _ _,Po _ _ _ _,fun i hi=>?_⟩
 rcases Nw (i+1) n with h7|h7
 ·rw[yc (by walk_at "o"),yc (by walk_at "o"),if_pos (by walk_at "o"),if_pos (by walk_at "o")]
  exact hd.le (by walk_at "o") (by walk_at "o")
 ·exact a3 (i+1) h7 hi
theorem q_{n nrem:Nat}(h1:1<=n)(hn:n+1<=nrem)(hz:nrem<=p.size)(hd:uv r p (n+1)):∃ m p',(OA n nrem p).run (mK r)=(m,p')/\1<=m/\m<=nrem/\p'.size=p.size/\p'.Perm p/\m7 r p' m:=by
 unfold OA;rw[KasT.run_bind];obtain⟨p1,n1,q1,e,d,a1,a2,a3,a4⟩:=xV (r:=r) (nrem - (n+1)) p (n+1) 0 ⟨by walk_at "o",by walk_at "o",hd,DQ⟩ (by walk_at "o")
 rw[e];have hq:=d.hq
 by_cases hq0:q1 > 0
 ·show ∃ m p',(if q1 > 0 then NP n1 nrem (Nr p1 (n1 - (q1+1)) n1)else NP n1 nrem p1).run (mK r)=(m,p')/\_
  rw[if_pos hq0];have hR:=qO (r:=r) (p:=p1) (i:=n1 - (q1+1)) (j:=n1) d.hn d.eq;obtain⟨m,p',b1,b2,b3,b4,b5,b6⟩:=yp (r:=r) (p:=Nr p1 (n1 - (q1+1)) n1) (n:=n1) (nrem:=nrem) (by walk_at "o") (by walk_at "o") (by rw[i5];omega) (fun i hi=>by rw[hR,hR];exact d.dec i hi)
  exact⟨m,p',b1,b2,b3,by rw[b4,i5,a3],(b5.trans (Po _ _ _ _)).trans a4,b6⟩
 ·show ∃ m p',(if q1 > 0 then NP n1 nrem (Nr p1 (n1 - (q1+1)) n1)else NP n1 nrem p1).run (mK r)=(m,p')/\_
  rw[if_neg hq0];obtain⟨m,p',b1,b2,b3,b4,b5,b6⟩:=yp (r:=r) (p:=p1) (n:=n1) (nrem:=nrem) (by walk_at "o") (by walk_at "o") (by walk_at "o") d.dec
  exact⟨m,p',b1,b2,b3,by rw[b4,a3],b5.trans a4,b6⟩
theorem Es{nrem:Nat}(h1:1<=nrem)(hz:nrem<=p.size):∃ m p',(P5 nrem p).run (mK r)=(m,p')/\1<=m/\m<=nrem/\p'.size=p.size/\p'.Perm p/\m7 r p' m:=by
 unfold P5;rw[KasT.run_bind];obtain⟨n,e,a1,a2,a3,a4⟩:=AL (r:=r) (p:=p) (nrem - 1) 1 (le_refl _);rw[e];have adj:m7 r p n:=fun i hi=>a3 (i+1) (by walk_at "o") hi
 by_cases h2:n=nrem
 ·rw[if_pos (by simpa using h2)]
  exact⟨n,p,rfl,by walk_at "o",by walk_at "o",rfl,Array.Perm.refl _,adj⟩
 ·rw[if_neg (by simpa using h2)]
  have dn:RR r p n < RR r p (n - 1):=a4 (by walk_at "o")
  by_cases h3:n > 1
  ·rw[if_pos h3];show ∃ m p',((fun c=>if c=true then KasT.ret (n,p)else OA n nrem (Nr p 0 n)) (mK r (p.getD 0 0) (p.getD (n - 1) 0))).run (mK r)=(m,p')/\_
   cases e2:mK r (p.getD 0 0) (p.getD (n - 1) 0) with
   | true=>exact⟨n,p,rfl,by walk_at "o",by walk_at "o",rfl,Array.Perm.refl _,adj⟩
   | false=>
    have ge:RR r p (n - 1)<=RR r p 0:=jS.mp e2;have eq:∀ k,0<=k->k < n->RR r p k=RR r p (n - 1):=fun k _ hk=>by
     have:=adj.le (Mg k) hk;have:=adj.le (show k<=n - 1 by walk_at "o") (by walk_at "o")
     omega
    have hR:=qO (r:=r) (p:=p) (i:=0) (j:=n) (by walk_at "o") eq
    obtain⟨m,p',b1,b2,b3,b4,b5,b6⟩:=q_ (r:=r) (p:=Nr p 0 n) (n:=n) (nrem:=nrem) (by walk_at "o") (by walk_at "o") (by rw[i5];omega) (fun i hi=>by
     rw[hR,hR];rcases Nw (i+1) n with h7|h7
     ·rw[eq i (by walk_at "o") (by walk_at "o"),eq (i+1) (by walk_at "o") h7];exact le_refl _
     ·have e3:n=i+1:=by walk_at "o"
      have e4:i=n - 1:=by walk_at "o"
      rw[<- e3,e4];exact le_of_lt dn)
    exact⟨m,p',b1,b2,b3,by rw[b4,i5],b5.trans (Po _ _ _ _),b6⟩
  ·rw[if_neg h3];have e1:n=1:=by walk_at "o"
   subst e1;exact q_ (by walk_at "o") (by walk_at "o") hz (fun i hi=>by
    have:i=0:=by walk_at "o"
    subst this;exact le_of_lt dn)
theorem sY{k:Nat}(hs:m7 r p k):∀ (f l u:Nat),l<=u->u<=k->u - l<=f->(∀ i,i < l->RR r p i<=RR r p k)->(∀ i,u<=i->i < k->RR r p k < RR r p i)->
  ∃ m,(OS p k f l u).run (mK r)=m/\m<=k/\(∀ i,i < m->RR r p i<=RR r p k)/\(∀ i,m<=i->i < k->RR r p k < RR r p i)
 | 0,l,u,h1,h2,h3,h4,h5=>⟨l,rfl,by walk_at "o",h4,fun i a b=>h5 i (by walk_at "o") b⟩
 | f+1,l,u,h1,h2,h3,h4,h5=>by
  unfold OS
  by_cases hlu:l>=u
  ·rw[if_pos hlu];exact⟨l,rfl,by walk_at "o",h4,fun i a b=>h5 i (by walk_at "o") b⟩
  ·rw[if_neg hlu];show ∃ m,((fun c=>if c=true then OS p k f l ((l+u) / 2)else OS p k f ((l+u) / 2+1) u) (mK r (p.getD k 0) (p.getD ((l+u) / 2) 0))).run (mK r)=m/\_
   cases e:mK r (p.getD k 0) (p.getD ((l+u) / 2) 0) with
   | true=>
    have lt:RR r p k < RR r p ((l+u) / 2):=uo.mp e;exact sY hs f l ((l+u) / 2) (by walk_at "o") (by walk_at "o") (by walk_at "o") h4 fun i a b=>Me lt (hs.le a b)
   | false=>
    have ge:RR r p ((l+u) / 2)<=RR r p k:=jS.mp e;exact sY hs f ((l+u) / 2+1) u (by walk_at "o") h2 (by walk_at "o") (fun i a=>le_trans (hs.le (show i<=(l+u) / 2 by walk_at "o") (by walk_at "o")) ge) h5
theorem qP{src d:Nat}(hs:src < p.size)(hd:d<=src)(k:Nat):RR r (bubble p src d) k=if k=src - d then RR r p src else if src - d < k/\k<=src then RR r p (k - 1)else RR r p k:=by
 have e:=getElem?_bubble hs d hd k;split
 ·rename_i h;rw[if_pos h]at e;exact zG e
 ·rename_i h;rw[if_neg h]at e;split
  ·rename_i h2;rw[if_pos h2]at e;exact zG e
  ·rename_i h2;rw[if_neg h2]at e;exact zG e
theorem Ey:∀ (f:Nat) (p:Array Nat) (k:Nat),k+f=p.size->m7 r p k->∃ p',(Px f p k).run (mK r)=p'/\p'.size=p.size/\p'.Perm p/\m7 r p' p.size
 | 0,p,k,h,a=>⟨p,rfl,rfl,Array.Perm.refl _,by rw[<- h];exact a⟩
 | f+1,p,k,h,a=>by
  unfold Px;rw[KasT.run_bind];obtain⟨l,e,b1,b2,b3⟩:=sY (r:=r) a k 0 k (by walk_at "o") (le_refl _) (by walk_at "o") (fun i z=>absurd z (by walk_at "o")) (fun i x y=>absurd x (by walk_at "o"))
  rw[e];have hk:k < p.size:=by walk_at "o"
  obtain⟨p',c1,c2,c3,c4⟩:=Ey f (bubble p k (k - l)) (k+1) (by rw[Qw];omega) (fun i hi=>by
   have e1:=qP (r:=r) hk (show k - l<=k by walk_at "o") i
   have e2:=qP (r:=r) hk (show k - l<=k by walk_at "o") (i+1)
   have ek:k - (k - l)=l:=by walk_at "o"
   rw[ek]at e1 e2;rw[e1,e2];rcases Nat.lt_trichotomy i l with hil|hil|hil
   ·rw[if_neg (by walk_at "o"),if_neg (by walk_at "o")]
    by_cases h2:i+1=l
    ·rw[if_pos h2];exact b2 i hil
    ·rw[if_neg h2,if_neg (by walk_at "o")];exact a i (by walk_at "o")
   ·rw[if_pos hil,if_neg (by walk_at "o"),if_pos (by walk_at "o")]
    have:i+1 - 1=i:=by walk_at "o"
    rw[this];exact le_of_lt (b3 i (by walk_at "o") (by walk_at "o"))
   ·rw[if_neg (by walk_at "o"),if_pos (by walk_at "o"),if_neg (by walk_at "o"),if_pos (by walk_at "o")]
    have:i+1 - 1=(i - 1)+1:=by walk_at "o"
    rw[this];exact a (i - 1) (by walk_at "o"))
  rw[Qw]at c2 c4;exact⟨p',c1,c2,c3.trans (bubble_perm _ _ _),c4⟩
theorem AY(r:Nat->Nat)(n:Nat)(hn:1<=n):∃ p,(Qv n).run (mK r)=p/\p.toList.Perm (List.range n)/\m7 r p n:=by
 unfold Qv;rw[KasT.run_bind];have hz:(List.toArray (List.range n)).size=n:=by simp
 obtain⟨m,p1,e,a1,a2,a3,a4,a5⟩:=Es (r:=r) (p:=List.toArray (List.range n)) (nrem:=n) hn (by rw[hz];exact le_refl _)
 rw[e];have toL:∀ {p:Array Nat},p.Perm (List.toArray (List.range n))->p.toList.Perm (List.range n):=fun h=>by simpa using Array.perm_iff_toList_perm.mp h
 show ∃ p,(if m < n then Px (n - max m 1) p1 (max m 1)else KasT.ret p1).run (mK r)=p/\_
 by_cases h:m < n
 ·rw[if_pos h];obtain⟨p',b1,b2,b3,b4⟩:=Ey (r:=r) (n - max m 1) p1 (max m 1) (by rw[a3,hz];omega) (by rw[show max m 1=m by walk_at "o"];exact a5)
  exact⟨p',b1,toL (b3.trans a4),by rw[a3,hz]at b4;exact b4⟩
 ·rw[if_neg h];have:m=n:=by walk_at "o"
  subst this;exact⟨p1,rfl,toL a4,a5⟩
end
section
variable{κ:Type}(blt:κ->κ->Bool)
structure SWO:Prop where
 irrefl:∀ a,blt a a=false
 trans:∀ a b c,blt a b=true->blt b c=true->blt a c=true
 neg:∀ a b c,blt a c=true->blt a b=true\/blt b c=true
def rankIn(ks:List κ)(a:κ):Nat:=ks.countP fun k=>blt k a
end
section
variable{κ:Type}{blt:κ->κ->Bool}
theorem v4{p q:κ->Bool}(ks:List κ)(h:∀ x,p x=true->q x=true):ks.countP p<=ks.countP q:=by
 induction ks with
 | nil=>exact le_refl _
 | cons x r ih=>
  rw[OO,OO];cases hp:p x with
  | false=>simp;split<;>omega
  | true=>rw[h x hp];simp;omega
theorem Cu{p q:κ->Bool}{ks:List κ}(h:∀ x,p x=true->q x=true){y:κ}(hy:y∈ks)(h1:p y=false)(h2:q y=true):ks.countP p < ks.countP q:=by
 induction ks with
 | nil=>simp at hy
 | cons x r ih=>
  rw[OO,OO];rcases L_.mp hy with rfl|hy
  ·have:=v4 r h;rw[h1,h2];simp;omega
  ·have:=ih hy;cases hp:p x with
   | false=>simp;split<;>omega
   | true=>rw[h x hp];simp;omega
theorem rank_lt(o:SWO blt){ks:List κ}{a b:κ}(ha:a∈ks):blt a b=decide (rankIn blt ks a < rankIn blt ks b):=by
 cases e:blt a b with
 | true=>
  symm;rw[decide_eq_true_iff];exact Cu (fun x hx=>o.trans _ _ _ hx e) ha (o.irrefl a) e
 | false=>
  symm;rw[decide_eq_false_iff_not,not_lt];refine v4 ks fun x hx=>?_;rcases o.neg x a b hx with h|h
  ·exact h
  ·rw[e]at h;cases h
end
def KasT.allR{α:Type}(n:Nat)(P:α->Prop):QS α->Prop
 | .ret a=>P a
 | .ask i j k=>i < n/\j < n/\∀ b,(k b).allR n P
theorem KasT.allR_mono{α:Type}{n:Nat}{P P':α->Prop}(h:∀ a,P a->P' a):∀ {t:QS α},t.allR n P->t.allR n P'
 | .ret a,q=>h a q
 | .ask i j k,q=>⟨q.1,q.2.1,fun b=>KasT.allR_mono h (q.2.2 b)⟩
theorem KasT.allR_bind{α β:Type}{n:Nat}{P:α->Prop}{P':β->Prop}{f:α->QS β}(h:∀ a,P a->(f a).allR n P'):∀ {t:QS α},t.allR n P->(t.bind f).allR n P'
 | .ret a,q=>h a q
 | .ask i j k,q=>⟨q.1,q.2.1,fun b=>KasT.allR_bind h (q.2.2 b)⟩
theorem KasT.walked{α:Type}{n:Nat}{P:α->Prop}{lt:Nat->Nat->Bool}{J:LF->Prop}{cmp:Nat->Nat->(Bool->LF->Prop)->LF->Prop}{Q:α->LF->Prop}
  (hc:∀ i j C s,i < n->j < n->J s->(∀ s',J s'->C (lt i j) s')->cmp i j C s):∀ (t:QS α) (s:LF),t.allR n P->J s->(∀ s',J s'->P (t.run lt)->Q (t.run lt) s')->t.kasWp cmp Q s
 | .ret a,s,q,j,h=>h s j q
 | .ask i j k,s,q,hj,h=>hc i j _ s q.1 q.2.1 hj fun s' hj'=>KasT.walked hc (k (lt i j)) s' (q.2.2 _) hj' h
structure EntN(n:Nat)(p:Array Nat):Prop where
 size:p.size=n
 ent:∀ i,p.getD i 0 < n
section
variable{N:Nat}{p:Array Nat}
theorem EntN.rev(e:EntN N p){i j:Nat}(hj:j<=N):EntN N (Nr p i j):=by
 refine⟨by rw[i5];exact e.size,fun k=>?_⟩
 have h:=yc (r:=id) (p:=p) (i:=i) (j:=j) (by rw[e.size];exact hj) k
 unfold RR at h;simp only[id]at h;rw[h];split<;>exact e.ent _
theorem EntN.bub(e:EntN N p){src d:Nat}(hs:src < N)(hd:d<=src):EntN N (bubble p src d):=by
 refine⟨by rw[Qw];exact e.size,fun k=>?_⟩
 have h:=qP (r:=id) (p:=p) (src:=src) (d:=d) (by rw[e.size];exact hs) hd k
 unfold RR at h;simp only[id]at h;rw[h];split
 ·exact e.ent _
 ·split<;>exact e.ent _
theorem AM(e:EntN N p):∀ (f n:Nat),(kas_asc p f n).allR N fun m=>n<=m/\m<=n+f
 | 0,n=>⟨le_refl _,le_refl _⟩
 | f+1,n=>⟨e.ent _,e.ent _,fun b=>by
   cases b with
   | true=>exact⟨le_refl _,by walk_at "o"⟩
   | false=>exact KasT.allR_mono (fun m h=>⟨by walk_at "o",by walk_at "o"⟩) (AM e f (n+1))⟩
theorem sh:∀ (f:Nat) (p:Array Nat) (n q:Nat),EntN N p->n+f<=N->(NT f p n q).allR N fun r=>EntN N r.1/\n<=r.2.1/\r.2.1<=n+f
 | 0,p,n,q,e,_=>⟨e,le_refl _,le_refl _⟩
 | f+1,p,n,q,e,h=>⟨e.ent _,e.ent _,fun b=>by
   have mono:∀ {t:QS (Array Nat×Nat×Nat)},(t.allR N fun r=>EntN N r.1/\n+1<=r.2.1/\r.2.1<=n+1+f)->t.allR N fun r=>EntN N r.1/\n<=r.2.1/\r.2.1<=n+(f+1):=fun h=>KasT.allR_mono (fun r z=>⟨z.1,by walk_at "o",by walk_at "o"⟩) h
   cases b with
   | true=>
    show KasT.allR N _ (if q > 0 then NT f (Nr p (n - (q+1)) n) (n+1) 0 else NT f p (n+1) 0)
    split
    ·exact mono (sh f _ (n+1) 0 (e.rev (by walk_at "o")) (by walk_at "o"))
    ·exact mono (sh f _ (n+1) 0 e (by walk_at "o"))
   | false=>exact⟨e.ent _,e.ent _,fun d=>by
     cases d with
     | true=>exact⟨e,le_refl _,show n<=n+(f+1)by walk_at "o"⟩
     | false=>exact mono (sh f p (n+1) (q+1) e (by walk_at "o"))⟩⟩
theorem yq(e:EntN N p){n nrem:Nat}(hn:n<=N):(NP n nrem p).allR N fun r=>EntN N r.2:=by
 unfold NP;refine KasT.allR_bind (fun m _=>?_) (AM (e.rev (i:=0) hn) (nrem - n) n);exact (e.rev hn:EntN N (Nr p 0 n))
theorem rf(e:EntN N p){n nrem:Nat}(hn:n+1<=nrem)(hz:nrem<=N):(OA n nrem p).allR N fun r=>EntN N r.2:=by
 unfold OA;refine KasT.allR_bind (fun r h=>?_) (sh (nrem - (n+1)) p (n+1) 0 e (by walk_at "o"))
 obtain⟨p1,n1,q1⟩:=r;obtain⟨h1,h2,h3⟩:=h;show KasT.allR N _ (if q1 > 0 then NP n1 nrem (Nr p1 (n1 - (q1+1)) n1)else NP n1 nrem p1)
 have hn1:n1<=N:=by simp only at h3;omega
 split
 ·exact yq (h1.rev hn1) hn1
 ·exact yq h1 hn1
theorem Et(e:EntN N p){nrem:Nat}(h1:1<=nrem)(hz:nrem<=N):(P5 nrem p).allR N fun r=>EntN N r.2:=by
 unfold P5;refine KasT.allR_bind (fun n h=>?_) (AM e _ _)
 by_cases h2:n=nrem
 ·rw[if_pos (by simpa using h2)];exact e
 ·rw[if_neg (by simpa using h2)]
  by_cases h3:n > 1
  ·rw[if_pos h3];refine⟨e.ent _,e.ent _,fun b=>?_⟩;cases b with
   | true=>exact e
   | false=>exact rf (e.rev (by walk_at "o")) (by walk_at "o") hz
  ·rw[if_neg h3];exact rf e (by walk_at "o") hz
theorem sZ(e:EntN N p)(k:Nat):∀ (f l u:Nat),(OS p k f l u).allR N fun _=>True
 | 0,l,u=>trivial
 | f+1,l,u=>by
  unfold OS;split
  ·exact trivial
  ·exact⟨e.ent _,e.ent _,fun b=>by
    cases b with
    | true=>exact sZ e k f _ _
    | false=>exact sZ e k f _ _⟩
theorem Ez:∀ (f:Nat) (p:Array Nat) (k:Nat),EntN N p->k+f<=N->(Px f p k).allR N (EntN N)
 | 0,p,k,e,_=>e
 | f+1,p,k,e,h=>by
  unfold Px;refine KasT.allR_bind (fun l _=>?_) (sZ e k k 0 k);exact Ez f _ (k+1) (e.bub (by walk_at "o") (by walk_at "o")) (by walk_at "o")
theorem AZ{n:Nat}(hn:1<=n):(Qv n).allR n (EntN n):=by
 have e:EntN n (List.toArray (List.range n)):=⟨by simp,fun i=>by
  rw[Array.getD_eq_getD_getElem?,List.getElem?_toArray];cases h:(List.range n)[i]? with
  | none=>exact hn
  | some x=>exact mem_range.mp (LZ h)⟩
 unfold Qv;refine KasT.allR_bind (fun r h=>?_) (Et e hn (le_refl _));obtain⟨m,p⟩:=r;show KasT.allR n _ (if m < n then Px (n - max m 1) p (max m 1)else KasT.ret p)
 split
 ·exact Ez _ _ _ h (by walk_at "o")
 ·exact h
end
section
variable{α:Type}(blt:α->α->Bool)
structure STO:Prop where
 irrefl:∀ a,blt a a=false
 trans:∀ a b c,blt a b=true->blt b c=true->blt a c=true
 tot:∀ a b,blt a b=false->blt b a=false->a=b
def tM[DecidableEq α]:List α->List α->Bool
 | [],[]=>false
 | [],_::_=>true
 | _::_,[]=>false
 | a::r,b::t=>if a=b then tM r t else blt a b
end
section
variable{α:Type}{blt:α->α->Bool}
theorem STO.neg(o:STO blt)(a b c:α)(h:blt a c=true):blt a b=true\/blt b c=true:=by
 cases e:blt a b with
 | true=>exact .inl rfl
 | false=>
  cases e2:blt b c with
  | true=>exact .inr rfl
  | false=>
   cases e3:blt b a with
   | true=>have:=o.trans _ _ _ e3 h;rw[e2]at this;cases this
   | false=>
    have:=o.tot _ _ e e3;subst this;rw[h]at e2;cases e2
theorem STO.swo(o:STO blt):SWO blt:=⟨o.irrefl,o.trans,o.neg⟩
variable[DecidableEq α]
theorem mH(a b:α)(r t:List α):tM blt (a::r) (b::t)=if a=b then tM blt r t else blt a b:=rfl
theorem xq(o:STO blt):STO (tM blt) where
 irrefl:=by
  intro a
  induction a with
  | nil=>rfl
  | cons x r ih=>rw[mH,if_pos rfl,ih]
 trans:=by
  intro a
  induction a with
  | nil=>
   intro b c h1 h2;cases c with
   | nil=>cases b<;>cases h2
   | cons _ _=>rfl
  | cons x r ih=>
   intro b c h1 h2;cases b with
   | nil=>cases h1
   | cons y t=>
    cases c with
    | nil=>cases h2
    | cons z u=>
     rw[mH]at h1 h2 ⊢
     by_cases e1:x=y
     ·subst e1;rw[if_pos rfl]at h1
      by_cases e2:x=z
      ·subst e2;rw[if_pos rfl]at h2 ⊢;exact ih t u h1 h2
      ·rw[if_neg e2]at h2 ⊢;exact h2
     ·rw[if_neg e1]at h1
      by_cases e2:y=z
      ·subst e2;rw[if_neg e1];exact h1
      ·rw[if_neg e2]at h2;have h3:=o.trans _ _ _ h1 h2;rw[if_neg (fun e=>by subst e;rw[o.irrefl]at h3;cases h3)]
       exact h3
 tot:=by
  intro a
  induction a with
  | nil=>
   intro b h1 h2;cases b with
   | nil=>rfl
   | cons _ _=>cases h1
  | cons x r ih=>
   intro b h1 h2;cases b with
   | nil=>cases h2
   | cons y t=>
    rw[mH]at h1 h2
    by_cases e1:x=y
    ·subst e1;rw[if_pos rfl]at h1 h2;rw[ih t h1 h2]
    ·rw[if_neg e1]at h1;rw[if_neg (Ne.symm e1)]at h2;exact absurd (o.tot _ _ h1 h2) e1
end
def xm(a b:Nat):Bool:=decide (a < b)
theorem xl:STO xm:=⟨fun a=>by simp[xm],fun a b c h1 h2=>by simp only[xm,decide_eq_true_eq]at *;omega,fun a b h1 h2=>by simp only[xm,decide_eq_false_iff_not]at *;omega⟩
theorem o0:∀ a b:List Nat,tM xm a b=decide (a < b)
 | [],[]=>by simp[tM]
 | [],b::t=>by simp[tM]
 | a::r,[]=>by simp[tM]
 | a::r,b::t=>by
  rw[mH]
  by_cases e:a=b
  ·subst e;rw[if_pos rfl,o0 r t];simp
  ·rw[if_neg e];simp[xm,List.cons_lt_cons_iff,e]
end PySem.W
namespace L3
open PySem PySem.Spec PyProof.Rows L2 PySem.SeqAt
open PySem.AutoSeq1 (wpAny_loadPart')
open PySem.MeetsSeq PySem.MeetsSeq2 PySem.MeetsSeq3
def cU(blt:D->D->Bool):List D->List D->Bool
 | [],[]=>false
 | [],_::_=>true
 | _::_,[]=>false
 | a::r,b::t=>if eJ a b=true then cU blt r t else blt a b
def jh:Nat->D->D->Bool
 | _,.int a,.int b=>decide (a < b)
 | _,.str x,.str y=>decide (x.cps.toList < y.cps.toList)
 | n+1,.tup xs,.tup ys=>cU (jh n) xs ys
 | _,_,_=>false
def Ih(n:Nat)(P:D->D->Prop):List D->List D->Prop
 | a::r,b::t=>(pl n a/\pl n b)/\(a≠b->P a b)/\Ih n P r t
 | _,_=>True
def zJ:Nat->D->D->Prop
 | _,.int _,.int _=>True
 | _,.str _,.str _=>True
 | n+1,.tup xs,.tup ys=>Ih n (zJ n) xs ys
 | _,_,_=>False
def Ge(op:OH)(A:LY)(s:LF)(v u:LC)(b:Bool):Prop:=
 ∀ (prog:LS) (w:L6) (E:LC->LF->Prop) (Q:LC->LF->Prop),Q (.bool b) s->LJ (LN prog w) A (richCompare op v u) Q E s
def wj(op:OH)(fin:Bool)(A:LY)(s:LF):List LC->List LC->Bool->Prop
 | v::vs,u::us,out=>∃ e,EqAt A s v u e/\(e=true->wj op fin A s vs us out)/\(e=false->Ge op A s v u out)
 | _,_,out=>out=fin
theorem B8{op:OH}{fin out:Bool}{A:LY}{s:LF}:∀ {vs us:List LC},wj op fin A s vs us out->vs.zip us=[]->out=fin
 | [],_,h,_=>h
 | _::_,[],h,_=>h
 | _::_,_::_,_,e=>by rw[NF]at e;cases e
theorem zP(l b:LB)(items items2:Array LC)(n n2:Nat)(dd dd2:Option LB)(sl sl2:Array (Option LC))(out:Bool):
  Meets (Builtin.«tuple.__lt__» ⟨[.ref l,.ref b],[]⟩)
   (fun A R s=>s.heap.get? l=some { cls:=.type "tuple",dict:=dd,data:=.seq items n,slots:=sl }/\s.heap.get? b=some { cls:=.type "tuple",dict:=dd2,data:=.seq items2 n2,slots:=sl2 }/\
    wj .Lt (decide (items.size < items2.size)) A.in1 s items.toList items2.toList out/\R (.ok (.ret (.bool out))) s):=
 .of_wp fun prog w A R s h=>by
  obtain⟨hp,g,d,tk,os⟩:=s;obtain⟨hl,hb,hx,h⟩:=h;have f2:=AutoSeq1.sub_tuple_tuple
  wp_walk using wpAny_loadPart' hl,wpAny_loadPart' hb,wpAny_forIn_list _ (fun mR b s'=>b.1=none/\s'=⟨hp,g,d,tk,os⟩/\∃ vs ws,mR=vs.zip ws/\wj .Lt (decide (items.size < items2.size)) A.in1 ⟨hp,g,d,tk,os⟩ vs ws out) _
  case turn=>
   rintro⟨y,x⟩ mR b s' ⟨hb',rfl,vs,ws,hz,lx⟩
   cases vs with
   | nil=>rw[List.zip_nil_left]at hz;cases hz
   | cons v vs=>
    cases ws with
    | nil=>rw[List.zip_nil_right]at hz;cases hz
    | cons u ws=>
     rw[NF]at hz;injection hz with hyx hrest
     injection hyx with hy hx'
     subst hy hx';obtain⟨e,he,l1,l2⟩:=lx;refine LA (he prog w _ _ ?_);cases e with
     | true=>
      wp_walk
      exact⟨rfl,rfl,_,_,hrest,l1 rfl⟩
     | false=>
      have hri:=l2 rfl prog w
      wp_walk using hri
      exact⟨_,rfl,by simpa using h⟩
  case fin=>
   rintro⟨b1,b2⟩ s' ⟨hb',rfl,vs,ws,hz,lx⟩
   simp only at hb';subst hb';have hv:=B8 lx hz.symm;rw[hv]at h
   wp_walk
   exact⟨_,rfl,by simpa[Builtin.Tuple.tupleCompareSizes]using h⟩
  case h=>
   exact⟨rfl,rfl,items.toList,items2.toList,rfl,hx⟩
theorem D4{A:LY}{s:LF}{l b:LB}{items items2:Array LC}{out:Bool}(hl:s.heap.IsTuple l items)(hb:s.heap.IsTuple b items2)(hu:A.units < Mp)
  (hx:wj .Lt (decide (items.size < items2.size)) A.in1 s items.toList items2.toList out):Ge .Lt A s (.ref l) (.ref b) out:=fun prog w E Q h=>by
 obtain⟨⟨cls,dd,data,sl⟩,ho,hc,n,hd⟩:=id hl;obtain⟨⟨cls2,dd2,data2,sl2⟩,ho2,hc2,n2,hd2⟩:=id hb;simp only at hc hd hc2 hd2;subst hc hd hc2 hd2;exact richCompare_meets_room (op:=.Lt) ⟨_,ho,rfl⟩ ⟨_,ho2,rfl⟩ PySem.F.slot_tuple_lt PySem.F.entry_tuple_lt (PySem.F.args_tuple_lt_2 _ _) (zP l b items items2 n n2 dd dd2 sl sl2 out)
  ⟨ho,ho2,hx,show Value.bool out≠Value.notImplemented/\Q (.bool out) s from ⟨(fun x=>nomatch x),h⟩⟩ hu
section
variable{X:Cx}{pins:List (LB×Obj)}{σ:St}{H:Hp}{s:LF}
theorem y6(I:Inv X pins σ H s){n:Nat}{A:LY}(hu:A.units+n < Mp){N1 N2:Nat}
  (ih:∀ {x y:D} {v u:V} {v' u':LC},zJ n x y->RD X.K H x v->RD X.K H y u->aJ v v'->aJ u u'->Ge .Lt A s v' u' ( jh n x y)):
  ∀ {ds es:List D} {xs ys:List V} {us ws:List LC},Ih n (zJ n) ds es->RDs X.K H ds xs->RDs X.K H es ys->Vals xs us->Vals ys ws->ds.length+N2=es.length+N1->wj .Lt (decide (N1 < N2)) A s us ws ( cU (jh n) ds es)
 | [],es,xs,ys,us,ws,_,r1,r2,w1,w2,hl=>by
  rw[r1.inv_nil]at w1;cases w1;show ( cU (jh n) [] es)=decide (N1 < N2)
  cases es with
  | nil=>
   simp only[Mv]at hl;have e1:N2=N1:=by walk_at "o"
   subst e1;simp[cU]
  | cons b t=>
   simp only[Mv,L0]at hl;have:N1 < N2:=by walk_at "o"
   simp[cU];omega
 | a::r,[],xs,ys,us,ws,_,r1,r2,w1,w2,hl=>by
  rw[r2.inv_nil]at w2;cases w2;obtain⟨x1,t1,e1,_,_⟩:=r1.inv_cons;subst e1;cases w1;show ( cU (jh n) (a::r) [])=decide (N1 < N2)
  simp only[Mv,L0]at hl;have:N2 < N1:=by walk_at "o"
  simp[cU];omega
 | a::r,b::t,xs,ys,us,ws,⟨p,c,q⟩,r1,r2,w1,w2,hl=>by
  obtain⟨x1,t1,e1,g1,g2⟩:=r1.inv_cons;subst e1;obtain⟨x2,t2,e2,f1,f2⟩:=r2.inv_cons;subst e2;cases w1 with
  | cons k1 w1=>
  cases w2 with
  | cons k2 w2=>
   refine⟨eJ a b,(um I n p.1 p.2 g1 f1 k1 k2 hu).eq,fun e=>?_,fun e=>?_⟩
   ·rw[show cU (jh n) (a::r) (b::t)=cU (jh n) r t by simp[cU,e]]
    simp only[L0]at hl;exact y6 I hu ih q g2 f2 w1 w2 (by walk_at "o")
   ·rw[show cU (jh n) (a::r) (b::t)=jh n a b by simp[cU,e]]
    exact ih (c fun z=>by rw[z,bc]at e;cases e) g1 f1 k1 k2
theorem Hv(I:Inv X pins σ H s):∀ (n:Nat) {x y:D} {v u:V} {v' u':LC} {A:LY},zJ n x y->RD X.K H x v->RD X.K H y u->aJ v v'->aJ u u'->A.units+n < Mp->Ge .Lt A s v' u' ( jh n x y):=by
 intro n
 induction n with
 | zero=>
  intro x y v u v' u' A c rx ry lx ly hu;cases x<;>cases y<;>first|exact c.elim|skip
  ·simp only[RD]at rx ry;subst rx ry;obtain⟨t,rfl⟩:=lx;obtain⟨t',rfl⟩:=ly;intro prog w E Q h;exact (PyProof.Rows.lt_int h:LJ (LN prog w) A (Mj .Lt (.int _ t) (.int _ t')) Q E s)
  ·simp only[RD]at rx ry;subst rx ry;obtain⟨t,rfl⟩:=lx;obtain⟨t',rfl⟩:=ly;intro prog w E Q h;exact (PySem.P.lt_str h:LJ (LN prog w) A (Mj .Lt (.str _ t) (.str _ t')) Q E s)
 | succ n ih=>
  intro x y v u v' u' A c rx ry lx ly hu;cases x<;>cases y<;>first|exact c.elim|skip
  ·simp only[RD]at rx ry;subst rx ry;obtain⟨t,rfl⟩:=lx;obtain⟨t',rfl⟩:=ly;intro prog w E Q h;exact (PyProof.Rows.lt_int h:LJ (LN prog w) A (Mj .Lt (.int _ t) (.int _ t')) Q E s)
  ·simp only[RD]at rx ry;subst rx ry;obtain⟨t,rfl⟩:=lx;obtain⟨t',rfl⟩:=ly;intro prog w E Q h;exact (PySem.P.lt_str h:LJ (LN prog w) A (Mj .Lt (.str _ t) (.str _ t')) Q E s)
  ·rename_i ds es;simp only[RD]at rx ry;obtain⟨a,xs,rfl,s1,r1⟩:=rx;obtain⟨b,ys,rfl,s2,r2⟩:=ry;cases lx;cases ly;obtain⟨its,w1,t1,z1⟩:=I.tuple s1;obtain⟨its2,w2,t2,z2⟩:=I.tuple s2;have l1:=w1.length;have l1':=r1.length;have l2:=w2.length;have l2':=r2.length;refine D4 t1 t2 (by walk_at "o") ?_
   exact y6 I (A:=A.in1) (by show A.units+1+n < Mp;omega) (fun c rx ry lx ly=>ih c rx ry lx ly (by show A.units+1+n < Mp;omega)) c r1 r2 w1 w2 (by simp only[LM];omega)
end
def KE:R3:=fun x y G Q=>zJ 4 x y/\Q (.bl (! jh 4 x y)) G
open PySem.W
def og(h:L5)(d:LB)(vs:List LC)(ep:Nat):Prop:=∃ o es,h.get? d=some o/\o.ExactDict/\o.data=.dict es ep/\es.toList.map (·.val)=vs
section
variable{prog:LS}{w:L6}{A:LY}{E:LC->LF->Prop}{s:LF}{d r it:LB}{vs:List LC}{ep i:Nat}
theorem og.ty(x:og s.heap d vs ep):s.TypeIs (.ref d) "dict":=let ⟨o,_,e,z,_⟩:=x;⟨o,e,z.1⟩
theorem og.there{h:L5}(x:og h d vs ep):d < h.objs.size:=let ⟨_,_,e,_⟩:=x;LQ e
theorem og.stay{h h':L5}(x:og h d vs ep)(k:∀ o,h.get? d=some o->h'.get? d=some o):og h' d vs ep:=let ⟨o,es,e,z⟩:=x;⟨o,es,k o e,z⟩
theorem z9(hs:(d == ME)=false):MeetsIn prog w (Builtin.«dict.values» ⟨[.ref d],[]⟩) (fun _ R s=>(∃ vs ep,og s.heap d vs ep)/\
  R (.ok (.ret (.ref s.heap.objs.size))) { s with heap:=s.heap.push { cls:=.type "dict_values",data:=.fields #[.ref d] } }):=
 .of_wp fun A R s zz=>by
  obtain⟨⟨vs,ep,x⟩,q⟩:=zz;refine LA ?_;unfold Builtin.Dict.noArgs;refine LA (OI x.ty ?_);show LJ _ _ (pure d) _ _ s;refine LD ?_
  show LJ _ _ (NW d >>= _) _ _ s;unfold NW
  rw[if_neg (fun z=>by rw[hs]at z;cases z)];refine LA (LD ?_)
  exact LA (Ma (LD ⟨_,rfl,q⟩))
theorem Dl{Q:LC->LF->Prop}(hr:s.heap.IsValuesView r d)(x:og s.heap d vs ep)
  (q:Q (.ref s.heap.objs.size) { s with heap:=s.heap.push { cls:=.type "dict_valueiterator",data:=.fields #[.ref d,.int 0 0,.int vs.length 0,.int ep 0] } }):LJ (LN prog w) A (Oh (.ref r)) Q E s:=by
 obtain⟨ov,e1,c1,d1⟩:=id hr;obtain⟨o,es,e2,c2,d2,rfl⟩:=x;refine O6 hr.typeIs P_ (Mq P_ hr.typeIs F.entry_dict_values_iter ?_ (F.args_dict_values_iter_1 _));unfold Builtin.«dict_values.__iter__»;refine LA (LD ?_);refine LA ?_;unfold Builtin.Dict_items.dictOf;refine LA (MJ e1 d1 (x:=.ref d) rfl (LD ?_));refine LA ?_;unfold Builtin.Dict_items.newIterator;refine LA (MS e2 d2 ?_);refine LA (M3 e2 d2 ?_);have own:Mx "dict_valueiterator"=false:=by decide
 simp only[own,Bool.false_eq_true,if_false];refine Ma (LD ⟨_,rfl,"dict_valueiterator",_,⟨_,LK _ rfl,rfl⟩,Na.lookup,?_⟩)
 simpa[Ni]using q
theorem Dm{v:LC}{Q:Option LC->LF->Prop}(hi:s.heap.IsValIter it d i vs.length ep)(x:og s.heap d vs ep)(hv:vs[i]?=some v)
  (q:∀ h',h'.IsValIter it d (i+1) vs.length ep->MV it s.heap h'->Q (some v) { s with heap:=h' }):LJ (LN prog w) A (MT (.ref it)) Q E s:=by
 obtain⟨o,e1,c1,d1⟩:=id hi;obtain⟨od,es,e2,c2,d2,rfl⟩:=x;unfold MT;refine LA (M6 (Mr (name:=LI "__next__") hi.typeIs Na (Mq Na hi.typeIs Pf ?_ (Pd _))));refine LA (LD ?_);refine LA ?_;refine LA ?_
 first|refine LA (Nb hi.typeIs (LD ?_))|refine LA (NG hi.typeIs (LD ?_))
 refine LA (NS e1 d1 ?_);have own:Mx "dict_valueiterator"=false:=by decide
 simp only[own,Bool.false_eq_true,if_false];show LJ _ _ (if (Value.ref d == Value.none)=true then _ else _) _ _ s;rw[if_neg (show ¬ ((Value.ref d == Value.none)=true)from Bool.false_ne_true)]
 refine LA (LD ?_);refine LA (MS e2 d2 ?_);have z:es.size=(es.toList.map (·.val)).length:=by simp
 rw[if_neg (by rw[z];simp)];refine LA (LD ?_);refine LA (M3 e2 d2 ?_)
 rw[if_neg (by simp)];refine LD ?_
 have lt:i < es.size:=by
  rw[z];rcases Nw i (es.toList.map (·.val)).length with h|h
  ·exact h
  ·rw[M_ h]at hv;cases hv
 have val:es[i].val=v:=by
  rw[L4]at hv
  simpa[lt]using hv
 simp only[show ¬ ((i:Int) < 0)from by walk_at "o",if_false,Int.toNat_natCast,Array.getElem?_eq_getElem lt];refine LA ?_
 first|refine LA (Nb hi.typeIs (LD ?_))|refine LA (NG hi.typeIs (LD ?_))
 refine LA (OJ hi.typeIs ?_);show LJ _ _ (O8 (.ref it) 1 (Ni ((i:Int)+1)) >>= _) _ _ s;refine LA (Of e1 d1 (by simp) ?_)
 have hi':(s.heap.update it (Ou (·.setIfInBounds 1 (Ni ((i:Int)+1))))).IsValIter it d (i+1) (es.toList.map (·.val)).length ep:=
  ⟨_,M1 _ e1 (Qr (Ol d1 _)),(QZ ..).trans c1,by rw[Ol d1];simp[Ni]⟩
 refine LA (Mi ?_);refine LA (OJ (s:={ s with heap:=s.heap.update it (Ou (·.setIfInBounds 1 (Ni ((i:Int)+1)))) }) hi'.typeIs ?_)
 refine LA (OJ (s:={ s with heap:=s.heap.update it (Ou (·.setIfInBounds 1 (Ni ((i:Int)+1)))) }) hi'.typeIs ?_);show LJ _ _ (pure es[i].val) _ _ _
 exact LD (LD ⟨_,rfl,LD (val ▸ q _ hi' (ND ..))⟩)
theorem E7{Q:Option LC->LF->Prop}(hh:A.handled=none)(hi:s.heap.IsValIter it d i vs.length ep)(x:og s.heap d vs ep)(hv:vs[i]?=none)
  (q:∀ h',Qy it s.heap h'->Q none { s with heap:=h' }):LJ (LN prog w) A (MT (.ref it)) Q E s:=by
 obtain⟨o,e1,c1,d1⟩:=id hi;obtain⟨od,es,e2,c2,d2,rfl⟩:=x;unfold MT;refine LA (M6 (Mr (name:=LI "__next__") hi.typeIs Na (Mq Na hi.typeIs Pf ?_ (Pd _))));refine LA (LD ?_);refine LA ?_;refine LA ?_
 first|refine LA (Nb hi.typeIs (LD ?_))|refine LA (NG hi.typeIs (LD ?_))
 refine LA (NS e1 d1 ?_);have own:Mx "dict_valueiterator"=false:=by decide
 simp only[own,Bool.false_eq_true,if_false];show LJ _ _ (if (Value.ref d == Value.none)=true then _ else _) _ _ s;rw[if_neg (show ¬ ((Value.ref d == Value.none)=true)from Bool.false_ne_true)]
 refine LA (LD ?_);refine LA (MS e2 d2 ?_);have z:es.size=(es.toList.map (·.val)).length:=by simp
 rw[if_neg (by rw[z];simp)];refine LA (LD ?_);refine LA (M3 e2 d2 ?_)
 rw[if_neg (by simp)];refine LD ?_
 have ge:es.size<=i:=by rw[z];simpa using hv
 simp only[show ¬ ((i:Int) < 0)from by walk_at "o",if_false,Int.toNat_natCast,Array.getElem?_eq_none ge];refine LA ?_
 first|refine LA (Nb hi.typeIs (LD ?_))|refine LA (NG hi.typeIs (LD ?_))
 show LJ _ _ (O8 (.ref it) 0 .none >>= _) _ _ s;refine LA (Of e1 d1 (by simp) ?_)
 show LJ _ _ (Qe (.type "StopIteration") [] >>= _) _ _ _;refine LA ?_
 simp only[Qe,newTuple];refine LA (Ma ?_ (by size_fits))
 refine LA (m:=NU _ _) (Qt (a:=Value.none) (by first|rfl|(simp only[NU];rfl)) ?_);refine Ma ?_ (by size_fits)
 simp only[raiseNew];refine LA (PP ?_);rw[show A.in1.handled=none from hh]
 refine LA (LD (Qs ?_));refine LA (NY (T:="StopIteration") (b:=true) ⟨_,LK _ rfl,rfl⟩ ON ?_);exact LD (q _ (((ND ..).extBut.push _).push _))
theorem Dk(hh:A.handled=none)(hne:d≠it):Walks prog w A it [it,d] [it] vs.length (fun i v=>vs[i]?=some v) (fun i h=>h.IsValIter it d i vs.length ep/\og h d vs ep) where
 sub:=fun b hb=>by rw[PX.mp hb];exact LV
 frame:=fun _ _ _ t k=>⟨t.1.at fun o e=>k it LV o e,t.2.stay fun o e=>k d (LU _ LV) o e⟩
 item:=fun i s Q E hi t q=>by
  obtain⟨v,hv⟩:∃ v,vs[i]?=some v:=⟨vs[i],by simp[hi]⟩
  refine Dm t.1 t.2 hv fun h' a b=>?_;exact q v h' s.toks hv ⟨a,t.2.stay fun o e=>b.extBut d o hne e⟩ fun c o hc e=>b.extBut c o (fun z=>hc (by rw[z];exact LV)) e
 done:=fun s Q E t q=>E7 hh t.1 t.2 (by simp) fun h' b=>q h' s.toks fun c o hc e=>b c o (fun z=>hc (by rw[z];exact LV)) e
 self:=fun _ _ _ _ t q=>wpAny_pyIter_valiter t.1 q
theorem E6:KdlSrc prog w "dict_values" r d vs.length (fun i v=>vs[i]?=some v) (fun h=>h.IsValuesView r d/\og h d vs ep) where
 type:=fun _ x=>x.1.typeIs
 there:=fun _ x=>⟨let ⟨_,e,_⟩:=x.1;LQ e,x.2.there⟩
 keep:=fun _ _ x k=>⟨let ⟨o,e,z⟩:=x.1;⟨o,k r (.inl rfl) o e,z⟩,x.2.stay fun o e=>k d (.inr rfl) o e⟩
 notList:=by decide
 notTuple:=by decide
 hint:=fun _ _ _ _ x q=>kdl_hint_values x.1.typeIs q
 iter:=fun _ _ hh x=>⟨_,_,(fun _ _ q=>Dl x.1 x.2 q),Dk hh (L9 x.2.there),⟨⟨_,LK _ rfl,rfl,rfl⟩,x.2.stay fun o e=>LH _ e⟩⟩
end
def XO(a:LB)(o:Obj):HO:=.ext fun h=>h.get? a=some o
theorem Gi{P:LS}{w:L6}{H:Hp}{h:L5}{a:LB}{o:Obj}(e:h.get? a=some o):cg P w H h a (XO a o):=⟨e,⟨o,e⟩,fun _ _ p k=>k _ p⟩
section
variable{X:Cx}{pins:List (LB×Obj)}{τ:St}{H H0:Hp}{s:LF}{G:Gp}{a:LB}{o:Obj}{u:HO}
theorem kC(I:Inv X pins τ H s)(e:H a=some (XO a o)):s.heap.get? a=some o:=(show cg X.prog X.w H s.heap a (XO a o)from I.hok a _ e).1
theorem qG{t':Nat}{h':L5}(I:Inv X pins τ H s)(ha:s.heap.objs.size=a)(hh:h'=s.heap.push o)(hf:o.isFreed=false:=by rfl):Inv X pins τ (bv H a (XO a o)) { s with heap:=h',toks:=t' }:=by
 subst ha hh;exact I.laid (fun _ _ e=>LH _ e) (le_refl _) (Gi (LK _ hf))
theorem pz{t':Nat}{o':Obj}{f:Obj->Obj}(I:Inv X pins τ H s)(e:H a=some (XO a o))(e':(s.heap.update a f).get? a=some o'):Inv X pins τ (bv H a (XO a o')) { s with heap:=s.heap.update a f,toks:=t' }:=
 I.write (x:=a) (e:=a) (by rw[e];exact trivial) (.inl rfl) (fun b u hb hu=>(MI s.heap f (Ne.symm hb)).trans hu) ⟨_,e'⟩ (Gi e')
theorem jv{K:PySem.W.Frag}(mu:CD (H a)):Stb K H (bv H a u) where
 t:=fun b xs q=>by
  rcases q with (q|⟨z,q⟩)|q
  ·exact .inl (.inl (by rw[aA (fun e=>by subst e;rw[q]at mu;exact mu)];exact q))
  ·exact .inl (.inr ⟨z,by rw[aA (fun e=>by subst e;rw[q]at mu;exact mu)];exact q⟩)
  ·exact .inr q
 l:=fun b xs q=>by
  rcases q with ⟨z,q⟩|q
  ·exact .inl ⟨z,by rw[aA (fun e=>by subst e;rw[q]at mu;exact mu)];exact q⟩
  ·exact .inr q
theorem vQ{K:PySem.W.Frag}(rg:RG K H G)(g:G a=none)(mu:CD (H a)):RG K (bv H a u) G:=fun b z q=>by
 obtain⟨h,e1,r⟩:=rg b z q;have hb:b≠a:=fun e=>by subst e;rw[q]at g;cases g
 exact⟨h,by rw[aA hb];exact e1,r.mono (jv mu)⟩
theorem tX(k:Kp G H0 G H)(n:H0 a=none):Kp G H0 G (bv H a u):=fun b h e g=>⟨by rw[aA (bZ e n)];exact (k b h e g).1,g⟩
theorem FJ{k:Nat}{f:LB}{fd:LO}{ps:List Str}{sp:cX}{d kd:D}{v:V}{x:LC}{A:LY}{E:LC->LF->Prop}(F:FnOk X.prog X.w X.K X.mg X.base dz k f fd ps (ax X.K sp))(hb:fw X.K fd ps [])(hr:Room k A)(hA:Env0 X.prog X.w X.K X.mg X.base A X.stack s H)
  (I:Inv X pins τ H s) (rg:RG X.K H G) (rd:RD X.K H d v) (rv:aJ v x) (hs:sp [d] G fun z G'=>z=kd/\G'=G) (nf:∀ l,kd≠.fl l) {Q:LC->LF->Prop}
  (q:∀ u v' H' s',Inv X pins τ H' s'->Kp G H G H'->RG X.K H' G->RD X.K H' kd v'->aJ v' u->Q u s'):LJ (LN X.prog X.w) A (call (.ref f) [x]) Q E s:=by
 have sp1:ax X.K sp [v] H (fun v' H'=>Kp G H G H'/\RG X.K H' G/\RD X.K H' kd v') (fun _ _ _=>False):=
  ⟨[d],G,_,RDs.cons rd RDs.nil,rg,hs,fun z G' v' H' e k1 rg1 re=>by obtain⟨rfl,rfl⟩:=e;exact⟨k1,rg1,re.rd nf⟩⟩
 have r2:Vals [v] [x]:=.cons rv .nil;have hl:([x] ++ ([]:List LC)).length=ps.length:=by
  have:=F.len _ _ _ _ sp1
  simpa using this
 refine QH (Od (F.run A X.stack s H ⟨[x],[]⟩ ([x] ++ []) [v] _ _ hr hA (hb s [x] I.kIn hl) (by simpa using r2) sp1) fun r s' hq=>?_)
 cases r with
 | error e=>exact False.elim hq
 | ok fl=>
  cases fl with
  | ret u=>
   obtain⟨v',H',I',rv',k1,rg1,rd1⟩:=I.after hq;exact q u v' H' s' I' k1 rg1 rd1 rv'
  | next=>exact False.elim hq
  | brk=>exact False.elim hq
  | cont=>exact False.elim hq
end
theorem zc{X:Cx}{pins:List (LB×Obj)}{τ:St}{H0:Hp}{G:Gp}{k:Nat}{f:LB}{fd:LO}{ps:List Str}{sp:cX}{A:LY}{E:LC->LF->Prop}(F:FnOk X.prog X.w X.K X.mg X.base dz k f fd ps (ax X.K sp))(hb:fw X.K fd ps [])(hr:Room k A)
  (hA:∀ {s H},Inv X pins τ H s->Env0 X.prog X.w X.K X.mg X.base A X.stack s H) {S D0:LB} {oD:Obj} (nS:H0 S=none) (nD:H0 D0=none) (gS:G S=none) (gD:G D0=none) (hne:S≠D0)
  {body:LC->PUnit->Sem (ForInStep PUnit)}
  (hbd:∀ x s Q,LJ (LN X.prog X.w) A (call (.ref f) [x]) (fun u s'=>LJ (LN X.prog X.w) A (Qa (.ref S) (·.push u)) (fun _=>Q (.yield ⟨⟩)) E s') (fun _ _=>False) s->LJ (LN X.prog X.w) A (body x ⟨⟩) Q E s):
  ∀ {ds ks:List D} {vs:List V} {us:List LC},ks.length=ds.length->(∀ (i:Nat) d kd,ds[i]?=some d->ks[i]?=some kd->(sp [d] G fun z G'=>z=kd/\G'=G)/\∀ l,kd≠.fl l)->
   ∀ {H:Hp} {s:LF} {done:List D} {kv:List V} {ku:List LC} {n:Nat},Inv X pins τ H s->Kp G H0 G H->RG X.K H G->RDs X.K H ds vs->Vals vs us->H D0=some (XO D0 oD)->H S=some (XO S (MA "list" ku.toArray n))->RDs X.K H done kv->Vals kv ku->ku.length+us.length < 64->
   ∀ {Q:PUnit->LF->Prop},(∀ H' s' kv' ku' n',Inv X pins τ H' s'->Kp G H0 G H'->RG X.K H' G->H' D0=some (XO D0 oD)->H' S=some (XO S (MA "list" ku'.toArray n'))->RDs X.K H' (done ++ ks) kv'->Vals kv' ku'->Stb X.K H H'->Q ⟨⟩ s')->
   LJ (LN X.prog X.w) A (forIn us PUnit.unit body) Q E s
 | [],ks,vs,us,hl,hk,H,s,done,kv,ku,n,I,kp,rg,rds,rv,eD,eS,rdk,rvk,hz,Q,q=>by
  rw[rds.inv_nil]at rv;cases rv;rw[Ow];have:ks=[]:=length_eq_zero_iff.mp (by simpa using hl)
  subst this;exact LD (q H s kv ku n I kp rg eD eS (by rw[M8];exact rdk) rvk ⟨fun _ _ z=>z,fun _ _ z=>z⟩)
 | d::ds,[],vs,us,hl,_,_,_,_,_,_,_,_,_,_,_,_,_,_,_,_,_,_,_=>by simp at hl
 | d::ds,kd::ks,vs,us,hl,hk,H,s,done,kv,ku,n,I,kp,rg,rds,rv,eD,eS,rdk,rvk,hz,Q,q=>by
  obtain⟨v,t,e,h1,h2⟩:=rds.inv_cons;subst e;cases rv with
  | @cons _ x _ us l rv=>
   rw[NO];obtain⟨hs,nf⟩:=hk 0 d kd rfl rfl;refine LA (hbd x s _ (FJ F hb hr (hA I) I rg h1 l hs nf fun u v' H' s' I' k1 rg1 rd1 rv1=>?_));have eS':=(k1 S _ eS gS).1;have eD':=(k1 D0 _ eD gD).1;have st1:=k1.stb rg;have oS:=kC I' eS';simp only[L0]at hz;refine N4 oS rfl ?_ (by rw[LM,Mh];omega) (by rw[Array.size_push,LM,Mh];omega)
   have ea:ku.toArray.push u=(ku ++ [u]).toArray:=by simp
   have e2:=NL oS (·.push u);rw[ea]at e2;generalize (if ((ku ++ [u]).toArray.size == ku.toArray.size)=true then n else n+1)=n2 at e2
   have mu:CD (H' S):=by rw[eS'];exact trivial
   have I2:=pz (t':=s'.toks) I' eS' e2;have st2:Stb X.K H' (bv H' S (XO S (MA "list" (ku ++ [u]).toArray n2))):=jv mu;refine zc F hb hr hA nS nD gS gD hne hbd (ds:=ds) (ks:=ks) (by simpa using hl) (fun i d' kd' a b=>hk (i+1) d' kd' (by simpa using a) (by simpa using b)) I2 (tX (kp.trans k1) nS) (vQ rg1 gS mu)
    (RDs.mono st2 _ _ (RDs.mono st1 _ _ h2)) rv (by rw[aA hne.symm];exact eD') aM (done:=done ++ [kd]) (kv:=kv ++ [v']) (RDs.append (RDs.mono st2 _ _ (RDs.mono st1 _ _ rdk)) (RDs.cons (RD.mono st2 _ _ rd1) RDs.nil)) (rvk.append (.cons rv1 .nil)) (by simp;omega)
    fun H3 s3 kv3 ku3 n3 I3 kp3 rg3 eD3 eS3 rd3 rv3 st3=>q H3 s3 kv3 ku3 n3 I3 kp3 rg3 eD3 eS3 (by simpa using rd3) rv3 ⟨fun b xs z=>st3.t _ _ (st2.t _ _ (st1.t _ _ z)),fun b xs z=>st3.l _ _ (st2.l _ _ (st1.l _ _ z))⟩
section
variable{X:Cx}{pins:List (LB×Obj)}{τ:St}{H H0:Hp}{s:LF}{G:Gp}
theorem Ea(I:L2.Inv X pins τ H s){n:Nat}{A:LY}(hu:A.units+n < Mp){b:Bool}{N1 N2:Nat}{Q:Bool->LF->Prop}:
  ∀ {ds es:List D} {xs ys:List V} {us ws:List LC} {i:Nat},(b && i == 0)=false->Ih n (zJ n) ds es->RDs X.K H ds xs->RDs X.K H es ys->Vals xs us->Vals ys ws->ds.length+N2=es.length+N1->Q (cU (jh n) ds es) s->
   KatLex X.prog X.w A b (decide (N1 < N2)) Q (us.zip ws) i s
 | [],es,xs,ys,us,ws,i,hb,c,r1,r2,w1,w2,hl,q=>by
  rw[r1.inv_nil]at w1;cases w1;rw[List.zip_nil_left];refine kat_nil ?_;cases es with
  | nil=>
   simp only[Mv]at hl;rw[decide_eq_false (by walk_at "o")]
   exact q
  | cons b t=>
   simp only[Mv,L0]at hl;rw[decide_eq_true (by walk_at "o")]
   exact q
 | a::r,[],xs,ys,us,ws,i,hb,c,r1,r2,w1,w2,hl,q=>by
  rw[r2.inv_nil]at w2;cases w2;rw[List.zip_nil_right];refine kat_nil ?_;simp only[Mv,L0]at hl;rw[decide_eq_false (by walk_at "o")]
  exact q
 | a::r,b'::t,xs,ys,us,ws,i,hb,⟨p,c,z⟩,r1,r2,w1,w2,hl,q=>by
  obtain⟨x1,t1,e1,g1,g2⟩:=r1.inv_cons;subst e1;obtain⟨x2,t2,e2,f1,f2⟩:=r2.inv_cons;subst e2;cases w1 with
  | cons k1 w1=>
  cases w2 with
  | cons k2 w2=>
   rw[NF];refine kat_cons ((um I n p.1 p.2 g1 f1 k1 k2 hu).eq X.prog X.w _ _ (kat_go (fun e=>kat_yes ?_) fun e=>kat_no ?_))
   ·rw[show cU (jh n) (a::r) (b'::t)=cU (jh n) r t by simp[cU,e]]at q
    simp only[L0]at hl;exact Ea I hu (by simp) z g2 f2 w1 w2 (by walk_at "o") q
   ·rw[show cU (jh n) (a::r) (b'::t)=jh n a b' by simp[cU,e]]at q
    rw[hb];refine kat_one _ _ ?_;exact (Hv I n (c fun y=>by rw[y,bc]at e;cases e) g1 f1 k1 k2 hu) X.prog X.w _ _ q
def Cb(d:D):Prop:=∃ t r,d=.tup (.int t::r)
theorem JZ(I:L2.Inv X pins τ H s){A:LY}(hu:A.units+4 < Mp){kx ky:D}{v u:V}{v' u':LC}(cp:zJ 4 kx ky)(hx:Cb kx)(hy:Cb ky)(rx:RD X.K H kx v)(ry:RD X.K H ky u)(lx:aJ v v')(ly:aJ u u'){C:Bool->LF->Prop}{E:LC->LF->Prop}
  (q:C (jh 4 kx ky) s):LJ (LN X.prog X.w) A (keyLt' (QU true) v' u') C E s:=by
 obtain⟨i,r,rfl⟩:=hx;obtain⟨j,t,rfl⟩:=hy;simp only[RD]at rx ry;obtain⟨a,xs,rfl,s1,r1⟩:=rx;obtain⟨b,ys,rfl,s2,r2⟩:=ry;cases lx;cases ly;obtain⟨its,w1,⟨o1,h1,c1,n1,d1⟩,z1⟩:=I.tuple s1;obtain⟨its2,w2,⟨o2,h2,c2,n2,d2⟩,z2⟩:=I.tuple s2;refine kat_lt h1 d1 h2 d2 ?_;have l1:=w1.length;have l1':=r1.length;have l2:=w2.length;have l2':=r2.length;obtain⟨x1,t1,e1,g1,g2⟩:=RDs.inv_cons (d:=.int i) (ds:=r) r1;subst e1;obtain⟨x2,t2,e2,f1,f2⟩:=RDs.inv_cons (d:=.int j) (ds:=t) r2;subst e2;simp only[RD]at g1 f1;subst g1 f1;cases w1 with
 | @cons _ u1 _ m1 k1 w1=>
 cases w2 with
 | @cons _ u2 _ m2 k2 w2=>
  obtain⟨tk,rfl⟩:=k1;obtain⟨tk',rfl⟩:=k2;obtain⟨p,c,z⟩:=(show Ih 3 (zJ 3) (.int i::r) (.int j::t)from cp)
  have q':C (cU (jh 3) (.int i::r) (.int j::t)) s:=q;show KatLex _ _ _ _ _ _ ((_::m1).zip (_::m2)) 0 s
  rw[NF];refine kat_cons ((um I 3 (x:=.int i) (y:=.int j) (v:=.int i) (u:=.int j) p.1 p.2 fH fH ⟨tk,rfl⟩ ⟨tk',rfl⟩ (by walk_at "o")).eq X.prog X.w _ _ (kat_go (fun e=>kat_yes ?_) fun e=>kat_no ?_))
  ·rw[show cU (jh 3) (.int i::r) (.int j::t)=cU (jh 3) r t by simp[cU,e]]at q'
   simp only[L0]at l1 l1' l2 l2';exact Ea I (by walk_at "o") (by simp) z g2 f2 w1 w2 (by simp only[LM,L0];omega) q'
  ·rw[show cU (jh 3) (.int i::r) (.int j::t)=jh 3 (.int i) (.int j)by simp[cU,e]]at q'
   show LJ _ _ (oneLt' true _ _) _ _ _
   exact oneLt_int q'
theorem HI(I:L2.Inv X pins τ H s){A:LY}{E:LC->LF->Prop}{Q:SortKind->LF->Prop}{ks:List D}{kv:List V}{ku:List LC}(hk:∀ d∈ks,Cb d)(r:RDs X.K H ks kv)(w:Vals kv ku)(hn:0 < ks.length)(q:Q (QU true) s):
  LJ (LN X.prog X.w) A (keyKind' ku.toArray) Q E s:=by
 have go:∀ {ks:List D} {kv:List V} {ku:List LC},(∀ d∈ks,Cb d)->RDs X.K H ks kv->Vals kv ku->∃ fs,KatTups s.heap ku fs/\fs.length=ks.length/\∀ v∈fs,∃ i t,v=Value.int i t:=by
  intro ks
  induction ks with
  | nil=>
   intro kv ku _ r w;rw[r.inv_nil]at w;cases w;exact⟨[],KatTups.nil,rfl,fun v hv=>by simp at hv⟩
  | cons d t ih=>
   intro kv ku hk r w;obtain⟨x1,t1,e1,g1,g2⟩:=r.inv_cons;subst e1;cases w with
   | cons k1 w=>
    obtain⟨fs,h1,h2,h3⟩:=ih (fun d hd=>hk d (LU _ hd)) g2 w;obtain⟨i,rr,rfl⟩:=hk d LV;simp only[RD]at g1;obtain⟨a,xs,rfl,s1,r1⟩:=g1;cases k1;obtain⟨its,w1,⟨o1,e1,c1,n1,d1⟩,z1⟩:=I.tuple s1;obtain⟨y1,u1,e2,g3,_⟩:=RDs.inv_cons (d:=.int i) (ds:=rr) r1;subst e2;simp only[RD]at g3;subst g3;cases w1 with
    | cons k2 w1=>
     obtain⟨tk,rfl⟩:=k2;refine⟨.int i tk::fs,KatTups.cons e1 c1 d1 (by simp) h1,by simp[h2],fun v hv=>?_⟩
     rcases L_.mp hv with rfl|hv
     ·exact⟨i,tk,rfl⟩
     ·exact h3 v hv
 obtain⟨fs,h1,h2,h3⟩:=go hk r w;refine kat_kind (T:=.type "int") h1 (by walk_at "o") (fun v hv=>?_) (by decide) ?_
 ·obtain⟨i,t,rfl⟩:=h3 v hv;exact Looks.of_pure rfl
 ·rw[show (Value.type "int" != Value.type "tuple")=true by decide]
  exact q
end
section
variable{X:Cx}{pins:List (LB×Obj)}{τ:St}{H H0:Hp}{s:LF}{G:Gp}{S D0:LB}{A:LY}{E:LC->LF->Prop}{P:PySem.Fin->LF->Prop}
theorem yo(I:L2.Inv X pins τ H s)(rg:RG X.K H G)(kp:Kp G H0 G H)(nS:H0 S=none)(nD:H0 D0=none)(gS:G S=none)(gD:G D0=none)(hne:S≠D0){e1 n:Nat}{ku out:List LC}{ov:List V}{st:SortSt}
  (eD:H D0=some (XO D0 (MA "list" #[] e1))) (eS:H S=some (XO S (MA "list" ku.toArray n))) (hz:ku.length < 64) (ho:(arrOf st).map (·.2)=out.toArray) (hf:PH st=none) (hv:Vals ov out) (hl:out.length < 64)
  (q:∀ H' s',L2.Inv X pins τ H' s'->Kp G H0 G H'->RG X.K H' G->H' D0=some (.lst ov)->Stb X.K H H'->P (.done (.ret .none)) s'):LJ (LN X.prog X.w) A (ksk_tail D0 false e1 (.ref S) st) P E s:=by
 unfold ksk_tail;dsimp only;rw[ho];simp only[Bool.false_eq_true,if_false];have oS:=kC I eS;have e2:=NL oS (fun _=>(#[]:Array LC));have mu:CD (H S):=by rw[eS];exact trivial
 have I1:=pz (t':=s.toks) I eS e2;have eD1:(bv H S (XO S (MA "list" #[] (if ((#[]:Array LC).size == ku.toArray.size)=true then n else n+1)))) D0=some (XO D0 (MA "list" #[] e1)):=by rw[aA hne.symm];exact eD
 have oD:=kC I1 eD1;have mu2:CD ((bv H S (XO S (MA "list" #[] (if ((#[]:Array LC).size == ku.toArray.size)=true then n else n+1)))) D0):=by rw[eD1];exact trivial
 have e3:=NL oD (fun _=>out.toArray);refine LA (N4 oS rfl ?_ (by rw[LM,Mh];omega) (Mg _))
 refine LA (OM ?_);refine LA (Pm oD rfl ?_);refine LA (N4 oD rfl ?_ (Mg _) (by rw[LM,Mh];omega))
 rw[hf];simp only[bne_self_eq_false,Bool.false_eq_true,if_false];have I2:=I1.write (x:=D0) (e:=D0) (o:=.lst ov) (t':=s.toks) mu2 (.inl rfl) (fun b u hb hu=>(MI _ (Mt fun _=>out.toArray) (Ne.symm hb)).trans hu) ⟨_,e3⟩ ⟨by rw[hv.length,Mh];omega,out,_,hv,e3⟩
 refine LD (q _ _ I2 (tX (tX kp nS) nD) (vQ (vQ rg gS mu) gD mu2) aM ?_);exact⟨fun b xs z=>(jv mu2).t _ _ ((jv mu).t _ _ z),fun b xs z=>(jv mu2).l _ _ ((jv mu).l _ _ z)⟩
theorem Ck{vs:List V}{us:List LC}(w:Vals vs us)(i:Nat)(hi:i < vs.length):aJ (vs.getD i .non) (us.getD i .none):=by
 have hl:=w.length;obtain⟨v,e,r⟩:=Vals.getV (i:=i) (u:=us[i]'(by walk_at "o")) w (by simp)
 rw[LW,LW,e,LP (by walk_at "o")]
 exact r
theorem tL{vs:List V}{us:List LC}(w:Vals vs us):∀ {p:List Nat},(∀ i∈p,i < vs.length)->Vals (p.map fun i=>vs.getD i .non) (p.map fun i=>us.getD i .none)
 | [],_=>.nil
 | i::r,h=>.cons (Ck w i (h i LV)) (tL w fun j hj=>h j (LU _ hj))
theorem Ei{K:PySem.W.Frag}{ds:List D}{vs:List V}(r:RDs K H ds vs)(i:Nat)(hi:i < vs.length):RD K H (ds.getD i .non) (vs.getD i .non):=by
 obtain⟨d,e,q⟩:=RDs.getV (i:=i) r (LP hi);rw[LW,LW,e,LP hi];exact q
theorem xn{K:PySem.W.Frag}{ds:List D}{vs:List V}(r:RDs K H ds vs):∀ {p:List Nat},(∀ i∈p,i < vs.length)->RDs K H (p.map fun i=>ds.getD i .non) (p.map fun i=>vs.getD i .non)
 | [],_=>RDs.nil
 | i::t,h=>RDs.cons (Ei r i (h i LV)) (xn r fun j hj=>h j (LU _ hj))
theorem range_getD{α:Type}(l:List α)(d:α):(List.range l.length).map (fun i=>l.getD i d)=l:=by
 refine List.ext_getElem (by simp) fun i h1 h2=>?_
 simp[h2]
theorem FX(I:L2.Inv X pins τ H s)(rg:RG X.K H G)(kp:Kp G H0 G H)(nS:H0 S=none)(nD:H0 D0=none)(gS:G S=none)(gD:G D0=none)(hne:S≠D0){e1 n:Nat}{ks:List D}{kv vs:List V}{ku us:List LC}
  (eD:H D0=some (XO D0 (MA "list" #[] e1))) (eS:H S=some (XO S (MA "list" ku.toArray n))) (rk:RDs X.K H ks kv) (wk:Vals kv ku) (wv:Vals vs us) (hl:ku.length=us.length) (hz:us.length < 64) (hu:A.units+4 < Mp)
  (hk:∀ d∈ks,Cb d) (hc:∀ a∈ks,∀ b∈ks,zJ 4 a b) (r:Nat->Nat) (hr:∀ i j a b,ks[i]?=some a->ks[j]?=some b->jh 4 a b=decide (r i < r j))
  (q:∀ (p:List Nat) H' s',p.Perm (List.range us.length)->(p.map r).Pairwise (·<=·)->L2.Inv X pins τ H' s'->Kp G H0 G H'->RG X.K H' G->H' D0=some (.lst (p.map fun i=>vs.getD i .non))->Stb X.K H H'->P (.done (.ret .none)) s'):
  LJ (LN X.prog X.w) A (ksk_end D0 false us.toArray e1 (.ref S) ku.toArray) P E s:=by
 have lk:=wk.length;have lk':=rk.length;have lv:=wv.length;unfold ksk_end;dsimp only;simp only[Bool.false_eq_true,if_false]
 by_cases h2:us.length < 2
 ·have hs:us.toArray.size < 2:=by rw[LM];exact h2
  rw[if_pos hs,if_pos hs];refine LA (LD ?_);refine LA (LD ?_);refine yo I rg kp nS nD gS gD hne eD eS (by walk_at "o") (out:=us) (ov:=vs) (st:=SortSt.mk' general' (ku.toArray.zip us.toArray) #[] 7 none) ?_ rfl wv hz fun H' s' I' kp' rg' e' st'=>?_
  ·apply Array.toList_inj.mp;show ((ku.toArray.zip us.toArray).map (·.2)).toList=_
   rw[Array.toList_map,ksk_zip];simp[List.map_snd_zip,hl]
  ·refine q (List.range us.length) H' s' (List.Perm.refl _) ?_ I' kp' rg' (by rw[<- lv,range_getD];exact e') st'
   have:us.length=0\/us.length=1:=by walk_at "o"
   rcases this with e|e<;>rw[e]<;>simp[List.range_succ]
 ·have hs:¬ us.toArray.size < 2:=by rw[LM];exact h2
  rw[if_neg hs,if_neg hs];obtain⟨p,ep,hp,adj⟩:=AY r us.length (by walk_at "o")
  refine LA (HI I hk rk wk (by walk_at "o") ?_)
  refine LA (MC (kat_run (Q:=fun st' s'=>∃ p':Array Nat,arrOf st'=p'.map (kas_item (ku.toArray.zip us.toArray))/\PH st'=none/\s'=s/\p'=p) hl (by walk_at "o") hz (G:=fun p' s'=>s'=s/\p'=p)
   (fun p' st' s' a1 a2 a3 a4=>⟨p',a2,a3,a4.1,a4.2⟩) ?_) ?_ fun _ _ x=>x)
  ·refine KasT.walked (lt:=mK r) (J:=fun s'=>s'=s) (fun i j C s' hi hj e c=>?_) _ s (AZ (by walk_at "o")) rfl fun s' e _=>⟨e,ep⟩
   subst e;unfold kas_ask;obtain⟨v1,f1,g1⟩:=Vals.getV (i:=i) (u:=ku[i]'(by walk_at "o")) wk (by simp)
   obtain⟨v2,f2,g2⟩:=Vals.getV (i:=j) (u:=ku[j]'(by walk_at "o")) wk (by simp)
   obtain⟨d1,b1,c1⟩:=RDs.getV rk f1;obtain⟨d2,b2,c2⟩:=RDs.getV rk f2;have m1:=LZ b1;have m2:=LZ b2;rw[show ku.getD i Value.none=ku[i]'(by walk_at "o")by simp[show i < ku.length by walk_at "o"],show ku.getD j Value.none=ku[j]'(by walk_at "o")by simp[show j < ku.length by walk_at "o"]]
   refine JZ I hu (hc _ m1 _ m2) (hk _ m1) (hk _ m2) c1 c2 g1 g2 ?_;rw[hr i j d1 d2 b1 b2];exact c _ rfl
  ·rintro⟨⟨⟩,st'⟩ s' ⟨p',har,hf,rfl,rfl⟩
   dsimp only;have lp:p'.toList.length=us.length:=by rw[hp.length_eq,List.length_range]
   have inr:∀ i∈p'.toList,i < us.length:=fun i hi=>mem_range.mp (hp.mem_iff.mp hi);refine yo I rg kp nS nD gS gD hne eD eS (by walk_at "o") (out:=p'.toList.map fun i=>us.getD i Value.none) (ov:=p'.toList.map fun i=>vs.getD i .non) (kat_snds hl har) hf (tL wv fun i hi=>by rw[lv];exact inr i hi) (by rw[LG,lp];exact hz) fun H' s' I' kp' rg' e' st'=>?_
   refine q p'.toList H' s' hp ?_ I' kp' rg' e' st';rw[Oc,List.pairwise_iff_getElem];intro i j hi hj hij;have h:=adj.le (le_of_lt hij) (by walk_at "o")
   unfold RR at h;have gi:p'.getD i 0=p'.toList[i]:=by
    have:i < p'.size:=by simpa using hi
    simp[Array.getD,this]
   have gj:p'.getD j 0=p'.toList[j]:=by
    have:j < p'.size:=by simpa using hj
    simp[Array.getD,this]
   rw[gi,gj]at h;exact h
end
structure SortBy(sp:cX)(G:Gp)(ds:List D)(ks:List D)(r:Nat->Nat):Prop where
 few:ds.length < 64
 len:ks.length=ds.length
 key:∀ (i:Nat) d kd,ds[i]?=some d->ks[i]?=some kd->sp [d] G fun z G'=>z=kd/\G'=G
 ki:∀ d∈ks,Cb d
 cp:∀ a∈ks,∀ b∈ks,zJ 4 a b
 lt:∀ i j a b,ks[i]?=some a->ks[j]?=some b->jh 4 a b=decide (r i < r j)
section
variable{X:Cx}{pins:List (LB×Obj)}{τ:St}{H H0:Hp}{s:LF}{G:Gp}{S D0:LB}{A:LY}{E:LC->LF->Prop}{P:PySem.Fin->LF->Prop}
 {k:Nat} {f:LB} {fd:LO} {ps:List Str} {sp:cX} {ds ks:List D} {r:Nat->Nat} {vs:List V} {us:List LC}
theorem Dh(F:FnOk X.prog X.w X.K X.mg X.base dz k f fd ps (ax X.K sp))(hb:fw X.K fd ps [])(hr:Room k A)(hA:∀ {s H},L2.Inv X pins τ H s->Env0 X.prog X.w X.K X.mg X.base A X.stack s H)(sb:SortBy sp G ds ks r)(hu:A.units+4 < Mp)
  (I:L2.Inv X pins τ H s) (rg:RG X.K H G) (kp:Kp G H0 G H) (nS:H0 S=none) (nD:H0 D0=none) (gS:G S=none) (gD:G D0=none) (hne:S≠D0) {e1:Nat}
  (eD:H D0=some (XO D0 (MA "list" #[] e1))) (eS:H S=some (XO S (MA "list" #[] 0))) (rd:RDs X.K H ds vs) (wv:Vals vs us)
  (q:∀ (p:List Nat) H' s',p.Perm (List.range ds.length)->(p.map r).Pairwise (·<=·)->L2.Inv X pins τ H' s'->Kp G H0 G H'->RG X.K H' G->H' D0=some (.lst (p.map fun i=>vs.getD i .non))->Stb X.K H H'->P (.done (.ret .none)) s'):
  LJ (LN X.prog X.w) A (ksk_rest D0 (.ref f) false us.toArray e1 (.ref S)) P E s:=by
 have l1:=rd.length;have l2:=wv.length;have few:=sb.few;unfold ksk_rest;refine LA (Oy ?_)
 first
  | rw[List.forIn_toArray]
  | (rw[<- Array.forIn_toList];simp only[List.toList_toArray])
  | rw[<- Array.forIn_toList]
 refine LA (zc F hb hr hA nS nD gS gD hne (fun x s' Q' h=>?_) sb.len (fun i d kd a b=>⟨sb.key i d kd a b,fun l e=>?_⟩) I kp rg rd wv eD (ku:=[]) (n:=0) (done:=[]) (kv:=[]) eS RDs.nil .nil (by simp only[Mv];omega)
  fun H' s' kv' ku' n' I' kp' rg' eD' eS' rk wk st=>?_)
 ·refine LA (M6 (MC h (fun u s'' hu'=>?_) fun _ _ hF=>hF.elim));dsimp only;exact LA (MC hu' (fun _ s3 hq=>LD hq) fun _ _ x=>x)
 ·obtain⟨t,rr,e2⟩:=sb.ki kd (LZ b);rw[e2]at e;cases e
 ·have l3:=rk.length;have l4:=wk.length;have sl:=sb.len;simp only[NZ]at rk l3;refine LA (Qf (kC I' eS') rfl ?_);refine FX I' rg' kp' nS nD gS gD hne eD' eS' rk wk wv (by walk_at "o") (by walk_at "o") hu sb.ki sb.cp r sb.lt fun p H'' s'' hp hs I'' U8 U1 e'' st''=>?_
  refine q p H'' s'' (by rw[show ds.length=us.length by walk_at "o"];exact hp) hs I'' U8 U1 e'' ⟨fun b xs z=>st''.t _ _ (st.t _ _ z),fun b xs z=>st''.l _ _ (st.l _ _ z)⟩
theorem CS(F:FnOk X.prog X.w X.K X.mg X.base dz k f fd ps (ax X.K sp))(hb:fw X.K fd ps [])(hr:Room k A)(hA:∀ {s H},L2.Inv X pins τ H s->Env0 X.prog X.w X.K X.mg X.base A X.stack s H)(sb:SortBy sp G ds ks r)(hu:A.units+4 < Mp)
  (I:L2.Inv X pins τ H s) (rg:RG X.K H G) (kp:Kp G H0 G H) (h0:∀ a,H a=none->H0 a=none) (nD:H0 D0=none) (gD:G D0=none) {n:Nat}
  (eD:H D0=some (XO D0 (MA "list" us.toArray n))) (rd:RDs X.K H ds vs) (wv:Vals vs us)
  (q:∀ (p:List Nat) H' s',p.Perm (List.range ds.length)->(p.map r).Pairwise (·<=·)->L2.Inv X pins τ H' s'->Kp G H0 G H'->RG X.K H' G->H' D0=some (.lst (p.map fun i=>vs.getD i .non))->Stb X.K H H'->P (.done (.ret .none)) s'):
  LJ (LN X.prog X.w) A (ksk_tree D0 (.ref f) false) P E s:=by
 have l1:=rd.length;have l2:=wv.length;have few:=sb.few;have oD:=kC I eD;have mu:CD (H D0):=by rw[eD];exact trivial
 have e2:=NL oD (fun _=>(#[]:Array LC));generalize (if ((#[]:Array LC).size == us.toArray.size)=true then n else n+1)=e1 at e2
 have I1:=pz (t':=s.toks) I eD e2;unfold ksk_tree;refine LA (Qf oD rfl ?_);refine LA (N4 oD rfl ?_ (by rw[LM,Mh];omega) (Mg _))
 refine LA (Pm e2 rfl ?_);refine LA (Og ?_ (by show us.length<=_;rw[Mh];omega))
 refine LA (OZ ?_ (Mg _));refine Mi ?_;have I2:L2.Inv X pins τ _ { s with heap:=(s.heap.update D0 (Mt fun _=>#[])).push { cls:=.type "tuple",data:=.seq us.toArray } }:=I1.kept (t':=s.toks) fun b u e=>LH _ e
 have fS:=I2.fresh;have I3:=qG (t':=s.toks) (o:=MA "list" #[] 0) I2 rfl rfl;have hS0:H ((s.heap.update D0 (Mt fun _=>(#[]:Array LC))).push { cls:=.type "tuple",data:=.seq us.toArray }).objs.size=none:=by
  by_cases e:((s.heap.update D0 (Mt fun _=>(#[]:Array LC))).push { cls:=.type "tuple",data:=.seq us.toArray }).objs.size=D0
  ·rw[e]at fS;rw[aM]at fS;cases fS
  ·rw[aA e]at fS;exact fS
 have hne:((s.heap.update D0 (Mt fun _=>(#[]:Array LC))).push { cls:=.type "tuple",data:=.seq us.toArray }).objs.size≠D0:=fun e=>by rw[e,eD]at hS0;cases hS0
 have rg1:RG X.K (bv H D0 (XO D0 (MA "list" #[] e1))) G:=vQ rg gD mu;have st1:Stb X.K H (bv H D0 (XO D0 (MA "list" #[] e1))):=jv mu;have st2:Stb X.K (bv H D0 (XO D0 (MA "list" #[] e1))) (bv (bv H D0 (XO D0 (MA "list" #[] e1))) ((s.heap.update D0 (Mt fun _=>(#[]:Array LC))).push { cls:=.type "tuple",data:=.seq us.toArray }).objs.size (XO ((s.heap.update D0 (Mt fun _=>(#[]:Array LC))).push { cls:=.type "tuple",data:=.seq us.toArray }).objs.size (MA "list" #[] 0))):=(Kp.laid (G:=G) fS).stb rg1;refine Dh F hb hr hA sb hu I3 (rg1.laid fS) (tX (tX kp nD) (h0 _ hS0)) (h0 _ hS0) nD (rg.free hS0) gD hne (by rw[aA hne.symm,aM]) aM (RDs.mono st2 _ _ (RDs.mono st1 _ _ rd)) wv fun p H' s' hp hs I' kp' rg' e' st'=>?_
 exact q p H' s' hp hs I' kp' rg' e' ⟨fun b xs z=>st'.t _ _ (st2.t _ _ (st1.t _ _ z)),fun b xs z=>st'.l _ _ (st2.l _ _ (st1.l _ _ z))⟩
theorem zS{d vw:LB}{Q:LC->LF->Prop}(F:FnOk X.prog X.w X.K X.mg X.base dz k f fd ps (ax X.K sp))(hb:fw X.K fd ps [])(hr:Room (k+2) X.A)(sb:SortBy sp G ds ks r)(hu:X.A.units+8 < Mp)(hh:X.A.handled=none)
  (I:L2.Inv X pins τ H s) (rg:RG X.K H G) {ep:Nat} (hv:s.heap.IsValuesView vw d) (dr:og s.heap d us ep) (rd:RDs X.K H ds vs) (wv:Vals vs us)
  (q:∀ (p:List Nat) D0 H' s',p.Perm (List.range ds.length)->(p.map r).Pairwise (·<=·)->L2.Inv X pins τ H' s'->Kp G H G H'->RG X.K H' G->H D0=none->H' D0=some (.lst (p.map fun i=>vs.getD i .non))->RDs X.K H' (p.map fun i=>ds.getD i .non) (p.map fun i=>vs.getD i .non)->Q (.ref D0) s'):
  LJ (LN X.prog X.w) X.A (call (.builtin "sorted") [.ref vw] [(LI "key",.ref f)]) Q E s:=by
 have l1:=rd.length;have l2:=wv.length;have few:=sb.few;refine call_function_entry_kw kind_sorted plain_sorted entry_sorted (ksk_s1 _ _) ?_;unfold Builtin.«sorted»;refine LA (m:=checkCount "sorted" 1 1 _) (LD ?_);refine LA (kdu_collect (A:=X.A.in1) (E6 (r:=vw) (d:=d) (vs:=us) (ep:=ep)) hh ⟨hv,dr⟩ (by rw[Mh];omega) fun h' tk acc hk hacc=>?_)
 have ea:acc.toList=us:=by
  refine List.ext_getElem? fun i=>?_;rcases Nw i acc.size with h|h
  ·have e:acc[i]?=some acc[i]:=by simp[h]
   have:=hacc.2 i _ e;rw[this];simp[h]
  ·rw[M_ (by simpa using h),M_ (by rw[<- hacc.1];exact h)]
 rw[ea];have I1:L2.Inv X pins τ H { s with heap:=h',toks:=tk }:=I.kept hk
 refine LA (OZ ?_ (by rw[Mh];omega))
 have fD:=I1.fresh;have I2:=qG (t':=tk) (o:=MA "list" us.toArray 0) I1 rfl rfl;have st:Stb X.K H (bv H h'.objs.size (XO h'.objs.size (MA "list" us.toArray 0))):=(Kp.laid (G:=G) fD).stb rg;refine LA (Mi (wpAny_call_entry_kw slot_list_sort ⟨_,kC I2 aM,rfl⟩ entry_list_sort ?_ (ksk_l1 _ _)));rw[ksk_t1];refine CS F hb (hr.in1.in1) (fun J=>J.env0.in1.in1) sb (by show X.A.units+1+1+4 < Mp;omega) I2 (rg.laid fD) (Kp.laid fD) (fun a e=>?_) fD (rg.free fD) aM (RDs.mono st _ _ rd) wv fun p H' s' hp hs I' kp' rg' e' st'=>⟨_,rfl,?_⟩
 ·by_cases h:a=h'.objs.size
  ·subst h;exact fD
  ·rw[aA h]at e;exact e
 ·refine LD ⟨_,rfl,q p _ H' s' hp hs I' kp' rg' fD e' (xn (RDs.mono st' _ _ (RDs.mono st _ _ rd)) fun i hi=>?_)⟩;rw[<- l1];exact mem_range.mp (hp.mem_iff.mp hi)
end
def AE(sp:cX)(to:bH):bH:=fun σ G Q=>to σ G fun x G1=>match val x with
 | .ref a=>match G1 a with
  | some (.dT _ kvs)=>∃ ks r,SortBy sp G1 (kvs.map (·.2)) ks r/\∀ p:List Nat,p.Perm (List.range (kvs.map (·.2)).length)->(p.map r).Pairwise (·<=·)->Q (.fl (p.map fun i=>(kvs.map (·.2)).getD i .non)) G1
  | _=>False
 | _=>False
theorem Dc{K:PySem.W.Frag}{H:Hp}{kvs:List (List aH×D)}{xs:List (List aH×LB×LC)}(r:pM K H kvs xs):∃ vs,RDs K H (kvs.map (·.2)) vs/\Vals vs (xs.map (·.2.2)):=by
 unfold pM at r
 induction r with
 | nil=>exact⟨[],RDs.nil,.nil⟩
 | cons h _ ih=>
  obtain⟨_,_,v,h1,h2⟩:=h;obtain⟨vs,a,b⟩:=ih;exact⟨v::vs,RDs.cons h1 a,.cons h2 b⟩
theorem Fs{X:Cx}{k:Nat}{f:Str}{sp:cX}{o:L7}{to:bH}{p0 apos cpos np U7 pos:Pos}(F:Fn3 X.prog X.w X.K X.mg X.base k f [] sp)(hr:Room (k+2) X.A)(hc:X.calm=true)(hgf:Gl X f)(hg:Gl X "sorted")(hm:X.mg "sorted"=none)(ho:PE X o (aE X.K to))
  (Se:ML o "values" X.env (eval o X.env)=eval o X.env:=by rfl) (Sd:(apos.endLine == cpos.line)=true:=by rfl) (hdf:(f == ("__debug__":Str))=false:=by decide):
  PE X (.Call (.Name "sorted" p0) [.Call (.Attribute o "values" apos) [] [] cpos] [⟨some "key",.Name f np,U7⟩] pos) (aE X.K (AE sp to)):=by
 obtain⟨fa,fd,ps,dv,dvs,ok,hmf,_,hb,hv0,hd0⟩:=F.ex;have e0:dvs=[]:=(hd0 (fun _=>none)).inv_nil;subst e0;cases hv0;have hu:=hr.units
 rintro pins s τ H Q I ⟨σ,G,Q3,rs,rg,h,kf⟩
 refine Nh (jG I hg hm (u:=.builtin "sorted") (by decide +kernel) ?_ (by decide) (by decide))
 refine callWith_kw (id:="sorted") ?_;show LJ _ _ (spliced [(false,eval (.Call (.Attribute o "values" apos) [] [] cpos) X.env)]) _ _ _
 refine M0 (Ov Se Sd (cI (d4 ho I rs rg h) fun ov s1 zz=>?_));obtain⟨ox,H1,I1,rox,x,G1,q1,k1,rg1,rd1⟩:=zz;split at q1
 ·rename_i a hx;rw[hx]at rd1;simp only[RD]at rd1;subst rd1;cases rox;split at q1
  ·rename_i hw kvs hga;obtain⟨ks,r,sb,q1⟩:=q1;obtain⟨hob,eo,ro⟩:=rg1 a _ hga;cases hob with
   | ext φ=>
    obtain⟨xs,rfl,rt,nd,hz⟩:=ro;obtain⟨hsm,o1,es,ep,g1,g2,g3,g4⟩:=(show cg X.prog X.w H1 s1.heap a (.ext (yh hw a xs))from I1.hok a _ eo).1
    obtain⟨vs,rv,wv⟩:=Dc rt;have dr:og s1.heap a (xs.map (·.2.2)) ep:=⟨o1,es,g1,g2,g3,by rw[g4,Mn];rfl⟩
    refine⟨"dict","dict.values",PySem.F.plainAttrs_dict,PySem.F.slot_dict_values,PySem.F.type_dict_values,dr.ty,fun b e=>?_,?_⟩
    ·cases e;exact⟨o1,g1,g2.2.1⟩
    ·refine Nn rfl (PySem.evalArgs_none (OE PySem.F.slot_dict_values dr.ty PySem.F.entry_dict_values (PySem.F.args_dict_values_1 _) (z9 hsm) ⟨⟨_,ep,dr⟩,?_⟩));refine Nt ?_;have I2:L2.Inv X pins τ H1 { s1 with heap:=s1.heap.push { cls:=.type "dict_values",data:=.fields #[.ref a] } }:=I1.kept (t':=s1.toks) fun b u e=>LH _ e
     show LJ _ _ (evalAll [(do let v <- eval (.Name f np) X.env;Ob pos;pure v)]) _ _ _
     refine wpAny_evalAll_cons (LA (se I2 hgf hmf (LA (OX (LD (wpAny_evalAll_nil ?_)))) hdf));show LJ _ _ (call (.builtin "sorted") [.ref s1.heap.objs.size] [(LI "key",.ref fa)]) _ _ _
     refine zS ok hb hr sb (by walk_at "o") (I.ok.hd hc) I2 rg1 (ep:=ep) ⟨_,LK _ rfl,rfl,rfl⟩ (dr.stay fun b e=>LH _ e) rv wv fun p D0 H' s' hp hs I' kp' rg' n0 e' rd'=>?_
     exact⟨.ref D0,H',I',rfl,kf _ G1 _ H' (q1 p hp hs) (k1.trans kp') rg' (.inl ⟨_,D0,_,rfl,rfl,e',rg1.free n0,rd',k1.fr (pB n0)⟩)⟩
   | _=>exact ro.elim
  ·exact q1.elim
 ·exact q1.elim
def JE(te:bH):bH:=fun σ G Q=>te σ G fun x G1=>match n6 G1 (val x) with
 | some ds=>Q (.fl ds.reverse) G1
 | none=>False
def xS(to:bH):bH:=fun σ G Q=>to σ G fun x G1=>match x with
 | .ref a=>match G1 a with
  | some (.lst _)=>Q .non (gset G1 a (.lst []))
  | _=>False
 | _=>False
theorem Bb{X:Cx}{o:L7}{to:bH}{apos cpos:Pos}(ho:PE X o (aE X.K to))(Se:ML o "clear" X.env (eval o X.env)=eval o X.env:=by rfl)(Sd:(apos.endLine == cpos.line)=true:=by rfl):PE X (.Call (.Attribute o "clear" apos) [] [] cpos) (aE X.K (xS to)):=
 (Hr PySem.F.plainAttrs_list PySem.F.slot_list_clear PySem.F.type_list_clear DW ho Se Sd).imp fun τ H Q zz=>by
 obtain⟨σ,G,Q3,rs,rg,h,k⟩:=zz;exact (
  ⟨σ,G,_,rs,rg,h,fun d G1 v H1 q k1 rg1 re=>by
    cases d with
    | ref a=>
     rw[re.ref];dsimp only at q;split at q
     ·rename_i ds hg;obtain⟨xs,e1,r1⟩:=qu rg1 hg;obtain⟨kp,rg3⟩:=Bd rg1 e1 RDs.nil (by rw[hg];exact fun z=>nomatch z)
      exact⟨.inl ⟨rfl,xs,jT.of e1⟩,a,xs,rfl,rfl,e1,k _ _ _ _ q (k1.trans kp) rg3 (.of wH)⟩
     ·exact q.elim
    | _=>exact q.elim⟩)
def Je{α:Type}(xs:List α)(lo hi st:Option Int):List α:=
 (QL (Nd lo hi st xs.length).1 (Nd lo hi st xs.length).2.1 (Nd lo hi st xs.length).2.2).filterMap (xs[·]?)
def JC(te:bH)(tl th ts:Iw):bH:=fun σ G Q=>te σ G fun x G1=>tl σ G1 fun l G2=>th σ G2 fun u G3=>ts σ G3 fun st G4=>st≠some 0/\match n6 G4 (val x) with
 | some ds=>Q (.fl (Je ds l u st)) G4
 | none=>False
def kJ(K:PySem.W.Frag)(mg:Str->Option LC)(x:Str)(d:D):Prop:=∃ u v,mg x=some u/\aJ v u/\∀ H,RD K H d v
theorem dG{X:Cx}{x:Str}{d:D}{pos:Pos}(hg:Gl X x)(h:kJ X.K X.mg x d)(hd:(x == ("__debug__":Str))=false:=by decide):PE X (.Name x pos) (aE X.K (eC d)):=by
 obtain⟨u,v,hm,r,rd⟩:=h;exact A_ hg hm r rd hd
theorem Cv{K:PySem.W.Frag}{mg:Str->Option LC}{x:Str}{ds:List D}{vs:List V}{its:Array LC}{a:LB}{n:Nat}{sl:Array (Option LC)}(hm:mg x=some (.ref a))(hl:K.lookup a=some ⟨.type "tuple",none,.seq its n,sl⟩)
  (hz:its.size<=LL) (w:Vals vs its.toList) (r:∀ H,RDs K H ds vs):kJ K mg x (.tup ds):=
 ⟨.ref a,.ref a,hm,rfl,fun H=>qc (.inr ⟨_,its,n,hl,⟨rfl,rfl⟩,rfl,hz,w⟩) (r H)⟩
end L3
namespace L2
open PySem PySem.Spec PyProof.Rows
theorem Inv.turnedL{X:Cx}{pins:List (LB×Obj)}{σ:St}{H:Hp}{s:LF}{h':L5}{t':Nat}{fp:List LB}(I:Inv X pins σ H s)(k:∀ b o,b∉fp->s.heap.get? b=some o->h'.get? b=some o)(hf:∀ b∈fp,mx X pins H b):
  Inv X pins σ H { s with heap:=h',toks:=t' }:=by
 have nit:∀ b u,H b=some u->b∉fp:=fun b u e z=>by rw[(hf b z).1]at e;cases e
 have hL:X.env.locals∉fp:=fun z=>(hf _ z).2.1 rfl;refine I.step (g':=s.gens) (d':=s.drawn) (ch:=fp) (fun b hb=>⟨(hf b hb).2.2.2.1,(hf b hb).2.1,(hf b hb).2.2.2.2.1,(hf b hb).2.2.2.2.2⟩) (fun b o _ _ hc e _=>k b o hc e) (fun b o _ _ hc e _=>⟨o.slots,k b o hc e⟩) (fun _ _ _ _ n=>n)
  (fun b o hc e=>⟨o,k b o hc e⟩) (fun _ _ e=>e) (fun _ _ _ e=>e) (fun b ps e=>⟨#[],by rw[e];simp⟩) (fun m hm=>?_) (fun b u e=>?_) I.bare
 ·obtain⟨o,es,ep,ho,r⟩:=hm;exact⟨o,es,ep,k _ o hL ho,r⟩
 ·refine (I.hok b u e).stay (fun c v hc q=>k c v ?_ q) (fun _ q=>q) fun _ _ q=>q;rcases hc with z|z
  ·rw[z];exact nit b u e
  ·exact nit c _ z
end L2
namespace L3
open PySem PySem.Spec PyProof.Rows L2
def ig(a b:String):Bool:=(a == b) || ((a == "bool") && (b == "int"))
def jf(b:String):Prop:=b="int"\/b="bool"\/b="str"\/b="tuple"\/b="list"
def K1:BA:=fun ds G Q=>match ds with
 | [d,.ty T]=>jf T/\∃ T',xx G d=some T'/\Q (.bl (ig T' T)) G
 | _=>False
def JI:BA:=fun ds G Q=>match ds with
 | [.bl b]=>Q (.int (if b then 1 else 0)) G
 | _=>False
theorem qL{K:PySem.W.Frag}{mg:Str->Option LC}{x z:Str}{t:Tok}(hm:mg x=some (.str z t)):kJ K mg x (.str z):=⟨.str z t,.str z,hm,⟨t,rfl⟩,fun _=>iC⟩
end L3
namespace L2
open PySem PySem.Spec PyProof.Rows
end L2
namespace L3
open PySem PySem.Spec PyProof.Rows L2
section
variable{X:Cx}{a b c d:L7}{ta tb tc td:bH}{pos:Pos}{r r' r2:R3}
def IM(r r' r2:R3)(ta tb tc td:bH):pK:=fun σ G Q=>ta σ G fun x G1=>tb σ G1 fun y G2=>r x y G2 fun z G3=>match z with
 | .bl k=>if k=true then tc σ G3 fun w G4=>r' y w G4 fun z5 G5=>match z5 with
   | .bl k5=>if k5=true then td σ G5 fun w6 G6=>r2 w w6 G6 fun z7 G7=>match z7 with
     | .bl k7=>Q k7 G7
     | _=>False
    else Q false G5
   | _=>False
  else Q false G3
 | _=>False
end
def J9(a:LB)(g:sm)(tb:cn)(E:Ends3)(σ:fO)(ds:List D)(G1:Gp):Prop:=∃ Pv:Nat->fO->Gp->Prop,Pv 0 σ G1/\(∀ i σ' G',Pv i σ' G'->G' a=some (.lst ds))/\
 (∀ (i:Nat) d σ' G',ds[i]?=some d->Pv i σ' G'->g d σ' G' fun σ2 G2=>tb { E with nx:=Pv (i+1),ct:=Pv (i+1),bk:=E.nx } σ2 G2)/\∀ σ' G',Pv ds.length σ' G'->E.nx σ' G'
def C8(te:bH)(g:sm)(tb:cn):cn:=fun E σ G=>te σ G fun d G1=>match d with
 | .ref a=>∃ ds,G1 a=some (.lst ds)/\J9 a g tb E σ ds G1
 | d=>match fF d with
  | some ds=>ForIn g tb E σ ds G1
  | none=>False
section
variable{X:Cx}{tg e:L7}{te:bH}
theorem A7(h:PE X e (aE X.K te)):PI X tg e (fun τ H R=>∃ σ G Q3,RS X.K H σ τ/\RG X.K H G/\te σ G Q3/\∀ d G1 H1,Q3 d G1->Kp G H G1 H1->RG X.K H1 G1->match d with
  | .ref a=>(∃ ds,G1 a=some (.lst ds))/\R (J7 X.K a) H1
  | d=>∃ ds,fF d=some ds/\∀ J,ye X.K G1 H1 ds J->R J H1):=by
 intro pins s τ H R I hq;obtain⟨σ,G,Q3,rs,rg,hq,k⟩:=hq;refine cI (dW h pins s τ H (fun v H1=>∃ d G1,Kp G H G1 H1/\RG X.K H1 G1/\RD X.K H1 (val d) v/\Q3 d G1) I ⟨σ,G,_,rs,rg,hq,fun d G' v H' q k' rg' rd=>⟨d,G',k',rg',rd,q⟩⟩) fun u s1 zz=>?_;obtain⟨v,H1,I1,r1,d,G1,k1,rg1,rd,q⟩:=zz;have kk:=k d G1 H1 q k1 rg1;have seq:∀ {a:LB} {xs:List V} {ds:List D},EF X.K H1 a xs->RDs X.K H1 ds xs->(∀ J,ye X.K G1 H1 ds J->R J H1)->LJ (LN X.prog X.w) X.A (Oh (.ref a)) (GC X pins τ tg R) X.xe s1:=fun f r q=>qE I1 f.sq (q _ (Bj rg1 f r));cases d with
 | ref a=>
  simp only[val,RD]at rd;subst rd;cases r1;obtain⟨⟨ds,hg⟩,kr⟩:=kk;obtain⟨xs,e1,r⟩:=qu rg1 hg;exact qE I1 (jT.of e1) kr
 | lst ds=>
  simp only[val,RD]at rd;obtain⟨a,xs,rfl,f,r⟩:=rd;cases r1;obtain⟨ds',e,kr⟩:=kk;cases e;exact seq f r kr
 | fl ds=>
  simp only[val,RD]at rd;obtain⟨a,xs,rfl,f,r⟩:=rd;cases r1;obtain⟨ds',e,kr⟩:=kk;cases e;exact seq f r kr
 | tup ds=>
  simp only[val,RD]at rd;obtain⟨a,xs,rfl,f,r⟩:=rd;cases r1;obtain⟨ds',e,kr⟩:=kk;cases e;exact zd I1 f (kr _ (Ec rg1 f r))
 | str z=>
  simp only[val,RD]at rd;subst rd;obtain⟨t,rfl⟩:=r1;obtain⟨ds',e,kr⟩:=kk;cases e;refine ze I1 (kr _ (Bi fun H'=>?_));have:signs z=(z.cps.toList.map fun c=>(⟨#[c]⟩:Str)).map D.str:=by simp[signs]
  rw[this];have e2:dO z=(z.cps.toList.map fun c=>(⟨#[c]⟩:Str)).map V.str:=by simp[dO]
  rw[e2];exact RDs.strs _
 | _=>
  obtain⟨ds',e,_⟩:=kk;cases e
end
theorem Ha{X:Cx}{tg iter:L7}{body:List Md}{te:bH}{g:sm}{tb:cn}{pos:Pos}(hp:OU (LN X.prog X.w) X.A X.env X.xe)(hc:X.calm=true)(hi:PE X iter (aE X.K te))(hg:PG X tg (js X.K g))(hb:rm X body (cE X.K tb))
  (hs:∀ x,MM iter X.env x=pure x:=by intro _;rfl):PS X (.For tg iter body [] pos) (cE X.K (C8 te g tb)):=
 (DB hp hc (A7 hi) hg hb hs).imp fun Dd τ H zz=>by
 obtain⟨σ,G,D3,rs,rg,h,k⟩:=zz;exact (
  ⟨σ,G,_,rs,rg,h,fun d G1 H1 q k1 rg1=>by
    have core:∀ (ds:List D) (J:It) (Pv:Nat->fO->Gp->Prop),Pv 0 σ G1->
      (∀ i σ' G' H',Pv i σ' G'->Kp G1 H1 G' H'->RG X.K H' G'->(i < ds.length->J.go i H'/\∀ x H2,J.yld i H' x H2->Kp G' H' G' H2/\RG X.K H2 G'/\∃ d,ds[i]?=some d/\RD X.K H2 d x)/\(i=ds.length->J.stop i H'))->
      (∀ (i:Nat) d σ' G',ds[i]?=some d->Pv i σ' G'->g d σ' G' fun σ2 G2=>tb { D3 with nx:=Pv (i+1),ct:=Pv (i+1),bk:=D3.nx } σ2 G2)->(∀ σ' G',Pv ds.length σ' G'->D3.nx σ' G')->
      ∃ W:Nat->Nat->St->Hp->Prop,(∃ m,W 0 m τ H1)/\∀ i m σ H,W i m σ H->
       (J.stop i H/\Dd.nx σ H)\/(J.go i H/\∃ N:St->Hp->Prop,(∀ σ' H',N σ' H'->∃ m',m' < m/\W (i+1) m' σ' H')/\∀ x H',J.yld i H x H'->js X.K g x σ H' fun σ2 H2=>cE X.K tb { Dd with nx:=N,ct:=N,bk:=Dd.nx } σ2 H2):=by
     intro ds J Pv p0 it step fin;refine⟨fun i m τ' H'=>m=ds.length - i/\i<=ds.length/\∃ σ' G',RS X.K H' σ' τ'/\RG X.K H' G'/\Pv i σ' G'/\Kp G1 H1 G' H',⟨ds.length,rfl,Mg _,σ,G1,rs.mono (k1.stb rg),rg1,p0,Kp.refl⟩,?_⟩
     rintro i m τ' H' ⟨rfl,hi',σ',G',rs',rg',pv,k'⟩
     obtain⟨hgo,hstop⟩:=it i σ' G' H' pv k' rg'
     by_cases hlt:i < ds.length
     ·obtain⟨go,yld⟩:=hgo hlt;refine .inr ⟨go,fun τ2 H2=>∃ σ2 G2,RS X.K H2 σ2 τ2/\RG X.K H2 G2/\Pv (i+1) σ2 G2/\Kp G1 H1 G2 H2,fun τ2 H2 ⟨σ2,G2,a,b,c,d⟩=>⟨ds.length - (i+1),by walk_at "o",rfl,hlt,σ2,G2,a,b,c,d⟩,fun x H2 y=>?_⟩
      obtain⟨ky,rgy,d,hd,rd⟩:=yld x H2 y;refine⟨d,σ',G',_,rd,rs'.mono (ky.stb rg'),rgy,step i d σ' G' hd pv,fun σ3 G3 τ3 H3 q3 k3 rg3 rs3=>?_⟩;have kk:Kp G1 H1 G3 H3:=k'.trans (ky.trans k3);have kG:Kp G H G3 H3:=k1.trans kk;refine⟨σ3,G3,_,rs3,rg3,q3,⟨fun σ4 G4 τ4 H4 q4 k4 rg4 rs4=>⟨σ4,G4,rs4,rg4,q4,kk.trans k4⟩,k.rt.base kG,fun σ4 G4 τ4 H4 q4 k4=>k.nx σ4 G4 τ4 H4 q4 (kG.trans k4),fun σ4 G4 τ4 H4 q4 k4 rg4 rs4=>⟨σ4,G4,rs4,rg4,q4,kk.trans k4⟩⟩⟩
     ·have e:i=ds.length:=by walk_at "o"
      refine .inl ⟨hstop e,k.nx σ' G' τ' H' (fin σ' G' (by rw[<- e];exact pv)) (k1.trans k') rg' rs'⟩
    cases d with
    | ref a=>
     obtain⟨ds,hg,Pv,p0,live,step,fin⟩:=q;refine⟨⟨ds,hg⟩,core ds _ Pv p0 (fun i σ' G' H' pv k' rg'=>?_) step fin⟩;obtain⟨xs,e1,r⟩:=qu rg' (live i σ' G' pv);have hl:=r.length;refine⟨fun hi=>⟨⟨xs,xs[i]'(by walk_at "o"),jT.of e1,by simp[show i < xs.length by walk_at "o"]⟩,fun x H2 y=>?_⟩,fun e=>⟨xs,jT.of e1,by walk_at "o"⟩⟩
     obtain⟨rfl,hx⟩:=y;refine⟨Kp.refl,rg',ds[i],by simp[hi],?_⟩
     obtain⟨y,e,q⟩:=r.get (i:=i) (d:=ds[i]) (by simp[hi])
     rw[hx xs (jT.of e1)]at e;cases e;exact q
    | lst ds=>
     obtain⟨Pv,p0,step,fin⟩:=q;exact⟨_,rfl,fun J it=>core _ J Pv p0 (fun i σ' G' H' _ k' rg'=>it i G' H' k' rg') step fin⟩
    | fl ds=>
     obtain⟨Pv,p0,step,fin⟩:=q;exact⟨_,rfl,fun J it=>core _ J Pv p0 (fun i σ' G' H' _ k' rg'=>it i G' H' k' rg') step fin⟩
    | tup ds=>
     obtain⟨Pv,p0,step,fin⟩:=q;exact⟨_,rfl,fun J it=>core _ J Pv p0 (fun i σ' G' H' _ k' rg'=>it i G' H' k' rg') step fin⟩
    | str z=>
     obtain⟨Pv,p0,step,fin⟩:=q;exact⟨_,rfl,fun J it=>core _ J Pv p0 (fun i σ' G' H' _ k' rg'=>it i G' H' k' rg') step fin⟩
    | _=>exact q.elim⟩)
def zW(c:pK)(tb:cn):cn:=fun E σ G=>∃ W:Nat->fO->Gp->Prop,(∃ m,W m σ G)/\∀ m σ' G',W m σ' G'->
 c σ' G' fun b G1=>if b=true then ∃ N:fO->Gp->Prop,(∀ σ2 G2,N σ2 G2->∃ m',m' < m/\W m' σ2 G2)/\tb { E with nx:=N,ct:=N,bk:=E.nx } σ' G1 else E.nx σ' G1
theorem E9{X:Cx}{c:L7}{body:List Md}{tc:pK}{tb:cn}{pos:Pos}(hp:OU (LN X.prog X.w) X.A X.env X.xe)(hc:PT X c (cY X.K tc))(hb:rm X body (cE X.K tb)):PS X (.While c body [] pos) (cE X.K (zW tc tb)):=
 (Dx hp hc hb).imp fun D τ H ⟨σ,G,D3,rs,rg,⟨W,⟨m0,w0⟩,turn⟩,k⟩=>by
  refine⟨fun m τ' H'=>∃ σ' G',RS X.K H' σ' τ'/\RG X.K H' G'/\W m σ' G'/\Kp G H G' H',⟨m0,σ,G,rs,rg,w0,Kp.refl⟩,?_⟩
  rintro m τ' H' ⟨σ',G',rs',rg',w',k'⟩
  refine⟨σ',G',_,rs',rg',turn m σ' G' w',fun b G1 H1 q k1 rg1=>?_⟩;cases b with
  | true=>
   rw[if_pos rfl]at q ⊢;obtain⟨N,hN,q⟩:=q;refine⟨fun τ2 H2=>∃ σ2 G2,RS X.K H2 σ2 τ2/\RG X.K H2 G2/\N σ2 G2/\Kp G H G2 H2,fun τ2 H2 ⟨σ2,G2,a,b,n,d⟩=>?_,?_⟩
   ·obtain⟨m',hm,w2⟩:=hN σ2 G2 n;exact⟨m',hm,σ2,G2,a,b,w2,d⟩
   ·have kG:=k'.trans k1;exact⟨σ',G1,_,rs'.mono (k1.stb rg'),rg1,q,⟨fun σ4 G4 τ4 H4 q4 k4 rg4 rs4=>⟨σ4,G4,rs4,rg4,q4,kG.trans k4⟩,k.rt.base kG,fun σ4 G4 τ4 H4 q4 k4=>k.nx σ4 G4 τ4 H4 q4 (kG.trans k4),fun σ4 G4 τ4 H4 q4 k4 rg4 rs4=>⟨σ4,G4,rs4,rg4,q4,kG.trans k4⟩⟩⟩
  | false=>
   rw[if_neg Bool.false_ne_true]at q ⊢;exact k.nx σ' G1 τ' H1 q (k'.trans k1) rg1 (rs'.mono (k1.stb rg'))
theorem HR:jf "int"=True:=eq_true (by unfold jf;simp)
theorem zj:ig "int" "int"=true:=by decide
theorem xF:ig "int" "bool"=false:=by decide
theorem zi:ig "int" "str"=false:=by decide
theorem vy:ig "int" "tuple"=false:=by decide
theorem xE:ig "int" "list"=false:=by decide
theorem FL:jf "bool"=True:=eq_true (by unfold jf;simp)
theorem xH:ig "bool" "int"=true:=by decide
theorem vA:ig "bool" "bool"=true:=by decide
theorem xG:ig "bool" "str"=false:=by decide
theorem t6:ig "bool" "tuple"=false:=by decide
theorem vz:ig "bool" "list"=false:=by decide
theorem HQ:jf "str"=True:=eq_true (by unfold jf;simp)
theorem zh:ig "str" "int"=false:=by decide
theorem xB:ig "str" "bool"=false:=by decide
theorem zg:ig "str" "str"=true:=by decide
theorem vp:ig "str" "tuple"=false:=by decide
theorem xA:ig "str" "list"=false:=by decide
theorem Eb:jf "tuple"=True:=eq_true (by unfold jf;simp)
theorem vo:ig "tuple" "int"=false:=by decide
theorem t3:ig "tuple" "bool"=false:=by decide
theorem vn:ig "tuple" "str"=false:=by decide
theorem rY:ig "tuple" "tuple"=true:=by decide
theorem tZ:ig "tuple" "list"=false:=by decide
theorem FK:jf "list"=True:=eq_true (by unfold jf;simp)
theorem xD:ig "list" "int"=false:=by decide
theorem vt:ig "list" "bool"=false:=by decide
theorem xC:ig "list" "str"=false:=by decide
theorem t5:ig "list" "tuple"=false:=by decide
theorem vq:ig "list" "list"=true:=by decide
def gA:List Str->List D->Str->Option D
 | g::L,d::ds,f=>if g=f then some d else gA L ds f
 | _,_,_=>none
def jN(L:List Str)(f:Str):List Str:=match L with
 | []=>[f]
 | g::r=>if g=f then g::r else g::jN r f
def i8:List Str->List D->Str->D->List D
 | g::L,x::ds,f,d=>if g=f then d::ds else x::i8 L ds f d
 | _,_,_,d=>[d]
section
variable{K:PySem.W.Frag}{H:Hp}
theorem uh:∀ {gs:List (Str×V)} {ds:List D} {f:Str} {d:D},RDs K H ds (gs.map (·.2))->gA (gs.map (·.1)) ds f=some d->∃ v,gs.lookup f=some v/\RD K H d v
 | [],ds,f,d,r,e=>by simp[gA]at e
 | (g,u)::t,ds,f,d,r,e=>by
  cases ds with
  | nil=>simp[gA]at e
  | cons x ds=>
   obtain⟨y,q,e1,h1,h2⟩:=r.inv_cons;rw[L1,List.cons.injEq]at e1;obtain⟨rfl,e1⟩:=e1;simp only[L1,gA]at e;split at e
   ·rename_i hg;cases e;subst hg;exact⟨u,by rw[MX,beq_self_eq_true],h1⟩
   ·rename_i hg;obtain⟨v,e2,h3⟩:=uh (gs:=t) (by rw[e1];exact h2) e
    exact⟨v,by rw[MX,show (f == g)=false by simpa using Ne.symm hg];exact e2,h3⟩
theorem yH:∀ {gs:List (Str×V)} {f:Str} {v:V},(f9 f v gs).map (·.1)=jN (gs.map (·.1)) f
 | [],f,v=>rfl
 | (g,u)::t,f,v=>by
  simp only[f9,L1,jN];split
  ·rename_i hg;simp[hg]
  ·simp[yH (gs:=t)]
theorem yI:∀ {gs:List (Str×V)} {ds:List D} {f:Str} {v:V} {d:D},RDs K H ds (gs.map (·.2))->RD K H d v->RDs K H (i8 (gs.map (·.1)) ds f d) ((f9 f v gs).map (·.2))
 | [],ds,f,v,d,r,h=>by
  have:i8 ([]:List Str) ds f d=[d]:=by unfold i8;rfl
  exact RDs.cons h RDs.nil
 | (g,u)::t,ds,f,v,d,r,h=>by
  cases ds with
  | nil=>exact absurd r.length (by simp)
  | cons x ds=>
   obtain⟨y,q,e1,h1,h2⟩:=r.inv_cons;rw[L1,List.cons.injEq]at e1;obtain⟨rfl,e1⟩:=e1;simp only[f9,L1,i8];split
   ·rename_i hg;subst e1;exact RDs.cons h h2
   ·exact RDs.cons h1 (yI (gs:=t) (by rw[e1];exact h2) h)
end
def bQ(cs:List LB)(f:Str)(to:bH):bH:=fun σ G Q=>to σ G fun x G1=>match x with
 | .ref a=>match G1 a with
  | some (.ins C L ds)=>C∈cs/\match gA L ds f with
   | some d=>Q d G1
   | none=>False
  | _=>False
 | _=>False
def jM(cs:List LB)(f:Str)(to tv:bH):cn:=fun D σ G=>tv σ G fun d G1=>to σ G1 fun x G2=>match x with
 | .ref a=>match G2 a with
  | some (.ins C L ds)=>(C∈cs/\L.length < 1000)/\D.nx σ (gset G2 a (.ins C (jN L f) (i8 L ds f (val d))))
  | _=>False
 | _=>False
def fk(cs:List (LB×cX))(m:Str)(dds:List D)(to:bH)(ta:pL):bH:=fun σ G Q=>to σ G fun x G1=>match x with
 | .ref a=>match G1 a with
  | some (.ins C L _)=>m∉L/\∃ sp,(C,sp)∈cs/\ta σ G1 fun ds G2=>sp (.ref a::(ds ++ dds)) G2 Q
  | _=>False
 | _=>False
section
variable{X:Cx}{o e:L7}{es:List L7}{to te:bH}{t:pL}{pos apos:Pos}{k:Nat}{m:Str}{dds:List D}{sp:cX}
theorem bY{f:Str}{cs:List LB}(tab:∀ C∈cs,Cls X.K C/\cZ X.K C f)(ho:PE X o (aE X.K to))(hb:ML o f X.env (eval o X.env)=eval o X.env:=by rfl):PE X (.Attribute o f pos) (aE X.K (bQ cs f to)):=
 (DK ho hb).imp fun τ H Q zz=>by
 obtain⟨σ,G,Q3,rs,rg,h,kk⟩:=zz;exact (
  ⟨σ,G,_,rs,rg,h,fun d G1 v H1 q k1 rg1 re=>by
    cases d with
    | ref a=>
     dsimp only at q;split at q
     ·rename_i C L ds hg;obtain⟨hc,q⟩:=q;split at q
      ·rename_i d hd;obtain⟨ho,e1,ro⟩:=rg1 a _ hg;cases ho with
       | ins C2 dx gs=>
        obtain⟨rfl,r2,r3⟩:=ro;subst r2;obtain⟨w,hw,rd⟩:=uh r3 hd;exact⟨a,_,dx,gs,w,re.ref,e1,(tab _ hc).1,(tab _ hc).2,hw,kk _ G1 _ H1 q k1 rg1 (.of rd)⟩
       | _=>exact ro.elim
      ·exact q.elim
     ·exact q.elim
    | _=>exact q.elim⟩)
theorem i7{f:Str}{cs:List LB}{pos':Pos}(tab:∀ C∈cs,Cls X.K C/\cZ X.K C f)(ho:PE X o (aE X.K to))(hv:PE X e (aE X.K te))(hs:NA e (some (.Attribute o f pos')) pos.line X.env=pure false:=by rfl):
  PS X (.Assign [.Attribute o f pos'] e pos) (cE X.K (jM cs f to te)):=
 (Ac ho (dW hv) hs).imp fun Dd τ H zz=>by
 obtain⟨σ,G,D3,rs,rg,h,kk⟩:=zz;exact (
  ⟨σ,G,_,rs,rg,h,fun d G1 v H1 q1 k1 rg1 rd=>⟨σ,G1,_,rs.mono (k1.stb rg),rg1,q1,fun x G2 u H2 q2 k2 rg2 re=>by
    cases x with
    | ref a=>
     dsimp only at q2;split at q2
     ·rename_i C L ds hg;obtain⟨⟨hc,hl⟩,q2⟩:=q2;obtain⟨ho,e1,ro⟩:=rg2 a _ hg;cases ho with
      | ins C2 dx gs=>
       obtain⟨rfl,r2,r3⟩:=ro;subst r2;have rd2:=RD.mono (k2.stb rg1) _ _ rd;obtain⟨kp,rg3⟩:=Ab (gs':=f9 f v gs) (L':=jN (gs.map (·.1)) f) (ds':=i8 (gs.map (·.1)) ds f (val d)) rg2 e1 yH (yI r3 rd2) (by rw[hg];exact fun z=>nomatch z)
       exact⟨a,_,dx,gs,re.ref,e1,(tab _ hc).1,(tab _ hc).2,by simpa using hl,kk.nx _ _ _ _ q2 ((k1.trans k2).trans kp) rg3 (rs.mono ((((k1.trans k2).trans kp)).stb rg))⟩
      | _=>exact ro.elim
     ·exact q2.elim
    | _=>exact q2.elim⟩⟩)
theorem h_{pl:Sem Bool}{cs:List (LB×cX)}(tab:∀ c∈cs,∃ k',k'<=k/\Mt3 X.prog X.w X.K X.mg X.base k' c.1 m dds c.2)(hr:Room k X.A)(ho:PE X o (aE X.K to))
  (ht:eval (.Call (.Attribute o m apos) [] [] pos) X.env=(do
   let ov <- eval o X.env
   Ob apos.atName
   let (f,first) <- holding [ov] (Oe ov m pl)
   O_ pos f first (MQ pos (LR [] X.env)) (N9 pos (Nf [] X.env))):=by rfl):
  PE X (.Call (.Attribute o m apos) [] [] pos) (aE X.K (fk cs m dds to au)):=by
 rintro pins s τ H Q I ⟨σ,G,Q3,rs,rg,h,kk⟩
 refine Ot (pl:=pl) (cI (d4 ho I rs rg h) fun u s1 zz=>?_) ht;obtain⟨x,H1,I1,rx,d,G1,q,k1,rg1,rd⟩:=zz;cases d with
 | ref a=>
  simp only[val,RD]at rd;subst rd;obtain rfl:u=Value.ref a:=rx;dsimp only at q;split at q
  ·rename_i C L ds hg;obtain⟨hL,sp,hc,q⟩:=q;obtain⟨k',hk,F⟩:=tab _ hc;obtain⟨f,fd,ps,ds',dvs,ok,hm,hb,hv,hd⟩:=F.ex;obtain⟨ho,e1,ro⟩:=rg1 a _ hg;cases ho with
   | ins C2 dx gs=>
    obtain⟨rfl,r2,r3⟩:=ro;refine nZ I1 e1 F.cl hm (qv (K:=X.K) r2 hL) ?_;exact PySem.W.callWith_K0 (first:=[.ref a]) I1.kIn hm.kp (sL (us:=[.ref a]) (vs:=[.ref a]) ok (hr.mono hk) hb hv vR I1 (.cons rfl .nil) ⟨.ref a::([] ++ dds),G1,Q3,RDs.cons iD (hd H1),rg1,q,kk.base k1⟩)
   | _=>exact ro.elim
  ·exact q.elim
 | _=>exact q.elim
structure Cf3(P:LS)(w:L6)(K:PySem.W.Frag)(mg:Str->Option LC)(base:L5)(k:Nat)(x m:Str)(dds:List D)(sp:cX):Prop where
 ex:∃ C f fd ps ds dvs,FnOk P w K mg base dz k f fd ps (ax K sp)/\mg x=some (.ref C)/\PySem.W.specialIn K (.ref C) "__getattribute__"=some (some (.builtin "type.__getattribute__"))/\PySem.W.readsIn K C (.type "type")=true/\
  PySem.W.findCls K (.ref C) (.type "type") m=some (.val (.ref f))/\PySem.W.keepIn K (.ref f)=true/\fw K fd ps ds/\Vals dvs ds/\∀ H,RDs K H dds dvs
theorem mF{pl:Sem Bool}{x:Str}{p:Pos}(F:Cf3 X.prog X.w X.K X.mg X.base k x m dds sp)(hr:Room k X.A)(hg:Gl X x)(ha:PA X (e::es) (fq X.K t))(hdb:(x == ("__debug__":Str))=false:=by decide)
  (hst:LR (e::es) X.env=(false,eval e X.env)::LR es X.env:=by rfl) (hpl:(MQ pos (LR es X.env)).any (·.1)=false:=by rfl)
  (ht:eval (.Call (.Attribute (.Name x p) m apos) (e::es) [] pos) X.env=(do
   let ov <- eval (.Name x p) X.env
   Ob apos.atName
   let (f,first) <- holding [ov] (Oe ov m pl)
   O_ pos f first (MQ pos (LR (e::es) X.env)) (N9 pos (Nf [] X.env))):=by rfl):
  PE X (.Call (.Attribute (.Name x p) m apos) (e::es) [] pos) (aE X.K (aY sp dds t)):=by
 obtain⟨C,f,fd,ps,ds,dvs,ok,hm,hga,hrd,hfc,hk,hb,hv,hd⟩:=F.ex;intro pins s τ H Q I h;refine Ot (pl:=pl) (cI (A8 (v:=.ref C) hg hm rfl hdb pins s τ H (fun v H1=>v=.ref C/\H1=H) I ⟨rfl,rfl⟩) fun u s1 zz=>?_) ht;obtain⟨v,H1,I1,rx,e1,e2⟩:=zz;subst e1 e2;obtain rfl:u=Value.ref C:=rx;refine PySem.W.method_cls I1.kIn hga (PySem.W.cls_value I1.kIn hrd hfc rfl ?_);have I2:=I1.tok (s1.toks+1);obtain⟨σ,G,Q3,rs,rg,h,kk⟩:=h;refine O4 (first:=[]) (h₀:=X.base) I.ok.mod.kin hk (cI (ha pos pins _ τ H1 (fun vs H2=>∃ ds G1,sp (ds ++ dds) G1 Q3/\Kp G H1 G1 H2/\RG X.K H2 G1/\RDs X.K H2 ds vs) I2 ⟨σ,G,_,rs,rg,h,fun ds G1 vs H2 q k1 rg1 rds=>⟨ds,G1,q,k1,rg1,rds⟩⟩) fun us s2 ⟨vs,H2,I3,r,ds1,G1,q2,k1,rg1,rds⟩=>⟨I3.kIn,?_⟩) hst hpl
 exact sL (us:=us) (vs:=vs) ok hr hb hv vR I3 r ⟨ds1 ++ dds,G1,Q3,rds.append (hd _),rg1,q2,kk.base k1⟩
end
end L3
theorem L3.all_cons{α:Type}{p:α->Prop}{a:α}{l:List α}(h:p a)(t:∀ x∈l,p x):∀ x∈a::l,p x:=fun x hx=>by
 rcases L_.mp hx with rfl|hx
 ·exact h
 ·exact t x hx
namespace L3
open PySem PySem.Spec PyProof.Rows L2 PySem.SeqAt PySem.W
def t7:D->Bool
 | .non=>true
 | _=>false
def KG:R3:=fun x y G Q=>match y with
 | .non=>Q (.bl (t7 x)) G
 | _=>False
def yS:R3:=fun x y G Q=>match y with
 | .non=>Q (.bl (!t7 x)) G
 | _=>False
section
variable{X:Cx}
theorem Di{K:PySem.W.Frag}{G0 G:Gp}{H0 H:Hp}{x:D}{v:V}{u:LC}(r:RE K G0 H0 G H x v)(l:aJ v u):(u == Value.none)=t7 x:=by
 cases x with
 | non=>rw[r.non]at l;cases l;rfl
 | fl ds=>
  obtain⟨p,xs,rfl,_⟩:=r.fl;cases l;rfl
 | lst ds=>
  obtain⟨a,xs,rfl,_⟩:=r.lst;cases l;rfl
 | tup ds=>
  obtain⟨a,xs,rfl,_⟩:=r.tup;cases l;rfl
 | int i=>rw[r.int]at l;obtain⟨t,rfl⟩:=l;rfl
 | str i=>rw[r.str]at l;obtain⟨t,rfl⟩:=l;rfl
 | bl i=>rw[r.bl]at l;cases l;rfl
 | ref a=>rw[r.ref]at l;cases l;rfl
 | ty T=>
  have:=r.rd (by intro ds z;cases z)
  simp only[RD]at this;subst this;cases l;rfl
theorem GG:iW X (Mj .IsNot) (d5 X.K yS):=by
 rintro pins s σ H v u v' u' Q I rv ru ⟨x,y,G0,H0,G,Q3,rx,ry,rg,h,k⟩
 unfold yS at h;split at h
 ·rw[ry.non]at ru;cases ru;refine isnot_none_gen ?_;rw[Di rx rv];exact⟨.bl _,H,I,rfl,k _ G _ H h Kp.refl rg (.of h8)⟩
 ·exact h.elim
end
section
variable{X:Cx}{o i:L7}{to ti:bH}{pos:Pos}
theorem Af(hu:X.A.units+8 < Mp)(hi:PE X i (aE X.K ti))(ho:PE X o (aE X.K to))(hm:MK .In o=false:=by rfl):PT X (.Compare i [.In] [o] pos) (cY X.K (cJ (xR (ah X.prog X.w) ti to))):=by
 refine (Du (op:=.In) (t:=aE X.K (xR (ah X.prog X.w) ti to)) (fun pins s τ H Q I ⟨σ,G,Q3,rs,rg,h,k⟩=>?_) hm).imp fun τ H Q h=>wn h;refine cI (d4 hi I rs rg h) fun iv s1 zz=>?_;obtain⟨iy,H1,I1,riy,y,G1,q1,k1,rg1,rd1⟩:=zz;refine cI (d4 ho I1 (rs.mono (k1.stb rg)) rg1 q1) fun ov s2 zz=>?_;obtain⟨ox,H2,I2,rox,x,G2,q2,k2,rg2,rd2⟩:=zz;obtain⟨r,l,q2⟩:=q2;exact GA (by walk_at "o") I2 rg2 l rd2 rox (RD.mono (k2.stb rg1) _ _ rd1) riy fun s3 I3=>⟨.bl r.isSome,H2,I3,rfl,k _ G2 _ H2 q2 (k1.trans k2) rg2 (.of h8)⟩
theorem vS(hu:X.A.units+8 < Mp)(hi:PE X i (aE X.K ti))(ho:PE X o (aE X.K to))(hm:MK .NotIn o=false:=by rfl):PT X (.Compare i [.NotIn] [o] pos) (cY X.K (cJ (mJ (ah X.prog X.w) ti to))):=by
 refine (Du (op:=.NotIn) (t:=aE X.K (mJ (ah X.prog X.w) ti to)) (fun pins s τ H Q I ⟨σ,G,Q3,rs,rg,h,k⟩=>?_) hm).imp fun τ H Q h=>wn h;refine cI (d4 hi I rs rg h) fun iv s1 zz=>?_;obtain⟨iy,H1,I1,riy,y,G1,q1,k1,rg1,rd1⟩:=zz;refine cI (d4 ho I1 (rs.mono (k1.stb rg)) rg1 q1) fun ov s2 zz=>?_;obtain⟨ox,H2,I2,rox,x,G2,q2,k2,rg2,rd2⟩:=zz;obtain⟨r,l,q2⟩:=q2;exact Er (by walk_at "o") I2 rg2 l rd2 rox (RD.mono (k2.stb rg1) _ _ rd1) riy fun s3 I3=>⟨.bl (!r.isSome),H2,I3,rfl,k _ G2 _ H2 q2 (k1.trans k2) rg2 (.of h8)⟩
end
def AH(hw:List aH->Int)(tk tv:bH):bH:=fun σ G Q=>∀ p,G p=none->tk σ (gset G p (.dT hw [])) fun x G1=>tv σ G1 fun y G2=>match G2 p with
 | some (.dT hw' [])=>hw'=hw/\∃ ks,pi (val x)=some ks/\Q (.ref p) (gset G2 p (.dT hw [(ks,val y)]))
 | _=>False
section
variable{X:Cx}{pos:Pos}
theorem Fv{k v:L7}{tk tv:bH}(hu:X.A.units+8 < Mp)(hk:PE X k (aE X.K tk))(hv:PE X v (aE X.K tv)):PE X (.Dict [some k] [v] pos) (aE X.K (AH (ah X.prog X.w) tk tv)):=fun pins s τ H Q I zz=>by
 obtain⟨σ,G,Q3,rs,rg,h,kk⟩:=zz;have hf:H s.heap.objs.size=none:=I.hok.fresh (le_refl _);obtain⟨kp,rg2⟩:=FT (o:=.dT (ah X.prog X.w) []) (ho:=.ext (yh (ah X.prog X.w) s.heap.objs.size [])) rg hf fun H' _=>⟨[],rfl,.nil,Ph,Mg _⟩;have hd:(s.heap.objs.size == ME)=false:=beq_eq_false_iff_ne.mpr (Ne.symm (L9 I.big));have I1:=I.laid (a:=s.heap.objs.size) (t':=s.toks) (fun _ _ q=>LH _ q) (le_refl _) (qK (P:=X.prog) (w:=X.w) (hw:=ah X.prog X.w) (xs:=[]) ⟨hd,_,#[],0,LK (h:=s.heap) (o:={ cls:=.type "dict",data:=.dict #[] }) rfl,⟨rfl,rfl,rfl⟩,rfl,rfl⟩);refine wpAny_Dict_any (by rfl) (by rfl) (by simp) (by simp) ?_
 refine pairTrees_cons_walk (cI (d4 hk I1 (rs.mono (kp.stb rg)) rg2 (h _ (rg.free hf))) fun kv s1 zz=>?_);obtain⟨ox,H1,I2,rox,x,G1,q1,k1,rg1,rd1⟩:=zz;refine cI (d4 hv I2 (rs.mono ((kp.trans k1).stb rg)) rg1 q1) fun vv s2 zz=>?_;obtain⟨oy,H2,I3,roy,y,G2,q2,k2,rgb,rd2⟩:=zz;refine pairTrees_nil_walk ?_;unfold storeAll;rw[NO];split at q2
 ·rename_i hw' hg;obtain⟨rfl,ks,hks,q2⟩:=q2;have U2:=RD.mono (k2.stb rg1) _ _ rd1;obtain⟨b,rfl,sq⟩:=sf hks U2;cases rox;obtain⟨ho,e,r⟩:=rgb _ _ hg;cases ho with
  | ext φ=>
   obtain⟨xs,rfl,rt,nd,_⟩:=r;have e0:xs=[]:=by
    have:=rt.length;exact length_eq_zero_iff.mp this.symm
   subst e0;obtain⟨hd2,dd⟩:=xT I3 e rt nd;refine LA (LA (QG (hsz:=Mg _) (show X.A.units < Mp by walk_at "o") (key_at I3 sq) dd fun h' dd' hs=>LD ?_))
   dsimp only;rw[Ow];refine LD ?_;obtain⟨q,es,ep,hq,h2,h3,h4,_,h5⟩:=dd';obtain⟨kp3,rg3⟩:=xJ (a:=s.heap.objs.size) (o:=.dT (ah X.prog X.w) (bF [] ks (val y))) (ho:=.ext (yh (ah X.prog X.w) s.heap.objs.size (OR [] ks b vv))) rgb (by rw[hg];exact fun z=>nomatch z)
    fun H' st=>⟨_,rfl,(rt.put ks sq rd2 roy).mono st,nH ks (val y) nd,by have:=fM ([]:List (List aH×D)) ks (val y);have hs:=ak;simp only[Mv]at this;omega⟩
   exact⟨.ref _,_,si I3 (by rw[e];exact True.intro) hs ⟨q,hq⟩ (qK ⟨hd2,q,es,ep,hq,h2,h3,h4⟩),rfl,kk _ _ _ _ q2 (kp.trans (k1.trans (k2.trans kp3))) rg3 (.of iD)⟩
  | _=>exact r.elim
 ·exact q2.elim
end
def Ee(x:D):List D->Nat
 | []=>0
 | d::r=>if eJ d x then 0 else Ee x r+1
def Ic(to:bH)(ta:pL):bH:=fun σ G Q=>to σ G fun x G1=>match x with
 | .lst ds=>ta σ G1 fun es G2=>match es with
  | [y]=>(pl 7 y/\(∀ d∈ds,pl 7 d)/\y∈ds)/\Q (.int (Ee y ds)) G2
  | _=>False
 | _=>False
def Ib(sp:cX)(to:bH):bH:=fun σ G Q=>to σ G fun x G1=>match n6 G1 (val x) with
 | some ds=>∃ ks r,SortBy sp G1 ds ks r/\∀ p:List Nat,p.Perm (List.range ds.length)->(p.map r).Pairwise (·<=·)->Q (.fl (p.map fun i=>ds.getD i .non)) G1
 | none=>False
section
variable{X:Cx}{pins:List (LB×Obj)}{τ:St}{H H0:Hp}{s:LF}{G:Gp}{E:LC->LF->Prop}
 {k:Nat} {f:LB} {fd:LO} {ps:List Str} {sp:cX} {ds ks:List D} {r:Nat->Nat} {vs:List V} {us:List LC}
end
def tm(c:Bool):Nat:=if c then 31 else 7
def Tb(c:Bool)(pl:Array Nat)(led plain:Bool):SetTable:={ mask:=tm c,place:=pl,dummies:=#[],finger:=0,led:=led,moves:=if c then 1 else 0,plain:=plain }
abbrev Pb:=SetTable.Probe
def look(c:Bool)(pl:Array Nat)(hs:Nat->Int)(same:Nat->Bool)(h:Int):Nat->Pb->Option (Option Nat)
 | 0,_=>none
 | f+1,p=>match (Tb c pl false false).probe hs h p with
  | none=>none
  | some (.empty j _)=>some (some j)
  | some (.candidate _ i next)=>if same i then some none else look c pl hs same h f next
def Lk(es:Array (Int×LC))(ep:Nat)(t:SetTable):Obj:={ cls:=.type "set",dict:=none,data:=.set es ep t }
section
variable{prog:LS}{w:L6}{κ:Type}[DecidableEq κ]{kn:KeyKind prog w κ}{A:LY}{E:LC->LF->Prop}{s:LF}{a b:LB}
abbrev hK(kn:KeyKind prog w κ):List κ->Int:=tupleKeyHash kn
def Lp(kn:KeyKind prog w κ)(xs:List (List κ×LB)):Array (Int×LC):=(xs.map fun x=>(hK kn x.1,Value.ref x.2)).toArray
end
set_option maxRecDepth 100000
def Lx(first:LC)(i n ep:Nat)(S:LB):Obj:={ cls:=.type "set_iterator",data:=.fields #[first,.int i 0,.ref S,.int n 0,.int ep 0] }
set_option maxRecDepth 100000
set_option maxRecDepth 100000
set_option maxRecDepth 100000
def zH(x:Str×Int):D:=.tup [.str x.1,.int x.2]
def yg(a b:Str×Int):Bool:=if a.1=b.1 then decide (a.2 < b.2)else decide (a.1.cps.toList < b.1.cps.toList)
theorem wo:STO (fun a b:List Nat=>decide (a < b)):=by
 have e:(fun a b:List Nat=>decide (a < b))=tM xm:=by funext a b;exact (o0 a b).symm
 rw[e];exact xq xl
theorem nK:STO yg where
 irrefl:=fun a=>by simp[yg]
 trans:=fun a b c h1 h2=>by
  unfold yg at *
  by_cases p1:a.1=b.1
  ·rw[if_pos p1]at h1
   by_cases p2:b.1=c.1
   ·rw[if_pos p2]at h2;rw[if_pos (p1.trans p2)];simp only[decide_eq_true_eq]at *
    omega
   ·rw[if_neg p2]at h2;rw[p1,if_neg p2];exact h2
  ·rw[if_neg p1]at h1
   by_cases p2:b.1=c.1
   ·rw[<- p2,if_neg p1];exact h1
   ·rw[if_neg p2]at h2;have h3:=wo.trans _ _ _ h1 h2;rw[if_neg (fun e=>by rw[e,wo.irrefl]at h3;cases h3)]
    exact h3
 tot:=fun a b h1 h2=>by
  unfold yg at *
  by_cases p1:a.1=b.1
  ·rw[if_pos p1]at h1;rw[if_pos p1.symm]at h2;simp only[decide_eq_false_iff_not]at *
   exact Prod.ext p1 (by walk_at "o")
  ·rw[if_neg p1]at h1;rw[if_neg (Ne.symm p1)]at h2;have e:a.1.cps=b.1.cps:=Array.toList_inj.mp (wo.tot _ _ h1 h2);refine absurd ?_ p1;cases h:a.1;cases h':b.1;rw[h,h']at e;simp only at e;rw[e]
theorem Jc(a b:Str×Int):jh 4 (zH a) (zH b)=yg a b:=by
 show cU (jh 3) [.str a.1,.int a.2] [.str b.1,.int b.2]=_
 unfold yg
 by_cases p:a.1=b.1
 ·rw[if_pos p];have e:eJ (.str a.1) (.str b.1)=true:=xP (by rw[p])
  by_cases n:a.2=b.2
  ·have e2:eJ (.int a.2) (.int b.2)=true:=xP (by rw[n])
   show (if eJ (.str a.1) (.str b.1)=true then (if eJ (.int a.2) (.int b.2)=true then cU (jh 3) [] []else _)else _)=_
   rw[if_pos e,if_pos e2,n];simp[cU]
  ·have e2:eJ (.int a.2) (.int b.2)=false:=bO fun z=>n (by injection z)
   simp[cU,e,e2,jh]
 ·rw[if_neg p];have e:eJ (.str a.1) (.str b.1)=false:=bO fun z=>p (by injection z)
  simp[cU,e,jh]
theorem Jd(a b:Str×Int):zJ 4 (zH a) (zH b):=by
 show Ih 3 (zJ 3) [.str a.1,.int a.2] [.str b.1,.int b.2]
 exact⟨⟨trivial,trivial⟩,fun _=>trivial,⟨trivial,trivial⟩,fun _=>trivial,trivial⟩
def Srt(l:List (Str×Int)):Prop:=l.Pairwise fun a b=>yg b a=false
theorem srt_uniq:∀ {L M:List (Str×Int)},L.Perm M->Srt L->Srt M->L=M
 | [],M,p,_,_=>(List.nil_perm.mp p).symm
 | a::L,[],p,_,_=>absurd p.length_eq (by simp)
 | a::L,b::M,p,h1,h2=>by
  unfold Srt at h1 h2;rw[List.pairwise_cons]at h1 h2;have e:a=b:=by
   rcases L_.mp (p.mem_iff.mp LV)with e|m1
   ·exact e
   ·rcases L_.mp (p.mem_iff.mpr LV)with e|m2
    ·exact e.symm
    ·exact nK.tot _ _ (h2.1 a m1) (h1.1 b m2)
  subst e;rw[srt_uniq ((List.perm_cons a).mp p) h1.2 h2.2]
def uy(l:List (Str×Int)):List (Str×Int):=Classical.epsilon fun L=>L.Perm l/\Srt L
theorem AX{l M:List (Str×Int)}(h:M.Perm l)(s:Srt M):uy l=M:=by
 have e:=Classical.epsilon_spec (p:=fun L:List (Str×Int)=>L.Perm l/\Srt L) ⟨M,h,s⟩;exact srt_uniq (e.1.trans h.symm) e.2 s
section
variable{X:Cx}{pins:List (LB×Obj)}{τ:St}{H H0:Hp}{s:LF}{G:Gp}
def D9(d:D):Prop:=∃ t r,d=.tup (.str t::r)
theorem JY(I:L2.Inv X pins τ H s){A:LY}(hu:A.units+4 < Mp){kx ky:D}{v u:V}{v' u':LC}(cp:zJ 4 kx ky)(hx:D9 kx)(hy:D9 ky)(rx:RD X.K H kx v)(ry:RD X.K H ky u)(lx:aJ v v')(ly:aJ u u'){C:Bool->LF->Prop}{E:LC->LF->Prop}
  (q:C (jh 4 kx ky) s):LJ (LN X.prog X.w) A (keyLt' (QU true) v' u') C E s:=by
 obtain⟨i,r,rfl⟩:=hx;obtain⟨j,t,rfl⟩:=hy;simp only[RD]at rx ry;obtain⟨a,xs,rfl,s1,r1⟩:=rx;obtain⟨b,ys,rfl,s2,r2⟩:=ry;cases lx;cases ly;obtain⟨its,w1,⟨o1,h1,c1,n1,d1⟩,z1⟩:=I.tuple s1;obtain⟨its2,w2,⟨o2,h2,c2,n2,d2⟩,z2⟩:=I.tuple s2;refine kat_lt h1 d1 h2 d2 ?_;have l1:=w1.length;have l1':=r1.length;have l2:=w2.length;have l2':=r2.length;obtain⟨x1,t1,e1,g1,g2⟩:=RDs.inv_cons (d:=.str i) (ds:=r) r1;subst e1;obtain⟨x2,t2,e2,f1,f2⟩:=RDs.inv_cons (d:=.str j) (ds:=t) r2;subst e2;simp only[RD]at g1 f1;subst g1 f1;cases w1 with
 | @cons _ u1 _ m1 k1 w1=>
 cases w2 with
 | @cons _ u2 _ m2 k2 w2=>
  obtain⟨tk,rfl⟩:=k1;obtain⟨tk',rfl⟩:=k2;obtain⟨p,c,z⟩:=(show Ih 3 (zJ 3) (.str i::r) (.str j::t)from cp)
  have q':C (cU (jh 3) (.str i::r) (.str j::t)) s:=q;show KatLex _ _ _ _ _ _ ((_::m1).zip (_::m2)) 0 s
  rw[NF];refine kat_cons ((um I 3 (x:=.str i) (y:=.str j) (v:=.str i) (u:=.str j) p.1 p.2 iC iC ⟨tk,rfl⟩ ⟨tk',rfl⟩ (by walk_at "o")).eq X.prog X.w _ _ (kat_go (fun e=>kat_yes ?_) fun e=>kat_no ?_))
  ·rw[show cU (jh 3) (.str i::r) (.str j::t)=cU (jh 3) r t by simp[cU,e]]at q'
   simp only[L0]at l1 l1' l2 l2';exact Ea I (by walk_at "o") (by simp) z g2 f2 w1 w2 (by simp only[LM,L0];omega) q'
  ·rw[show cU (jh 3) (.str i::r) (.str j::t)=jh 3 (.str i) (.str j)by simp[cU,e]]at q'
   show LJ _ _ (oneLt' true _ _) _ _ _
   exact oneLt_str q'
theorem HH(I:L2.Inv X pins τ H s){A:LY}{E:LC->LF->Prop}{Q:SortKind->LF->Prop}{ks:List D}{kv:List V}{ku:List LC}(hk:∀ d∈ks,D9 d)(r:RDs X.K H ks kv)(w:Vals kv ku)(hn:0 < ks.length)(q:Q (QU true) s):
  LJ (LN X.prog X.w) A (keyKind' ku.toArray) Q E s:=by
 have go:∀ {ks:List D} {kv:List V} {ku:List LC},(∀ d∈ks,D9 d)->RDs X.K H ks kv->Vals kv ku->∃ fs,KatTups s.heap ku fs/\fs.length=ks.length/\∀ v∈fs,∃ i t,v=Value.str i t:=by
  intro ks
  induction ks with
  | nil=>
   intro kv ku _ r w;rw[r.inv_nil]at w;cases w;exact⟨[],KatTups.nil,rfl,fun v hv=>by simp at hv⟩
  | cons d t ih=>
   intro kv ku hk r w;obtain⟨x1,t1,e1,g1,g2⟩:=r.inv_cons;subst e1;cases w with
   | cons k1 w=>
    obtain⟨fs,h1,h2,h3⟩:=ih (fun d hd=>hk d (LU _ hd)) g2 w;obtain⟨i,rr,rfl⟩:=hk d LV;simp only[RD]at g1;obtain⟨a,xs,rfl,s1,r1⟩:=g1;cases k1;obtain⟨its,w1,⟨o1,e1,c1,n1,d1⟩,z1⟩:=I.tuple s1;obtain⟨y1,u1,e2,g3,_⟩:=RDs.inv_cons (d:=.str i) (ds:=rr) r1;subst e2;simp only[RD]at g3;subst g3;cases w1 with
    | cons k2 w1=>
     obtain⟨tk,rfl⟩:=k2;refine⟨.str i tk::fs,KatTups.cons e1 c1 d1 (by simp) h1,by simp[h2],fun v hv=>?_⟩
     rcases L_.mp hv with rfl|hv
     ·exact⟨i,tk,rfl⟩
     ·exact h3 v hv
 obtain⟨fs,h1,h2,h3⟩:=go hk r w;refine kat_kind (T:=.type "str") h1 (by walk_at "o") (fun v hv=>?_) (by decide) ?_
 ·obtain⟨i,t,rfl⟩:=h3 v hv;exact Looks.of_pure rfl
 ·rw[show (Value.type "str" != Value.type "tuple")=true by decide]
  exact q
end
section
variable{X:Cx}{pins:List (LB×Obj)}{τ:St}{H H0:Hp}{s:LF}{G:Gp}{D0:LB}{A:LY}{E:LC->LF->Prop}{P:PySem.Fin->LF->Prop}{ds:List D}{r:Nat->Nat}{vs:List V}{us:List LC}
theorem BE(I:L2.Inv X pins τ H s)(rg:RG X.K H G)(kp:Kp G H0 G H)(nD:H0 D0=none)(gD:G D0=none){n:Nat}(hu:A.units+4 < Mp)
  (eD:H D0=some (XO D0 (MA "list" us.toArray n))) (rd:RDs X.K H ds vs) (wv:Vals vs us) (few:ds.length < 64) (hk:∀ d∈ds,D9 d) (hc:∀ a∈ds,∀ b∈ds,zJ 4 a b) (hr:∀ i j a b,ds[i]?=some a->ds[j]?=some b->jh 4 a b=decide (r i < r j))
  (q:∀ (p:List Nat) H' s',p.Perm (List.range ds.length)->(p.map r).Pairwise (·<=·)->L2.Inv X pins τ H' s'->Kp G H0 G H'->RG X.K H' G->H' D0=some (.lst (p.map fun i=>vs.getD i .non))->Stb X.K H H'->P (.done (.ret .none)) s'):
  LJ (LN X.prog X.w) A (Builtin.«list.sort» ⟨[.ref D0],[]⟩) P E s:=by
 have l1:=rd.length;have l2:=wv.length;have oD:=kC I eD;have mu:CD (H D0):=by rw[eD];exact trivial
 have e2:=NL oD (fun _=>(#[]:Array LC));generalize (if ((#[]:Array LC).size == us.toArray.size)=true then n else n+1)=e1 at e2
 have I1:=pz (t':=s.toks) I eD e2;have I2:L2.Inv X pins τ (bv H D0 (XO D0 (MA "list" #[] e1))) { s with heap:=((s.heap.update D0 (Mt fun _=>(#[]:Array LC))).push (MA "tuple" us.toArray 0)).push (MA "list" #[] 0) }:=I1.kept (t':=s.toks) fun b u e=>LH _ (LH _ e)
 have st1:Stb X.K H (bv H D0 (XO D0 (MA "list" #[] e1))):=jv mu;have rd2:=RDs.mono st1 _ _ rd;have eD2:(bv H D0 (XO D0 (MA "list" #[] e1))) D0=some (XO D0 (MA "list" #[] e1)):=aM;have mu2:CD ((bv H D0 (XO D0 (MA "list" #[] e1))) D0):=by rw[eD2];exact trivial
 have fin:∀ (p:List Nat) (st:SortSt),p.Perm (List.range ds.length)->(p.map r).Pairwise (·<=·)->(arrOf st).map (·.2)=(p.map fun i=>us.getD i Value.none).toArray->PH st=none->
   LJ (LN X.prog X.w) A (do
    let touched:=(<- seqEpoch D0) != e1
    Qa (.ref D0) fun _=>(arrOf st).map (·.2)
    if let some e:=PH st then rule "list.sort.comparison-raised";throw e
    if touched then rule "list.sort.modified";raiseError "ValueError" "list modified during sort"
    ret .none) P E { s with heap:=((s.heap.update D0 (Mt fun _=>(#[]:Array LC))).push (MA "tuple" us.toArray 0)).push (MA "list" #[] 0) }:=by
  intro p st hp hs ha hf;have oD2:=kC I2 eD2;have inr:∀ i∈p,i < vs.length:=fun i hi=>by rw[<- l1];exact mem_range.mp (hp.mem_iff.mp hi)
  have lp:p.length=ds.length:=by rw[hp.length_eq,List.length_range]
  have hv:Vals (p.map fun i=>vs.getD i .non) (p.map fun i=>us.getD i Value.none):=tL wv inr;have e3:=NL oD2 (fun _=>(p.map fun i=>us.getD i Value.none).toArray);rw[ha,hf];refine LA (Pm oD2 rfl ?_);refine LA (N4 oD2 rfl ?_ (Mg _) (by rw[LM,LG,lp,Mh];omega))
  simp only[bne_self_eq_false,Bool.false_eq_true,if_false];have I3:=I2.write (x:=D0) (e:=D0) (o:=.lst (p.map fun i=>vs.getD i .non)) (t':=s.toks) mu2 (.inl rfl) (fun b u hb hu=>(MI _ (Mt fun _=>(p.map fun i=>us.getD i Value.none).toArray) (Ne.symm hb)).trans hu) ⟨_,e3⟩ ⟨by rw[LG,lp,Mh];omega,_,_,hv,e3⟩
  refine LD (q p _ _ hp hs I3 (tX (tX kp nD) nD) (vQ (vQ rg gD mu) gD mu2) aM ?_);exact⟨fun b xs z=>(jv mu2).t _ _ (st1.t _ _ z),fun b xs z=>(jv mu2).l _ _ (st1.l _ _ z)⟩
 rw[list_sort_plain];refine LA (Qf oD rfl ?_);refine LA (N4 oD rfl ?_ (by rw[LM,Mh];omega) (Mg _))
 refine LA (Pm e2 rfl ?_);refine LA (Og ?_ (by show us.length<=_;rw[Mh];omega))
 refine LA (OZ ?_ (Mg _));refine Mi ?_;dsimp only
 by_cases h2:us.length < 2
 ·have hs:us.toArray.size < 2:=by rw[LM];exact h2
  rw[if_pos hs,if_pos hs];refine LA (LD ?_);refine LA (LD ?_);refine fin (List.range ds.length) (SortSt.mk' general' (us.toArray.zip us.toArray) #[] 7 none) (List.Perm.refl _) ?_ ?_ rfl
  ·have:ds.length=0\/ds.length=1:=by walk_at "o"
   rcases this with e|e<;>rw[e]<;>simp[List.range_succ]
  ·apply Array.toList_inj.mp;show ((us.toArray.zip us.toArray).map (·.2)).toList=_
   rw[Array.toList_map,ksk_zip,show ds.length=us.length by walk_at "o",range_getD]
   simp[List.map_snd_zip]
 ·have hs:¬ us.toArray.size < 2:=by rw[LM];exact h2
  rw[if_neg hs,if_neg hs];obtain⟨p,ep,hp,adj⟩:=AY r us.length (by walk_at "o")
  refine LA (HH I2 hk rd2 wv (by walk_at "o") ?_)
  refine LA (MC (kat_run (Q:=fun st' s'=>∃ p':Array Nat,arrOf st'=p'.map (kas_item (us.toArray.zip us.toArray))/\PH st'=none/\s'={ s with heap:=((s.heap.update D0 (Mt fun _=>(#[]:Array LC))).push (MA "tuple" us.toArray 0)).push (MA "list" #[] 0) }/\p'=p) rfl (by walk_at "o") (by walk_at "o") (G:=fun p' s'=>s'={ s with heap:=((s.heap.update D0 (Mt fun _=>(#[]:Array LC))).push (MA "tuple" us.toArray 0)).push (MA "list" #[] 0) }/\p'=p)
   (fun p' st' s' a1 a2 a3 a4=>⟨p',a2,a3,a4.1,a4.2⟩) ?_) ?_ fun _ _ x=>x)
  ·refine KasT.walked (lt:=mK r) (J:=fun s'=>s'={ s with heap:=((s.heap.update D0 (Mt fun _=>(#[]:Array LC))).push (MA "tuple" us.toArray 0)).push (MA "list" #[] 0) }) (fun i j C s' hi hj e c=>?_) _ _ (AZ (by walk_at "o")) rfl fun s' e _=>⟨e,ep⟩
   subst e;unfold kas_ask;obtain⟨v1,f1,g1⟩:=Vals.getV (i:=i) (u:=us[i]'(by walk_at "o")) wv (by simp)
   obtain⟨v2,f2,g2⟩:=Vals.getV (i:=j) (u:=us[j]'(by walk_at "o")) wv (by simp)
   obtain⟨d1,b1,c1⟩:=RDs.getV rd2 f1;obtain⟨d2,b2,c2⟩:=RDs.getV rd2 f2;have m1:=LZ b1;have m2:=LZ b2;rw[show us.getD i Value.none=us[i]'(by walk_at "o")by simp[show i < us.length by walk_at "o"],show us.getD j Value.none=us[j]'(by walk_at "o")by simp[show j < us.length by walk_at "o"]]
   refine JY I2 hu (hc _ m1 _ m2) (hk _ m1) (hk _ m2) c1 c2 g1 g2 ?_;rw[hr i j d1 d2 b1 b2];exact c _ rfl
  ·rintro⟨⟨⟩,st'⟩ s' ⟨p',har,hf,rfl,rfl⟩
   dsimp only;refine fin p'.toList st' (by rw[show ds.length=us.length by walk_at "o"];exact hp) ?_ (kat_snds rfl har) hf
   have lp:p'.toList.length=us.length:=by rw[hp.length_eq,List.length_range]
   rw[Oc,List.pairwise_iff_getElem];intro i j hi hj hij;have h:=adj.le (le_of_lt hij) (by walk_at "o")
   unfold RR at h;have gi:p'.getD i 0=p'.toList[i]:=by
    have:i < p'.size:=by simpa using hi
    simp[Array.getD,this]
   have gj:p'.getD j 0=p'.toList[j]:=by
    have:j < p'.size:=by simpa using hj
    simp[Array.getD,this]
   rw[gi,gj]at h;exact h
end
structure InsAsk(K:PySem.W.Frag)(C:LB):Prop where
 cl:Cls K C
 ca:PySem.W.findIn K (.ref C) "__class__"=some (some (.builtin "object.__class__"))
 gs:PySem.W.specialIn K (.builtin "object.__class__") "__get__"=some (some (.builtin "getset_descriptor.__get__"))
 tk:QV K (.builtin "object.__class__")=some true
 mo:P0 K C (.type "object")=some true
def x_(cs:List (LB×Bool))(c:LB):BA:=fun ds G Q=>match ds with
 | [.ref a,.ref c']=>c'=c/\match G a with
  | some (.ins C _ _)=>∃ b,(C,b)∈cs/\Q (.bl b) G
  | _=>False
 | _=>False
theorem wV{X:Cx}{nm:Str}{C:LB}{pos:Pos}(hg:Gl X nm)(hm:X.mg nm=some (.ref C))(hd:(nm == ("__debug__":Str))=false:=by decide):PE X (.Name nm pos) (aE X.K (eC (.ref C))):=A_ (v:=.ref C) hg hm rfl (fun _=>by simp only[RD]) hd
theorem Bu{X:Cx}{cs:List (LB×Bool)}{c:LB}(tab:∀ p∈cs,InsAsk X.K p.1/\MU X.K (.ref p.1) (.ref c)=some p.2):fb X (.builtin "isinstance") (oZ X.K (x_ cs c)):=by
 rintro pins s σ H vs us Q I rv ⟨ds,G,Q3,rds,rg,h,kk⟩
 unfold x_ at h;split at h
 ·rename_i a c';obtain⟨rfl,h⟩:=h;split at h
  ·rename_i C L es hg;obtain⟨b,hb,hq⟩:=h;obtain⟨v,t,e,h1,h2⟩:=rds.inv_cons;obtain⟨u2,e2,h3⟩:=hJ h2;simp only[RD]at h1 h3;subst e e2 h1 h3;obtain⟨u,w',rfl,ru,rw'⟩:=Gj rv;cases ru;cases rw';obtain⟨ho,e1,ro⟩:=rg a _ hg;cases ho with
   | ins C2 dx gs=>
    obtain⟨rfl,r2,r3⟩:=ro;obtain⟨t1,t2⟩:=tab _ hb;exact Cf (x:=V.ref a) I rfl (TyOf.ins e1 t1.cl t1.ca t1.gs t1.tk t1.mo) t2 fun tk=>⟨.bl _,H,I.tok tk,rfl,kk _ G _ H hq Kp.refl rg (.of h8)⟩
   | _=>exact ro.elim
  ·exact h.elim
 ·exact h.elim
end L3
namespace RQ
open PySem PySem.Spec PyProof.Rows L2 L3
structure Rw where
 pen:Str
 num:Int
 time:Int
 act:D
instance:Inhabited Rw:=⟨⟨"",0,0,.non⟩⟩
def Rw.d(r:Rw):D:=.tup [.tup [.str r.pen,.int r.num],.int r.time,r.act]
def Rw.key(r:Rw):D:=.tup [.int r.time,.tup [.str r.pen,.int r.num]]
def Rw.ok(r:Rw):Prop:=pl 4 r.act
def Rw.lt(a b:Rw):Bool:=if a.time=b.time then (if a.pen=b.pen then decide (a.num < b.num)else decide (a.pen.cps.toList < b.pen.cps.toList))else decide (a.time < b.time)
def iG(rs:List Rw):Prop:=rs.Pairwise fun a b=>a.lt b=true
def my(a b:Rw):Prop:=¬ (a.pen=b.pen/\a.num=b.num)
def mL(rs:List Rw):Prop:=∀ a∈rs,∀ b∈rs,a.pen=b.pen->a.num=b.num->a=b
abbrev HW:=List aH->Int
open PySem.W (SWO STO tM xm xl xq o0 rankIn rank_lt)
theorem xW:STO (fun a b:List Nat=>decide (a < b)):=by
 have e:(fun a b:List Nat=>decide (a < b))=tM xm:=by funext a b;exact (o0 a b).symm
 rw[e];exact xq xl
theorem F5{x y:Str}(h:x.cps.toList=y.cps.toList):x=y:=by
 cases x;cases y;simp only at h;rw[Array.toList_inj.mp h]
theorem lt_irrefl(a:Rw):a.lt a=false:=by simp[Rw.lt]
theorem lt_trans(a b c:Rw)(h1:a.lt b=true)(h2:b.lt c=true):a.lt c=true:=by
 unfold Rw.lt at *
 by_cases e1:a.time=b.time
 ·rw[if_pos e1]at h1
  by_cases e2:b.time=c.time
  ·rw[if_pos e2]at h2;rw[if_pos (e1.trans e2)]
   by_cases p1:a.pen=b.pen
   ·rw[if_pos p1]at h1
    by_cases p2:b.pen=c.pen
    ·rw[if_pos p2]at h2;rw[if_pos (p1.trans p2)];simp only[decide_eq_true_eq]at *
     omega
    ·rw[if_neg p2]at h2;rw[p1,if_neg p2];exact h2
   ·rw[if_neg p1]at h1
    by_cases p2:b.pen=c.pen
    ·rw[<- p2,if_neg p1];exact h1
    ·rw[if_neg p2]at h2;have h3:=xW.trans _ _ _ h1 h2;rw[if_neg (fun e=>by rw[e,xW.irrefl]at h3;cases h3)]
     exact h3
  ·rw[if_neg e2]at h2;rw[e1,if_neg e2];exact h2
 ·rw[if_neg e1]at h1
  by_cases e2:b.time=c.time
  ·rw[<- e2,if_neg e1];exact h1
  ·rw[if_neg e2]at h2;simp only[decide_eq_true_eq]at *
   rw[if_neg (by walk_at "o")]
   simp only[decide_eq_true_eq];omega
theorem D5(a b:Rw)(h1:a.lt b=false)(h2:b.lt a=false):a.pen=b.pen/\a.num=b.num/\a.time=b.time:=by
 unfold Rw.lt at *
 by_cases e1:a.time=b.time
 ·rw[if_pos e1]at h1;rw[if_pos e1.symm]at h2
  by_cases p1:a.pen=b.pen
  ·rw[if_pos p1]at h1;rw[if_pos p1.symm]at h2;simp only[decide_eq_false_iff_not]at *
   exact⟨p1,by walk_at "o",e1⟩
  ·rw[if_neg p1]at h1;rw[if_neg (Ne.symm p1)]at h2;exact absurd (F5 (xW.tot _ _ h1 h2)) p1
 ·rw[if_neg e1]at h1;rw[if_neg (Ne.symm e1)]at h2;simp only[decide_eq_false_iff_not]at *
  omega
theorem D6{a b:Rw}(h:a.lt b=true):b.lt a=false:=by
 cases e:b.lt a with
 | false=>rfl
 | true=>have:=lt_trans _ _ _ h e;rw[lt_irrefl]at this;cases this
theorem FG{a b c:Rw}(p:a.pen=b.pen)(n:a.num=b.num)(t:a.time=b.time):a.lt c=b.lt c/\c.lt a=c.lt b:=by
 unfold Rw.lt;rw[p,n,t];exact⟨rfl,rfl⟩
theorem C_:SWO Rw.lt where
 irrefl:=lt_irrefl
 trans:=lt_trans
 neg:=fun a b c h=>by
  cases e:a.lt b with
  | true=>exact .inl rfl
  | false=>
   cases e2:b.lt c with
   | true=>exact .inr rfl
   | false=>
    cases e3:b.lt a with
    | true=>have:=lt_trans _ _ _ e3 h;rw[e2]at this;cases this
    | false=>
     obtain⟨p,n,t⟩:=D5 a b e e3;rw[(FG (c:=c) p n t).1,e2]at h;cases h
theorem ju:∀ {xs ys:List Rw},iG xs->iG ys->(∀ r,r∈xs↔r∈ys)->xs=ys
 | [],ys,_,_,h=>by
  cases ys with
  | nil=>rfl
  | cons y t=>have:=(h y).mpr LV;simp at this
 | x::xs,[],_,_,h=>by have:=(h x).mp LV;simp at this
 | x::xs,y::ys,h1,h2,h=>by
  unfold iG at h1 h2;rw[List.pairwise_cons]at h1 h2;have hxy:x=y:=by
   rcases L_.mp ((h x).mp LV)with e|m1
   ·exact e
   ·rcases L_.mp ((h y).mpr LV)with e|m2
    ·exact e.symm
    ·have a1:=h2.1 x m1;have a2:=h1.1 y m2;rw[D6 a1]at a2;cases a2
  subst hxy;have nx:x∉xs:=fun m=>by have:=h1.1 x m;rw[lt_irrefl]at this;cases this
  have ny:x∉ys:=fun m=>by have:=h2.1 x m;rw[lt_irrefl]at this;cases this
  rw[ju h1.2 h2.2 fun r=>⟨fun m=>?_,fun m=>?_⟩]
  ·rcases L_.mp ((h r).mp (LU _ m))with e|m'
   ·subst e;exact absurd m nx
   ·exact m'
  ·rcases L_.mp ((h r).mpr (LU _ m))with e|m'
   ·subst e;exact absurd m ny
   ·exact m'
theorem fQ{xs:List Rw}(h:iG xs):xs.Nodup:=List.Pairwise.imp (fun {a b} q e=>by subst e;rw[lt_irrefl]at q;cases q) h
theorem rl{xs:List Rw}(h:xs.Pairwise my):xs.Nodup:=List.Pairwise.imp (fun {a b} q e=>by subst e;exact q ⟨rfl,rfl⟩) h
open Classical in
theorem ic:∀ {xs ys:List Rw},xs.Nodup->(∀ r∈xs,r∈ys)->xs.length<=ys.length
 | [],_,_,_=>Mg _
 | x::xs,ys,h,s=>by
  rw[Nv]at h;have hx:=s x LV;have:=ic (ys:=ys.erase x) h.2 fun r hr=>(List.mem_erase_of_ne (fun e=>by subst e;exact h.1 hr)).mpr (s r (LU _ hr))
  rw[List.length_erase_of_mem hx]at this;have hp:0 < ys.length:=List.length_pos_of_mem hx;rw[L0];omega
theorem wb{rs:List Rw}(h:rs.Pairwise my):mL rs:=by
 induction h with
 | nil=>intro a ha;simp at ha
 | @cons x xs h1 h2 ih=>
  intro a ha b hb p n;rcases L_.mp ha with e|ha
  ·rcases L_.mp hb with e'|hb
   ·rw[e,e']
   ·rw[e]at p n;exact absurd ⟨p,n⟩ (h1 b hb)
  ·rcases L_.mp hb with e|hb
   ·rw[e]at p n;exact absurd ⟨p.symm,n.symm⟩ (h1 a ha)
   ·exact ih a ha b hb p n
theorem HL(a b:Rw):jh 4 a.key b.key=a.lt b:=by
 show cU (jh 3) [.int a.time,.tup [.str a.pen,.int a.num]] [.int b.time,.tup [.str b.pen,.int b.num]]=_
 unfold Rw.lt
 by_cases e:a.time=b.time
 ·rw[if_pos e];have h1:eJ (.int a.time) (.int b.time)=true:=by rw[e];exact bc _
  rw[show cU (jh 3) [.int a.time,.tup [.str a.pen,.int a.num]] [.int b.time,.tup [.str b.pen,.int b.num]]=cU (jh 3) [.tup [.str a.pen,.int a.num]] [.tup [.str b.pen,.int b.num]]by simp[cU,h1]]
  have inner:jh 3 (.tup [.str a.pen,.int a.num]) (.tup [.str b.pen,.int b.num])=if a.pen=b.pen then decide (a.num < b.num)else decide (a.pen.cps.toList < b.pen.cps.toList):=by
   show cU (jh 2) [.str a.pen,.int a.num] [.str b.pen,.int b.num]=_
   by_cases p:a.pen=b.pen
   ·have h2:eJ (.str a.pen) (.str b.pen)=true:=by rw[p];exact bc _
    rw[if_pos p]
    by_cases n:a.num=b.num
    ·have h3:eJ (.int a.num) (.int b.num)=true:=by rw[n];exact bc _
     simp[cU,h2,n,bc]
    ·have h3:eJ (.int a.num) (.int b.num)=false:=bO (by simpa using n)
     simp[cU,h2,h3,jh]
   ·have h2:eJ (.str a.pen) (.str b.pen)=false:=bO (by simpa using p)
    rw[if_neg p];simp[cU,h2,jh]
  by_cases t:(D.tup [.str a.pen,.int a.num])=.tup [.str b.pen,.int b.num]
  ·have h2:=xP t;simp only[D.tup.injEq,List.cons.injEq,D.str.injEq,D.int.injEq,and_true]at t;simp[cU,t.1,t.2,bc]
  ·rw[<- inner];simp[cU,bO t]
 ·rw[if_neg e];have h1:eJ (.int a.time) (.int b.time)=false:=bO (by simpa using e)
  simp[cU,h1,jh]
theorem HP(a b:Rw):zJ 4 a.key b.key:=by
 refine⟨⟨trivial,trivial⟩,fun _=>trivial,⟨fun d hd=>?_,fun d hd=>?_⟩,fun _=>?_,trivial⟩
 ·simp only[L_,L8,or_false]at hd;rcases hd with rfl|rfl<;>trivial
 ·simp only[L_,L8,or_false]at hd;rcases hd with rfl|rfl<;>trivial
 ·exact⟨⟨trivial,trivial⟩,fun _=>trivial,⟨trivial,trivial⟩,fun _=>trivial,trivial⟩
def qS(r:Rw):List aH:=[.inr r.pen,.inl r.num]
def qB(r:Rw):List aH×D:=(qS r,r.d)
theorem vV{a b:Rw}:qS a=qS b↔a.pen=b.pen/\a.num=b.num:=by
 simp[qS]
theorem He{vs:List Rw}{r:Rw}(h:r∈vs)(o:∀ a∈vs,a.pen=r.pen->a.num=r.num->a=r):bF (vs.map qB) (qS r) r.d=vs.map qB:=by
 unfold bF;rw[if_pos (by rw[List.any_eq_true];exact⟨qB r,List.mem_map_of_mem h,decide_eq_true rfl⟩),Mn]
 refine MR fun a ha=>?_;simp only[Function.comp_apply];split
 ·rename_i e;obtain⟨p,n⟩:=vV.mp e;have:=o a ha p n;subst this;rfl
 ·rfl
theorem put_new{vs:List Rw}{r:Rw}(h:∀ a∈vs,my a r):bF (vs.map qB) (qS r) r.d=(vs ++ [r]).map qB:=by
 unfold bF;rw[if_neg]
 ·rw[MB];rfl
 ·rw[Bool.not_eq_true,List.any_eq_false];intro kv hkv;obtain⟨a,ha,rfl⟩:=mem_map.mp hkv;simp only[decide_eq_true_eq];intro e;exact h a ha (vV.mp e)
theorem CY{vs:List Rw}(hv:vs.Pairwise my){p:List Nat}(hp:p.Perm (List.range vs.length))(hs:(p.map fun i=>rankIn Rw.lt vs (vs.getD i default)).Pairwise (·<=·)):
  iG (p.map fun i=>vs.getD i default)/\∀ r,r∈(p.map fun i=>vs.getD i default)↔r∈vs:=by
 have inr:∀ i∈p,i < vs.length:=fun i hi=>mem_range.mp (hp.mem_iff.mp hi);have gm:∀ i,i < vs.length->vs.getD i default∈vs:=fun i hi=>by rw[LW,LP hi];exact Nx hi
 constructor
 ·unfold iG;rw[Oc]at hs ⊢;have nd:p.Nodup:=hp.nodup_iff.mpr List.nodup_range;refine (hs.and nd).imp_of_mem fun {i j} hi hj h=>?_;have li:=inr i hi;have lj:=inr j hj;have nlt:(vs.getD j default).lt (vs.getD i default)=false:=by
   rw[rank_lt C_ (gm j lj),decide_eq_false_iff_not,not_lt];exact h.1
  cases e:(vs.getD i default).lt (vs.getD j default) with
  | true=>rfl
  | false=>
   obtain⟨pp,nn,_⟩:=D5 _ _ e nlt;have ap:my (vs.getD i default) (vs.getD j default):=by
    rw[LW,LW,LP li,LP lj];rcases Nat.lt_or_gt_of_ne h.2 with l|l
    ·exact List.pairwise_iff_getElem.mp hv i j li lj l
    ·exact fun z=>List.pairwise_iff_getElem.mp hv j i lj li l ⟨z.1.symm,z.2.symm⟩
   exact absurd ⟨pp,nn⟩ ap
 ·intro r;have e:((List.range vs.length).map fun i=>vs.getD i default)=vs:=L3.range_getD vs default;have q:=hp.map fun i=>vs.getD i default;rw[e]at q;exact q.mem_iff
theorem hV{κ:Type}[DecidableEq κ](k k':κ)(v:D):∀ kvs:List (κ×D),dy (bF kvs k v) k'=if k'=k then some v else dy kvs k':=by
 have go:∀ kvs:List (κ×D),(kvs.any fun kv=>decide (kv.1=k))=true->dy (kvs.map fun kv=>if kv.1=k then (kv.1,v)else kv) k'=if k'=k then some v else dy kvs k':=by
  intro kvs
  induction kvs with
  | nil=>intro h;simp at h
  | cons p r ih=>
   intro h
   by_cases e:p.1=k
   ·by_cases e':k'=k
    ·rw[if_pos e'];simp[dy,Mf,e,e']
    ·rw[if_neg e'];have n1:¬ k=k':=fun z=>e' z.symm;have skip:∀ q:List (κ×D),dy (((p.1,v):κ×D)::q) k'=dy q k':=fun q=>by simp[dy,Mf,e,n1]
     have UO:dy (p::r) k'=dy r k':=by simp[dy,Mf,e,n1]
     rw[L1,if_pos e,skip,UO]
     by_cases hr:(r.any fun kv=>decide (kv.1=k))=true
     ·have:=ih hr;rw[if_neg e']at this;exact this
     ·have:r.map (fun kv=>if kv.1=k then (kv.1,v)else kv)=r:=by
       rw[Bool.not_eq_true,List.any_eq_false]at hr
       conv=>rhs;rw[<- List.map_id r]
       refine MR fun a ha=>?_;have:=hr a ha;simp only[decide_eq_true_eq]at this;rw[if_neg this];rfl
      rw[this]
   ·have hr:(r.any fun kv=>decide (kv.1=k))=true:=by simpa[e]using h
    rw[L1,if_neg e]
    by_cases e2:p.1=k'
    ·have n1:¬ k'=k:=fun z=>e (e2.trans z);rw[if_neg n1];simp[dy,Mf,e2]
    ·have s1:∀ q:List (κ×D),dy (p::q) k'=dy q k':=fun q=>by simp[dy,Mf,e2]
     rw[s1,s1];exact ih hr
 intro kvs;unfold bF
 by_cases h:(kvs.any fun kv=>decide (kv.1=k))=true
 ·rw[if_pos h];exact go kvs h
 ·rw[if_neg h]
  by_cases e':k'=k
  ·rw[if_pos e'];subst e';have hn:dy kvs k'=none:=by
    have:=pJ k' kvs;rw[Bool.not_eq_true]at h;rw[h]at this;cases q:dy kvs k' with
    | none=>rfl
    | some _=>rw[q]at this;cases this
   unfold dy at hn ⊢;rw[List.find?_append];cases q:kvs.find? fun kv=>decide (kv.1=k') with
   | none=>simp
   | some z=>rw[q]at hn;cases hn
  ·rw[if_neg e'];unfold dy;rw[List.find?_append];cases q:kvs.find? fun kv=>decide (kv.1=k') with
   | none=>simp;exact fun z=>e' z.symm
   | some z=>rfl
set_option genInjectivity false in
structure Sl where
 pen:Str
 n:Int
 k:Int
deriving DecidableEq
instance:Inhabited Sl:=⟨⟨"",0,0⟩⟩
def Sl.d(s:Sl):D:=.tup [.str s.pen,.int s.n,.int s.k]
def Sl.key(s:Sl):List aH:=[.inr s.pen,.inl s.n,.inl s.k]
theorem Sl.key_inj{a b:Sl}(h:a.key=b.key):a=b:=by
 obtain⟨a1,a2,a3⟩:=a;obtain⟨b1,b2,b3⟩:=b;simp only[Sl.key,List.cons.injEq,Sum.inr.injEq,Sum.inl.injEq,and_true]at h;obtain⟨rfl,rfl,rfl⟩:=h;rfl
theorem Sl.d_inj{a b:Sl}(h:a.d=b.d):a=b:=by
 obtain⟨a1,a2,a3⟩:=a;obtain⟨b1,b2,b3⟩:=b;simp only[Sl.d,D.tup.injEq,List.cons.injEq,D.str.injEq,D.int.injEq,and_true]at h;obtain⟨rfl,rfl,rfl⟩:=h;rfl
theorem xy(s:Sl):pi s.d=some s.key:=rfl
def aG:Sl:=⟨LI "",0,0⟩
set_option genInjectivity false in
inductive Act where
 | put (a:Sl) (x:Str)
 | strike (ns:List Sl)
 | dress (ns:List Sl) (w:Str)
 | move (ns:List Sl) (a:Sl)
def Act.d:Act->D
 | .put a x=>.tup [.str "put",a.d,.str x]
 | .strike ns=>.tup [.str "strike",.tup (ns.map Sl.d)]
 | .dress ns w=>.tup [.str "dress",.tup (ns.map Sl.d),.str w]
 | .move ns a=>.tup [.str "move",.tup (ns.map Sl.d),a.d]
def Act.many:Act->Nat
 | .put _ x=>x.length
 | .move ns _=>ns.length
 | _=>0
def Act.anch:Act->Sl
 | .put a _=>a
 | .move _ a=>a
 | _=>aG
set_option genInjectivity false in
structure Sk where
 pen:Str
 num:Int
 time:Int
 act:Act
instance:Inhabited Sk:=⟨⟨"",0,0,.strike []⟩⟩
def Sk.rw(s:Sk):Rw:=⟨s.pen,s.num,s.time,s.act.d⟩
def Sk.d(s:Sk):D:=.tup [.tup [.str s.pen,.int s.num],.int s.time,s.act.d]
def Sk.ok(s:Sk):Prop:=1<=s.num/\s.act.many<=1000
def eF(pen:Str)(n:Int)(m:Nat):List Sl:=(List.range m).map fun (k:Nat)=>⟨pen,n,(k:Int)+1⟩
def made(s:Sk):List Sl:=eF s.pen s.num s.act.many
def gL(m:Nat):List Sl:=eF (LI "") 0 m
theorem cG(p:Str)(n:Int)(m:Nat):(eF p n m).length=m:=by simp[eF]
theorem jc(p:Str)(n:Int)(m:Nat):(eF p n m).Nodup:=by
 unfold eF List.Nodup;rw[Oc];refine List.Pairwise.imp ?_ (List.nodup_range (n:=m));intro a b h e;injection e with e1 e2 e3
 exact h (by walk_at "o")
theorem gg{p:Str}{n:Int}{m:Nat}{x:Sl}(h:x∈eF p n m):x.pen=p/\x.n=n/\1<=x.k:=by
 unfold eF at h;obtain⟨k,_,rfl⟩:=mem_map.mp h;exact⟨rfl,rfl,by show 1<=(k:Int)+1;omega⟩
def CI:List Sl->D
 | []=>.non
 | s::_=>s.d
def nx:List Sl->Sl->D
 | [],_=>.non
 | a::t,c=>if a=c then CI t else nx t c
def lb:List Sl->Sl->Sl->List Sl
 | [],_,_=>[]
 | a::t,b,x=>if a=b then a::x::t else a::lb t b x
def cj:List Sl->Sl->List Sl->List Sl
 | W,_,[]=>W
 | W,b,x::t=>cj (lb W b x) x t
theorem gl{W:List Sl}{b x:Sl}(hb:b∈W):∀ c,c∈lb W b x↔c∈W\/c=x:=by
 induction W with
 | nil=>simp at hb
 | cons a t ih=>
  intro c;unfold lb
  by_cases e:a=b
  ·rw[if_pos e];simp only[L_];constructor
   ·rintro (h|h|h)
    ·exact .inl (.inl h)
    ·exact .inr h
    ·exact .inl (.inr h)
   ·rintro ((h|h)|h)
    ·exact .inl h
    ·exact .inr (.inr h)
    ·exact .inr (.inl h)
  ·rw[if_neg e];have hb':b∈t:=by
    rcases L_.mp hb with z|z
    ·exact absurd z.symm e
    ·exact z
   simp only[L_,ih hb' c];constructor
   ·rintro (h|h|h)
    ·exact .inl (.inl h)
    ·exact .inl (.inr h)
    ·exact .inr h
   ·rintro ((h|h)|h)
    ·exact .inl h
    ·exact .inr (.inl h)
    ·exact .inr (.inr h)
theorem mm{W:List Sl}{b x:Sl}(hb:b∈W):(lb W b x).length=W.length+1:=by
 induction W with
 | nil=>simp at hb
 | cons a t ih=>
  unfold lb
  by_cases e:a=b
  ·rw[if_pos e];simp
  ·rw[if_neg e];have hb':b∈t:=by
    rcases L_.mp hb with z|z
    ·exact absurd z.symm e
    ·exact z
   simp[ih hb']
theorem Az{W:List Sl}{b x:Sl}(hW:W.Nodup)(hx:x∉W)(hb:b∈W):(lb W b x).Nodup:=by
 induction W with
 | nil=>simp at hb
 | cons a t ih=>
  unfold lb;rw[Nv]at hW
  by_cases e:a=b
  ·rw[if_pos e,Nv,Nv];simp only[L_,not_or]at hx;refine⟨?_,hx.2,hW.2⟩;rw[L_,not_or];exact⟨Ne.symm hx.1,hW.1⟩
  ·rw[if_neg e];have hb':b∈t:=by
    rcases L_.mp hb with z|z
    ·exact absurd z.symm e
    ·exact z
   simp only[L_,not_or]at hx;rw[Nv];refine⟨fun z=>?_,ih hW.2 hx.2 hb'⟩;rcases (gl hb' a).mp z with z|z
   ·exact hW.1 z
   ·exact hx.1 z.symm
theorem Ed{W:List Sl}{b x:Sl}:CI (lb W b x)=CI W:=by
 cases W with
 | nil=>rfl
 | cons a t=>
  unfold lb;split<;>rfl
theorem FS{W:List Sl}{b x:Sl}(hW:W.Nodup)(hx:x∉W)(hb:b∈W):∀ c,nx (lb W b x) c=if c=x then nx W b else if c=b then x.d else nx W c:=by
 induction W with
 | nil=>simp at hb
 | cons a t ih=>
  intro c;rw[Nv]at hW;simp only[L_,not_or]at hx;unfold lb
  by_cases e:a=b
  ·subst e;rw[if_pos rfl];simp only[nx]
   by_cases c1:c=x
   ·subst c1;rw[if_neg (Ne.symm hx.1),if_pos rfl,if_pos rfl];simp
   ·rw[if_neg c1]
    by_cases c2:c=a
    ·subst c2;simp[CI]
    ·rw[if_neg (Ne.symm c2),if_neg (fun z=>c1 z.symm),if_neg c2,if_neg (Ne.symm c2)]
  ·rw[if_neg e];have hb':b∈t:=by
    rcases L_.mp hb with z|z
    ·exact absurd z.symm e
    ·exact z
   simp only[nx];rw[Ed,ih hW.2 hx.2 hb' c]
   by_cases c0:a=c
   ·subst c0;rw[if_pos rfl,if_neg (fun z=>hx.1 z.symm),if_neg e,if_pos rfl]
   ·rw[if_neg c0,if_neg c0,if_neg e]
def CH(kvs:List (List aH×D))(W:List Sl):Prop:=W.Nodup/\kvs.length=W.length/\(∀ s,s∉W->dy kvs s.key=none)/\∀ s∈W,dy kvs s.key=some (nx W s)
theorem sX{κ:Type}[DecidableEq κ]{kvs:List (κ×D)}{k:κ}{v:D}:(bF kvs k v).length=if (dy kvs k).isSome=true then kvs.length else kvs.length+1:=by
 unfold bF;rw[pJ];split<;>simp
theorem El{kvs:List (List aH×D)}{W:List Sl}{b x:Sl}(h:CH kvs W)(hb:b∈W)(hx:x∉W):CH (bF (bF kvs x.key (nx W b)) b.key x.d) (lb W b x):=by
 obtain⟨h1,h2,h3,h4⟩:=h;have hne:b≠x:=fun z=>hx (z ▸ hb);have at2:∀ c:Sl,dy (bF (bF kvs x.key (nx W b)) b.key x.d) c.key=if c=b then some x.d else if c=x then some (nx W b)else dy kvs c.key:=fun c=>by
  rw[hV,hV]
  by_cases e1:c=b
  ·subst e1;rw[if_pos rfl,if_pos rfl]
  ·rw[if_neg (fun z=>e1 (Sl.key_inj z)),if_neg e1]
   by_cases e2:c=x
   ·subst e2;rw[if_pos rfl,if_pos rfl]
   ·rw[if_neg (fun z=>e2 (Sl.key_inj z)),if_neg e2]
 refine⟨Az h1 hx hb,?_,fun c hc=>?_,fun c hc=>?_⟩
 ·rw[sX,sX,h3 x hx,hV,if_neg (fun z=>hne (Sl.key_inj z)),h4 b hb,mm hb,h2];simp
 ·have hc':c∉W/\c≠x:=⟨fun z=>hc ((gl hb c).mpr (.inl z)),fun z=>hc ((gl hb c).mpr (.inr z))⟩;rw[at2,if_neg (fun (z:c=b)=>hc'.1 (by rw[z];exact hb)),if_neg hc'.2]
  exact h3 c hc'.1
 ·rw[at2,FS h1 hx hb]
  by_cases e1:c=b
  ·subst e1;rw[if_pos rfl,if_neg hne,if_pos rfl]
  ·rw[if_neg e1]
   by_cases e2:c=x
   ·rw[if_pos e2,if_pos e2]
   ·rw[if_neg e2,if_neg e2,if_neg e1];rcases (gl hb c).mp hc with z|z
    ·exact h4 c z
    ·exact absurd z e2
theorem Cn(v:List Sl->Prop):CH [(aG.key,.non)] [aG]:=by
 refine⟨by simp,rfl,fun s hs=>?_,fun s hs=>?_⟩
 ·have:s≠aG:=by simpa using hs
  simp only[dy,Mf,List.find?_nil];rw[decide_eq_false (fun z=>this (Sl.key_inj z).symm)];rfl
 ·have:s=aG:=by simpa using hs
  subst this;simp[dy,nx,CI]
def fR(W:List Sl)(s:Sk):List Sl:=if s.act.anch∈W then cj W s.act.anch (made s)else W
def nA(n:Nat)(out:List Sk):List Sl:=out.foldl fR (cj [aG] aG (gL n))
theorem t_:∀ {ss W:List Sl} {b:Sl},b∈W->∀ c,c∈cj W b ss↔c∈W\/c∈ss
 | [],W,b,hb,c=>by simp[cj]
 | x::t,W,b,hb,c=>by
  unfold cj;rw[t_ (ss:=t) ((gl hb x).mpr (.inr rfl)) c,gl hb c,L_];constructor
  ·rintro ((h|h)|h)
   ·exact .inl h
   ·exact .inr (.inl h)
   ·exact .inr (.inr h)
  ·rintro (h|h|h)
   ·exact .inl (.inl h)
   ·exact .inl (.inr h)
   ·exact .inr h
theorem m6:∀ {ss W:List Sl} {b:Sl},b∈W->(cj W b ss).length=W.length+ss.length
 | [],W,b,hb=>by simp[cj]
 | x::t,W,b,hb=>by
  unfold cj;rw[m6 (ss:=t) ((gl hb x).mpr (.inr rfl)),mm hb,L0];omega
theorem Ay{pre post:List Sl}{b x:Sl}(h:b∉pre):lb (pre ++ b::post) b x=pre ++ b::x::post:=by
 induction pre with
 | nil=>simp[lb]
 | cons a t ih=>
  simp only[L_,not_or]at h;simp only[NR,lb];rw[if_neg (Ne.symm h.1),ih h.2]
theorem pA:∀ {ss pre post:List Sl} {b:Sl},b∉pre->ss.Nodup->(∀ x∈ss,x∉pre/\x≠b)->cj (pre ++ b::post) b ss=pre ++ b::(ss ++ post)
 | [],pre,post,b,_,_,_=>by simp[cj]
 | x::t,pre,post,b,h,nd,hs=>by
  unfold cj;rw[Ay h];rw[Nv]at nd;have hx:=hs x LV;have e:pre ++ b::x::post=(pre ++ [b]) ++ x::post:=by simp
  rw[e,pA (ss:=t) (pre:=pre ++ [b]) (post:=post) (b:=x) (by simp[hx.1,hx.2]) nd.2 (fun y hy=>?_)]
  ·simp
  ·have hy':=hs y (LU _ hy);refine⟨by simp[hy'.1,hy'.2],fun z=>nd.1 (z ▸ hy)⟩
def AQ(done:List Sk)(W:List Sl):Prop:=∀ x∈W,x.n=0\/∃ s∈done,x.pen=s.pen/\x.n=s.num
theorem Ek{done:List Sk}{W:List Sl}{s:Sk}(h:AQ done W)(hs:1<=s.num)(ap:∀ r∈done,¬ (r.pen=s.pen/\r.num=s.num)):∀ x∈made s,x∉W:=fun x hx hW=>by
 obtain⟨p1,p2,_⟩:=gg hx;rcases h x hW with z|⟨r,hr,z1,z2⟩
 ·omega
 ·exact ap r hr ⟨z1.symm.trans p1,z2.symm.trans p2⟩
theorem Cm{done:List Sk}{W:List Sl}{s:Sk}(h:AQ done W):AQ (done ++ [s]) (fR W s):=fun x hx=>by
 unfold fR at hx;have up:x∈W->x.n=0\/∃ r∈done ++ [s],x.pen=r.pen/\x.n=r.num:=fun z=>by
  rcases h x z with q|⟨r,hr,q⟩
  ·exact .inl q
  ·exact .inr ⟨r,List.mem_append_left _ hr,q⟩
 split at hx
 ·rename_i ha;rcases (t_ ha x).mp hx with z|z
  ·exact up z
  ·obtain⟨p1,p2,_⟩:=gg z;exact .inr ⟨s,by simp,p1,p2⟩
 ·exact up hx
theorem dN(n:Nat):cj [aG] aG (gL n)=aG::gL n:=by
 have:=pA (ss:=gL n) (pre:=[]) (post:=[]) (b:=aG) (by simp) (jc _ _ _) (fun x hx=>⟨by simp,fun z=>by
  obtain⟨_,_,h⟩:=gg hx;rw[z]at h;exact absurd h (by decide)⟩)
 simpa using this
theorem AD(n:Nat):AQ [] (cj [aG] aG (gL n)):=fun x hx=>by
 rw[dN]at hx;rcases L_.mp hx with z|z
 ·subst z;exact .inl rfl
 ·exact .inl (gg z).2.1
theorem zn(n:Nat):∀ (out done:List Sk) (W:List Sl),AQ done W->AQ (done ++ out) (out.foldl fR W)
 | [],done,W,h=>by simpa using h
 | s::t,done,W,h=>by
  have:=zn n t (done ++ [s]) (fR W s) (Cm h)
  simpa using this
theorem BG{W:List Sl}{s:Sk}{R:List Sl}(h:W=aG::R):∃ R',fR W s=aG::R':=by
 unfold fR;split
 ·rename_i ha;clear ha;generalize made s=ss;generalize s.act.anch=b
  induction ss generalizing W b R with
  | nil=>exact⟨R,h⟩
  | cons x t ih=>
   unfold cj;subst h;unfold lb;split
   ·exact ih rfl _
   ·exact ih rfl _
 ·exact⟨R,h⟩
theorem yA(n:Nat):∀ (out:List Sk) (W R:List Sl),W=aG::R->∃ R',out.foldl fR W=aG::R'
 | [],W,R,h=>⟨R,h⟩
 | s::t,W,R,h=>by
  obtain⟨R',h'⟩:=BG (s:=s) h;exact yA n t _ R' h'
def jl(n:Nat)(out:List Sk):List Sl:=(nA n out).tail
theorem r_(n:Nat)(out:List Sk):nA n out=aG::jl n out:=by
 obtain⟨R,h⟩:=yA n out _ (gL n) (dN n);unfold jl;have:nA n out=aG::R:=h;rw[this];rfl
theorem vP(n:Nat)(out:List Sk)(s:Sk):nA n (out ++ [s])=fR (nA n out) s:=by simp[nA]
theorem xi(W:List Sl):val (CI W)=CI W:=by cases W<;>rfl
theorem HF(W:List Sl)(c:Sl):val (nx W c)=nx W c:=by
 induction W with
 | nil=>rfl
 | cons a t ih=>
  unfold nx;split
  ·exact xi t
  ·exact ih
end RQ
open RQ
namespace L3
open PySem PySem.Spec PyProof.Rows L2 PySem.SeqAt PySem.W
end L3
namespace L3
open PySem PySem.Spec PyProof.Rows L2 PySem.SeqAt PySem.W
def CF(h:L5)(d:LB)(vs:List LC)(ep:Nat):Prop:=∃ o es,h.get? d=some o/\o.ExactDict/\o.data=.dict es ep/\es.toList.map (·.key)=vs
section
variable{prog:LS}{w:L6}{A:LY}{E:LC->LF->Prop}{s:LF}{d r it:LB}{vs:List LC}{ep i:Nat}
theorem CF.ty(x:CF s.heap d vs ep):s.TypeIs (.ref d) "dict":=let ⟨o,_,e,z,_⟩:=x;⟨o,e,z.1⟩
theorem Dn{v:LC}{Q:Option LC->LF->Prop}(hi:s.heap.IsKeyIter it d i vs.length ep)(x:CF s.heap d vs ep)(hv:vs[i]?=some v)
  (q:∀ h',h'.IsKeyIter it d (i+1) vs.length ep->MV it s.heap h'->Q (some v) { s with heap:=h' }):LJ (LN prog w) A (MT (.ref it)) Q E s:=by
 obtain⟨o,e1,c1,d1⟩:=id hi;obtain⟨od,es,e2,c2,d2,rfl⟩:=x;unfold MT;refine LA (M6 (Mr (name:=LI "__next__") hi.typeIs Nq (Mq Nq hi.typeIs Pr ?_ (Pk _))));refine LA (LD ?_);refine LA ?_;refine LA ?_
 first|refine LA (Nc hi.typeIs (LD ?_))|refine LA (NH hi.typeIs (LD ?_))
 refine LA (NS e1 d1 ?_);have own:Mx "dict_keyiterator"=false:=by decide
 simp only[own,Bool.false_eq_true,if_false];show LJ _ _ (if (Value.ref d == Value.none)=true then _ else _) _ _ s;rw[if_neg (show ¬ ((Value.ref d == Value.none)=true)from Bool.false_ne_true)]
 refine LA (LD ?_);refine LA (MS e2 d2 ?_);have z:es.size=(es.toList.map (·.key)).length:=by simp
 rw[if_neg (by rw[z];simp)];refine LA (LD ?_);refine LA (M3 e2 d2 ?_)
 rw[if_neg (by simp)];refine LD ?_
 have lt:i < es.size:=by
  rw[z];rcases Nw i (es.toList.map (·.key)).length with h|h
  ·exact h
  ·rw[M_ h]at hv;cases hv
 have val:es[i].key=v:=by
  rw[L4]at hv
  simpa[lt]using hv
 simp only[show ¬ ((i:Int) < 0)from by walk_at "o",if_false,Int.toNat_natCast,Array.getElem?_eq_getElem lt];refine LA ?_
 first|refine LA (Nc hi.typeIs (LD ?_))|refine LA (NH hi.typeIs (LD ?_))
 refine LA (Qq hi.typeIs ?_);show LJ _ _ (O8 (.ref it) 1 (Ni ((i:Int)+1)) >>= _) _ _ s;refine LA (Of e1 d1 (by simp) ?_)
 have hi':(s.heap.update it (Ou (·.setIfInBounds 1 (Ni ((i:Int)+1))))).IsKeyIter it d (i+1) (es.toList.map (·.key)).length ep:=
  ⟨_,M1 _ e1 (Qr (Ol d1 _)),(QZ ..).trans c1,by rw[Ol d1];simp[Ni]⟩
 refine LA (Mi ?_);refine LA (Qq (s:={ s with heap:=s.heap.update it (Ou (·.setIfInBounds 1 (Ni ((i:Int)+1)))) }) hi'.typeIs ?_)
 show LJ _ _ (pure es[i].key) _ _ _
 exact LD (LD ⟨_,rfl,LD (val ▸ q _ hi' (ND ..))⟩)
theorem E8{Q:Option LC->LF->Prop}(hh:A.handled=none)(hi:s.heap.IsKeyIter it d i vs.length ep)(x:CF s.heap d vs ep)(hv:vs[i]?=none)
  (q:∀ h',Qy it s.heap h'->Q none { s with heap:=h' }):LJ (LN prog w) A (MT (.ref it)) Q E s:=by
 obtain⟨o,e1,c1,d1⟩:=id hi;obtain⟨od,es,e2,c2,d2,rfl⟩:=x;unfold MT;refine LA (M6 (Mr (name:=LI "__next__") hi.typeIs Nq (Mq Nq hi.typeIs Pr ?_ (Pk _))));refine LA (LD ?_);refine LA ?_;refine LA ?_
 first|refine LA (Nc hi.typeIs (LD ?_))|refine LA (NH hi.typeIs (LD ?_))
 refine LA (NS e1 d1 ?_);have own:Mx "dict_keyiterator"=false:=by decide
 simp only[own,Bool.false_eq_true,if_false];show LJ _ _ (if (Value.ref d == Value.none)=true then _ else _) _ _ s;rw[if_neg (show ¬ ((Value.ref d == Value.none)=true)from Bool.false_ne_true)]
 refine LA (LD ?_);refine LA (MS e2 d2 ?_);have z:es.size=(es.toList.map (·.key)).length:=by simp
 rw[if_neg (by rw[z];simp)];refine LA (LD ?_);refine LA (M3 e2 d2 ?_)
 rw[if_neg (by simp)];refine LD ?_
 have ge:es.size<=i:=by rw[z];simpa using hv
 simp only[show ¬ ((i:Int) < 0)from by walk_at "o",if_false,Int.toNat_natCast,Array.getElem?_eq_none ge];refine LA ?_
 first|refine LA (Nc hi.typeIs (LD ?_))|refine LA (NH hi.typeIs (LD ?_))
 show LJ _ _ (O8 (.ref it) 0 .none >>= _) _ _ s;refine LA (Of e1 d1 (by simp) ?_)
 show LJ _ _ (Qe (.type "StopIteration") [] >>= _) _ _ _;refine LA ?_
 simp only[Qe,newTuple];refine LA (Ma ?_ (by size_fits))
 refine LA (m:=NU _ _) (Qt (a:=Value.none) (by first|rfl|(simp only[NU];rfl)) ?_);refine Ma ?_ (by size_fits)
 simp only[raiseNew];refine LA (PP ?_);rw[show A.in1.handled=none from hh]
 refine LA (LD (Qs ?_));refine LA (NY (T:="StopIteration") (b:=true) ⟨_,LK _ rfl,rfl⟩ ON ?_);exact LD (q _ (((ND ..).extBut.push _).push _))
end
open HT
section
variable{X:Cx}{prog:LS}{w:L6}{A:LY}{E:LC->LF->Prop}{s:LF}
def Lj:J4:=fun x lo hi G Q=>match x with
 | .tup ds=>Q (.tup (cutD ds lo hi)) G
 | _=>False
end
end L3
namespace L2
open PySem PySem.Spec PyProof.Rows
end L2
namespace L3
open PySem PySem.Spec PyProof.Rows L2
theorem RDs.bls_inv{K:PySem.W.Frag}{H:Hp}:∀ (ns:List Bool) {xs:List V},RDs K H (ns.map D.bl) xs->xs=ns.map V.bl
 | [],xs,h=>h.inv_nil
 | n::r,xs,h=>by
  obtain⟨x,t,e,h1,h2⟩:=RDs.inv_cons (d:=.bl n) (ds:=r.map D.bl) h;simp only[RD]at h1;subst e h1;rw[RDs.bls_inv r h2];rfl
theorem zD:∀ {ns:List Bool} {us:List LC},Vals (ns.map V.bl) us->us=ns.map Value.bool
 | [],us,w=>by cases w;rfl
 | n::r,us,w=>by
  rw[L1]at w;cases w with
  | cons h w=>
   cases h;rw[zD w];rfl
def Bv:BA:=fun ds G Q=>match ds with
 | [d]=>∃ bs:List Bool,n6 G d=some (bs.map D.bl)/\Q (.bl (bs.all id)) G
 | _=>False
theorem we:∀ (bs:List Bool),(List.range bs.length).all (fun i=>bs.getD i false)=bs.all id
 | []=>rfl
 | b::r=>by
  rw[L0,List.range_succ_eq_map,List.all_cons,List.all_cons,List.all_map];have:=we r;rw[<- this];rfl
theorem Iu{X:Cx}(hc:X.calm=true):fb X (.builtin "all") (oZ X.K Bv):=by
 rintro pins s σ H vs us Q I rv ⟨ds,G,Q3,rds,rg,h,kk⟩
 unfold Bv at h;split at h
 ·rename_i d;obtain⟨v,rfl,rd⟩:=hJ rds;obtain⟨bs,he,h⟩:=h;obtain⟨a,xs,rfl,sq,r⟩:=kI (G:=G) (H:=H) he (.of rd) rg;obtain⟨u,rfl,ru⟩:=vI rv;cases ru;rw[RDs.bls_inv bs r]at sq;obtain⟨its,w,pl,hz⟩:=I.list sq;have ei:its=bs.map Value.bool:=zD w;have ll:a < s.heap.objs.size:=let ⟨o,e,_⟩:=pl.isList;LQ e;refine call_all_walk (Oo pl.isList ?_);refine⟨s.heap.objs.size,_,_,_,_,_,fun i=>bs.getD i false,rfl,Walks.list (A:=X.A.in1) (I.ok.hd hc) _ a (L9 ll) its.toArray,⟨⟨_,LK _ rfl,rfl,rfl⟩,pl.isList.push _⟩,fun i v s Q E hP hQ=>?_,fun h' tk hk=>?_⟩
  ·have e:v=.bool (bs.getD i false):=by
    have hP':its[i]?=some v:=by simpa using hP
    rw[ei,L4]at hP';cases hb:bs[i]? with
    | none=>rw[hb]at hP';cases hP'
    | some b=>
     rw[hb]at hP';cases hP';rw[LW,hb];rfl
   rw[e];exact M4 hQ
  ·have el:its.toArray.size=bs.length:=by rw[LM,ei,LG]
   rw[el,we];refine⟨.bl _,H,I.kept fun b o e=>hk b o (fun z=>?_) (LH _ e),rfl,kk _ G _ H h Kp.refl rg (.of h8)⟩;rw[PX.mp z]at e;exact absurd (LQ e) (Nat.lt_irrefl _)
 ·exact h.elim
end L3
namespace L2
open PySem PySem.Spec PyProof.Rows
abbrev ij(h:L5)(z TI TO:LB)(f0 f1:LC):Prop:=
 h.get? z=some { cls:=.type "zip",dict:=none,data:=.fields #[f0,f1,.bool false,.ref TI,.ref TO],slots:=#[] }
def r9(f0:LC):Prop:=f0=.none\/∃ T:LB,f0=Ni T
structure ZApart(z TI TO i1 i2:LB)(fp1 fp2:List LB):Prop where
 a1:TI≠z
 a2:TO≠z
 a3:i1≠z
 a4:i2≠z
 a5:TI≠TO
 a6:TI≠i1
 a7:TI≠i2
 a8:TO≠i1
 a9:TO≠i2
 a10:i1≠i2
 f1:∀ b∈fp1,b≠z/\b≠TO/\b≠i2
 f2:∀ b∈fp2,b≠z/\b≠TO/\b≠i1
section
variable{prog:LS}{w:L6}{A:LY}{E:LC->LF->Prop}{s:LF}
theorem yk{α:Type}{M:Model}{a:LB}{k:Option Obj->Sem α}{Q:α->LF->Prop}(h:LJ M A (k (s.heap.get? a)) Q E s):LJ M A (Pq a >>= k) Q E s:=fun Γ p hΓ=>by
 have e:(Pq a >>= k)=Sem.loadIfAlive a k:=rfl;rw[e,Sem.wp_loadIfAlive];exact h Γ p hΓ
theorem yi{z TI TO:LB}{f0 f1:LC}{Q:Bool->LF->Prop}(hz:ij s.heap z TI TO f0 f1)(hf:r9 f0)(q1:Q true s)
  (q2:∀ h' f1',ij h' z TI TO f0 f1'->MV z s.heap h'->Q false { s with heap:=h' }):LJ (LN prog w) A (MY (.ref z)) Q E s:=by
 unfold MY;refine LA (MJ hz rfl (x:=f0) rfl ?_);rcases hf with rfl|⟨T,rfl⟩
 ·exact LD q1
 ·show LJ _ _ (Pq _ >>= _) _ _ _;refine yk ?_;cases hT:s.heap.get? (Int.toNat (T:Int)) with
  | none=>exact LD q1
  | some o=>
   show LJ _ _ (QY (.ref z) 1 >>= _) _ _ _
   refine LA (MJ hz rfl (x:=f1) rfl ?_)
   by_cases e:(f1 != Value.bool true)=true
   ·rw[if_pos e];exact LA (Mc hz (by simp) fun h1 hz1 hs1=>LD (q2 h1 _ hz1 hs1))
   ·rw[if_neg e];exact LA (LD (LD (q2 s.heap f1 hz (Pc ..))))
theorem yj{z TI TO i1 i2:LB}{f0 f1 a b:LC}{i:Nat}{fp1 fp2:List LB}{n1 n2:Nat}{P1 P2:Nat->LC->Prop}{St1 St2:Nat->L5->Prop}{Q:Option LC->LF->Prop}
  (D1:Q2 prog w A.in1 i1 fp1 n1 P1 St1) (D2:Q2 prog w A.in1 i2 fp2 n2 P2 St2) (D:ZApart z TI TO i1 i2 fp1 fp2) (hz:ij s.heap z TI TO f0 f1) (hf:r9 f0) (hTI:Nz s.heap TI (.ref i1) (.ref i2)) (hTO:Nz s.heap TO a b)
  (h1:St1 i s.heap) (h2:St2 i s.heap) (l1:i < n1) (l2:i < n2)
  (hQ:∀ h' tk x y f0' f1' a' b',P1 i x->P2 i y->r9 f0'->ij h' z TI TO f0' f1'->Nz h' TO a' b'->St1 (i+1) h'->St2 (i+1) h'->Nz h' s.heap.objs.size x y->h'.objs.size=s.heap.objs.size+1->
   (∀ c o,c≠z->c≠TO->c≠i1->c≠i2->s.heap.get? c=some o->h'.get? c=some o)->Q (some (.ref s.heap.objs.size)) { s with heap:=h',toks:=tk }):
  LJ (LN prog w) A (MT (.ref z)) Q E s:=by
 have hT:s.TypeIs (.ref z) "zip":=⟨_,hz,rfl⟩;unfold MT;refine LA (M6 (Mr (name:=LI "__next__") hT OG (Mq OG hT F.entry_zip_next ?_ (Q1 _))));show LJ _ _ (QY (.ref z) 2 >>= _) _ _ _;refine LA (MJ hz rfl (x:=.bool false) rfl ?_)
 show LJ _ _ (QY (.ref z) 3 >>= _) _ _ _;refine LA (MJ hz rfl (x:=.ref TI) rfl ?_)
 refine LA (Nu hTI rfl ?_);show LJ _ _ (MY (.ref z) >>= _) _ _ _;refine LA (yi hz hf ?_ fun h0 f1' hz0 hs0=>?_)
 ·simp only[if_true];refine LA (Oy ?_);refine LA (MJ hz rfl (x:=.ref TO) rfl ?_);refine LA (Mc hz (by simp) fun g1 z1 s1=>?_)
  replace z1:ij g1 z TI TO .ellipsis f1:=z1
  refine LA ?_;simp only[List.zipIdx_cons,List.zipIdx_nil,NO,Ow];refine LA (LA (OY ?_));show LJ _ _ (Mu (.ref i1) >>= _) _ _ _;refine LA (D1.item i { s with heap:=g1 } _ _ l1 (D1.frame i _ _ h1 fun b hb o e=>s1.extBut _ _ (D.f1 b hb).1 e) fun x g2 t2 p1 st1 s2=>LD ?_)
  have o2:Nz g2 TO a b:=s2.extBut _ _ D.a8 (s1.extBut _ _ D.a2 hTO);refine LA (Nu o2 rfl ?_);refine LA (OL o2 fun g3 o3 s3=>?_)
  replace o3:Nz g3 TO x b:=o3
  refine LA (OM (LD ?_));refine LA (LA (OY ?_));show LJ _ _ (Mu (.ref i2) >>= _) _ _ _;refine LA (D2.item i { s with heap:=g3,toks:=t2 } _ _ l2 (D2.frame i _ _ h2 fun b hb o e=>s3.extBut _ _ (D.f2 b hb).2.1 (s2.extBut _ _ (D.f2 b hb).2.2 (s1.extBut _ _ (D.f2 b hb).1 e))) fun y g4 t4 p2 st2 s4=>LD ?_)
  have o4:Nz g4 TO x b:=s4.extBut _ _ D.a9 o3;refine LA (Nu o4 rfl ?_);refine LA (OL o4 fun g5 o5 s5=>?_)
  replace o5:Nz g5 TO x y:=o5
  refine LA (OM (LD (LD ?_)));refine LA (Nu o5 rfl ?_);refine LA (Og ?_);have sz:g5.objs.size=s.heap.objs.size:=by rw[s5.1,s4.1,s3.1,s2.1,s1.1]
  have z5:ij g5 z TI TO .ellipsis f1:=s5.extBut _ _ D.a2.symm (s4.extBut _ _ D.a4.symm (s3.extBut _ _ D.a2.symm (s2.extBut _ _ D.a3.symm z1)));have k5:∀ c o,c≠z->c≠TO->c≠i1->c≠i2->s.heap.get? c=some o->g5.get? c=some o:=fun c o c1 c2 c3 c4 e=>s5.extBut _ _ c2 (s4.extBut _ _ c4 (s3.extBut _ _ c2 (s2.extBut _ _ c3 (s1.extBut _ _ c1 e))));have lz:z < g5.objs.size:=LQ z5;show LJ _ _ (OW (.ref z) (.ref g5.objs.size) >>= _) _ _ _;refine LA ?_;unfold OW
  have z6:ij (g5.push { cls:=.type "tuple",data:=.seq #[x,y] }) z TI TO .ellipsis f1:=LH _ z5;refine LA (Mc z6 (by simp) fun g7 z7 s7=>?_)
  replace z7:ij g7 z TI TO (Ni g5.objs.size) f1:=z7
  refine Mc z7 (by simp) fun g8 z8 s8=>?_
  replace z8:ij g8 z TI TO (Ni g5.objs.size) (.bool false):=z8
  have up:∀ c o,c≠z->g5.get? c=some o->g8.get? c=some o:=fun c o c1 e=>s8.extBut _ _ c1 (s7.extBut _ _ c1 (LH _ e));have t8:Nz g8 g5.objs.size x y:=s8.extBut _ _ (N7 lz) (s7.extBut _ _ (N7 lz) (LK _ rfl));have sz8:g8.objs.size=g5.objs.size+1:=by rw[s8.1,s7.1,MN]
  have r1:St1 (i+1) g8:=D1.frame _ _ _ st1 fun b hb o e=>up b o (D.f1 b hb).1 (s5.extBut _ _ (D.f1 b hb).2.1 (s4.extBut _ _ (D.f1 b hb).2.2 (s3.extBut _ _ (D.f1 b hb).2.1 e)));have r2:St2 (i+1) g8:=D2.frame _ _ _ st2 fun b hb o e=>up b o (D.f2 b hb).1 (s5.extBut _ _ (D.f2 b hb).2.1 e);rw[sz]at z8 t8 sz8;refine LD ⟨.ref g5.objs.size,rfl,LD ?_⟩;rw[sz];exact hQ g8 t4 x y _ _ x y p1 p2 (.inr ⟨_,rfl⟩) z8 (up _ _ D.a2 o5) r1 r2 t8 sz8 fun c o c1 c2 c3 c4 e=>up c o c1 (k5 c o c1 c2 c3 c4 e)
 ·simp only[Bool.false_eq_true,if_false];rw[<- Array.forIn_toList];simp only[NO,Ow];refine LA (LA (LA (Mi ?_)));show LJ _ _ (Mu (.ref i1) >>= _) _ _ _
  refine LA (D1.item i { s with heap:=h0 } _ _ l1 (D1.frame i _ _ h1 fun b hb o e=>hs0.extBut _ _ (D.f1 b hb).1 e) fun x g2 t2 p1 st1 s2=>LD (LD ?_))
  refine LA (LA (Mi ?_));show LJ _ _ (Mu (.ref i2) >>= _) _ _ _
  refine LA (D2.item i { s with heap:=g2,toks:=t2 } _ _ l2 (D2.frame i _ _ h2 fun b hb o e=>s2.extBut _ _ (D.f2 b hb).2.2 (hs0.extBut _ _ (D.f2 b hb).1 e)) fun y g4 t4 p2 st2 s4=>LD (LD (LD ?_)))
  refine LA (Og ?_ (by show 2<=LL;decide))
  have sz:g4.objs.size=s.heap.objs.size:=by rw[s4.1,s2.1,hs0.1]
  have k4:∀ c o,c≠z->c≠TO->c≠i1->c≠i2->s.heap.get? c=some o->g4.get? c=some o:=fun c o c1 _ c3 c4 e=>s4.extBut _ _ c4 (s2.extBut _ _ c3 (hs0.extBut _ _ c1 e));have z4:ij g4 z TI TO f0 f1':=s4.extBut _ _ D.a4.symm (s2.extBut _ _ D.a3.symm hz0);have o4:Nz g4 TO a b:=s4.extBut _ _ D.a9 (s2.extBut _ _ D.a8 (hs0.extBut _ _ D.a2 hTO));refine LD ⟨.ref g4.objs.size,rfl,LD ?_⟩;have up:∀ c o,g4.get? c=some o->(g4.push { cls:=.type "tuple",data:=.seq #[x,y] }).get? c=some o:=fun c o e=>LH _ e;have t8:Nz (g4.push { cls:=.type "tuple",data:=.seq #[x,y] }) g4.objs.size x y:=LK _ rfl;have sz8:(g4.push { cls:=.type "tuple",data:=.seq #[x,y] }).objs.size=g4.objs.size+1:=MN ..;rw[sz]at t8 sz8 ⊢;exact hQ _ t4 x y _ _ a b p1 p2 hf (up _ _ z4) (up _ _ o4) (D1.frame _ _ _ st1 fun b hb o e=>up _ _ (s4.extBut _ _ (D.f1 b hb).2.2 e)) (D2.frame _ _ _ st2 fun b _ o e=>up b o e) t8 sz8 fun c o c1 c2 c3 c4 e=>up _ _ (k4 c o c1 c2 c3 c4 e)
theorem zL{z TI TO i1 i2:LB}{f0 f1 a b:LC}{i:Nat}{fp1 fp2:List LB}{n1 n2:Nat}{P1 P2:Nat->LC->Prop}{St1 St2:Nat->L5->Prop}{Q:Option LC->LF->Prop}
  (D1:Q2 prog w A.in1 i1 fp1 n1 P1 St1) (D2:Q2 prog w A.in1 i2 fp2 n2 P2 St2) (D:ZApart z TI TO i1 i2 fp1 fp2) (hz:ij s.heap z TI TO f0 f1) (hf:r9 f0) (hTI:Nz s.heap TI (.ref i1) (.ref i2)) (hTO:Nz s.heap TO a b)
  (h1:St1 i s.heap) (h2:St2 i s.heap) (le:i=n1\/(i < n1/\i=n2))
  (hQ:∀ h' tk,(∀ c o,c≠z->c≠TO->c≠i1->c≠i2->s.heap.get? c=some o->h'.get? c=some o)->Q none { s with heap:=h',toks:=tk }):
  LJ (LN prog w) A (MT (.ref z)) Q E s:=by
 have hT:s.TypeIs (.ref z) "zip":=⟨_,hz,rfl⟩;unfold MT;have fin:∀ {h':L5} {tk:Nat} {e:LB},(∀ c o,c≠z->c≠TO->c≠i1->c≠i2->s.heap.get? c=some o->h'.get? c=some o)->(∃ o,h'.get? e=some o/\o.cls=.type "StopIteration")->
   LJ (LN prog w) A (do if <- isInstance (.ref e) (.type "StopIteration")then pure none else throw (.ref e)) Q E { s with heap:=h',toks:=tk }:=fun hk ⟨o,ho,hc⟩=>
  LA (NY (T:="StopIteration") (b:=true) ⟨o,ho,hc⟩ ON (LD (hQ _ _ hk)))
 refine LA (M6 (Mr (name:=LI "__next__") hT OG (Mq OG hT F.entry_zip_next ?_ (Q1 _))));show LJ _ _ (QY (.ref z) 2 >>= _) _ _ _;refine LA (MJ hz rfl (x:=.bool false) rfl ?_)
 show LJ _ _ (QY (.ref z) 3 >>= _) _ _ _;refine LA (MJ hz rfl (x:=.ref TI) rfl ?_)
 refine LA (Nu hTI rfl ?_);show LJ _ _ (MY (.ref z) >>= _) _ _ _;refine LA (yi hz hf ?_ fun h0 f1' hz0 hs0=>?_)
 ·simp only[if_true];refine LA (Oy ?_);refine LA (MJ hz rfl (x:=.ref TO) rfl ?_);refine LA (Mc hz (by simp) fun g1 z1 s1=>?_)
  replace z1:ij g1 z TI TO .ellipsis f1:=z1
  refine LA ?_;simp only[List.zipIdx_cons,List.zipIdx_nil,NO,Ow];refine LA (LA (OY ?_));show LJ _ _ (Mu (.ref i1) >>= _) _ _ _;have st0:St1 i g1:=D1.frame i _ _ h1 fun b hb o e=>s1.extBut _ _ (D.f1 b hb).1 e;rcases le with rfl|⟨l1,rfl⟩
  ·refine LA (D1.done { s with heap:=g1 } _ _ st0 fun g2 e s2 he=>?_)
   obtain⟨oe,hoe,hce⟩:=he;have z2:ij g2 z TI TO .ellipsis f1:=s2 _ _ D.a3.symm z1;have hez:e≠z:=fun x=>by subst x;rw[z2]at hoe;cases hoe;simp at hce
   exact Mc z2 (by simp) fun g3 _ s3=>fin (tk:=s.toks) (fun c o c1 _ c3 _ x=>s3.extBut _ _ c1 (s2 _ _ c3 (s1.extBut _ _ c1 x))) ⟨oe,s3.extBut _ _ hez hoe,hce⟩
  ·refine LA (D1.item i { s with heap:=g1 } _ _ l1 st0 fun x g2 t2 p1 st1 s2=>LD ?_)
   have o2:Nz g2 TO a b:=s2.extBut _ _ D.a8 (s1.extBut _ _ D.a2 hTO);refine LA (Nu o2 rfl ?_);refine LA (OL o2 fun g3 o3 s3=>?_);refine LA (OM (LD ?_));refine LA (LA (OY ?_));show LJ _ _ (Mu (.ref i2) >>= _) _ _ _;refine LA (D2.done { s with heap:=g3,toks:=t2 } _ _ (D2.frame i _ _ h2 fun b hb o e=>s3.extBut _ _ (D.f2 b hb).2.1 (s2.extBut _ _ (D.f2 b hb).2.2 (s1.extBut _ _ (D.f2 b hb).1 e))) fun g4 e s4 he=>?_)
   obtain⟨oe,hoe,hce⟩:=he;have z4:ij g4 z TI TO .ellipsis f1:=s4 _ _ D.a4.symm (s3.extBut _ _ D.a2.symm (s2.extBut _ _ D.a3.symm z1));have hez:e≠z:=fun x=>by subst x;rw[z4]at hoe;cases hoe;simp at hce
   exact Mc z4 (by simp) fun g5 _ s5=>fin (tk:=t2) (fun c o c1 c2 c3 c4 x=>s5.extBut _ _ c1 (s4 _ _ c4 (s3.extBut _ _ c2 (s2.extBut _ _ c3 (s1.extBut _ _ c1 x))))) ⟨oe,s5.extBut _ _ hez hoe,hce⟩
 ·simp only[Bool.false_eq_true,if_false];rw[<- Array.forIn_toList];simp only[NO,Ow];refine LA (LA (LA (Mi ?_)));show LJ _ _ (Mu (.ref i1) >>= _) _ _ _
  have st0:St1 i h0:=D1.frame i _ _ h1 fun b hb o e=>hs0.extBut _ _ (D.f1 b hb).1 e;rcases le with rfl|⟨l1,rfl⟩
  ·exact LA (D1.done { s with heap:=h0 } _ _ st0 fun g2 e s2 he=>fin (tk:=s.toks) (fun c o c1 _ c3 _ x=>s2 _ _ c3 (hs0.extBut _ _ c1 x)) he)
  ·refine LA (D1.item i { s with heap:=h0 } _ _ l1 st0 fun x g2 t2 p1 st1 s2=>LD (LD ?_))
   refine LA (LA (Mi ?_));show LJ _ _ (Mu (.ref i2) >>= _) _ _ _
   exact LA (D2.done { s with heap:=g2,toks:=t2 } _ _ (D2.frame i _ _ h2 fun b hb o e=>s2.extBut _ _ (D.f2 b hb).2.2 (hs0.extBut _ _ (D.f2 b hb).1 e)) fun g4 e s4 he=>fin (tk:=t2) (fun c o c1 _ c3 c4 x=>s4 _ _ c4 (s2.extBut _ _ c3 (hs0.extBut _ _ c1 x))) he)
theorem GE{tg:L7}{z TI TO:LB}{f0 f1 u:LC}{Q:Unit->LF->Prop}(hz:ij s.heap z TI TO f0 f1)(hf:r9 f0)
  (hQ:∀ h' f0',r9 f0'->ij h' z TI TO f0' f1->MV z s.heap h'->Q () { s with heap:=h' }):LJ (LN prog w) A (NK tg (.ref z) u) Q E s:=by
 have same:Q () s:=hQ s.heap f0 hf hz (Pc ..);unfold NK;cases tg<;>first
  | exact LD same
  | (cases u<;>first
    | exact LD same
    | (refine LA (QE hz ?_)
       dsimp only;split
       ·refine LA (Oy ?_);exact Mc hz (by simp) fun h1 z1 s1=>hQ h1 _ (.inl rfl) z1 s1
       ·exact LD same))
end
set_option genInjectivity false in
inductive Zk where
 | lst (l:LB) (xs:List V)
 | txt (z:Str) (t:Tok)
def Zk.vs:Zk->List V
 | .lst _ xs=>xs
 | .txt z _=>dO z
def Zk.val:Zk->LC
 | .lst l _=>.ref l
 | .txt z t=>.str z t
def Zk.here(K:PySem.W.Frag)(H:Hp):Zk->Prop
 | .lst l xs=>jT K H l xs
 | .txt _ _=>True
def Zk.ready(h:L5):Zk->Prop
 | .lst l xs=>∃ us,Vals xs us/\h.IsList l us.toArray
 | .txt _ _=>True
def Zk.it(it:LB)(i:Nat)(h:L5):Zk->Prop
 | .lst l _=>h.IsListIter it l i
 | .txt z t=>h.IsStrIter it (Op z) z t i
theorem m_(z:Str):Op z="str_ascii_iterator"\/Op z="str_iterator":=by unfold Op;split;exact .inl rfl;exact .inr rfl
theorem Zk.obj{k:Zk}{it:LB}{i:Nat}{h:L5}(x:k.it it i h):∃ o,h.get? it=some o/\(∀ v,o.data≠.cell v)/\o.cls≠.type "list"/\o.cls≠.type "tuple"/\o.cls≠.type "zip":=by
 cases k with
 | lst l xs=>
  obtain⟨o,e,c,d⟩:=x;exact⟨o,e,(fun v z=>by rw[d]at z;cases z),by rw[c];decide,by rw[c];decide,by rw[c];decide⟩
 | txt z t=>
  obtain⟨o,e,c,d⟩:=x;refine⟨o,e,(fun v z=>by rw[d]at z;cases z),?_⟩
  rw[c];rcases m_ z with q|q<;>rw[q]<;>decide
theorem Zk.keep{k:Zk}{it:LB}{i:Nat}{h h':L5}(x:k.it it i h)(q:∀ o,h.get? it=some o->h'.get? it=some o):k.it it i h':=by
 cases k with
 | lst l xs=>exact x.at fun o e=>q o e
 | txt z t=>
  obtain⟨o,e,c⟩:=x;exact⟨o,q o e,c⟩
theorem Zk.of{X:Cx}{pins:List (LB×Obj)}{σ:St}{H:Hp}{s:LF}{k:Zk}(I:Inv X pins σ H s)(x:k.here X.K H):k.ready s.heap:=by
 cases k with
 | lst l xs=>
  obtain⟨its,rv,p,_⟩:=I.list x;exact⟨its,rv,p.isList⟩
 | txt z t=>exact True.intro
theorem Zk.draws{P:LS}{w:L6}{k:Zk}{it:LB}{h:L5}{j:Nat}(x:k.ready h)(y:k.it it j h):∃ (fp:List LB) (Pv:Nat->LC->Prop) (St:Nat->L5->Prop),(∀ A:LY,A.handled=none->Q2 P w A it fp k.vs.length Pv St)/\(∀ i v,Pv i v->∃ u,k.vs[i]?=some u/\aJ u v)/\
  (∀ i,k.it it i h->St i h)/\(∀ i h',St i h'->k.it it i h')/\∀ b∈fp,b=it\/∃ o,h.get? b=some o/\o.cls=.type "list":=by
 cases k with
 | lst l xs=>
  obtain⟨us,rv,p⟩:=x;obtain⟨o,e,c,d⟩:=id y;obtain⟨o',e',c',d'⟩:=id p;have hne:l≠it:=fun z=>by subst z;rw[e]at e';cases e';rw[c]at c';exact absurd c' (by decide)
  have hl:us.toArray.size=xs.length:=by rw[LM];exact rv.length.symm
  refine⟨[it,l],fun i v=>us.toArray[i]?=some v,fun i h=>h.IsListIter it l i/\h.IsList l us.toArray,fun A hh=>?_,fun i v q=>?_,fun i q=>⟨q,p⟩,fun i h' q=>q.1,fun b hb=>?_⟩
  ·have:=Draws.list (prog:=P) (w:=w) hh it l hne us.toArray;rw[hl]at this;exact this
  ·have q':us[i]?=some v:=by simpa using q
   obtain⟨u,e1,r⟩:=L3.Vals.getV rv q';exact⟨u,e1,r⟩
  ·have hb':b=it\/b=l:=by simpa using hb
   rcases hb' with rfl|rfl
   ·exact .inl rfl
   ·exact .inr ⟨o',e',c'⟩
 | txt z t=>
  have hz:(dO z).length=z.cps.size:=by simp[dO]
  refine⟨[it],fun i v=>∃ c u,z.cps[i]?=some c/\v=.str ⟨#[c]⟩ u,fun i h=>h.IsStrIter it (Op z) z t i,fun A hh=>?_,fun i v q=>?_,fun i q=>q,fun i h' q=>q,fun b hb=>.inl (by simpa using hb)⟩
  ·show Q2 P w A it [it] (dO z).length _ _;rw[hz];rcases m_ z with q|q<;>rw[q]
   ·exact Draws.strAscii hh it z t
   ·exact Draws.strWide hh it z t
  ·obtain⟨c,u,e1,rfl⟩:=q;have e2:z.cps.toList[i]?=some c:=by simpa using e1
   exact⟨.str ⟨#[c]⟩,by simp[Zk.vs,dO,e2],⟨u,rfl⟩⟩
def Bz(k1 k2:Zk)(z TI TO i1 i2:LB)(i:Nat)(h:L5):Prop:=
 (∃ f0 f1,r9 f0/\ij h z TI TO f0 f1)/\Nz h TI (.ref i1) (.ref i2)/\(∃ a b,Nz h TO a b)/\k1.it i1 i h/\k2.it i2 i h
structure ZAp(z TI TO i1 i2:LB):Prop where
 t:TI≠TO
 i:i1≠i2
theorem Bz.apart{k1 k2:Zk}{z TI TO i1 i2:LB}{i:Nat}{h:L5}{fp1 fp2:List LB}(D:ZAp z TI TO i1 i2)(x:Bz k1 k2 z TI TO i1 i2 i h)(q1:∀ b∈fp1,b=i1\/∃ o,h.get? b=some o/\o.cls=.type "list")(q2:∀ b∈fp2,b=i2\/∃ o,h.get? b=some o/\o.cls=.type "list"):ZApart z TI TO i1 i2 fp1 fp2:=by
 obtain⟨⟨f0,f1,_,hz⟩,hTI,⟨a,b,hTO⟩,h1,h2⟩:=x;obtain⟨o1,e1,_,c1,c2,c3⟩:=Zk.obj h1;obtain⟨o2,e2,_,d1,d2,d3⟩:=Zk.obj h2;have ne:∀ {a b:LB} {o o':Obj},h.get? a=some o->h.get? b=some o'->o.cls≠o'.cls->a≠b:=fun ha hb hc z=>by subst z;rw[ha]at hb;cases hb;exact hc rfl
 have y1:i1≠z:=ne e1 hz c3;have y2:i2≠z:=ne e2 hz d3;have y3:TO≠i1:=(ne e1 hTO c2).symm;have y4:TO≠i2:=(ne e2 hTO d2).symm;have tz:Value.type "tuple"≠Value.type "zip":=by decide
 have lz:Value.type "list"≠Value.type "zip":=by decide
 have lt:Value.type "list"≠Value.type "tuple":=by decide
 refine⟨ne hTI hz tz,ne hTO hz tz,y1,y2,D.t,(ne e1 hTI c2).symm,(ne e2 hTI d2).symm,y3,y4,D.i,fun b hb=>?_,fun b hb=>?_⟩
 ·rcases q1 b hb with rfl|⟨o,e,c⟩
  ·exact⟨y1,y3.symm,D.i⟩
  ·exact⟨ne e hz (by rw[c];exact lz),ne e hTO (by rw[c];exact lt),ne e e2 (by rw[c];exact d1.symm)⟩
 ·rcases q2 b hb with rfl|⟨o,e,c⟩
  ·exact⟨y2,y4.symm,D.i.symm⟩
  ·exact⟨ne e hz (by rw[c];exact lz),ne e hTO (by rw[c];exact lt),ne e e1 (by rw[c];exact c1.symm)⟩
section
variable{prog:LS}{w:L6}{A:LY}{E:LC->LF->Prop}{s:LF}{k1 k2:Zk}{z TI TO i1 i2:LB}{i:Nat}
theorem AR{Q:Option LC->LF->Prop}(hh:A.in1.handled=none)(D:ZAp z TI TO i1 i2)(x:Bz k1 k2 z TI TO i1 i2 i s.heap)(r1:k1.ready s.heap)(r2:k2.ready s.heap)(l1:i < k1.vs.length)(l2:i < k2.vs.length)
  (hQ:∀ h' tk x y u v,k1.vs[i]?=some u->k2.vs[i]?=some v->aJ u x->aJ v y->Bz k1 k2 z TI TO i1 i2 (i+1) h'->Nz h' s.heap.objs.size x y->h'.objs.size=s.heap.objs.size+1->
   (∀ c o,c∉[z,TI,TO,i1,i2]->s.heap.get? c=some o->h'.get? c=some o)->Q (some (.ref s.heap.objs.size)) { s with heap:=h',toks:=tk }):LJ (LN prog w) A (MT (.ref z)) Q E s:=by
 obtain⟨fp1,P1,St1,D1,v1,t1,b1,q1⟩:=Zk.draws (P:=prog) (w:=w) r1 x.2.2.2.1;obtain⟨fp2,P2,St2,D2,v2,t2,b2,q2⟩:=Zk.draws (P:=prog) (w:=w) r2 x.2.2.2.2;have ap:=x.apart D q1 q2;obtain⟨⟨f0,f1,hf,hz⟩,hTI,⟨a,b,hTO⟩,h1,h2⟩:=x;refine yj (D1 _ hh) (D2 _ hh) ap hz hf hTI hTO (t1 i h1) (t2 i h2) l1 l2 fun h' tk x y f0' f1' a' b' p1 p2 hf' z' o' s1 s2 tp sz kp=>?_;obtain⟨u,e1,ru⟩:=v1 i x p1;obtain⟨v,e2,rv⟩:=v2 i y p2;exact hQ h' tk x y u v e1 e2 ru rv ⟨⟨f0',f1',hf',z'⟩,kp _ _ ap.a1 ap.a5 ap.a6 ap.a7 hTI,⟨a',b',o'⟩,b1 _ _ s1,b2 _ _ s2⟩ tp sz fun c o hc e=>kp c o (fun q=>hc (by simp[q])) (fun q=>hc (by simp[q])) (fun q=>hc (by simp[q])) (fun q=>hc (by simp[q])) e
theorem CK{Q:Option LC->LF->Prop}(hh:A.in1.handled=none)(D:ZAp z TI TO i1 i2)(x:Bz k1 k2 z TI TO i1 i2 i s.heap)(r1:k1.ready s.heap)(r2:k2.ready s.heap)(l:i=min k1.vs.length k2.vs.length)
  (hQ:∀ h' tk,(∀ c o,c∉[z,TI,TO,i1,i2]->s.heap.get? c=some o->h'.get? c=some o)->Q none { s with heap:=h',toks:=tk }):LJ (LN prog w) A (MT (.ref z)) Q E s:=by
 obtain⟨fp1,P1,St1,D1,v1,t1,b1,q1⟩:=Zk.draws (P:=prog) (w:=w) r1 x.2.2.2.1;obtain⟨fp2,P2,St2,D2,v2,t2,b2,q2⟩:=Zk.draws (P:=prog) (w:=w) r2 x.2.2.2.2;have ap:=x.apart D q1 q2;obtain⟨⟨f0,f1,hf,hz⟩,hTI,⟨a,b,hTO⟩,h1,h2⟩:=x;exact zL (D1 _ hh) (D2 _ hh) ap hz hf hTI hTO (t1 i h1) (t2 i h2) (by walk_at "o") fun h' tk kp=>hQ h' tk fun c o hc e=>kp c o (fun q=>hc (by simp[q])) (fun q=>hc (by simp[q])) (fun q=>hc (by simp[q])) (fun q=>hc (by simp[q])) e
theorem Bz.keep{h h':L5}(x:Bz k1 k2 z TI TO i1 i2 i h)(q:∀ b∈[z,TI,TO,i1,i2],∀ o,h.get? b=some o->h'.get? b=some o):Bz k1 k2 z TI TO i1 i2 i h':=by
 obtain⟨⟨f0,f1,hf,hz⟩,hTI,⟨a,b,hTO⟩,h1,h2⟩:=x;exact⟨⟨f0,f1,hf,q z (by simp) _ hz⟩,q TI (by simp) _ hTI,⟨a,b,q TO (by simp) _ hTO⟩,Zk.keep h1 fun o e=>q i1 (by simp) o e,Zk.keep h2 fun o e=>q i2 (by simp) o e⟩
end
def Le(K:PySem.W.Frag)(k1 k2:Zk):It:=
 ⟨fun i H=>(i < k1.vs.length/\i < k2.vs.length)/\k1.here K H/\k2.here K H,fun i H x H'=>∃ p u v,H p=none/\x=.ref p/\H'=bv H p (.tup [u,v])/\k1.vs[i]?=some u/\k2.vs[i]?=some v,fun i H=>i=min k1.vs.length k2.vs.length/\k1.here K H/\k2.here K H⟩
theorem sv{P:LS}{w:L6}{K:PySem.W.Frag}{tg:L7}(k1 k2:Zk)(z TI TO i1 i2:LB)(D:ZAp z TI TO i1 i2):Turn P w K tg (Le K k1 k2) [z,TI,TO,i1,i2] z (Bz k1 k2 z TI TO i1 i2) where
 mem:=by simp
 obj:=fun i h st b hb=>by
  obtain⟨⟨f0,f1,hf,hz⟩,hTI,⟨a,b',hTO⟩,h1,h2⟩:=st;obtain⟨o1,e1,c1,_⟩:=Zk.obj h1;obtain⟨o2,e2,c2,_⟩:=Zk.obj h2;simp only[L_,L8,or_false]at hb;rcases hb with rfl|rfl|rfl|rfl|rfl
  ·exact⟨_,hz,fun v q=>by cases q⟩
  ·exact⟨_,hTI,fun v q=>by cases q⟩
  ·exact⟨_,hTO,fun v q=>by cases q⟩
  ·exact⟨o1,e1,c1⟩
  ·exact⟨o2,e2,c2⟩
 keep:=fun i h h' st q=>st.keep q
 item:=by
  intro X hP hw hK hc i pins s σ H E I hf st hg;subst hP hw hK;obtain⟨⟨l1,l2⟩,e1,e2⟩:=hg;refine AR (I.ok.hd hc) D st (Zk.of I e1) (Zk.of I e2) l1 l2 fun h' tk x y u v q1 q2 ru rv st' tp sz kp=>?_;refine⟨_,rfl,?_⟩;obtain⟨⟨f0,f1,hl,hz⟩,hTI,⟨a,b,hTO⟩,h1,h2⟩:=id st';refine GE (s:={ s with heap:=h',toks:=tk }) hz hl fun h2' f0' hl' hz' sb=>?_
  have hn:H s.heap.objs.size=none:=I.hok.fresh (le_refl _);have lt:∀ b∈[z,TI,TO,i1,i2],b≠s.heap.objs.size:=fun b hb=>by
   obtain⟨o,e,_⟩:=(show ∃ o,s.heap.get? b=some o/\True from by
    obtain⟨⟨g0,g1,_,gz⟩,gTI,⟨ga,gb,gTO⟩,k1',k2'⟩:=st;obtain⟨o1,x1,_⟩:=Zk.obj k1';obtain⟨o2,x2,_⟩:=Zk.obj k2';simp only[L_,L8,or_false]at hb;rcases hb with rfl|rfl|rfl|rfl|rfl
    ·exact⟨_,gz,True.intro⟩
    ·exact⟨_,gTI,True.intro⟩
    ·exact⟨_,gTO,True.intro⟩
    ·exact⟨_,x1,True.intro⟩
    ·exact⟨_,x2,True.intro⟩)
   exact L9 (LQ e)
  have up:∀ c o,c≠z->h'.get? c=some o->h2'.get? c=some o:=fun c o hc e=>sb.extBut _ _ hc e;have hzs:z≠s.heap.objs.size:=lt z (by simp)
  have I0:Inv X pins σ (bv H s.heap.objs.size (.tup [u,v])) { s with heap:=s.heap.push { cls:=.type "tuple",data:=.seq #[x,y] },toks:=s.toks }:=by
   refine I.laid (t':=s.toks) (fun b v q=>LH _ q) (le_refl _) ?_;exact⟨by show 2<=LL;decide,[x,y],.cons ru (.cons rv .nil),ut.new _ _⟩
  have I1:Inv X pins σ (bv H s.heap.objs.size (.tup [u,v])) { s with heap:=h2',toks:=tk }:=by
   have:=Inv.turnedL (s:={ s with heap:=s.heap.push { cls:=.type "tuple",data:=.seq #[x,y] },toks:=s.toks }) (h':=h2') (t':=tk) (fp:=[z,TI,TO,i1,i2]) I0 (fun b o hb q=>?_) fun b hb=>?_
   ·exact this
   ·have hbz:b≠z:=fun q=>hb (by simp[q])
    have q':(s.heap.push { cls:=.type "tuple",data:=.seq #[x,y] }).get? b=some o:=q
    by_cases hbs:b=s.heap.objs.size
    ·subst hbs;rw[LK _ rfl]at q';cases q';exact up _ _ hbz tp
    ·rw[Pa _ _ _ hbs]at q';exact up _ _ hbz (kp b o hb q')
   ·obtain⟨g0,g1,g2,g3,g4,g5⟩:=hf b hb;exact⟨by rw[aA (lt b hb)];exact g0,g1,g2,g3,g4,g5⟩
  have ap:=st'.apart (fp1:=[]) (fp2:=[]) D (fun b hb=>by simp at hb) fun b hb=>by simp at hb
  refine⟨.ref s.heap.objs.size,_,I1,rfl,⟨_,u,v,hn,rfl,rfl,q1,q2⟩,⟨⟨f0',f1,hl',hz'⟩,up _ _ ap.a1 hTI,⟨a,b,up _ _ ap.a2 hTO⟩,Zk.keep h1 fun o e=>up _ _ ap.a3 e,Zk.keep h2 fun o e=>up _ _ ap.a4 e⟩,fun b hb=>?_⟩;rw[aA (lt b hb)];exact (hf b hb).1
 done:=by
  intro X hP hw hK hc i pins s σ H E I hf st hg;subst hP hw hK;obtain⟨l,e1,e2⟩:=hg;exact CK (I.ok.hd hc) D st (Zk.of I e1) (Zk.of I e2) l fun h' tk kp=>⟨rfl,I.turnedL (t':=tk) (fp:=[z,TI,TO,i1,i2]) kp hf⟩
 self:=fun _ _ _ _ _ st h=>by
  obtain⟨⟨f0,f1,_,hz⟩,_⟩:=st;have hT:=(⟨_,hz,rfl⟩:PY _ (.ref z) "zip");refine O6 hT F.slot_zip_iter (Mq F.slot_zip_iter hT F.entry_zip_iter ?_ (F.args_zip_iter_1 _));show LJ _ _ (ret (.ref z)) _ _ _
  exact LD ⟨_,rfl,"zip",_,hT,OG.lookup,h⟩
def Zk.itObj:Zk->Obj
 | .lst l _=>{ cls:=.type "list_iterator",data:=.fields #[.ref l,.int 0 0] }
 | .txt z t=>{ cls:=.type (Op z),data:=.fields #[.str z t,.int 0 0] }
theorem Zk.iter{prog:LS}{w:L6}{A:LY}{E:LC->LF->Prop}{s:LF}{k:Zk}{Q:LC->LF->Prop}(r:k.ready s.heap)(hQ:Q (.ref s.heap.objs.size) { s with heap:=s.heap.push k.itObj }):LJ (LN prog w) A (Oh k.val) Q E s:=by
 cases k with
 | lst l xs=>
  obtain⟨us,_,p⟩:=r;exact Oo p hQ
 | txt z t=>exact wpAny_pyIter_strU hQ
theorem Zk.grow{k:Zk}{h h':L5}(r:k.ready h)(q:∀ c o,h.get? c=some o->h'.get? c=some o):k.ready h':=by
 cases k with
 | lst l xs=>
  obtain⟨us,rv,p⟩:=r;exact⟨us,rv,p.at fun o e=>q l o e⟩
 | txt z t=>exact True.intro
theorem Zk.it0{k:Zk}{h:L5}{it:LB}(e:h.get? it=some k.itObj):k.it it 0 h:=by
 cases k with
 | lst l xs=>exact⟨_,e,rfl,rfl⟩
 | txt z t=>exact⟨_,e,rfl,rfl⟩
theorem Zk.alive{k:Zk}{h:L5}:(h.push k.itObj).get? h.objs.size=some k.itObj:=by
 cases k with
 | lst l xs=>exact LK _ rfl
 | txt z t=>exact LK _ rfl
abbrev EO(h:L5)(k1:Zk):L5:=h.push k1.itObj
abbrev EN(h:L5)(k1 k2:Zk):L5:=(EO h k1).push k2.itObj
abbrev EM(h:L5)(k1 k2:Zk):L5:=(EN h k1 k2).push { cls:=.type "tuple",data:=.seq #[.ref h.objs.size,.ref (EO h k1).objs.size] }
abbrev EL(h:L5)(k1 k2:Zk):L5:=(EM h k1 k2).push { cls:=.type "tuple",data:=.seq #[.none,.none] }
abbrev zK(h:L5)(k1 k2:Zk):L5:=(EL h k1 k2).push { cls:=.type "zip",data:=.fields #[.none,.bool false,.bool false,.ref (EN h k1 k2).objs.size,.ref (EM h k1 k2).objs.size] }
theorem Ao(k1 k2:Zk):Meets (Builtin.«zip.__new__» ⟨[.type "zip",k1.val,k2.val],[]⟩) (fun _ R s=>k1.ready s.heap/\k2.ready s.heap/\R (.ok (.ret (.ref (EL s.heap k1 k2).objs.size))) { s with heap:=zK s.heap k1 k2 }):=
 .of_wp fun prog w A R s h=>by
  obtain⟨hp,g,d,tk,os⟩:=s;obtain⟨r1,r2,h⟩:=h;have hsub:=sub_zip;have q2:k2.ready (Shared.heap ⟨hp.push k1.itObj,g,d,tk,os⟩):=Zk.grow r2 fun c o e=>LH _ e
  wp_walk using Zk.iter (k:=k1) (s:=⟨hp,g,d,tk,os⟩) r1,Zk.iter (k:=k2) (s:=⟨hp.push k1.itObj,g,d,tk,os⟩) q2
  exact⟨_,rfl,h⟩
theorem v6{prog:LS}{w:L6}{A:LY}{E:LC->LF->Prop}{s:LF}{k1 k2:Zk}{Q:LC->LF->Prop}(r1:k1.ready s.heap)(r2:k2.ready s.heap)
  (h:∀ h',Bz k1 k2 (s.heap.objs.size+4) (s.heap.objs.size+2) (s.heap.objs.size+3) s.heap.objs.size (s.heap.objs.size+1) 0 h'->h'.objs.size=s.heap.objs.size+5->
   (∀ c o,s.heap.get? c=some o->h'.get? c=some o)->Q (.ref (s.heap.objs.size+4)) { s with heap:=h' }):LJ (LN prog w) A (call (.type "zip") [k1.val,k2.val]) Q E s:=by
 refine callType_new F.called_zip (by decide) (F.typeCall_zip_2 _ _) (F.newCall_zip_2 _ _) (fun obj=>F.args_object_init_3 obj _ _) F.entry_zip_new (Ao k1 k2) ⟨r1,r2,?_⟩
 have z1:(EO s.heap k1).objs.size=s.heap.objs.size+1:=MN ..;have z2:(EN s.heap k1 k2).objs.size=s.heap.objs.size+2:=by rw[MN,z1]
 have z3:(EM s.heap k1 k2).objs.size=s.heap.objs.size+3:=by rw[MN,z2]
 have z4:(EL s.heap k1 k2).objs.size=s.heap.objs.size+4:=by rw[MN,z3]
 have z5:(zK s.heap k1 k2).objs.size=s.heap.objs.size+5:=by rw[MN,z4]
 have u:∀ {h:L5} {c:LB} {o o':Obj},h.get? c=some o->(h.push o').get? c=some o:=fun e=>LH _ e;have g5:(zK s.heap k1 k2).get? (EL s.heap k1 k2).objs.size=some _:=LK _ rfl;have g4:(zK s.heap k1 k2).get? (EM s.heap k1 k2).objs.size=some _:=u (LK _ rfl);have g3:(zK s.heap k1 k2).get? (EN s.heap k1 k2).objs.size=some _:=u (u (LK _ rfl));have g2:(zK s.heap k1 k2).get? (EO s.heap k1).objs.size=some k2.itObj:=u (u (u Zk.alive));have g1:(zK s.heap k1 k2).get? s.heap.objs.size=some k1.itObj:=u (u (u (u Zk.alive)));show _/\_
 rw[z2,z3,z4]at g5;rw[z1,z2]at g3;rw[z3]at g4;rw[z1]at g2;rw[z4];exact⟨⟨_,g5,rfl⟩,h _ ⟨⟨_,_,.inl rfl,g5⟩,g3,⟨_,_,g4⟩,Zk.it0 g1,Zk.it0 g2⟩ z5 fun c o x=>u (u (u (u (u x))))⟩
end L2
namespace L3
open PySem PySem.Spec PyProof.Rows L2
def gB:D->Option (List D)
 | .lst ds=>some ds
 | .str x=>some (signs x)
 | _=>none
def oj:List D->List D->List D
 | a::r,b::t=>.tup [a,b]::oj r t
 | _,_=>[]
theorem lq:∀ (a b:List D),(oj a b).length=min a.length b.length
 | [],_=>by simp[oj]
 | _::_,[]=>by simp[oj]
 | _::r,_::t=>by simp only[oj,L0,lq r t];omega
theorem sn:∀ {a b:List D} {i:Nat} {x y:D},a[i]?=some x->b[i]?=some y->(oj a b)[i]?=some (.tup [x,y])
 | _::_,_::_,0,_,_,h,h'=>by simp at h h';subst h h';rfl
 | _::r,_::t,i+1,_,_,h,h'=>by simp only[MF]at h h';simpa[oj]using sn h h'
 | [],_,_,_,_,h,_=>by simp at h
 | _::_,[],_,_,_,_,h=>by simp at h
theorem vN{K:PySem.W.Frag}{H:Hp}(z:Str):RDs K H (signs z) (dO z):=by
 have e1:signs z=(z.cps.toList.map fun c=>(⟨#[c]⟩:Str)).map D.str:=by simp[signs]
 have e2:dO z=(z.cps.toList.map fun c=>(⟨#[c]⟩:Str)).map V.str:=by simp[dO]
 rw[e1,e2];exact RDs.strs _
theorem AS{K:PySem.W.Frag}{H:Hp}{d:D}{v:V}{u:LC}{ds:List D}(e:gB d=some ds)(r:RD K H d v)(ru:aJ v u):
  ∃ k:Zk,u=k.val/\RDs K H ds k.vs/\∀ (G:Gp) (G':Gp) (H':Hp),RG K H G->Kp G H G' H'->k.here K H'/\RDs K H' ds k.vs:=by
 cases d with
 | lst es=>
  simp only[gB,Option.some.injEq]at e;subst e;simp only[RD]at r;obtain⟨a,xs,rfl,f,rr⟩:=r;cases ru;exact⟨.lst a xs,rfl,rr,fun G G' H' rg k=>⟨((k.stb rg).l _ _ f).sq,RDs.mono (k.stb rg) _ _ rr⟩⟩
 | str z=>
  simp only[gB,Option.some.injEq]at e;subst e;simp only[RD]at r;subst r;obtain⟨t,rfl⟩:=ru;exact⟨.txt z t,rfl,vN z,fun _ _ _ _ _=>⟨True.intro,vN z⟩⟩
 | _=>simp[gB]at e
theorem HY{K:PySem.W.Frag}{G0:Gp}{H0:Hp}{ds es:List D}{k1 k2:Zk}(rg0:RG K H0 G0)(r1:∀ (G:Gp) (G':Gp) (H':Hp),RG K H0 G->Kp G H0 G' H'->k1.here K H'/\RDs K H' ds k1.vs)(r2:∀ (G:Gp) (G':Gp) (H':Hp),RG K H0 G->Kp G H0 G' H'->k2.here K H'/\RDs K H' es k2.vs):
  ye K G0 H0 (oj ds es) (Le K k1 k2):=fun i G H k rg=>by
 obtain⟨a1,q1⟩:=r1 G0 G H rg0 k;obtain⟨a2,q2⟩:=r2 G0 G H rg0 k;have n1:=q1.length;have n2:=q2.length;rw[lq];refine⟨fun hi=>⟨⟨⟨by walk_at "o",by walk_at "o"⟩,a1,a2⟩,fun x H' y=>?_⟩,fun e=>⟨by walk_at "o",a1,a2⟩⟩
 obtain⟨p,u,v,hn,rfl,rfl,e1,e2⟩:=y;have i1:i < ds.length:=by walk_at "o"
 have i2:i < es.length:=by walk_at "o"
 obtain⟨u',f1,g1⟩:=q1.get (LP i1);obtain⟨v',f2,g2⟩:=q2.get (LP i2);rw[e1]at f1;cases f1;rw[e2]at f2;cases f2;exact⟨Kp.laid hn,rg.laid hn,_,sn (LP i1) (LP i2),mz rg hn (RDs.cons g1 (RDs.cons g2 RDs.nil))⟩
def Ch(ta:pL):EJ:=fun σ G Q=>ta σ G fun ds G'=>match ds with
 | [x,y]=>∃ a b,(gB x=some a/\gB y=some b)/\Q (oj a b) G'
 | _=>False
theorem zC:Nl "zip"=some (.type "zip"):=by kernel_rfl
theorem wm{K:PySem.W.Frag}{H:Hp}{x y:D}{vs:List V}(h:RDs K H [x,y] vs):∃ v u,vs=[v,u]/\RD K H x v/\RD K H y u:=by
 obtain⟨v,t,rfl,h1,h2⟩:=h.inv_cons;obtain⟨u,rfl,h3⟩:=hJ h2;exact⟨v,u,rfl,h1,h3⟩
end L3
namespace L2
open PySem PySem.Spec PyProof.Rows
theorem xo:O1 (.type "list") "keys"=pure none:=by rw[Pu,OK];kernel_rfl
theorem y0:O1 (.type "zip") "keys"=pure none:=by rw[Pu,OK];kernel_rfl
theorem pN:O1 (.type "zip") "__getattr__"=pure none:=by rw[Pu,OK];kernel_rfl
theorem xQ:entryFor table "zip.__getattribute__"=some Builtin.«object.__getattribute__»:=entryFor_alias (id':="object.__getattribute__") (by kernel_rfl) (by first|rfl|decide +kernel) (by decide +kernel) (by kernel_rfl)
theorem B4:(["__module__","__name__","__qualname__","__doc__","__annotations__"]:List Str).contains (LI "keys")=false:=by decide +kernel
theorem vL:(LI "keys").length+100<=LL:=by rw[Mh];decide +kernel
theorem tK(a:LB)(vs:Array LC)(u:Tok):Meets (Builtin.«object.__getattribute__» ⟨[.ref a,.str "keys" u],[]⟩) (fun A R s=>s.heap.get? a=some { cls:=.type "zip",dict:=none,data:=.fields vs,slots:=#[] }/\raisesAttr (.ref a) "keys" A R s):=
 Meets.of_wp fun prog w A R s hs=>by
  obtain⟨hp,g,d,tk,os⟩:=s;obtain⟨hx,hs⟩:=hs;have hT:(⟨hp,g,d,tk,os⟩:LF).TypeIs (.ref a) "zip":=⟨_,hx,rfl⟩;have f4:=y0;unfold Builtin.«object.__getattribute__»
  repeat (any_goals (first|assumption|wp_step))
  exact wpAny_raiseAttrError hs.1 hs.2 (attrMsg_fits (by decide +kernel) vL)
section
variable{prog:LS}{w:L6}{A:LY}{E:LC->LF->Prop}{s:LF}{a:LB}{Q:Option LC->LF->Prop}
theorem xj{xs:Array LC}{k:Nat}{sl:Array (Option LC)}(hx:s.heap.get? a=some { cls:=.type "list",dict:=none,data:=.seq xs k,slots:=sl })(hA:A.in1.handled=none)
  (h:∀ h' tk,(∀ c o,s.heap.get? c=some o->h'.get? c=some o)->Q none { s with heap:=h',toks:=tk }):LJ (LN prog w) A (O9 (.ref a) "keys") Q E s:=by
 obtain⟨hp,g,d,tk,os⟩:=s;have hT:∀ tk',(⟨hp,g,d,tk',os⟩:LF).TypeIs (.ref a) "list":=fun _=>⟨_,hx,rfl⟩;have f1:=QK;have f3:=F.slot_list_getattribute.lookup;have f4:=F.slot_list_getattribute.bind (.ref a);have f5:=am_list_getattr_none;unfold O9 getAttrBy?
 repeat (any_goals (first|assumption|exact hT _|((with_reducible show LJ _ _ (call _ _ _) _ _ _);refine PJ F.slot_list_getattribute (hT _) am_entry_list_getattribute (F.args_list_getattribute_2 _ _) (meets_getattribute_miss_list a xs k sl _ _ xo B4 vL) ⟨hx,hA,fun h' t' e hx'=>?_⟩)|wp_step))
 obtain⟨t1,u1,he⟩:=hx'.there;show LJ _ _ (Oi _ _ _ _ _ _ _) _ _ _
 unfold Oi
 repeat (any_goals (first|assumption|wp_step))
 exact h _ _ hx'.keeps
theorem yV{vs:Array LC}(hx:s.heap.get? a=some { cls:=.type "zip",dict:=none,data:=.fields vs,slots:=#[] })(hA:A.in1.handled=none)
  (h:∀ h' tk,(∀ c o,s.heap.get? c=some o->h'.get? c=some o)->Q none { s with heap:=h',toks:=tk }):LJ (LN prog w) A (O9 (.ref a) "keys") Q E s:=by
 obtain⟨hp,g,d,tk,os⟩:=s;have hT:∀ tk',(⟨hp,g,d,tk',os⟩:LF).TypeIs (.ref a) "zip":=fun _=>⟨_,hx,rfl⟩;have f1:=QK;have f3:=F.slot_zip_getattribute.lookup;have f4:=F.slot_zip_getattribute.bind (.ref a);have f5:=pN;unfold O9 getAttrBy?
 repeat (any_goals (first|assumption|exact hT _|((with_reducible show LJ _ _ (call _ _ _) _ _ _);refine PJ F.slot_zip_getattribute (hT _) xQ (F.args_zip_getattribute_2 _ _) (tK a vs _) ⟨hx,hA,fun h' t' e hx'=>?_⟩)|wp_step))
 obtain⟨t1,u1,he⟩:=hx'.there;show LJ _ _ (Oi _ _ _ _ _ _ _) _ _ _
 unfold Oi
 repeat (any_goals (first|assumption|wp_step))
 exact h _ _ hx'.keeps
end
structure PWalk(prog:LS)(w:L6)(A:LY)(it:LB)(wr:List LB)(n:Nat)(Pv:Nat->LC->LC->Prop)(St:Nat->L5->Prop):Prop where
 frame:∀ i h h',St i h->(∀ c o,o.cls≠.type "dict"->h.get? c=some o->h'.get? c=some o)->St i h'
 item:∀ i (s:LF) (Q:Option LC->LF->Prop) (E:LC->LF->Prop),i < n->St i s.heap->
  (∀ h' tk p k v,Pv i k v->(∃ o m,h'.get? p=some o/\o.cls=.type "tuple"/\o.data=.seq #[k,v] m)->St (i+1) h'->(∀ c o,c∉wr->s.heap.get? c=some o->h'.get? c=some o)->Q (some (.ref p)) { s with heap:=h',toks:=tk })->
  LJ (LN prog w) A (MT (.ref it)) Q E s
 done:∀ (s:LF) (Q:Option LC->LF->Prop) (E:LC->LF->Prop),St n s.heap->(∀ h' tk,(∀ c o,c∉wr->s.heap.get? c=some o->h'.get? c=some o)->Q none { s with heap:=h',toks:=tk })->
  LJ (LN prog w) A (MT (.ref it)) Q E s
theorem gc:plainId "dict.update.loop"=true:=by decide +kernel
theorem mq:entryFor table "dict.update.loop"=some Builtin.«dict.update.loop»:=entryFor_of_tree (by kernel_rfl)
section
variable{prog:LS}{w:L6}{A:LY}{it d:LB}{wr:List LB}{n:Nat}{Pv:Nat->LC->LC->Prop}{St:Nat->L5->Prop}{R:PL->LF->Prop}{h0:L5}
def J_(prog:LS)(w:L6)(h:L5)(d:LB)(xs:List (List aH×LB×LC)):Prop:=
 ∃ o es ep,h.get? d=some o/\o.ExactDict/\o.data=.dict es ep/\es.toList=xs.map (entryOfKey (MO (aO prog w)))/\(xs.map (·.1)).Nodup
theorem Ae{p:LB}{k v:LC}{s:LF}{E:LC->LF->Prop}{Q:List LC->LF->Prop}(h:∃ o m,s.heap.get? p=some o/\o.cls=.type "tuple"/\o.data=.seq #[k,v] m)(q:Q [k,v] s):LJ (LN prog w) A (Qm (.ref p)) Q E s:=by
 obtain⟨o,m,e,c,dt⟩:=h;unfold Qm;refine LA (Ox (T:="tuple") ⟨o,e,c⟩ ?_);rw[if_pos (by decide)]
 exact LA (Nu e dt (LD q))
theorem CN(W:PWalk prog w A.in1 it wr n Pv St)(hu:A.units+1 < Mp)(hd:d∉wr)(hn:n<=LL)(Acc:Nat->List (List aH×LB×LC)->Prop)
  (hk:∀ i k v xs,Pv i k v->Acc i xs->∃ ks b,k=.ref b/\Acc (i+1) (OR xs ks b v)/\∀ h,(∀ c o,c∉wr->c≠d->h0.get? c=some o->h.get? c=some o)->(MO (aO prog w)).is h ks b)
  (hx:∀ i xs,Acc i xs->xs.length<=i/\∀ x∈xs,∀ h,(∀ c o,c∉wr->c≠d->h0.get? c=some o->h.get? c=some o)->(MO (aO prog w)).is h x.1 x.2.1):
  ∀ (k i:Nat) (s:LF) (xs:List (List aH×LB×LC)),n - i=k->i<=n->St i s.heap->(∀ c o,c∉wr->c≠d->h0.get? c=some o->s.heap.get? c=some o)->J_ prog w s.heap d xs->Acc i xs->
   (∀ h' tk ys,(∀ c o,c∉wr->c≠d->h0.get? c=some o->h'.get? c=some o)->(∀ c o,c∉wr->c≠d->s.heap.get? c=some o->h'.get? c=some o)->J_ prog w h' d ys->Acc n ys->R (.ok (.ret .none)) { s with heap:=h',toks:=tk })->
   NN (LN prog w) A (.builtin "dict.update.loop" ⟨[.ref d,.ref it,Ni i,.none],[]⟩) R s:=by
 intro k
 induction k with
 | zero=>
  intro i s xs hk' hi st keep dr ac hR;have hin:i=n:=by walk_at "o"
  subst hin;refine NM mq ?_;rw[M5 gc _];show LJ _ A.in1 (MT (.ref it) >>= _) _ _ s
  refine LA (W.done s _ _ st fun h' tk kp=>?_);show LJ _ _ (Builtin.Dict.addKeywords d [] >>= _) _ _ _
  refine LA (LD (LD ?_));obtain⟨o,es,ep,e,r⟩:=dr;exact hR h' tk xs (fun c o hc hcd q=>kp c o hc (keep c o hc hcd q)) (fun c o hc _ q=>kp c o hc q) ⟨o,es,ep,kp d o hd e,r⟩ ac
 | succ k ih=>
  intro i s xs hk' hi st keep dr ac hR;have hlt:i < n:=by walk_at "o"
  refine NM mq ?_;rw[M5 gc _];show LJ _ A.in1 (MT (.ref it) >>= _) _ _ s
  refine LA (W.item i s _ _ hlt st fun h1 t1 p kv vv pv tp st1 kp=>?_);obtain⟨ks,b,rfl,ac',key⟩:=hk i kv vv xs pv ac;refine LA (Mi (LA (wpAny_tryCatch (Ae tp ?_))));refine Mi ?_;obtain⟨o,es,ep,e,r1,r2,r3,r4⟩:=dr;have Uz:∀ c o,c∉wr->c≠d->h0.get? c=some o->h1.get? c=some o:=fun c o hc hcd q=>kp c o hc (keep c o hc hcd q);obtain⟨len,keys⟩:=hx i xs ac;have dd:Heap.DictOfH (MO (aO prog w)) h1 d xs:=⟨o,es,ep,kp d o hd e,r1,r2,r3,fun x hx'=>keys x hx' h1 Uz,r4⟩;refine QG (s:={ s with heap:=h1,toks:=t1 }) (hsz:=by walk_at "o") (show A.in1.units < Mp from hu) (key h1 Uz) dd fun h2 dd2 sb=>?_
  obtain⟨o2,es2,ep2,e2,q1,q2,q3,_,q4⟩:=dd2;have up:∀ c o,c≠d->h1.get? c=some o->h2.get? c=some o:=fun c o hc q=>sb.extBut _ _ hc q;have kpd:h1.get? d=some o:=kp d o hd e;refine LD ⟨N0 gc _,?_⟩;have:=ih (i+1) { s with heap:=h2,toks:=t1+(MO (aO prog w)).draws ks } (OR xs ks b vv) (by walk_at "o") hlt (W.frame _ _ _ st1 fun c o' hc q=>up c o' (fun z=>by subst z;rw[kpd]at q;cases q;exact hc r1.1) q) (fun c o hc hcd q=>up c o hcd (Uz c o hc hcd q)) ⟨o2,es2,ep2,e2,q1,q2,q3,q4⟩ ac'
   fun h' tk ys k1 k2 k3 k4=>hR h' tk ys k1 (fun c o hc hcd q=>k2 c o hc hcd (up c o hcd (kp c o hc q))) k3 k4
  exact this
end
end L2
namespace L3
open PySem PySem.Spec PyProof.Rows L2
def yM(kv:List aH×D):D:=.tup [.tup (kv.1.map kD),kv.2]
def dictOf(kvs:List (List aH×D)):List (List aH×D):=kvs.foldl (fun a kv=>bF a kv.1 kv.2) []
theorem pC(kvs:List (List aH×D)):∀ a:List (List aH×D),(kvs.foldl (fun a kv=>bF a kv.1 kv.2) a).length<=a.length+kvs.length:=by
 induction kvs with
 | nil=>intro a;exact le_refl _
 | cons kv r ih=>
  intro a;have h1:=ih (bF a kv.1 kv.2);have h2:=fM a kv.1 kv.2;simp only[OD,L0];omega
theorem zt{kvs:List (List aH×D)}{i:Nat}{kv:List aH×D}(h:kvs[i]?=some kv):dictOf (kvs.take (i+1))=bF (dictOf (kvs.take i)) kv.1 kv.2:=by
 unfold dictOf;rw[MH,h,List.foldl_append];rfl
theorem xU(kvs:List (List aH×D)):((dictOf kvs).map (·.1)).Nodup:=by
 unfold dictOf
 suffices h:∀ a:List (List aH×D),(a.map (·.1)).Nodup->((kvs.foldl (fun a kv=>bF a kv.1 kv.2) a).map (·.1)).Nodup from h [] Ph
 induction kvs with
 | nil=>intro a h;exact h
 | cons kv r ih=>intro a h;exact ih _ (nH kv.1 kv.2 h)
theorem Cq{prog:LS}{w:L6}{A:LY}{E:LC->LF->Prop}{s:LF}{src:LB}{T:String}{Q:LC->LF->Prop}(hT:∃ o,s.heap.get? src=some o/\o.cls=.type T)(hne:(Value.type T != Value.type "dict")=true)
  (hno:∀ (s':LF) (Q':Option LC->LF->Prop) (E':LC->LF->Prop),(∀ c o,s.heap.get? c=some o->s'.heap.get? c=some o)->(∀ h' tk,(∀ c o,s'.heap.get? c=some o->h'.get? c=some o)->Q' none { s' with heap:=h',toks:=tk })->LJ (LN prog w) A.in1.in1 (O9 (.ref src) "keys") Q' E' s')
  (h:∀ h' tk,(∀ c o,s.heap.get? c=some o->h'.get? c=some o)->h'.get? s.heap.objs.size=some { cls:=.type "dict",data:=.dict #[] }->
   LJ (LN prog w) A.in1.in1 (Oh (.ref src)) (fun it s2=>NN (LN prog w) A.in1 (.builtin "dict.update.loop" ⟨[.ref s.heap.objs.size,it,Ni 0,.none],[]⟩) (wants (fun r s₂=>r=.none/\Q (.ref s.heap.objs.size) s₂) E) s2) (fun e s'=>wants (fun r s₂=>r=.none/\Q (.ref s.heap.objs.size) s₂) E (.error e) s') { s with heap:=h',toks:=tk }):
  LJ (LN prog w) A (call (.type "dict") [.ref src]) Q E s:=by
 refine callType_codes (Q₁:=fun obj s₁=>obj=.ref s.heap.objs.size/\s₁={ s with heap:=s.heap.push { cls:=.type "dict",data:=.dict #[] } }) F.kt_called_dict (F.kt_typeCall_dict_1 _) F.entry_dict_init (kt_code_dict_new _ ⟨rfl,rfl⟩) ?_
 rintro obj s₁ ⟨rfl,rfl⟩
 have hd:(s.heap.push { cls:=.type "dict",data:=.dict #[] }).get? s.heap.objs.size=some { cls:=.type "dict",data:=.dict #[] }:=LK _ rfl;have tyd:PY { s with heap:=s.heap.push { cls:=.type "dict",data:=.dict #[] } } (.ref s.heap.objs.size) "dict":=⟨_,hd,rfl⟩
 obtain⟨o,e,c⟩:=hT;have up:∀ c o,s.heap.get? c=some o->(s.heap.push { cls:=.type "dict",data:=.dict #[] }).get? c=some o:=fun c o e=>LH _ e;refine⟨tyd,F.args_dict_init_2 _ _,?_⟩;unfold Builtin.«dict.__init__»;refine LA ?_;unfold Builtin.Dict.selfAndRest;refine LA (OI tyd ?_);show LJ _ _ (pure (s.heap.objs.size,[Value.ref src])) _ _ _;refine LD ?_
 show LJ _ _ (Qb "dict.__init__" s.heap.objs.size (.ref src) [] .none) _ _ _
 unfold Qb;refine LA (Ox (T:=T) ⟨o,up _ _ e,c⟩ ?_);rw[if_pos hne];refine LA (hno _ _ _ up fun h' tk kp=>?_);simp only[Option.isNone_none,if_true];refine LA (Oy ?_);refine LA (MC (h h' tk (fun c o e=>kp c o (up c o e)) (kp _ _ hd)) (fun it s2 q=>LD ⟨N0 gc _,q⟩) fun _ _ q=>q)
section
variable{X:Cx}{pins:List (LB×Obj)}{τ:St}{H1:Hp}{s1:LF}{G1:Gp}
theorem zr{src:LB}{T:String}{kvs:List (List aH×D)}{Q:LC->LF->Prop}(hu:X.A.units+8 < Mp)(I1:L2.Inv X pins τ H1 s1)(rg1:RG X.K H1 G1)(hz:kvs.length<=900000)
  (hT:∃ o,s1.heap.get? src=some o/\o.cls=.type T) (hne:(Value.type T != Value.type "dict")=true)
  (hno:∀ (s':LF) (Q':Option LC->LF->Prop) (E':LC->LF->Prop),(∀ c o,s1.heap.get? c=some o->s'.heap.get? c=some o)->(∀ h' tk,(∀ c o,s'.heap.get? c=some o->h'.get? c=some o)->Q' none { s' with heap:=h',toks:=tk })->LJ (LN X.prog X.w) X.A.in1.in1 (O9 (.ref src) "keys") Q' E' s')
  (hit:∀ (h2:L5) (tk2:Nat) (Q':LC->LF->Prop) (E':LC->LF->Prop),(∀ c o,s1.heap.get? c=some o->h2.get? c=some o)->s1.heap.objs.size < h2.objs.size->
   (∀ it wr Pv St h3,PWalk X.prog X.w X.A.in1.in1 it wr kvs.length Pv St->St 0 h3->(∀ c o,h2.get? c=some o->h3.get? c=some o)->(∀ b∈wr,mx X pins H1 b/\b≠s1.heap.objs.size)->
    (∀ i k v,Pv i k v->∃ kv b x,kvs[i]?=some kv/\k=.ref b/\kP X.K H1 b (kv.1.map kV)/\RD X.K H1 kv.2 x/\aJ x v)->Q' (.ref it) { s1 with heap:=h3,toks:=tk2 })->
   LJ (LN X.prog X.w) X.A.in1.in1 (Oh (.ref src)) Q' E' { s1 with heap:=h2,toks:=tk2 })
  (q:∀ s' H',L2.Inv X pins τ H' s'->H1 s1.heap.objs.size=none->Kp G1 H1 (gset G1 s1.heap.objs.size (.dT (ah X.prog X.w) (dictOf kvs))) H'->RG X.K H' (gset G1 s1.heap.objs.size (.dT (ah X.prog X.w) (dictOf kvs)))->Q (.ref s1.heap.objs.size) s'):
  LJ (LN X.prog X.w) X.A (call (.type "dict") [.ref src]) Q X.xe s1:=by
 have hsl:=ak;have sle:=Mh;refine Cq hT hne hno fun h2 tk2 kp2 hd2=>?_;refine hit h2 tk2 _ _ kp2 (LQ hd2) fun it wr Pv St h3 W st0 kp3 hwr hpv=>?_;have hf:H1 s1.heap.objs.size=none:=I1.hok.fresh (le_refl _);have hdw:s1.heap.objs.size∉wr:=fun z=>(hwr _ z).2 rfl;have ltk:∀ {b:LB} {ks:List aH},kP X.K H1 b (ks.map kV)->b∉wr/\b≠s1.heap.objs.size/\∀ h:L5,(∀ c o,c∉wr->c≠s1.heap.objs.size->s1.heap.get? c=some o->h.get? c=some o)->(MO (aO X.prog X.w)).is h ks b:=fun {b ks} sq=>by
  have key:=key_at I1 sq;obtain⟨o,its,n,e,c,dd,ii⟩:=id key;have hb1:b≠s1.heap.objs.size:=L9 (LQ e);have hb2:b∉wr:=fun z=>by
   obtain⟨⟨g0,g1,g2,g3,g4,g5⟩,_⟩:=hwr b z;rcases sq with (e1|⟨o',e1⟩)|⟨o',its',n',kl,_⟩
   ·rw[g0]at e1;cases e1
   ·rw[g0]at e1;cases e1
   ·have e2:X.base.get? b=some o':=I1.mod.kin b o' kl;rcases g3 with g3|g3
    ·exact I1.ok.noex b o' e2 g3
    ·exact absurd (LQ (I1.ok.bs b o' e2).1) (not_lt.mpr g3)
  exact⟨hb2,hb1,fun h kp=>⟨o,its,n,kp b o hb2 hb1 e,c,dd,ii⟩⟩
 have VW:∀ {i:Nat} {xs:List (List aH×LB×LC)},pM X.K H1 (dictOf (kvs.take i)) xs->xs.length<=i/\∀ x∈xs,kP X.K H1 x.2.1 (x.1.map kV):=fun {i xs} r=>by
  refine⟨?_,?_⟩
  ·rw[<- r.length];have:=pC (kvs.take i) [];rw[Mm]at this;unfold dictOf;simp only[Mv]at this;omega
  ·unfold pM at r;generalize dictOf (kvs.take i)=ks at r
   induction r with
   | nil=>intro x hx;exact nomatch hx
   | @cons p q ps qs hq t ih=>
    intro x hx;rcases L_.mp hx with e|hx
    ·subst e;rw[<- hq.1];exact hq.2.1
    ·exact ih x hx
 refine CN (A:=X.A.in1) (h0:=s1.heap) (d:=s1.heap.objs.size) W (show X.A.units+1+1 < Mp by walk_at "o") hdw (by walk_at "o") (fun i xs=>pM X.K H1 (dictOf (kvs.take i)) xs) (fun i k v xs pv ac=>?_) (fun i xs ac=>?_) kvs.length 0 { s1 with heap:=h3,toks:=tk2 } [] (Nat.sub_zero _) (Mg _) st0 (fun c o _ _ e=>kp3 c o (kp2 c o e)) ⟨_,#[],0,kp3 _ _ hd2,⟨rfl,rfl,rfl⟩,rfl,rfl,Ph⟩ .nil fun h' tk ys k1 k2 dr ac=>?_
 ·obtain⟨kv,b,x,e,rfl,sq,rd,rv⟩:=hpv i k v pv;refine⟨kv.1,b,rfl,?_,(ltk sq).2.2⟩;show pM X.K H1 (dictOf (kvs.take (i+1))) _
  rw[zt e];exact pM.put ac kv.1 sq rd rv
 ·obtain⟨len,ks⟩:=VW ac;exact⟨len,fun x hx h kp=>(ltk (ks x hx)).2.2 h kp⟩
 ·rw[Mo]at ac;obtain⟨o,es,ep,e,r1,r2,r3,r4⟩:=dr;have hsm:(s1.heap.objs.size == ME)=false:=beq_eq_false_iff_ne.mpr (Ne.symm (L9 I1.big));have fd:o.isFreed=false:=by
   obtain⟨c,dd,dt,sl⟩:=o;have r2':dt=.dict es ep:=r2;subst r2';rfl
  obtain⟨kpp,rg2⟩:=FT (o:=.dT (ah X.prog X.w) (dictOf kvs)) (ho:=.ext (yh (ah X.prog X.w) s1.heap.objs.size ys)) rg1 hf fun H' st=>⟨ys,rfl,ac.mono st,xU kvs,by
   have:=pC kvs [];unfold dictOf;simp only[Mv]at this;omega⟩
  have I2:L2.Inv X pins τ (bv H1 s1.heap.objs.size (.ext (yh (ah X.prog X.w) s1.heap.objs.size ys))) { s1 with heap:=s1.heap.push o,toks:=s1.toks }:=
   I1.laid (fun _ _ q=>LH _ q) (le_refl _) (qK ⟨hsm,o,es,ep,LK _ fd,r1,r2,r3⟩)
  have I3:=Inv.turnedL (s:={ s1 with heap:=s1.heap.push o,toks:=s1.toks }) (h':=h') (t':=tk) (fp:=wr) I2 (fun b o' hb qb=>by
   have qb':(s1.heap.push o).get? b=some o':=qb
   by_cases hbs:b=s1.heap.objs.size
   ·subst hbs;rw[LK _ fd]at qb';cases qb';exact e
   ·rw[Pa _ _ _ hbs]at qb';exact k1 b o' hb hbs qb') fun b hb=>by
   obtain⟨⟨g0,g1,g2,g3,g4,g5⟩,nb⟩:=hwr b hb;exact⟨by rw[aA nb];exact g0,g1,g2,g3,g4,g5⟩
  exact⟨rfl,q _ _ I3 hf kpp rg2⟩
end
end L3
namespace L2
open PySem PySem.Spec PyProof.Rows
theorem Aa{prog:LS}{w:L6}{A:LY}{it l:LB}{us:List LC}{Pv:Nat->LC->LC->Prop}(hh:A.handled=none):
  PWalk prog w A it [it] us.length Pv (fun i h=>h.IsListIter it l i/\h.IsList l us.toArray/\∀ j u,us[j]?=some u->∃ p kk vv,u=.ref p/\(∃ o m,h.get? p=some o/\o.cls=.type "tuple"/\o.data=.seq #[kk,vv] m)/\Pv j kk vv) where
 frame:=fun i h h' ⟨⟨o1,e1,c1,d1⟩,⟨o2,e2,c2,d2⟩,ps⟩ kp=>⟨⟨o1,kp _ _ (by rw[c1];decide) e1,c1,d1⟩,⟨o2,kp _ _ (by rw[c2];decide) e2,c2,d2⟩,fun j u hu=>by
  obtain⟨p,kk,vv,e,⟨o,m,g,c,dt⟩,pv⟩:=ps j u hu;exact⟨p,kk,vv,e,⟨o,m,kp _ _ (by rw[c];decide) g,c,dt⟩,pv⟩⟩
 item:=fun i s Q E hi ⟨x1,x2,ps⟩ q=>by
  have hu:us[i]?=some us[i]:=LP hi;obtain⟨p,kk,vv,e,tp,pv⟩:=ps i _ hu;refine Qc x1 x2 (x:=us[i]) (by simpa using hu) fun h' st' sb=>?_
  obtain⟨o1,e1,c1,_⟩:=x1;obtain⟨o2,e2,c2,_⟩:=id x2;have ne:∀ {b:LB} {o:Obj} {T:String},s.heap.get? b=some o->o.cls=.type T->Value.type T≠.type "list_iterator"->b≠it:=fun hb hc hT z=>by subst z;rw[e1]at hb;cases hb;rw[c1]at hc;exact hT hc.symm
  have lk:∀ {p:LB} {kk vv:LC},(∃ o m,s.heap.get? p=some o/\o.cls=.type "tuple"/\o.data=.seq #[kk,vv] m)->∃ o m,h'.get? p=some o/\o.cls=.type "tuple"/\o.data=.seq #[kk,vv] m:=fun⟨o,m,g,c,dt⟩=>⟨o,m,(sb.2 _ (ne g c (by decide))).trans g,c,dt⟩
  rw[e];refine q h' s.toks p kk vv pv (lk tp) ⟨st',x2.at fun o g=>(sb.2 l (ne e2 c2 (by decide))).trans g,fun j u hu=>?_⟩ fun c o hc g=>(sb.2 c (fun z=>hc (by simp[z]))).trans g
  obtain⟨p',k',v',e',tp',pv'⟩:=ps j u hu;exact⟨p',k',v',e',lk tp',pv'⟩
 done:=fun s Q E ⟨x1,x2,ps⟩ q=>Qo hh x1 x2 (by simp) fun h' eb=>q h' s.toks fun c o hc g=>eb c o (fun z=>hc (by simp[z])) g
theorem Bz.wr{k1 k2:Zk}{z TI TO i1 i2:LB}{i:Nat}{h:L5}(x:Bz k1 k2 z TI TO i1 i2 i h):∀ b∈[z,TI,TO,i1,i2],∃ o,h.get? b=some o/\o.cls≠.type "list"/\o.cls≠.type "dict":=by
 obtain⟨⟨f0,f1,_,hz⟩,hTI,⟨a,b',hTO⟩,h1,h2⟩:=x;have nd:∀ {k:Zk} {it:LB},k.it it i h->∃ o,h.get? it=some o/\o.cls≠.type "list"/\o.cls≠.type "dict":=fun {k it} y=>by
  cases k with
  | lst l xs=>
   obtain⟨o,e,c,_⟩:=y;exact⟨o,e,by rw[c];decide,by rw[c];decide⟩
  | txt z t=>
   obtain⟨o,e,c,_⟩:=y;refine⟨o,e,?_⟩;rw[c];rcases m_ z with q|q<;>rw[q]<;>decide
 intro b hb;simp only[L_,L8,or_false]at hb;rcases hb with rfl|rfl|rfl|rfl|rfl
 ·exact⟨_,hz,by show Value.type "zip"≠_;decide,by show Value.type "zip"≠_;decide⟩
 ·exact⟨_,hTI,by show Value.type "tuple"≠_;decide,by show Value.type "tuple"≠_;decide⟩
 ·exact⟨_,hTO,by show Value.type "tuple"≠_;decide,by show Value.type "tuple"≠_;decide⟩
 ·exact nd h1
 ·exact nd h2
theorem Zk.stay{k:Zk}{h h':L5}(r:k.ready h)(q:∀ c o,o.cls=.type "list"->h.get? c=some o->h'.get? c=some o):k.ready h':=by
 cases k with
 | lst l xs=>
  obtain⟨us,rv,o,e,c,d⟩:=r;exact⟨us,rv,o,q l o c e,c,d⟩
 | txt z t=>exact True.intro
theorem BO{prog:LS}{w:L6}{A:LY}{k1 k2:Zk}{z TI TO i1 i2:LB}(hh:A.in1.handled=none)(D:ZAp z TI TO i1 i2):
  PWalk prog w A z [z,TI,TO,i1,i2] (min k1.vs.length k2.vs.length) (fun i k v=>∃ u x,k1.vs[i]?=some u/\k2.vs[i]?=some x/\aJ u k/\aJ x v) (fun i h=>Bz k1 k2 z TI TO i1 i2 i h/\k1.ready h/\k2.ready h) where
 frame:=fun i h h' ⟨st,r1,r2⟩ kp=>⟨st.keep fun b hb o e=>by
  obtain⟨o',e',_,c⟩:=st.wr b hb;rw[e]at e';cases e';exact kp b o c e,Zk.stay r1 fun c o hc e=>kp c o (by rw[hc];decide) e,Zk.stay r2 fun c o hc e=>kp c o (by rw[hc];decide) e⟩
 item:=fun i s Q E hi ⟨st,r1,r2⟩ q=>by
  refine AR hh D st r1 r2 (by walk_at "o") (by walk_at "o") fun h' tk x y u v e1 e2 ru rv st' tp sz kp=>?_
  have ls:∀ c o,o.cls=.type "list"->s.heap.get? c=some o->h'.get? c=some o:=fun c o hc e=>kp c o (fun hb=>by
   obtain⟨o',e',c',_⟩:=st.wr c hb;rw[e]at e';cases e';exact c' hc) e
  exact q h' tk _ x y ⟨u,v,e1,e2,ru,rv⟩ ⟨_,_,tp,rfl,rfl⟩ ⟨st',Zk.stay r1 ls,Zk.stay r2 ls⟩ kp
 done:=fun s Q E ⟨st,r1,r2⟩ q=>CK hh D st r1 r2 rfl fun h' tk kp=>q h' tk kp
end L2
namespace L3
open PySem PySem.Spec PyProof.Rows L2
theorem v7:Nl "dict"=some (.type "dict"):=by kernel_rfl
theorem Gz{X:Cx}{tg:L7}{a b:L7}{ta:pL}{p pos:Pos}(hg:Gl X "zip")(hm:X.mg "zip"=none)(ha:PA X [a,b] (fq X.K ta))(hs:LR [a,b] X.env=[(false,eval a X.env),(false,eval b X.env)]:=by rfl)(hs2:LR [b] X.env=[(false,eval b X.env)]:=by rfl):
  PI X tg (.Call (.Name "zip" p) [a,b] [] pos) (qU X.K (Ch ta)):=by
 intro pins s τ H R I h;obtain⟨σ,G,Q3,rs,rg,hq,k⟩:=h;refine Q4 (jG I hg hm zC (PyProof.Rows.callWith_type1 (cI (ha pos pins s τ H (fun vs H1=>∃ ds G1,(match ds with|[x,y]=>∃ a b,(gB x=some a/\gB y=some b)/\Q3 (oj a b) G1|_=>False)/\Kp G H G1 H1/\RG X.K H1 G1/\RDs X.K H1 ds vs) I
  ⟨σ,G,_,rs,rg,hq,fun ds G1 vs H1 q k1 rg1 rds=>⟨ds,G1,q,k1,rg1,rds⟩⟩) fun us s1 ⟨vs,H1,I1,r1,q1⟩=>?_) (by rw[hs,hs2]) (by rw[hs2];rfl)))
 obtain⟨ds,G1,q,k1,rg1,rds⟩:=q1;split at q
 ·rename_i x y;obtain⟨as,bs,⟨ea,eb⟩,q⟩:=q;obtain⟨v,v',rfl,rd1,rd2⟩:=wm rds;obtain⟨u,u',rfl,ru1,ru2⟩:=r1.two;obtain⟨z1,rfl,_,w1⟩:=AS ea rd1 ru1;obtain⟨z2,rfl,_,w2⟩:=AS eb rd2 ru2;have hr1:=(w1 G1 G1 H1 rg1 Kp.refl).1;have hr2:=(w2 G1 G1 H1 rg1 Kp.refl).1;refine v6 (Zk.of I1 hr1) (Zk.of I1 hr2) fun h' zs hsz kp=>?_;have D:ZAp (s1.heap.objs.size+4) (s1.heap.objs.size+2) (s1.heap.objs.size+3) s1.heap.objs.size (s1.heap.objs.size+1):=⟨L9 (Nk (s1.heap.objs.size+2)),L9 (Nk s1.heap.objs.size)⟩;refine (sv (P:=X.prog) (w:=X.w) (K:=X.K) (tg:=tg) z1 z2 _ _ _ _ _ D).self _ 0 _ _ _ zs ?_;refine⟨s1.heap.objs.size+4,[s1.heap.objs.size+4,s1.heap.objs.size+2,s1.heap.objs.size+3,s1.heap.objs.size,s1.heap.objs.size+1],_,_,H1,rfl,I1.kept (t':=s1.toks) kp,sv z1 z2 _ _ _ _ _ D,zs,fun c hc=>?_,k _ G1 _ H1 q k1 rg1 (HY rg1 w1 w2)⟩;have hc':s1.heap.objs.size<=c:=by
   simp only[L_,L8,or_false]at hc;rcases hc with rfl|rfl|rfl|rfl|rfl<;>first|exact le_refl _|exact Nat.le_add_right _ _
  exact I1.fpOk hc' (I1.hok.fresh hc')
 ·exact q.elim
def AG(hw:List aH->Int)(te:bH):bH:=fun σ G Q=>te σ G fun x G1=>match n6 G1 (val x) with
 | some ds=>∃ kvs:List (List aH×D),(ds=kvs.map yM/\kvs.length<=900000)/\∀ p,G1 p=none->Q (.ref p) (gset G1 p (.dT hw (dictOf kvs)))
 | none=>False
def AF(hw:List aH->Int)(ta:pL):bH:=fun σ G Q=>ta σ G fun ds G1=>match ds with
 | [x,y]=>∃ a b,∃ kvs:List (List aH×D),(gB x=some a/\gB y=some b/\oj a b=kvs.map yM/\kvs.length<=900000)/\∀ p,G1 p=none->Q (.ref p) (gset G1 p (.dT hw (dictOf kvs)))
 | _=>False
theorem Gy{K:PySem.W.Frag}{H:Hp}{ks:List aH}{v:V}(r:RD K H (.tup (ks.map kD)) v):∃ b,v=.ref b/\kP K H b (ks.map kV):=sf (d:=.tup (ks.map kD)) (Bg ks) r
theorem Fu{X:Cx}{e:L7}{te:bH}{p1 pos:Pos}(hu:X.A.units+8 < Mp)(hc:X.calm=true)(hg:Gl X "dict")(hm:X.mg "dict"=none)(he:PE X e (aE X.K te))(hs:LR [e] X.env=[(false,eval e X.env)]:=by rfl):
  PE X (.Call (.Name "dict" p1) [e] [] pos) (aE X.K (AG (ah X.prog X.w) te)):=by
 rintro pins s τ H Q I ⟨σ,G,Q3,rs,rg,h,k⟩
 refine Q4 (jG I hg hm v7 (PyProof.Rows.callWith_type1 ?_ hs rfl) (by decide) (by decide))
 rw[show MQ pos (LR [e] X.env)=[(false,eval e X.env)]by rw[hs];rfl]
 refine M0 (cI (d4 he I rs rg h) fun ov s1 ⟨ox,H1,I1,rox,x,G1,q1,k1,rg1,rd1⟩=>Nt ?_);split at q1
 ·rename_i ds hq;obtain⟨kvs,⟨rfl,hz⟩,q1⟩:=q1;obtain⟨l,xs,rfl,sq,r⟩:=kI (G:=G1) (H:=H1) hq (.of rd1) rg1;cases rox;obtain⟨its,rv,pl,_⟩:=I1.list sq;have n1:=r.length;have n2:=rv.length;rw[LG]at n1;obtain⟨lo,ln,le,lc,ld,ldat⟩:=id pl;have tps:∀ (j:Nat) u,its[j]?=some u->∃ p kk vv,u=.ref p/\(∃ o m,s1.heap.get? p=some o/\o.cls=.type "tuple"/\o.data=.seq #[kk,vv] m)/\∃ kv b x,kvs[j]?=some kv/\kk=.ref b/\kP X.K H1 b (kv.1.map kV)/\RD X.K H1 kv.2 x/\aJ x vv:=fun j u hu=>by
   obtain⟨v,e1,ru⟩:=Vals.getV rv hu;obtain⟨d,e2,rd⟩:=RDs.getV r e1;rw[L4]at e2;cases hkv:kvs[j]? with
   | none=>rw[hkv]at e2;cases e2
   | some kv=>
    rw[hkv]at e2;cases e2;unfold yM at rd;simp only[RD]at rd;obtain⟨p,ys,rfl,sqp,ry⟩:=rd;obtain⟨y1,y2,rfl,ra,rb⟩:=wm ry;obtain⟨b,rfl,sb⟩:=Gy (ks:=kv.1) (by simpa only[RD]using ra)
    cases ru;obtain⟨its2,rv2,tp,_⟩:=I1.tuple sqp;obtain⟨o,g1,g2,m,g3⟩:=tp;obtain⟨w1,w2,rfl,rw1,rw2⟩:=rv2.two;cases rw1;exact⟨p,_,w2,rfl,⟨o,m,g1,g2,by simpa using g3⟩,kv,b,y2,rfl,rfl,sb,rb,rw2⟩
  refine zr (T:="list") (kvs:=kvs) hu I1 rg1 hz ⟨lo,le,lc⟩ (by decide) (fun s' Q' E' kp q'=>?_) (fun h2 tk2 Q' E' kp hlt q'=>?_) fun s' H' I' hf kp rg'=>⟨.ref s1.heap.objs.size,H',I',rfl,k _ _ _ H' (q1 _ (rg1.free hf)) (k1.trans kp) rg' (.of iD)⟩
  ·obtain⟨c0,d0,t0,s0⟩:=lo;simp only at lc ld ldat;subst lc ld ldat;exact xj (kp _ _ le) (I.ok.hd hc) q'
  ·refine Oo (pl.isList.at fun o e=>kp _ _ e) ?_;have hln:kvs.length=its.length:=n1.trans n2;have W:=Aa (prog:=X.prog) (w:=X.w) (A:=X.A.in1.in1) (it:=h2.objs.size) (l:=l) (us:=its) (Pv:=fun (j:Nat) (kk vv:LC)=>∃ (kv:List aH×D) (b:LB) (x:V),kvs[j]?=some kv/\kk=Value.ref b/\kP X.K H1 b (kv.1.map kV)/\RD X.K H1 kv.2 x/\aJ x vv) (I.ok.hd hc);rw[<- hln]at W;refine q' h2.objs.size [h2.objs.size] _ _ _ W ⟨⟨_,LK _ rfl,rfl,rfl⟩,(pl.isList.at fun o e=>kp _ _ e).push _,fun j u hu=>?_⟩ (fun c o e=>LH _ e) (fun b hb=>?_) fun i k v pv=>pv
   ·obtain⟨p,kk,vv,e,⟨o,m,g1,g2,g3⟩,pv⟩:=tps j u hu;exact⟨p,kk,vv,e,⟨o,m,LH _ (kp _ _ g1),g2,g3⟩,pv⟩
   ·have e:=PX.mp hb;subst e;exact⟨I1.fpOk (le_of_lt hlt) (I1.hok.fresh (le_of_lt hlt)),N7 hlt⟩
 ·exact q1.elim
theorem Ft{X:Cx}{a b:L7}{ta:pL}{p1 p2 pos UI:Pos}(hu:X.A.units+8 < Mp)(hc:X.calm=true)(hg1:Gl X "dict")(hm1:X.mg "dict"=none)(hg2:Gl X "zip")(hm2:X.mg "zip"=none)(ha:PA X [a,b] (fq X.K ta))
  (hs:LR [a,b] X.env=[(false,eval a X.env),(false,eval b X.env)]:=by rfl) (hs2:LR [b] X.env=[(false,eval b X.env)]:=by rfl):
  PE X (.Call (.Name "dict" p1) [.Call (.Name "zip" p2) [a,b] [] UI] [] pos) (aE X.K (AF (ah X.prog X.w) ta)):=by
 rintro pins s τ H Q I ⟨σ,G,Q3,rs,rg,h,k⟩
 refine Q4 (jG I hg1 hm1 v7 (PyProof.Rows.callWith_type1 ?_ rfl rfl) (by decide) (by decide))
 show LJ _ _ (spliced [(false,eval (.Call (.Name "zip" p2) [a,b] [] UI) X.env)]) _ _ _
 refine M0 (Q4 (jG I hg2 hm2 zC (PyProof.Rows.callWith_type1 (cI (ha UI pins s τ H (fun vs H1=>∃ ds G1,(match ds with|[x,y]=>∃ a b,∃ kvs:List (List aH×D),(gB x=some a/\gB y=some b/\oj a b=kvs.map yM/\kvs.length<=900000)/\∀ p,G1 p=none->Q3 (.ref p) (gset G1 p (.dT (ah X.prog X.w) (dictOf kvs)))|_=>False)/\Kp G H G1 H1/\RG X.K H1 G1/\RDs X.K H1 ds vs) I
  ⟨σ,G,_,rs,rg,h,fun ds G1 vs H1 q k1 rg1 rds=>⟨ds,G1,q,k1,rg1,rds⟩⟩) fun us s1 ⟨vs,H1,I1,r1,q1⟩=>?_) (by rw[hs,hs2]) (by rw[hs2];rfl)) (by decide) (by decide)))
 obtain⟨ds,G1,q,k1,rg1,rds⟩:=q1;split at q
 ·rename_i x y;obtain⟨as,bs,kvs,⟨ea,eb,ez,hz⟩,q⟩:=q;obtain⟨v,v',rfl,rd1,rd2⟩:=wm rds;obtain⟨u,u',rfl,ru1,ru2⟩:=r1.two;obtain⟨z1,rfl,t1,w1⟩:=AS ea rd1 ru1;obtain⟨z2,rfl,t2,w2⟩:=AS eb rd2 ru2;have n1:=t1.length;have n2:=t2.length;have hr1:=(w1 G1 G1 H1 rg1 Kp.refl).1;have hr2:=(w2 G1 G1 H1 rg1 Kp.refl).1;refine v6 (Zk.of I1 hr1) (Zk.of I1 hr2) fun h' zs hsz kp=>Nt ?_;have I2:L2.Inv X pins τ H1 { s1 with heap:=h' }:=I1.kept (t':=s1.toks) kp
  have DZ:ZAp (s1.heap.objs.size+4) (s1.heap.objs.size+2) (s1.heap.objs.size+3) s1.heap.objs.size (s1.heap.objs.size+1):=⟨L9 (Nk (s1.heap.objs.size+2)),L9 (Nk s1.heap.objs.size)⟩;obtain⟨f0,f1,_,hzo⟩:=zs.1;have hlen:kvs.length=min z1.vs.length z2.vs.length:=by
   have:=lq as bs;rw[ez,LG]at this;omega
  refine zr (s1:={ s1 with heap:=h' }) (T:="zip") (kvs:=kvs) hu I2 rg1 hz ⟨_,hzo,rfl⟩ (by decide) (fun s' Q' E' kp' q'=>yV (kp' _ _ hzo) (I.ok.hd hc) q') (fun h2 tk2 Q' E' kp2 hlt q'=>?_) fun s' H' I' hf kp' rg'=>⟨.ref h'.objs.size,H',I',rfl,k _ _ _ H' (q _ (rg1.free hf)) (k1.trans kp') rg' (.of iD)⟩
  have zs2:Bz z1 z2 (s1.heap.objs.size+4) (s1.heap.objs.size+2) (s1.heap.objs.size+3) s1.heap.objs.size (s1.heap.objs.size+1) 0 h2:=zs.keep fun b _ o e=>kp2 b o e;refine (sv (P:=X.prog) (w:=X.w) (K:=X.K) (tg:=.Name "" pos) z1 z2 _ _ _ _ _ DZ).self _ 0 { s1 with heap:=h2,toks:=tk2 } _ _ zs2 ?_
  have W:=BO (prog:=X.prog) (w:=X.w) (A:=X.A.in1.in1) (k1:=z1) (k2:=z2) (I.ok.hd hc) DZ;rw[<- hlen]at W;refine q' _ _ _ _ _ W ⟨zs2,Zk.grow (Zk.of I1 hr1) fun c o e=>kp2 c o (kp c o e),Zk.grow (Zk.of I1 hr2) fun c o e=>kp2 c o (kp c o e)⟩ (fun _ _ e=>e) (fun c hc=>?_) fun i kk vv pv=>?_
  ·have hc':s1.heap.objs.size<=c/\c≠s1.heap.objs.size+5:=by
    simp only[L_,L8,or_false]at hc;rcases hc with rfl|rfl|rfl|rfl|rfl
    ·exact⟨Nat.le_add_right _ _,L9 (Nat.add_lt_add_left (by decide) _)⟩
    ·exact⟨Nat.le_add_right _ _,L9 (Nat.add_lt_add_left (by decide) _)⟩
    ·exact⟨Nat.le_add_right _ _,L9 (Nat.add_lt_add_left (by decide) _)⟩
    ·exact⟨le_refl _,L9 (Nat.lt_add_of_pos_right (by decide))⟩
    ·exact⟨Nat.le_add_right _ _,L9 (Nat.add_lt_add_left (by decide) _)⟩
   refine⟨I1.fpOk hc'.1 (I1.hok.fresh hc'.1),?_⟩;show c≠h'.objs.size
   rw[hsz];exact hc'.2
  ·obtain⟨u,x,e1,e2,ru,rx⟩:=pv;obtain⟨d1,g1,r1⟩:=RDs.getV t1 e1;obtain⟨d2,g2,r2⟩:=RDs.getV t2 e2;have e3:=sn g1 g2;rw[ez,L4]at e3;cases hkv:kvs[i]? with
   | none=>rw[hkv]at e3;cases e3
   | some kv=>
    rw[hkv]at e3;simp only[Option.map_some,Option.some.injEq,yM,D.tup.injEq,List.cons.injEq,and_true]at e3;obtain⟨rfl,rfl⟩:=e3;obtain⟨b,rfl,sb⟩:=Gy r1;cases ru;exact⟨kv,b,x,rfl,rfl,sb,r2,rx⟩
 ·exact q.elim
def D_(kv:List aH×D):D:=.tup (kv.1.map kD)
def C9(te:bH)(g:sm)(tb:cn):cn:=fun E σ G=>te σ G fun d G1=>match d with
 | .ref a=>∃ hw kvs,G1 a=some (.dT hw kvs)/\ForIn g tb { nx:=fun σ' G'=>E.nx σ' (gset G' a (.dT hw kvs)),rt:=fun _ _=>False } σ (kvs.map D_) (fu G1 a)
 | _=>False
theorem Cd{prog:LS}{w:L6}{A:LY}{E:LC->LF->Prop}{s:LF}{d:LB}{vs:List LC}{ep:Nat}{Q:LC->LF->Prop}(hd:(d == ME)=false)(x:CF s.heap d vs ep)
  (q:Q (.ref s.heap.objs.size) { s with heap:=s.heap.push { cls:=.type "dict_keyiterator",data:=.fields #[.ref d,.int 0 0,.int vs.length 0,.int ep 0] } }):LJ (LN prog w) A (Oh (.ref d)) Q E s:=by
 obtain⟨o,es,ho,hc,hdat,rfl⟩:=id x;refine O6 x.ty PySem.F.slot_dict_iter (Mq PySem.F.slot_dict_iter x.ty PySem.F.entry_dict_iter ?_ (PySem.F.args_dict_iter_1 _));unfold Builtin.«dict.__iter__»;refine LA ?_;unfold Builtin.Dict.dictSlotNone;refine LA (OI x.ty ?_);show LJ _ _ (pure (Value.ref d)) _ _ s;refine LD ?_
 show LJ _ _ (NW d >>= _) _ _ s;unfold NW;rw[if_neg (by rw[hd];exact Bool.false_ne_true)]
 refine LA (LD ?_);refine LA (MS ho hdat ?_);refine LA (M3 ho hdat ?_);refine LA (Ma (LD ⟨_,rfl,"dict_keyiterator",_,⟨_,LK _ rfl,rfl⟩,PySem.F.slot_dict_keyiterator_next.lookup,?_⟩))
 simpa[Ni]using q
theorem z0{K:PySem.W.Frag}{H:Hp}:∀ ks:List aH,RDs K H (ks.map kD) (ks.map kV)
 | []=>RDs.nil
 | .inl i::r=>RDs.cons fH (z0 r)
 | .inr x::r=>RDs.cons iC (z0 r)
theorem pM.at{K:PySem.W.Frag}{H:Hp}{kvs:List (List aH×D)}{xs:List (List aH×LB×LC)}(r:pM K H kvs xs):∀ {i:Nat} {kv:List aH×D},kvs[i]?=some kv->∃ x,xs[i]?=some x/\RD K H (D_ kv) (.ref x.2.1):=by
 unfold pM at r
 induction r with
 | nil=>intro i kv h;simp at h
 | @cons p q ps qs hq t ih=>
  intro i kv h;cases i with
  | zero=>
   simp only[Mw,Option.some.injEq]at h;subst h;refine⟨q,rfl,?_⟩;unfold D_;simp only[RD];exact⟨q.2.1,_,rfl,hq.2.1,z0 _⟩
  | succ i=>
   simp only[MF]at h ⊢;exact ih h
abbrev EX(a:LB)(o:Obj):HO:=.ext fun h=>h.get? a=some o
theorem JA{P:LS}{w:L6}{H:Hp}{h:L5}{a:LB}{o:Obj}(e:h.get? a=some o):cg P w H h a (EX a o):=⟨e,⟨o,e⟩,fun _ _ q k=>k o q⟩
theorem Hb{X:Cx}{tg iter:L7}{body:List Md}{te:bH}{g:sm}{tb:cn}{pos:Pos}(hp:OU (LN X.prog X.w) X.A X.env X.xe)(hc:X.calm=true)(hi:PE X iter (aE X.K te))(hg:PG X tg (js X.K g))(hb:rm X body (cE X.K tb))
  (hs:∀ x,MM iter X.env x=pure x:=by intro _;rfl):PS X (.For tg iter body [] pos) (cE X.K (C9 te g tb)):=by
 rintro pins s τ H Dd I ⟨σ,G,D3,rs,rg,h,k⟩
 refine wpAny_For (cI (d4 hi I rs rg h) fun v s1 ⟨ox,H1,I1,rox,d,G1,q1,k1,rg1,rd1⟩=>?_) hs;cases d with
 | ref a=>
  obtain⟨hw,kvs,hga,Pv,p0,step,fin⟩:=q1;simp only[val,RD]at rd1;subst rd1;cases rox;obtain⟨hob,eo,ro⟩:=rg1 a _ hga;cases hob with
  | ext φ=>
   obtain⟨xs,rfl,rt,nd,len⟩:=ro;obtain⟨hsm,o1,es,ep,g1,g2,g3,g4⟩:=(show cg X.prog X.w H1 s1.heap a (.ext (yh hw a xs))from I1.hok a _ eo).1
   have raw:∀ {h:L5},h.get? a=some o1->CF h a (xs.map fun x=>Value.ref x.2.1) ep:=fun e=>⟨o1,es,e,g2,g3,by rw[g4,Mn];rfl⟩
   have lx:=rt.length;refine Cd hsm (raw g1) ?_;have hita:a≠s1.heap.objs.size:=L9 (LQ g1);have kpA:Kp G1 H1 (fu G1 a) (bv H1 a (EX a o1)):=fun b u e n=>by
    have hb:b≠a:=fun z=>by subst z;rw[hga]at n;cases n
    exact⟨by rw[aA hb];exact e,by rw[cF hb];exact n⟩
   have rg2:RG X.K (bv H1 a (EX a o1)) (fu G1 a):=fun b u e=>by
    have hb:b≠a:=fun z=>by subst z;rw[dH]at e;cases e
    rw[cF hb]at e;obtain⟨ho,e1,r1⟩:=rg1 b u e;exact⟨ho,by rw[aA hb];exact e1,r1.mono (kpA.stb rg1)⟩
   have I1':L2.Inv X pins τ (bv H1 a (EX a o1)) { s1 with heap:=s1.heap,toks:=s1.toks }:=I1.write (x:=a) (e:=a) (by rw[eo];exact True.intro) (.inl rfl) (fun _ _ _ q=>q) ⟨o1,g1⟩ (JA g1)
   have I2:L2.Inv X pins τ (bv H1 a (EX a o1)) { s1 with heap:=s1.heap.push { cls:=.type "dict_keyiterator",data:=.fields #[.ref a,.int 0 0,.int (xs.map fun x=>Value.ref x.2.1).length 0,.int ep 0] } }:=I1'.kept (t':=s1.toks) fun _ _ q=>LH _ q
   have fit:mx X pins (bv H1 a (EX a o1)) s1.heap.objs.size:=I1.fpOk (le_refl _) (by rw[aA hita.symm];exact I1.hok.fresh (le_refl _))
   have back:∀ {τ':St} {H':Hp} {G':Gp} {σ':fO} {s':LF},L2.Inv X pins τ' H' s'->Kp (fu G1 a) (bv H1 a (EX a o1)) G' H'->RS X.K H' σ' τ'->RG X.K H' G'->D3.nx σ' (gset G' a (.dT hw kvs))->∃ τ'' H'',L2.Inv X pins τ'' H'' s'/\Dd.nx τ'' H'':=fun {τ' H' G' σ' s'} I' kk rs' rg' q=>by
    obtain⟨e1,e2⟩:=kk a _ aM dH;have e3:s'.heap.get? a=some o1:=(show cg X.prog X.w H' s'.heap a (EX a o1)from I'.hok a _ e1).1
    have I'':L2.Inv X pins τ' (bv H' a (.ext (yh hw a xs))) { s' with heap:=s'.heap,toks:=s'.toks }:=I'.write (x:=a) (e:=a) (by rw[e1];exact True.intro) (.inl rfl) (fun _ _ _ q=>q) ⟨o1,e3⟩ (qK ⟨hsm,o1,es,ep,e3,g2,g3,g4⟩)
    have st1:=(kpA.stb rg1);have st2:=(kk.stb rg2);have st3:Stb X.K H' (bv H' a (.ext (yh hw a xs))):=⟨fun b ys y=>by
     rcases y with (y|⟨o',y⟩)|y
     ·exact .inl (.inl (by rw[aA (fun z=>by rw[z,e1]at y;cases y)];exact y))
     ·exact .inl (.inr ⟨o',by rw[aA (fun z=>by rw[z,e1]at y;cases y)];exact y⟩)
     ·exact .inr y,fun b ys y=>by
     rcases y with ⟨o',y⟩|y
     ·exact .inl ⟨o',by rw[aA (fun z=>by rw[z,e1]at y;cases y)];exact y⟩
     ·exact .inr y⟩
    have rg3:RG X.K (bv H' a (.ext (yh hw a xs))) (gset G' a (.dT hw kvs)):=fun b u e=>by
     by_cases hb:b=a
     ·subst hb;rw[av]at e;cases e;exact⟨_,aM,xs,rfl,((rt.mono st1).mono st2).mono st3,nd,len⟩
     ·rw[aj hb]at e;obtain⟨ho,e4,r4⟩:=rg' b u e;exact⟨ho,by rw[aA hb];exact e4,r4.mono st3⟩
    have kpC:Kp G H (gset G' a (.dT hw kvs)) (bv H' a (.ext (yh hw a xs))):=fun b u e n=>by
     obtain⟨e4,n4⟩:=k1 b u e n;have hb:b≠a:=fun z=>by subst z;rw[hga]at n4;cases n4
     obtain⟨e5,n5⟩:=kk b u (by rw[aA hb];exact e4) (by rw[cF hb];exact n4)
     exact⟨by rw[aA hb];exact e5,by rw[aj hb];exact n5⟩
    exact⟨τ',_,I'',k.nx σ' _ τ' _ q kpC rg3 (rs'.mono st3)⟩
   refine QB (fun n s'=>∃ i σ' τ' G' H',L2.Inv X pins τ' H' s'/\s'.heap.IsKeyIter s1.heap.objs.size a i (xs.map fun x=>Value.ref x.2.1).length ep/\H' s1.heap.objs.size=none/\RS X.K H' σ' τ'/\RG X.K H' G'/\Pv i σ' G'/\Kp (fu G1 a) (bv H1 a (EX a o1)) G' H'/\i<=kvs.length/\n=kvs.length - i) ?_ kvs.length
    ⟨0,σ,τ,fu G1 a,_,I2,⟨_,LK _ rfl,rfl,rfl⟩,fit.1,rs.mono ((k1.trans kpA).stb rg),rg2,p0,Kp.refl,Mg _,rfl⟩
   rintro n s3 ⟨i,σ3,τ3,G3,H3,I3,ki,fr3,rs3,rg3,pv,kk,hil,rfl⟩
   obtain⟨e1,e2⟩:=kk a _ aM dH;have e3:s3.heap.get? a=some o1:=(show cg X.prog X.w H3 s3.heap a (EX a o1)from I3.hok a _ e1).1
   by_cases hlt:i < kvs.length
   ·obtain⟨x,hx,rd⟩:=((rt.mono (kpA.stb rg1)).mono (kk.stb rg2)).at (LP hlt);refine MG hp (Dn ki (raw e3) (v:=.ref x.2.1) (by rw[L4,hx];rfl) fun h4 ki4 sb=>?_)
    have I4:L2.Inv X pins τ3 H3 { s3 with heap:=h4,toks:=s3.toks }:=I3.turned (fun b o hb e=>(sb.2 b hb).trans e) fr3 fit.2.1 fit.2.2.2.1 fit.2.2.2.2.1 fit.2.2.2.2.2
    obtain⟨oi,ei,ci,di⟩:=id ki4;refine MG hp (zk (s:={ s3 with heap:=h4 }) ei ci di (by decide) ?_)
    have I4':=I4.pinned (fp:=[s1.heap.objs.size]) (fun b hb=>by rw[PX.mp hb];exact⟨fr3,fit.2⟩) fun b hb=>by rw[PX.mp hb];exact⟨oi,ei,fun v z=>by rw[di]at z;cases z⟩
    refine MG hp (cI (hg _ _ τ3 H3 (.ref x.2.1) (.ref x.2.1) (fun τ2 H2=>cE X.K tb { nx:=fun τ' H'=>∃ σ' G',RS X.K H' σ' τ'/\RG X.K H' G'/\Pv (i+1) σ' G'/\Kp (fu G1 a) (bv H1 a (EX a o1)) G' H',ct:=fun τ' H'=>∃ σ' G',RS X.K H' σ' τ'/\RG X.K H' G'/\Pv (i+1) σ' G'/\Kp (fu G1 a) (bv H1 a (EX a o1)) G' H',bk:=fun τ' H'=>∃ σ' G',RS X.K H' σ' τ'/\RG X.K H' G'/\D3.nx σ' (gset G' a (.dT hw kvs))/\Kp (fu G1 a) (bv H1 a (EX a o1)) G' H',rt:=fun _ _=>False } τ2 H2) I4' rfl
     ⟨D_ kvs[i],σ3,G3,_,rd,rs3,rg3,step i _ σ3 G3 (by rw[L4,LP hlt];rfl) pv,fun σ5 G5 τ5 H5 q5 k5 rg5 rs5=>⟨σ5,G5,_,rs5,rg5,q5,⟨fun σ6 G6 τ6 H6 q6 k6 rg6 rs6=>⟨σ6,G6,rs6,rg6,q6,kk.trans (k5.trans k6)⟩,fun _ _ _ _ q _ _ _=>q.elim,fun σ6 G6 τ6 H6 q6 k6 rg6 rs6=>⟨σ6,G6,rs6,rg6,q6,kk.trans (k5.trans k6)⟩,fun σ6 G6 τ6 H6 q6 k6 rg6 rs6=>⟨σ6,G6,rs6,rg6,q6,kk.trans (k5.trans k6)⟩⟩⟩⟩) fun _ s6 ⟨σ6,H6,I6,q6⟩=>?_)
    refine MG hp (cI (hb _ s6 σ6 H6 _ I6 q6) fun f s7 q7=>?_);have again:∀ {τ7:St} {H7:Hp},L2.Inv X (pins ++ qe [s1.heap.objs.size] h4) τ7 H7 s7->(∃ σ' G',RS X.K H7 σ' τ7/\RG X.K H7 G'/\Pv (i+1) σ' G'/\Kp (fu G1 a) (bv H1 a (EX a o1)) G' H7)->∃ m,m < kvs.length - i/\∃ i σ' τ' G' H',L2.Inv X pins τ' H' s7/\s7.heap.IsKeyIter s1.heap.objs.size a i (xs.map fun x=>Value.ref x.2.1).length ep/\H' s1.heap.objs.size=none/\RS X.K H' σ' τ'/\RG X.K H' G'/\Pv i σ' G'/\Kp (fu G1 a) (bv H1 a (EX a o1)) G' H'/\i<=kvs.length/\m=kvs.length - i:=fun {τ7 H7} I7 ⟨σ7,G7,rs7,rg7,pv7,k7⟩=>by
     have pin:=I7.pin (s1.heap.objs.size,oi) (Ms _ (Ms _ (je (by simp) ei)))
     exact⟨kvs.length - (i+1),by walk_at "o",i+1,σ7,τ7,G7,H7,I7.unpinned,⟨oi,pin.1,ci,di⟩,pin.2.1,rs7,rg7,pv7,k7,hlt,rfl⟩
    cases f with
    | next=>obtain⟨σ7,H7,I7,n7⟩:=q7;exact again I7 n7
    | cont=>obtain⟨σ7,H7,I7,n7⟩:=q7;exact again I7 n7
    | brk=>
     obtain⟨σ7,H7,I7,σ8,G8,rs8,rg8,q8,k8⟩:=q7;exact back I7.unpinned k8 rs8 rg8 q8
    | ret v=>obtain⟨x7,σ7,H7,I7,r7,q7⟩:=q7;exact q7.elim
   ·have ei:i=kvs.length:=by walk_at "o"
    subst ei;refine MG hp (E8 (I.ok.hd hc) ki (raw e3) (by rw[L4,M_ (by walk_at "o")];rfl) fun h4 eb=>Oa ?_)
    have I4:L2.Inv X pins τ3 H3 { s3 with heap:=h4,toks:=s3.toks }:=I3.turned (fun b o hb e=>eb b o hb e) fr3 fit.2.1 fit.2.2.2.1 fit.2.2.2.2.1 fit.2.2.2.2.2
    exact back I4 kk rs3 rg3 (fin σ3 G3 (by rw[LG];exact pv))
  | _=>exact ro.elim
 | _=>exact q1.elim
open HT PySem.SeqAt
def JB(te:bH)(tl th ts:Iw):bH:=fun σ G Q=>te σ G fun x G1=>tl σ G1 fun l G2=>th σ G2 fun u G3=>ts σ G3 fun st G4=>match x with
 | .tup ds=>(l=none/\u=none/\st=some (-1))/\Q (.tup ds.reverse) G4
 | _=>False
def F0(to:bH)(ta:pL):bH:=fun σ G Q=>to σ G fun x G1=>match x with
 | .tup ds=>ta σ G1 fun es G2=>match es with
  | [y]=>(pl 7 y/\(∀ d∈ds,pl 7 d)/\y∈ds)/\Q (.int (Ee y ds)) G2
  | _=>False
 | _=>False
def IA(a:LB)(k:Nat)(g:sm)(tt:pK)(te:bH)(σ:fO)(ds:List D)(G1:Gp)(Q:mZ):Prop:=ds.length<=LL/\∃ Pv:Nat->List D->Gp->Prop,Pv 0 [] G1/\(∀ i acc G',Pv i acc G'->G' a=some (.lst ds))/\
 (∀ (i:Nat) d acc G',ds[i]?=some d->Pv i acc G'->g d (List.replicate k none ++ σ) G' fun σ2 G2=>(k<=σ2.length/\σ2.drop k=σ)/\tt σ2 G2 fun b G3=>if b=true then te σ2 G3 fun y G4=>Pv (i+1) (acc ++ [val y]) G4 else Pv (i+1) acc G3)/\
 ∀ acc G',Pv ds.length acc G'->Q (.fl acc) G'
def uk(k:Nat)(tl:bH)(g:sm)(tt:pK)(te:bH):bH:=fun σ G Q=>tl σ G fun d G1=>match d with
 | .ref a=>∃ ds,G1 a=some (.lst ds)/\IA a k g tt te σ ds G1 Q
 | d=>match fF d with
  | some ds=>uw k g tt te σ ds G1 Q
  | none=>False
section
variable{X:Cx}{elt tg iter:L7}{ifs:List L7}{scope:NV}{T M:List Str}{pos:Pos}{tl:bH}{g:sm}{tt:pK}{te:bH}
theorem jR{K:PySem.W.Frag}{τ:St}{σ:fO}{G G1:Gp}{H H1:Hp}{Q:VK}{Q3:mZ}{ds:List D}{J:It}{Pv:Nat->List D->Gp->Prop}(rs:RS K H σ τ)(rg:RG K H G)(k:∀ d G' v H',Q3 d G'->Kp G H G' H'->RG K H' G'->RE K G H G' H' d v->Q v H')(k1:Kp G H G1 H1)(rg1:RG K H1 G1)
  (p0:Pv 0 [] G1) (it:∀ i acc G' H',Pv i acc G'->Kp G1 H1 G' H'->RG K H' G'->(i < ds.length->J.go i H'/\∀ x H2,J.yld i H' x H2->Kp G' H' G' H2/\RG K H2 G'/\∃ d,ds[i]?=some d/\RD K H2 d x)/\(i=ds.length->J.stop i H'))
  (step:∀ (i:Nat) d acc G',ds[i]?=some d->Pv i acc G'->g d (List.replicate T.length none ++ σ) G' fun σ2 G2=>(T.length<=σ2.length/\σ2.drop T.length=σ)/\tt σ2 G2 fun b G3=>if b=true then te σ2 G3 fun y G4=>Pv (i+1) (acc ++ [val y]) G4 else Pv (i+1) acc G3)
  (fin:∀ acc G',Pv ds.length acc G'->Q3 (.fl acc) G') (hsz:ds.length<=LL):
  ∀ Da,H1 Da=none->∃ W:Nat->Nat->List V->St->Hp->Prop,(∃ m,W 0 m [] (ent T τ) (bv H1 Da (.lst [])))/\
   ∀ i m ys σ1 H2,W i m ys σ1 H2->H2 Da=some (.lst ys)/\((J.stop i H2/\Q (.ref Da) H2)\/(J.go i H2/\∃ N:List V->St->Hp->Prop,(∀ ys' σ' H',N ys' σ' H'->∃ m',m' < m/\W (i+1) m' ys' σ' H')/\
    ∀ x H',J.yld i H2 x H'->js K g x σ1 H' fun σ2 H3=>cY K tt σ2 H3 fun b H4=>if b=true then vX K te σ2 H4 fun y H5=>H5 Da=some (.lst ys)/\ys.length < LL/\N (ys ++ [y]) σ2 (bv H5 Da (.lst (ys ++ [y])))else N ys σ2 H4)):=by
 intro Da hD;have kD:Kp G1 H1 G1 (bv H1 Da (.lst [])):=Kp.laid hD;have rgD:RG K (bv H1 Da (.lst [])) G1:=rg1.laid hD;have gD:G1 Da=none:=rg1.free hD;refine⟨fun i m ys τ2 H2=>m=ds.length - i/\i<=ds.length/\∃ acc G2,H2 Da=some (.lst ys)/\G2 Da=none/\RG K H2 G2/\RS K H2 (List.replicate T.length none ++ σ) τ2/\RDs K H2 acc ys/\acc.length<=i/\Pv i acc G2/\(∀ a h,a≠Da->H1 a=some h->G1 a=none->H2 a=some h/\G2 a=none),
  ⟨ds.length,rfl,Mg _,[],G1,aM,gD,rgD,Df T (rs.mono ((k1.trans kD).stb rg)),RDs.nil,le_refl _,p0,fun a h ha e n=>⟨by rw[aA ha];exact e,n⟩⟩,?_⟩
 rintro i m ys τ2 H2 ⟨rfl,hi',acc,G2,eD,nD,rg2,rs2,ra,la,pv,k2⟩
 have k2':Kp G1 H1 G2 H2:=fun a h e n=>k2 a h (bZ e hD) e n;refine⟨eD,?_⟩;obtain⟨hgo,hstop⟩:=it i acc G2 H2 pv k2' rg2
 by_cases hlt:i < ds.length
 ·obtain⟨go,yld⟩:=hgo hlt;refine .inr ⟨go,fun ys' τ' H'=>∃ acc G',H' Da=some (.lst ys')/\G' Da=none/\RG K H' G'/\RS K H' (List.replicate T.length none ++ σ) τ'/\RDs K H' acc ys'/\acc.length<=i+1/\Pv (i+1) acc G'/\(∀ a h,a≠Da->H1 a=some h->G1 a=none->H' a=some h/\G' a=none),
   fun ys' τ' H' q'=>⟨ds.length - (i+1),by walk_at "o",rfl,hlt,q'⟩,fun x H3 y=>?_⟩
  obtain⟨ky,rgy,d,hd,rd⟩:=yld x H3 y;refine⟨d,List.replicate T.length none ++ σ,G2,_,rd,rs2.mono (ky.stb rg2),rgy,step i d acc G2 hd pv,fun σ4 G4 τ4 H4 q4 k4 rg4 rs4=>?_⟩;obtain⟨⟨hlen,hdrop⟩,q4⟩:=q4;have rs4':RS K H4 (List.replicate T.length none ++ σ) τ4:=by
   have:=p6 T.length hlen rs4;rw[hdrop]at this;exact this
  refine⟨σ4,G4,_,rs4,rg4,q4,fun b G5 H5 q5 k5 rg5=>?_⟩;have e3:H3 Da=some (.lst ys):=(ky Da _ eD nD).1;have e4:=k4 Da _ e3 nD;have e5:=k5 Da _ e4.1 e4.2;have kk:∀ {G6:Gp} {H6:Hp},Kp G5 H5 G6 H6->∀ a h,a≠Da->H1 a=some h->G1 a=none->H6 a=some h/\G6 a=none:=fun k6 a h ha e n=>((((Kp.trans k2' ky).trans k4).trans k5).trans k6) a h e n;cases b with
  | false=>
   refine iteF ⟨acc,G5,e5.1,e5.2,rg5,rs4'.mono (k5.stb rg4),RDs.mono (((ky.trans k4).trans k5).stb rg2) _ _ ra,by walk_at "o",q5,kk Kp.refl⟩
  | true=>
   refine iteT ⟨σ4,G5,_,rs4.mono (k5.stb rg4),rg5,q5,fun yv G6 v H6 q6 k6 rg6 rd6=>?_⟩;have e6:=k6 Da _ e5.1 e5.2;have la':=ra.length;have st:Stb K H6 (bv H6 Da (.lst (ys ++ [v]))):=by
    constructor
    ·intro a zs q;rcases q with (q|⟨o,q⟩)|q
     ·exact .inl (.inl (by rw[aA (fun z=>by subst z;rw[e6.1]at q;cases q)];exact q))
     ·exact .inl (.inr ⟨o,by rw[aA (fun z=>by subst z;rw[e6.1]at q;cases q)];exact q⟩)
     ·exact .inr q
    ·intro a zs q;rcases q with ⟨o,q⟩|q
     ·exact .inl ⟨o,by rw[aA (fun z=>by subst z;rw[e6.1]at q;cases q)];exact q⟩
     ·exact .inr q
   refine⟨e6.1,by walk_at "o",acc ++ [val yv],G6,aM,e6.2,fun a o q=>?_,(rs4'.mono ((k5.trans k6).stb rg4)).mono st,?_,by simp;omega,q6,fun a h ha e n=>?_⟩
   ·obtain⟨h',q1,q2⟩:=rg6 a o q;exact⟨h',by rw[aA (fun z=>by subst z;rw[e6.2]at q;cases q)];exact q1,q2.mono st⟩
   ·exact RDs.append (RDs.mono st _ _ (RDs.mono ((((ky.trans k4).trans k5).trans k6).stb rg2) _ _ ra)) (RDs.cons (RD.mono st _ _ rd6) RDs.nil)
   ·rw[aA ha];exact kk k6 a h ha e n
 ·have e:i=ds.length:=by walk_at "o"
  refine .inl ⟨hstop e,k _ G2 _ H2 (fin acc G2 (by rw[<- e];exact pv)) (k1.trans k2') rg2 (.inl ⟨acc,Da,ys,rfl,rfl,eD,nD,ra,?_⟩)⟩
  exact k1.fr (pB hD)
def Jt(K:PySem.W.Frag)(te:bH):TI:=fun τ H R=>∃ σ G Q3,RS K H σ τ/\RG K H G/\te σ G Q3/\∀ d G1 H1,Q3 d G1->Kp G H G1 H1->RG K H1 G1->match d with
  | .ref a=>(∃ ds,G1 a=some (.lst ds))/\R (J7 K a) H1
  | d=>∃ ds,fF d=some ds/\∀ J,ye K G1 H1 ds J->R J H1
theorem Fj{e:L7}{te:bH}(h:PE X e (aE X.K te)):PI X tg e (Jt X.K te):=A7 h
theorem AI{K:PySem.W.Frag}{τ:St}{H:Hp}{Q:VK}(h:aE K (uk T.length tl g tt te) τ H Q):AW (ent T) (Jt K tl) (js K g) (cY K tt) (vX K te) τ H Q:=by
 obtain⟨σ,G,Q3,rs,rg,h,k⟩:=h;refine⟨σ,G,_,rs,rg,h,fun d G1 H1 q k1 rg1=>?_⟩;cases d with
 | ref a=>
  obtain⟨ds,hg,hsz,Pv,p0,live,step,fin⟩:=q;refine⟨⟨ds,hg⟩,jR rs rg k k1 rg1 p0 (fun i acc G' H' pv k' rg'=>?_) step fin hsz⟩;obtain⟨xs,e1,r⟩:=qu rg' (live i acc G' pv);have hl:=r.length;refine⟨fun hi=>⟨⟨xs,xs[i]'(by walk_at "o"),jT.of e1,by simp[show i < xs.length by walk_at "o"]⟩,fun x H2 y=>?_⟩,fun e=>⟨xs,jT.of e1,by walk_at "o"⟩⟩
  obtain⟨rfl,hx⟩:=y;refine⟨Kp.refl,rg',ds[i],by simp[hi],?_⟩
  obtain⟨y,e,q⟩:=r.get (i:=i) (d:=ds[i]) (by simp[hi])
  rw[hx xs (jT.of e1)]at e;cases e;exact q
 | lst ds=>
  obtain⟨hsz,Pv,p0,step,fin⟩:=q;exact⟨_,rfl,fun J it=>jR rs rg k k1 rg1 p0 (fun i acc G' H' _ k' rg'=>it i G' H' k' rg') step fin hsz⟩
 | fl ds=>
  obtain⟨hsz,Pv,p0,step,fin⟩:=q;exact⟨_,rfl,fun J it=>jR rs rg k k1 rg1 p0 (fun i acc G' H' _ k' rg'=>it i G' H' k' rg') step fin hsz⟩
 | tup ds=>
  obtain⟨hsz,Pv,p0,step,fin⟩:=q;exact⟨_,rfl,fun J it=>jR rs rg k k1 rg1 p0 (fun i acc G' H' _ k' rg'=>it i G' H' k' rg') step fin hsz⟩
 | str z=>
  obtain⟨hsz,Pv,p0,step,fin⟩:=q;exact⟨_,rfl,fun J it=>jR rs rg k k1 rg1 p0 (fun i acc G' H' _ k' rg'=>it i G' H' k' rg') step fin hsz⟩
 | _=>exact q.elim
theorem Ba(ok:CompOk X scope T M)
  (hin:∀ cl C s₀ H₀ fp,PG (bS X (T ++ M) scope cl C s₀ H₀ fp) tg (js X.K g)/\EK (bS X (T ++ M) scope cl C s₀ H₀ fp) ifs (cY X.K tt)/\PE (bS X (T ++ M) scope cl C s₀ H₀ fp) elt (aE X.K te))
  (hi:PE X iter (aE X.K tl)) (hs:∀ x,MM iter X.env x=pure x:=by intro _;rfl):PE X (.ListComp elt [⟨tg,iter,ifs,0⟩] scope pos) (aE X.K (uk T.length tl g tt te)):=
 (A9 ok (fun cl C s₀ H₀ fp=>let ⟨a,b,c⟩:=hin cl C s₀ H₀ fp;⟨a,b,dW c⟩) (Fj hi) hs).imp fun _ _ _ h=>AI h
end
open PySem.W
abbrev Ia(C t:LB):Obj:={ cls:=.ref C,data:=.fields #[.ref t,.none,.none,.none,.bool false,.none] }
section
open Builtin Builtin.ObjectAttr
variable{prog:LS}{w:L6}{A:LY}{K:Qz}{s:LF}{x C:LB}{o:Obj}{cd:ClassData}{name:Str}{v:LC}
end
end L3
namespace L2
open PySem PySem.Spec PyProof.Rows
def Lw(n:Nat)(H:Hp)(h:L5)(x C dx:LB):Prop:=n<=x/\H x=none/\∃ oe vs,h.get? x=some oe/\oe.cls=.ref C/\oe.dict=some dx/\oe.data=.fields vs/\
 (vs[1]?=some .none\/∃ T oT ts,vs[1]?=some (.ref T)/\T≠x/\n<=T/\H T=none/\h.get? T=some oT/\oT.data=.fields ts/\ts[3]?=some .none)
def Lz(P:LS)(w:L6):EG:=fun outer H s E e s'=>∃ x C dx H',e=.ref x/\s'.os=s.os/\Os s'.gens/\Un (CJ outer) [] H H' s.heap s'.heap/\oa P w H' s'.heap/\Lw s.heap.objs.size H' s'.heap x C dx/\s.heap.get? dx=none/\E (.ref C) (some dx) H'
open L3
def La:List LC:=[.type "ValueError",.type "Exception",.type "BaseException",.type "object"]
abbrev FV(C t dx:LB):Obj:={ cls:=.ref C,dict:=some dx,data:=.fields #[.ref t,.none,.none,.none,.bool false,.none] }
section
variable{X:Cx}{C f:LB}{a:Str}
def Ky(C:LB)(a:Str):Sp:=fun vs H Q _=>∃ x v t,vs=[.ref x,v]/\H x=some (XO x (Ia C t))/\∀ dx,H dx=none->dx≠x->Q .non (bv (bv H dx (.xd [(a,v)])) x (XO x (FV C t dx)))
end
open PySem.W
def Ends.un(i:Nat)(D:Ends):Ends:={ nx:=fun σ H=>D.nx (σ.set i none) H,rt:=D.rt,bk:=fun σ H=>D.bk (σ.set i none) H,ct:=fun σ H=>D.ct (σ.set i none) H }
end L2
namespace L3
open PySem PySem.Spec PyProof.Rows L2 PySem.W
abbrev XQ:=LB->Str->D->Gp->Prop
def K8(K:Qz)(G:Gp)(H:Hp)(EQ:XQ)(E:XK):Prop:=∀ C a d G' v dx H',EQ C a d G'->Kp G H G' H'->RG K H' G'->G' dx=none->H' dx=some (.xd [(a,v)])->RD K H' d v->E (.ref C) (some dx) H'
abbrev Lu:=List D->Gp->mZ->XQ->Prop
def Kc(K:Qz)(sp:Lu):Sp:=fun vs H Q E=>∃ ds G Q3 EQ,RDs K H ds vs/\RG K H G/\sp ds G Q3 EQ/\uu K G H Q3 Q/\K8 K G H EQ E
def Ends3.un(i:Nat)(D:Ends3):Ends3:={ nx:=fun σ G=>D.nx (σ.set i none) G,rt:=D.rt,bk:=fun σ G=>D.bk (σ.set i none) G,ct:=fun σ G=>D.ct (σ.set i none) G }
def mr(te:bH):bH:=fun σ G Q=>te σ G fun d G1=>∃ ds,d=.fl ds/\∀ p,G1 p=none->Q (.ref p) (gset G1 p (.lst ds))
theorem qg{X:Cx}{e:L7}{te:bH}(he:PE X e (aE X.K te)):PE X e (aE X.K (mr te)):=
 he.imp fun τ H Q ⟨σ,G,Q3,rs,rg,h,k⟩=>⟨σ,G,_,rs,rg,h,fun d G' v H' q k' rg' re=>by
  obtain⟨ds,rfl,q⟩:=q;obtain⟨p,xs,rfl,e1,e2,e3,e4⟩:=re.fl;exact k (.ref p) _ _ H' (q p e2) (DP k' e4) (DO rg' e1 e3) (.of iD)⟩
open PySem.SeqAt
abbrev n_(h:L5)(it d:LB)(i n ep:Nat)(f0 f1 ok ov:LC):Prop:=
 h.get? it=some { cls:=.type "dict_itemiterator",dict:=none,data:=.fields #[f0,f1,.ref d,.int i 0,.int n 0,.int ep 0,ok,ov],slots:=#[] }
section
variable{prog:LS}{w:L6}{A:LY}{E:LC->LF->Prop}{s:LF}{d r it:LB}{kvs:List (aH×LC)}{ep i n:Nat}{f0 f1 ok ov:LC}
theorem FR{Q:Bool->LF->Prop}(hz:n_ s.heap it d i n ep f0 f1 ok ov)(hf:r9 f0)(q1:Q true s)
  (q2:∀ h' f1',n_ h' it d i n ep f0 f1' ok ov->MV it s.heap h'->Q false { s with heap:=h' }):LJ (LN prog w) A (O0 (.ref it)) Q E s:=by
 unfold O0;refine LA (MJ hz rfl (x:=f0) rfl ?_);rcases hf with rfl|⟨T,rfl⟩
 ·exact LD q1
 ·show LJ _ _ (Pq _ >>= _) _ _ _;refine yk ?_;cases hT:s.heap.get? (Int.toNat (T:Int)) with
  | none=>exact LD q1
  | some o=>
   show LJ _ _ (QY (.ref it) 1 >>= _) _ _ _
   refine LA (MJ hz rfl (x:=f1) rfl ?_)
   by_cases e:(f1 != Value.bool true)=true
   ·rw[if_pos e];exact LA (Mc hz (by simp) fun h1 hz1 hs1=>LD (q2 h1 _ hz1 hs1))
   ·rw[if_neg e];exact LA (LD (LD (q2 s.heap f1 hz (Pc ..))))
theorem FQ{k:aH}{v:LC}{Q:Option LC->LF->Prop}(hi:n_ s.heap it d i kvs.length ep f0 f1 ok ov)(hf:r9 f0)(hm:s.heap.DictAt (aO prog w) d kvs ep)(hx:kvs[i]?=some (k,v))
  (q:∀ key h' f0' f1' ok' ov',tY k key=true->r9 f0'->n_ h' it d (i+1) kvs.length ep f0' f1' ok' ov'->Nz h' s.heap.objs.size key v->h'.objs.size=s.heap.objs.size+1->
   (∀ b o,b≠it->s.heap.get? b=some o->h'.get? b=some o)->Q (some (.ref s.heap.objs.size)) { s with heap:=h' }):LJ (LN prog w) A (MT (.ref it)) Q E s:=by
 obtain⟨od,es,hod,hcd,hdd,hk,hpr,hn⟩:=id hm;have hT:s.TypeIs (.ref it) "dict_itemiterator":=⟨_,hi,rfl⟩;unfold MT;refine LA (M6 (Mr (name:=LI "__next__") hT Ng (Mq Ng hT Pj ?_ (Pg _))));refine LA (LD ?_);refine LA ?_;refine LA ?_
 first|refine LA (M9 hT (LD ?_))|refine LA (NB hT (LD ?_))
 refine LA (NS hi rfl ?_);have own:Mx "dict_itemiterator"=true:=by decide
 simp only[own,if_true];show LJ _ _ (if (Value.ref d == Value.none)=true then _ else _) _ _ _;rw[if_neg (show ¬ ((Value.ref d == Value.none)=true)from Bool.false_ne_true)]
 refine LA (LD ?_);refine LA (MS hod hdd ?_);have z:es.size=kvs.length:=by rw[<- hpr.length];simp
 rw[if_neg (by rw[z];simp)];refine LA (LD ?_);refine LA (M3 hod hdd ?_)
 rw[if_neg (by simp)];refine LD ?_
 have lt:i < es.size:=by
  rw[z];rcases Nw i kvs.length with h|h
  ·exact h
  ·rw[M_ h]at hx;cases hx
 obtain⟨UB,hval⟩:=hpr.get? (e:=es[i]) (by simp[lt]) hx
 simp only[show ¬ ((i:Int) < 0)from by walk_at "o",if_false,Int.toNat_natCast,Array.getElem?_eq_getElem lt];refine LA ?_
 first|refine LA (M9 hT (LD ?_))|refine LA (NB hT (LD ?_))
 refine LA (Oz hT ?_);show LJ _ _ (O8 (.ref it) 3 (Ni ((i:Int)+1)) >>= _) _ _ s;refine LA (Mc hi (by simp) fun g1 z1 s1=>?_)
 replace z1:n_ g1 it d (i+1) kvs.length ep f0 f1 ok ov:=by
  have e:((i+1:Nat):Int)=(i:Int)+1:=by walk_at "o"
  unfold n_;rw[e];simpa[Ni]using z1
 have hT1:PY { s with heap:=g1 } (.ref it) "dict_itemiterator":=⟨_,z1,rfl⟩
 refine LA (Mi ?_);refine LA (Oz hT1 ?_);refine LA (Oz hT1 ?_);show LJ _ _ (Pe (.ref it) 6 es[i].key es[i].val) _ _ { s with heap:=g1 };unfold Pe
 refine LA (Og ?_);have sz:g1.objs.size=s.heap.objs.size:=s1.1;have il:it < g1.objs.size:=LQ z1;have z2:n_ (g1.push { cls:=.type "tuple",data:=.seq #[es[i].key,es[i].val] }) it d (i+1) kvs.length ep f0 f1 ok ov:=LH _ z1;have t2:Nz (g1.push { cls:=.type "tuple",data:=.seq #[es[i].key,es[i].val] }) g1.objs.size es[i].key es[i].val:=LK _ rfl;have fin:∀ h' f0' f1' ok' ov',r9 f0'->n_ h' it d (i+1) kvs.length ep f0' f1' ok' ov'->MV it (g1.push { cls:=.type "tuple",data:=.seq #[es[i].key,es[i].val] }) h'->Q (some (.ref g1.objs.size)) { s with heap:=h' }:=fun h' f0' f1' ok' ov' l' z' s'=>by
  rw[sz];refine q es[i].key h' f0' f1' ok' ov' UB l' z' ?_ ?_ fun b o hb e=>s'.extBut _ _ hb (LH _ (s1.extBut _ _ hb e))
  ·rw[<- hval,<- sz];exact s'.extBut _ _ (N7 il) t2
  ·rw[s'.1,MN,sz]
 refine LA (FR z2 hf ?_ fun h0 f1' z3 s3=>?_)
 ·simp only[if_true];refine LA (MJ z2 rfl (x:=ok) rfl ?_);refine LA (MJ z2 rfl (x:=ov) rfl ?_);refine LA (Mc z2 (by simp) fun g3 z3 s3=>?_)
  replace z3:n_ g3 it d (i+1) kvs.length ep f0 f1 es[i].key ov:=z3
  refine LA (Mc z3 (by simp) fun g4 z4 s4=>?_)
  replace z4:n_ g4 it d (i+1) kvs.length ep f0 f1 es[i].key es[i].val:=z4
  refine LA (Mc z4 (by simp) fun g5 z5 s5=>?_)
  replace z5:n_ g5 it d (i+1) kvs.length ep (Ni g1.objs.size) f1 es[i].key es[i].val:=z5
  refine LA (Mc z5 (by simp) fun g6 z6 s6=>?_)
  replace z6:n_ g6 it d (i+1) kvs.length ep (Ni g1.objs.size) (.bool false) es[i].key es[i].val:=z6
  refine LA (OM (LD (LD ⟨_,rfl,LD (fin g6 _ _ _ _ (.inr ⟨_,rfl⟩) z6 (((s3.trans s4).trans s5).trans s6))⟩)))
 ·simp only[Bool.false_eq_true,if_false];exact LD (LD ⟨_,rfl,LD (fin h0 _ _ _ _ hf z3 s3)⟩)
theorem HZ{Q:Option LC->LF->Prop}(hh:A.handled=none)(hi:n_ s.heap it d i kvs.length ep f0 f1 ok ov)(hm:s.heap.DictAt (aO prog w) d kvs ep)(hx:kvs[i]?=none)
  (q:∀ h',Qy it s.heap h'->Q none { s with heap:=h' }):LJ (LN prog w) A (MT (.ref it)) Q E s:=by
 obtain⟨od,es,hod,hcd,hdd,hk,hpr,hn⟩:=id hm;have hT:s.TypeIs (.ref it) "dict_itemiterator":=⟨_,hi,rfl⟩;unfold MT;refine LA (M6 (Mr (name:=LI "__next__") hT Ng (Mq Ng hT Pj ?_ (Pg _))));refine LA (LD ?_);refine LA ?_;refine LA ?_
 first|refine LA (M9 hT (LD ?_))|refine LA (NB hT (LD ?_))
 refine LA (NS hi rfl ?_);have own:Mx "dict_itemiterator"=true:=by decide
 simp only[own,if_true];show LJ _ _ (if (Value.ref d == Value.none)=true then _ else _) _ _ _;rw[if_neg (show ¬ ((Value.ref d == Value.none)=true)from Bool.false_ne_true)]
 refine LA (LD ?_);refine LA (MS hod hdd ?_);have z:es.size=kvs.length:=by rw[<- hpr.length];simp
 rw[if_neg (by rw[z];simp)];refine LA (LD ?_);refine LA (M3 hod hdd ?_)
 rw[if_neg (by simp)];refine LD ?_
 have ge:es.size<=i:=by rw[z];simpa using hx
 simp only[show ¬ ((i:Int) < 0)from by walk_at "o",if_false,Int.toNat_natCast,Array.getElem?_eq_none ge];refine LA ?_
 first|refine LA (M9 hT (LD ?_))|refine LA (NB hT (LD ?_))
 show LJ _ _ (O8 (.ref it) 2 .none >>= _) _ _ s;refine LA (Of hi rfl (by simp) ?_)
 show LJ _ _ (Qe (.type "StopIteration") [] >>= _) _ _ _;refine LA ?_
 simp only[Qe,newTuple];refine LA (Ma ?_ (by size_fits))
 refine LA (m:=NU _ _) (Qt (a:=Value.none) (by first|rfl|(simp only[NU];rfl)) ?_);refine Ma ?_ (by size_fits)
 simp only[raiseNew];refine LA (PP ?_);rw[show A.in1.handled=none from hh]
 refine LA (LD (Qs ?_));refine LA (NY (T:="StopIteration") (b:=true) ⟨_,LK _ rfl,rfl⟩ ON ?_);exact LD (q _ (((ND ..).extBut.push _).push _))
theorem AA{Q:Bool->LF->Prop}(hT:s.TypeIs (.ref r) "dict_items")(h:Q false s):LJ (LN prog w) A (Py (.ref r)) Q E s:=by
 unfold Py;refine LA (wpAny_specialOf hT PySem.F.slot_dict_items_len.lookup ?_);generalize hid:("dict_items.__len__":String)=id0
 wp_delta
 rw[show splitId id0=some ("dict_items","__len__")from by subst hid;decide +kernel];subst hid
 refine LA (NY (T:="dict_items") (b:=true) hT (by rw[isSubtype_type];kernel_rfl) ?_)
 refine Pt (fun hab=>absurd hab (by decide)) (fun _=>?_);refine Pt (fun _=>?_) (fun hab=>absurd (by decide +kernel) hab)
 exact LA (Ox hT (LD h))
end
abbrev Ix:List (Str×Int)->List (aH×LC)->Prop:=Oj fun p q=>q.1=.inr p.1/\aJ (.int p.2) q.2
theorem Ix.get:∀ {ps:List (Str×Int)} {kvs:List (aH×LC)} {i:Nat} {p:Str×Int},Ix ps kvs->ps[i]?=some p->∃ v,kvs[i]?=some (.inr p.1,v)/\aJ (.int p.2) v
 | _,_,i,p,.nil,e=>by simp at e
 | _,_,0,p,.cons (b:=b) h t,e=>by
  cases e;exact⟨b.2,by rw[Mw,<- h.1],h.2⟩
 | _,_,i+1,p,.cons h t,e=>by
  obtain⟨v,e1,e2⟩:=Ix.get t (i:=i) e;exact⟨v,e1,e2⟩
theorem DD{K:PySem.W.Frag}{H:Hp}:∀ {ps:List (Str×Int)} {hs:List (aH×V)} {kvs:List (aH×LC)},yd K H (ps.map fun p=>((.inr p.1:aH),D.int p.2)) hs->KV hs kvs->Ix ps kvs
 | [],_,_,r,k=>by
  cases r;cases k;exact .nil
 | p::ps,_,_,r,k=>by
  cases r with
  | cons h r=>
   cases k with
   | cons h' k=>
    refine .cons ⟨h'.1.symm.trans h.1.symm,?_⟩ (DD r k);have:=h.2;simp only[RD]at this;rw[<- this];exact h'.2
structure ItS(X:Cx)(pins:List (LB×Obj))(τ:St)(G:Gp)(H0:Hp)(S:LB)(ps:List (Str×Int))(i:Nat)(H:Hp)(s:LF)(acc:Array LC)(c:Nat)(vs:List V):Prop where
 inv:L2.Inv X pins τ H s
 kp:Kp G H0 G H
 rg:RG X.K H G
 fs:mx X pins H S
 ls:s.heap.get? S=some { cls:=.type "list",dict:=none,data:=.seq acc c,slots:=#[] }
 rd:RDs X.K H ((ps.take i).map zH) vs
 wv:Vals vs acc.toList
theorem xK{X:Cx}{pins:List (LB×Obj)}{H:Hp}{b a:LB}{o:HO}(h:mx X pins H b)(e:b≠a):mx X pins (bv H a o) b:=⟨by rw[aA e];exact h.1,h.2⟩
section
variable{X:Cx}{pins:List (LB×Obj)}{τ:St}{G:Gp}{H0:Hp}{S it d:LB}{ps:List (Str×Int)}{kvs:List (aH×LC)}{ep:Nat}{A:LY}{E:LC->LF->Prop}{s:LF}
theorem FP{R:PL->LF->Prop}(hh:A.handled=none)(hp:Ix ps kvs)(hn:ps.length<=900000)(n1:it≠S)(n2:d≠it)(n3:d≠S)(res:LC):
  ∀ (k i:Nat) (H:Hp) (s:LF) (acc:Array LC) (c:Nat) (vs:List V) (f0 f1 ok ov:LC),ps.length - i=k->i<=ps.length->ItS X pins τ G H0 S ps i H s acc c vs->mx X pins H it->s.heap.DictAt (aO X.prog X.w) d kvs ep->r9 f0->n_ s.heap it d i kvs.length ep f0 f1 ok ov->
  (∀ H' s' UM c' vs',ItS X pins τ G H0 S ps ps.length H' s' UM c' vs'->R (.ok (.ret res)) s')->
  NN (LN X.prog X.w) A (.builtin "list.extend.loop" ⟨[.ref S,.ref it,res],[]⟩) R s:=by
 have hl:=hp.length;intro k
 induction k with
 | zero=>
  intro i H s acc c vs f0 f1 ok ov hk hi st fi dm lf ia hR;have e:i=ps.length:=by walk_at "o"
  subst e;refine NM QC ?_;rw[M5 NE _];show LJ _ A.in1 (MT (.ref it) >>= _) _ _ s
  refine LA (HZ hh ia dm (by rw[hl];simp) fun h' x=>LD (hR H _ acc c vs ?_))
  refine⟨st.inv.turnedL (t':=s.toks) (fp:=[it]) (fun b o hb e=>x b o (fun z=>hb (by rw[z];exact LV)) e) (fun b hb=>by rw[PX.mp hb];exact fi),st.kp,st.rg,st.fs,x _ _ n1.symm st.ls,st.rd,st.wv⟩
 | succ k ih=>
  intro i H s acc c vs f0 f1 ok ov hk hi st fi dm lf ia hR;have lt:i < ps.length:=by walk_at "o"
  have ep:ps[i]?=some ps[i]:=by simp[lt]
  obtain⟨v,ek,rv⟩:=hp.get ep;refine NM QC ?_;rw[M5 NE _];show LJ _ A.in1 (MT (.ref it) >>= _) _ _ s
  refine LA (FQ ia lf dm ek fun key h' f0' f1' ok' ov' UB lf' ia' pr sz hk'=>?_);have la:acc.size=i:=by
   have:=st.wv.length;have h2:=st.rd.length;rw[LG,Mm]at h2;rw[<- Array.length_toList];omega
  have fr:=st.inv.fresh;have rk:aJ (.str ps[i].1) key:=by
   rcases cQ UB with ⟨j,t,e,rfl⟩|⟨x,t,e,rfl⟩
   ·cases e
   ·cases e;exact⟨t,rfl⟩
  have vv:Vals [V.str ps[i].1,V.int ps[i].2] [key,v]:=.cons rk (.cons rv .nil);have I1:L2.Inv X pins τ (bv H s.heap.objs.size (.tup [V.str ps[i].1,V.int ps[i].2])) { s with heap:=s.heap.push { cls:=.type "tuple",data:=.seq #[key,v] } }:=
   st.inv.laid (t':=s.toks) (fun b u e=>LH _ e) (le_refl _) ⟨by rw[Mh];show 2<=_;omega,[key,v],vv,ut.new _ _⟩
  have nS:S≠s.heap.objs.size:=L9 (LQ st.ls);have nI:it≠s.heap.objs.size:=L9 (LQ ia);have hS':=hk' S _ n1.symm st.ls;show LJ _ A.in1 (updateSeq S (·.push (.ref s.heap.objs.size)) >>= _) _ _ _
  refine LA (Ps hS' rfl (LD ⟨N0 NE _,?_⟩) (by rw[la,Mh];omega) (by show (acc.push _).size<=LL+1;rw[Array.size_push,la,Mh];omega))
  have oth:∀ b o,b≠S->h'.get? b=some o->(h'.update S (Mt (·.push (.ref s.heap.objs.size)))).get? b=some o:=fun b o hb e=>(MI _ _ (Ne.symm hb)).trans e;have I2:L2.Inv X pins τ (bv H s.heap.objs.size (.tup [V.str ps[i].1,V.int ps[i].2])) { s with heap:=h'.update S (Mt (·.push (.ref s.heap.objs.size))) }:=by
   refine Inv.turnedL (s:={ s with heap:=s.heap.push { cls:=.type "tuple",data:=.seq #[key,v] } }) (t':=s.toks) (fp:=[it,S]) I1 (fun b o hb e=>?_) fun b hb=>?_
   ·simp only[L_,L8,or_false,not_or]at hb;refine oth b o hb.2 ?_
    by_cases z:b=s.heap.objs.size
    ·subst z;rw[show (s.heap.push { cls:=.type "tuple",data:=.seq #[key,v] }).get? s.heap.objs.size=_ from LK _ rfl]at e
     cases e;exact pr
    ·rw[Pa _ _ _ z]at e;exact hk' b o hb.1 e
   ·simp only[L_,L8,or_false]at hb;rcases hb with rfl|rfl
    ·exact xK fi nI
    ·exact xK st.fs nS
  have kp1:Kp G H G (bv H s.heap.objs.size (.tup [V.str ps[i].1,V.int ps[i].2])):=Kp.laid fr;refine ih (i+1) _ _ (acc.push (.ref s.heap.objs.size)) _ (vs ++ [.ref s.heap.objs.size]) f0' f1' ok' ov' (by walk_at "o") lt ⟨I2,st.kp.trans kp1,st.rg.laid fr,xK st.fs nS,M1 _ hS' rfl,?_,?_⟩ (xK fi nI) ?_ lf' (oth _ _ n1 ia') hR
  ·rw[List.take_succ,ep,MB];have r1:=RDs.mono (kp1.stb st.rg) _ _ st.rd;have r2:RD X.K (bv H s.heap.objs.size (.tup [V.str ps[i].1,V.int ps[i].2])) (zH ps[i]) (.ref s.heap.objs.size):=mz st.rg fr (RDs.cons (by simp only[RD]) (RDs.cons (by simp only[RD]) RDs.nil))
   exact RDs.append r1 (RDs.cons r2 RDs.nil)
  ·rw[Array.toList_push];exact OQ st.wv rfl
  ·obtain⟨o,es,e1,e2⟩:=dm;exact⟨o,es,oth _ _ n3 (hk' _ _ n2 e1),e2⟩
def J8(X:Cx)(pins:List (LB×Obj))(τ:St)(G:Gp)(H:Hp)(S:LB)(ps:List (Str×Int))(q:PL)(s':LF):Prop:=∃ H' acc c vs,q=.ok (.ret (.ref S))/\ItS X pins τ G H S ps ps.length H' s' acc c vs
theorem Ce{H:Hp}{v:LB}{h1:L5}(hh:A.handled=none)(hp:Ix ps kvs)(hn:ps.length<=900000)(I:L2.Inv X pins τ H s)(rg:RG X.K H G)(hv:s.heap.IsItemsView v d)(dm:s.heap.DictAt (aO X.prog X.w) d kvs ep)
  (k1:∀ b o,s.heap.get? b=some o->h1.get? b=some o) (z1:h1.objs.size=s.heap.objs.size+1) (hS₁:h1.get? s.heap.objs.size=some { cls:=.type "list",data:=.seq #[] }):
  LJ (LN X.prog X.w) A.in1 (Pz (.ref s.heap.objs.size) (.ref v) (.ref s.heap.objs.size))
   (fun fin s'=>match fin with|.done f=>J8 X pins τ G H s.heap.objs.size ps (.ok f) s'|.again c'=>c'.quiet=true/\NN (LN X.prog X.w) A c' (J8 X pins τ G H s.heap.objs.size ps) s') (fun e s'=>J8 X pins τ G H s.heap.objs.size ps (.error e) s') { s with heap:=h1 }:=by
 have lv:v < s.heap.objs.size:=let ⟨_,e,_⟩:=hv;LQ e;have ld:d < s.heap.objs.size:=let ⟨_,_,e,_⟩:=dm;LQ e;have hv1:h1.IsItemsView v d:=let ⟨o,e,z⟩:=hv;⟨o,k1 _ _ e,z⟩;have dm1:h1.DictAt (aO X.prog X.w) d kvs ep:=let ⟨o,es,e,z⟩:=dm;⟨o,es,k1 _ _ e,z⟩;unfold Pz;refine LA (Ox (T:="dict_items") (P9 (s:={ s with heap:=h1 }) hv1) ?_)
 have h1':PZ (.ref s.heap.objs.size) (.ref v)=false:=by simp[PZ,N7 lv]
 have h2:(Value.type "dict_items" == Value.type "list")=false:=by decide
 have h3:(Value.type "dict_items" == Value.type "tuple")=false:=by decide
 simp only[h1',h2,h3,Bool.or_false,Bool.false_eq_true,if_false];refine LA (wpAny_pyIter_items (s:={ s with heap:=h1 }) (knd:=aO X.prog X.w) hv1 dm1 ?_)
 have hI₂:n_ (h1.push { cls:=.type "dict_itemiterator",data:=.fields #[.none,.bool false,.ref d,.int 0 0,.int kvs.length 0,.int ep 0,.none,.none] }) h1.objs.size d 0 kvs.length ep .none (.bool false) .none .none:=LK _ rfl;have k2:∀ b o,h1.get? b=some o->(h1.push { cls:=.type "dict_itemiterator",data:=.fields #[.none,.bool false,.ref d,.int 0 0,.int kvs.length 0,.int ep 0,.none,.none] }).get? b=some o:=fun b o e=>LH _ e;show LJ _ _ (holding _ _ >>= _) _ _ { s with heap:=h1.push { cls:=.type "dict_itemiterator",data:=.fields #[.none,.bool false,.ref d,.int 0 0,.int kvs.length 0,.int ep 0,.none,.none] } }
 generalize h1.push { cls:=.type "dict_itemiterator",data:=.fields #[.none,.bool false,.ref d,.int 0 0,.int kvs.length 0,.int ep 0,.none,.none] }=h2' at hI₂ k2 ⊢;have hv2:h2'.IsItemsView v d:=let ⟨o,e,z⟩:=hv1;⟨o,k2 _ _ e,z⟩;refine LA (Mi (AA (P9 (s:={ s with heap:=h2' }) hv2) ?_))
 have key:∀ (h:L5) (c tk:Nat),(∀ b o,b≠s.heap.objs.size->h2'.get? b=some o->h.get? b=some o)->h.get? s.heap.objs.size=some { cls:=.type "list",data:=.seq #[] c }->
   NN (LN X.prog X.w) A (.builtin "list.extend.loop" ⟨[.ref s.heap.objs.size,.ref h1.objs.size,.ref s.heap.objs.size],[]⟩) (J8 X pins τ G H s.heap.objs.size ps) { s with heap:=h,toks:=tk }:=fun h c tk hk hS=>by
  have I1:L2.Inv X pins τ H { s with heap:=h,toks:=tk }:=I.kept fun b u e=>hk b u (L9 (LQ e)) (k2 _ _ (k1 _ _ e))
  have fS:H s.heap.objs.size=none:=I.fresh;have fI:H h1.objs.size=none:=I.hok.fresh (by rw[z1];exact Qg _)
  refine FP (X:=X) (pins:=pins) (τ:=τ) (G:=G) (H0:=H) (ps:=ps) (kvs:=kvs) (ep:=ep) hh hp hn (by rw[z1];exact N7 (Nk _)) (by rw[z1];exact L9 (Nat.lt_succ_of_lt ld)) (L9 ld) _ ps.length 0 H _ #[] c [] .none (.bool false) .none .none (by walk_at "o") (Mg _) ⟨I1,Kp.refl,rg,I.fpOk (le_refl _) fS,hS,RDs.nil,.nil⟩ (I.fpOk (by rw[z1];exact Qg _) fI) ?_ (.inl rfl) ?_ fun H' s' UM c' vs' st=>⟨H',UM,c',vs',rfl,st⟩
  ·obtain⟨o,es,e,z⟩:=dm1;exact⟨o,es,hk _ _ (L9 ld) (k2 _ _ e),z⟩
  ·exact hk _ _ (by rw[z1];exact N7 (Nk _)) hI₂
 have hS₂:=k2 _ _ hS₁;refine Pt (fun _=>?_) (fun _=>LD ⟨N0 NE _,key _ 0 s.toks (fun b o _ e=>e) hS₂⟩);refine LA (Oy (LA ?_));show LJ _ _ (updateSeq s.heap.objs.size (·.push .none) >>= fun _=>updateSeq s.heap.objs.size (·.pop)) _ _ _
 refine LA (Ps hS₂ rfl ?_);have hS₃:=M1 (Mt (·.push Value.none)) hS₂ rfl;refine Ps (hz:=by seq_fits) hS₃ rfl ?_
 have hS₄:=M1 (Mt (·.pop)) hS₃ rfl;refine LD ⟨N0 NE _,key _ _ s.toks (fun b o hb e=>?_) hS₄⟩;exact (MI _ _ (Ne.symm hb)).trans ((MI _ _ (Ne.symm hb)).trans e)
theorem Aw{H:Hp}{v:LB}{Q:List LC->LF->Prop}(hh:A.handled=none)(hp:Ix ps kvs)(hn:ps.length<=900000)(I:L2.Inv X pins τ H s)(rg:RG X.K H G)(hv:s.heap.IsItemsView v d)(dm:s.heap.DictAt (aO X.prog X.w) d kvs ep)
  (q:∀ H' s' us vs,L2.Inv X pins τ H' s'->Kp G H G H'->RG X.K H' G->RDs X.K H' (ps.map zH) vs->Vals vs us->Q us s'):LJ (LN X.prog X.w) A (collect (.ref v)) Q E s:=by
 unfold collect;refine LA (wpAny_runValue (NM F.entry_proto_collect ?_));rw[M5 F.plain_proto_collect _];show LJ _ A.in1 (newList [] >>= fun l=>again (.builtin "list.__iadd__" ⟨[l,.ref v],[]⟩)) _ _ s
 refine LA (Ma (LD ⟨N0 Q0 _,NM F.entry_list_iadd ?_⟩));rw[M5 Q0 _];have key:=Ce (A:=A) (h1:=s.heap.push { cls:=.type "list",data:=.seq ([]:List LC).toArray }) hh hp hn I rg hv dm (fun b o e=>LH _ e) (MN ..) (LK _ rfl);have fin:∀ f s',J8 X pins τ G H s.heap.objs.size ps (.ok f) s'->f=.ret (.ref s.heap.objs.size)/\LJ (LN X.prog X.w) A (load s.heap.objs.size >>= fun o=>match o.data with|.seq its _=>pure its.toList|_=>unsupported "internal:collect") Q E s':=fun f s' ⟨H',acc,c,vs,e,st⟩=>by
  cases e;refine⟨rfl,LA (QE st.ls (LD (q H' s' _ vs st.inv st.kp st.rg ?_ st.wv)))⟩;have:=st.rd;rwa[Mo]at this
 refine MC key (fun fn s' x=>?_) fun e s' x=>?_
 ·cases fn with
  | done f=>
   obtain⟨rfl,y⟩:=fin f s' x;exact y
  | again c₁=>
   refine⟨x.1,Od x.2 fun q' s₂ y=>?_⟩;cases q' with
   | ok f=>
    obtain⟨rfl,y2⟩:=fin f s₂ y;exact y2
   | error e=>
    obtain⟨_,_,_,_,e',_⟩:=y;cases e'
 ·obtain⟨_,_,_,_,e',_⟩:=x;cases e'
theorem yw{H:Hp}{src:LC}{Q:LC->LF->Prop}(hu:X.A.units+8 < Mp)(hz:ps.length < 64)
  (col:∀ {E':LC->LF->Prop} {Q':List LC->LF->Prop},(∀ H' s' us vs,L2.Inv X pins τ H' s'->Kp G H G H'->RG X.K H' G->RDs X.K H' (ps.map zH) vs->Vals vs us->Q' us s')->LJ (LN X.prog X.w) X.A.in1 (collect src) Q' E' s)
  (k:∀ D0 H' s' vs,L2.Inv X pins τ H' s'->Kp G H G H'->RG X.K H' G->G D0=none->H' D0=some (.lst vs)->GD G H D0->RDs X.K H' ((uy ps).map zH) vs->Q (.ref D0) s'):
  LJ (LN X.prog X.w) X.A (call (.builtin "sorted") [src]) Q E s:=by
 refine Calls.call_function_entry kind_sorted plain_sorted entry_sorted (args_sorted1 _) ?_;unfold Builtin.«sorted»;refine LA (m:=checkCount "sorted" 1 1 _) (LD ?_);refine LA (col fun H1 s1 us vs I1 kp1 rg1 rd wv=>?_);have l1:=rd.length;have l2:=wv.length;rw[LG]at l1;refine LA (OZ ?_ (by rw[Mh];omega))
 have fD:=I1.fresh;have I2:=qG (t':=s1.toks) (o:=MA "list" us.toArray 0) I1 rfl rfl;have st:Stb X.K H1 (bv H1 s1.heap.objs.size (XO s1.heap.objs.size (MA "list" us.toArray 0))):=(Kp.laid (G:=G) fD).stb rg1;refine LA (Mi (Mq slot_list_sort ⟨_,kC I2 aM,rfl⟩ entry_list_sort ?_ (args_list_sort _)));have at_:∀ (i:Nat) a,(ps.map zH)[i]?=some a->∃ x,ps[i]?=some x/\a=zH x:=fun i a e=>by
  rw[L4]at e;cases h:ps[i]? with
  | none=>rw[h]at e;cases e
  | some x=>rw[h]at e;cases e;exact⟨x,rfl,rfl⟩
 refine BE (A:=X.A.in1.in1) (r:=fun i=>rankIn yg ps (ps.getD i (LI "",0))) I2 (rg1.laid fD) (Kp.laid fD) fD (rg1.free fD) (by show X.A.units+1+1+4 < Mp;omega) aM (RDs.mono st _ _ rd) wv (by rw[LG];exact hz) (fun d hd=>?_) (fun a ha b hb'=>?_) (fun i j a b ha hb'=>?_) fun p H' s' hp' hs I' kp' rg' e' st'=>⟨_,rfl,?_⟩
 ·obtain⟨x,_,rfl⟩:=mem_map.mp hd;exact⟨_,_,rfl⟩
 ·obtain⟨x,_,rfl⟩:=mem_map.mp ha;obtain⟨y,_,rfl⟩:=mem_map.mp hb';exact Jd _ _
 ·obtain⟨x,ex,rfl⟩:=at_ i a ha;obtain⟨y,ey,rfl⟩:=at_ j b hb';rw[Jc];have g1:ps.getD i (LI "",0)=x:=by rw[LW,ex];rfl
  have g2:ps.getD j (LI "",0)=y:=by rw[LW,ey];rfl
  rw[g1,g2];exact rank_lt nK.swo (LZ ex)
 ·rw[LG]at hp';have inr:∀ i∈p,i < ps.length:=fun i hi=>mem_range.mp (hp'.mem_iff.mp hi);have key:uy ps=p.map fun i=>ps.getD i (LI "",0):=by
   refine AX ?_ ?_
   ·have:=hp'.map fun i=>ps.getD i (LI "",0);rwa[range_getD ps (LI "",0)]at this
   ·unfold Srt;rw[Oc]at hs ⊢;refine List.Pairwise.imp_of_mem (fun {i j} hi hj hij=>?_) hs;have m:ps.getD j (LI "",0)∈ps:=by
     rw[LW,LP (inr j hj)];exact Nx _
    rw[rank_lt nK.swo m,decide_eq_false_iff_not,not_lt];exact hij
  refine LD ⟨_,rfl,k _ H' s' _ I' (kp1.trans kp') rg' (rg1.free fD) e' (kp1.fr (pB fD)) ?_⟩;have fin:=xn (p:=p) (RDs.mono st' _ _ (RDs.mono st _ _ rd)) fun i hi=>by rw[<- l1];exact inr i hi
  have e3:(p.map fun i=>(ps.map zH).getD i .non)=(uy ps).map zH:=by
   rw[key,Mn];refine MR fun i hi=>?_;have:=inr i hi;simp[LW,this]
  rw[e3]at fin;exact fin
end
def uj(to:bH):bH:=fun σ G Q=>to σ G fun x G1=>match val x with
 | .ref a=>match G1 a with
  | some (.dK kvs)=>∃ ps:List (Str×Int),kvs=ps.map (fun p=>((.inr p.1:aH),D.int p.2))/\ps.length < 64/\Q (.fl ((uy ps).map zH)) G1
  | _=>False
 | _=>False
theorem wU{X:Cx}{o:L7}{to:bH}{p0 apos cpos pos:Pos}(hu:X.A.units+8 < Mp)(hc:X.calm=true)(hg:Gl X "sorted")(hm:X.mg "sorted"=none)(ho:PE X o (aE X.K to))
  (Se:ML o "items" X.env (eval o X.env)=eval o X.env:=by rfl) (Sd:(apos.endLine == cpos.line)=true:=by rfl):
  PE X (.Call (.Name "sorted" p0) [.Call (.Attribute o "items" apos) [] [] cpos] [] pos) (aE X.K (uj to)):=by
 rintro pins s τ H Q I ⟨σ,G,Q3,rs,rg,h,kf⟩
 refine Nh (jG I hg hm (u:=.builtin "sorted") (by decide +kernel) ?_ (by decide) (by decide))
 refine PyProof.Rows.callWith_builtin1 ?_ (by rfl) (by rfl)
 show LJ _ _ (spliced [(false,eval (.Call (.Attribute o "items" apos) [] [] cpos) X.env)]) _ _ _
 refine M0 (Ov Se Sd (cI (d4 ho I rs rg h) fun ov s1 ⟨ox,H1,I1,rox,x,G1,q1,k1,rg1,rd1⟩=>?_));split at q1
 ·rename_i a hx;rw[hx]at rd1;simp only[RD]at rd1;subst rd1;cases rox;split at q1
  ·rename_i kvs hga;obtain⟨ps,rfl,hz,q1⟩:=q1;obtain⟨hob,eo,ro⟩:=rg1 a _ hga;cases hob with
   | dK hs=>
    obtain⟨_,hsm,vs,kv,dof⟩:=(show cg X.prog X.w H1 s1.heap a (.dK hs)from I1.hok a _ eo)
    have hp:=DD (show yd X.K H1 _ hs from ro) kv
    obtain⟨o1,es,ep,g1,g2,g3,g4⟩:=id dof;have dat:s1.heap.DictAt (aO X.prog X.w) a vs ep:=⟨o1,es,g1,g2,g3,g4⟩;have ty:s1.TypeIs (.ref a) "dict":=⟨o1,g1,g2.1⟩;refine⟨"dict","dict.items",PySem.F.plainAttrs_dict,PySem.F.slot_dict_items,PySem.F.type_dict_items,ty,fun b e=>?_,?_⟩
    ·cases e;exact⟨o1,g1,g2.2.1⟩
    ·refine Nn rfl (PySem.evalArgs_none (OE PySem.F.slot_dict_items ty PySem.F.entry_dict_items (PySem.F.args_dict_items_1 _) (meets_dict_items (aO X.prog X.w) a hsm) ⟨⟨_,dof⟩,?_⟩));refine Nt ?_;have I2:L2.Inv X pins τ H1 { s1 with heap:=s1.heap.push { cls:=.type "dict_items",data:=.fields #[.ref a] } }:=I1.kept (t':=s1.toks) fun b u e=>LH _ e
     refine yw hu hz (fun {E' Q'} q'=>Aw (I.ok.hd hc) hp (by walk_at "o") I2 rg1 ⟨_,LK _ rfl,rfl,rfl⟩ ⟨o1,es,LH _ g1,g2,g3,g4⟩ q') fun D0 H' s' vs I' kp' rg' n0 e' fr' rd'=>?_
     exact⟨.ref D0,H',I',rfl,kf _ G1 _ H' q1 (k1.trans kp') rg' (.inl ⟨_,D0,_,rfl,rfl,e',n0,rd',k1.fr fr'⟩)⟩
   | _=>exact ro.elim
  ·exact q1.elim
 ·exact q1.elim
def HE:R3:=fun x y G Q=>∃ ds:List D,(n6 G x=some ds/\n6 G y=some ds/\∀ d∈ds,pl 7 d)/\Q (.bl true) G
def HD:R3:=fun x y G Q=>∃ ds:List D,(n6 G x=some ds/\n6 G y=some ds/\∀ d∈ds,pl 7 d)/\Q (.bl false) G
section
variable{X:Cx}{pins:List (LB×Obj)}{σ:St}{H:Hp}{s:LF}{G:Gp}{x y:D}{v u:V}{v' u':LC}{ds:List D}
theorem sG(hu:X.A.units+8 < Mp)(I:L2.Inv X pins σ H s)(rg:RG X.K H G)(rv:aJ v v')(ru:aJ u u')(rx:RD X.K H x v)(ry:RD X.K H y u)(e1:n6 G x=some ds)(e2:n6 G y=some ds)(hp:∀ d∈ds,pl 7 d):
  RcAt X.A s v' u' true/\RcNeAt X.A s v' u' false:=by
 obtain⟨a,xs,rfl,s1,r1⟩:=kI (G:=G) (H:=H) e1 (.of rx) rg;obtain⟨b,ys,rfl,s2,r2⟩:=kI (G:=G) (H:=H) e2 (.of ry) rg;cases rv;cases ru;obtain⟨its,w1,t1,z1⟩:=I.list s1;obtain⟨its2,w2,t2,z2⟩:=I.list s2;have l1:=w1.length;have l1':=r1.length;have l2:=w2.length;have l2':=r2.length;have he:∀ j (h1:j < its.toArray.size) (h2:j < its2.toArray.size),EqAt X.A.in1 s its.toArray[j] its2.toArray[j] ((fun _=>true) j):=by
  intro j h1 h2;obtain⟨x1,e1,q1⟩:=Vals.getV (i:=j) (u:=its.toArray[j]) w1 (by simp at h1;simp[h1])
  obtain⟨x2,e2,q2⟩:=Vals.getV (i:=j) (u:=its2.toArray[j]) w2 (by simp at h2;simp[h2])
  obtain⟨d1,f1,g1⟩:=RDs.getV r1 e1;obtain⟨d2,f2,g2⟩:=RDs.getV r2 e2;rw[f1]at f2;cases f2;have p:=hp _ (LZ f1);have:=(um (A:=X.A.in1) I 7 p p g1 g2 q1 q2 (by show X.A.units+1+7 < Mp;omega)).eq
  rwa[bc]at this
 have rc:=RcAt.lists (A:=X.A) t1.isList t2.isList (by simp only[LM];omega) (by walk_at "o") he
 have rn:=RcNeAt.lists (A:=X.A) t1.isList t2.isList (by simp only[LM];omega) (by walk_at "o") he
 have ea:(List.range its.toArray.size).all (fun _=>true)=true:=by simp
 rw[ea]at rc rn;exact⟨rc,rn⟩
end
theorem IE{X:Cx}(hu:X.A.units+8 < Mp):iW X (Mj .Eq) (kB X.K HE):=by
 rintro pins s σ H v u v' u' Q I rv ru ⟨x,y,G,Q3,rx,ry,rg,⟨ds,⟨e1,e2,hp⟩,h⟩,k⟩
 exact (sG hu I rg rv ru rx ry e1 e2 hp).1 X.prog X.w X.xe _ ⟨.bl true,H,I,rfl,k _ G _ H h Kp.refl rg (.of h8)⟩
theorem ID{X:Cx}(hu:X.A.units+8 < Mp):iW X (Mj .NotEq) (kB X.K HD):=by
 rintro pins s σ H v u v' u' Q I rv ru ⟨x,y,G,Q3,rx,ry,rg,⟨ds,⟨e1,e2,hp⟩,h⟩,k⟩
 exact (sG hu I rg rv ru rx ry e1 e2 hp).2 X.prog X.w X.xe _ ⟨.bl false,H,I,rfl,k _ G _ H h Kp.refl rg (.of h8)⟩
structure FnM(K:Qz)(n q:Str)(st:Md)(dV:LC)(f:LB):Prop where
 ex:∃ (oc:LC) (od an:Option LB) (sl:Array (Option LC)) (kV dc pm cd ct:LC),K.lookup f=some ⟨oc,od,.func (QO n q (eY st) (eg st) (am st) dV kV dc pm an cd ct),sl⟩/\Qj K cd q=true
structure FnG(K:Qz)(n:Str)(st:Md):Prop where
 ex:∃ f,nsIn K LX n=some (some (.ref f))/\FnM K n n st .none f/\PF K (.ref f)=true
structure MtG(K:Qz)(C:LB)(n q:Str)(st:Md):Prop where
 ex:∃ f,Meth K C n f/\FnM K n q st .none f
structure CfG(K:Qz)(C:LB)(n q:Str)(st:Md):Prop where
 ex:∃ f,(specialIn K (.ref C) "__getattribute__"=some (some (.builtin "type.__getattribute__"))/\readsIn K C (.type "type")=true/\findCls K (.ref C) (.type "type") n=some (.val (.ref f))/\PF K (.ref f)=true)/\FnM K n q st .none f
structure MtD(K:Qz)(C:LB)(n q:Str)(st:Md)(x:Str):Prop where
 ex:∃ f t,Meth K C n f/\FnM K n q st (.ref t) f/\∃ (oc:LC) (od:Option LB) (tk:Tok) (nt:Nat) (sl:Array (Option LC)),K.lookup t=some ⟨oc,od,.seq #[.str x tk] nt,sl⟩
section
variable{K:Qz}{n q:Str}{st:Md}{f C t:LB}{oc oc' dV kV dc pm cd ct:LC}{od od' an:Option LB}{sl sl':Array (Option LC)}
theorem xM(l:K.lookup f=some ⟨oc,od,.func (QO n q (eY st) (eg st) (am st) dV kV dc pm an cd ct),sl⟩)(c:Qj K cd q=true):FnM K n q st dV f:=⟨_,_,_,_,_,_,_,_,_,l,c⟩
theorem fnG_mk(a:nsIn K LX n=some (some (.ref f)))(l:K.lookup f=some ⟨oc,od,.func (QO n n (eY st) (eg st) (am st) .none kV dc pm an cd ct),sl⟩)(c:Qj K cd n=true)(k:PF K (.ref f)=true):FnG K n st:=⟨f,a,xM l c,k⟩
theorem mtG_mk(a:findIn K (.ref C) n=some (some (.ref f)))(i:isFn K (.ref f)=true)(l:K.lookup f=some ⟨oc,od,.func (QO n q (eY st) (eg st) (am st) .none kV dc pm an cd ct),sl⟩)(c:Qj K cd q=true)(k:PF K (.ref f)=true):MtG K C n q st:=⟨f,⟨a,i,k⟩,xM l c⟩
theorem cfG_mk(g:specialIn K (.ref C) "__getattribute__"=some (some (.builtin "type.__getattribute__")))(r:readsIn K C (.type "type")=true)(a:findCls K (.ref C) (.type "type") n=some (.val (.ref f)))(l:K.lookup f=some ⟨oc,od,.func (QO n q (eY st) (eg st) (am st) .none kV dc pm an cd ct),sl⟩)(c:Qj K cd q=true)(k:PF K (.ref f)=true):CfG K C n q st:=⟨f,⟨g,r,a,k⟩,xM l c⟩
theorem mtD_mk{x:Str}{tk:Tok}{nt:Nat}(a:findIn K (.ref C) n=some (some (.ref f)))(i:isFn K (.ref f)=true)(l:K.lookup f=some ⟨oc,od,.func (QO n q (eY st) (eg st) (am st) (.ref t) kV dc pm an cd ct),sl⟩)(c:Qj K cd q=true)(k:PF K (.ref f)=true)(d:K.lookup t=some ⟨oc',od',.seq #[.str x tk] nt,sl'⟩):MtD K C n q st x:=⟨f,t,⟨a,i,k⟩,xM l c,_,_,_,_,_,d⟩
end
def Kd(n q:Str)(st:Md)(ps:List Str):Prop:=∀ (kV dc pm:LC) (an:Option LB) (cd ct:LC) (us:List LC),us.length=ps.length->bindArgs (QO n q (eY st) (eg st) (am st) .none kV dc pm an cd ct) ⟨us,[]⟩=pure (ps.zip us)
section
variable(P:LS)(w:L6)(base:L5){K:Qz}{h:L5}{mg:Str->Option LC}{k:Nat}{n q x:Str}{st:Md}{ps:List Str}{sp:cX}{C:LB}
theorem pD(X:K.In h)(G:h.Ns LX mg)(H:FnG K n st)(ok:∀ {f fd},Fun3 K n n st f fd->FnOk P w K mg base dz k f fd ps (ax K sp))(b:Kd n n st ps:=by walk_at "b"):Fn3 P w K mg base k n [] sp:=by
 obtain⟨f,a,⟨⟨_,_,_,_,_,_,_,_,_,l,c⟩⟩,kp⟩:=H.ex;exact⟨_,_,_,[],[],ok (kE l c),mg_of X G a,kp,.all (b _ _ _ _ _ _),.nil,fun _=>RDs.nil⟩
theorem me(cl:Cls K C)(H:MtG K C n q st)(ok:∀ {f fd},Fun3 K n q st f fd->FnOk P w K mg base dz k f fd ps (ax K sp))(b:Kd n q st ps:=by walk_at "b"):Mt3 P w K mg base k C n [] sp:=by
 obtain⟨f,a,⟨⟨_,_,_,_,_,_,_,_,_,l,c⟩⟩⟩:=H.ex;exact⟨cl,_,_,_,[],[],ok (kE l c),a,.all (b _ _ _ _ _ _),.nil,fun _=>RDs.nil⟩
theorem Js(X:K.In h)(G:h.Ns LX mg)(ca:nsIn K LX x=some (some (.ref C)))(m:makesIn K C=true)(kc:PF K (.ref C)=true)(H:MtG K C "__init__" q st)(ok:∀ {f fd},Fun3 K "__init__" q st f fd->FnOk P w K mg base dz k f fd ps (ax K sp))(b:Kd "__init__" q st ps:=by walk_at "b"):Mk3 P w K mg base k x C [] sp:=by
 obtain⟨f,a,⟨⟨_,_,_,_,_,_,_,_,_,l,c⟩⟩⟩:=H.ex;exact⟨_,_,_,[],[],⟨m,a.at_,a.fn,kc⟩,mg_of X G ca,ok (kE l c),.all (b _ _ _ _ _ _),.nil,fun _=>RDs.nil⟩
theorem Ls(X:K.In h)(G:h.Ns LX mg)(ca:nsIn K LX x=some (some (.ref C)))(H:CfG K C n q st)(ok:∀ {f fd},Fun3 K n q st f fd->FnOk P w K mg base dz k f fd ps (ax K sp))(b:Kd n q st ps:=by walk_at "b"):Cf3 P w K mg base k x n [] sp:=by
 obtain⟨f,⟨g,r,a,kp⟩,⟨⟨_,_,_,_,_,_,_,_,_,l,c⟩⟩⟩:=H.ex;exact⟨C,_,_,_,[],[],ok (kE l c),mg_of X G ca,g,r,a,kp,.all (b _ _ _ _ _ _),.nil,fun _=>RDs.nil⟩
theorem KI(cl:Cls K C)(H:MtD K C n q st x)(b:∀ {t kV dc pm an cd ct oc od tk nt sl},K.lookup t=some ⟨oc,od,.seq #[.str x tk] nt,sl⟩->fw K (QO n q (eY st) (eg st) (am st) (.ref t) kV dc pm an cd ct) ps [])(ok:∀ {f fd},Fun3 K n q st f fd->FnOk P w K mg base dz k f fd ps (ax K sp)):Mt3 P w K mg base k C n [] sp:=by
 obtain⟨f,t,a,⟨⟨_,_,_,_,_,_,_,_,_,l,c⟩⟩,_,_,_,_,_,d⟩:=H.ex;exact⟨cl,_,_,_,[],[],ok (kE l c),a,b d,.nil,fun _=>RDs.nil⟩
theorem KH(cl:Cls K C)(H:MtD K C n q st x)(b:∀ {t kV dc pm an cd ct oc od tk nt sl},K.lookup t=some ⟨oc,od,.seq #[.str x tk] nt,sl⟩->fw K (QO n q (eY st) (eg st) (am st) (.ref t) kV dc pm an cd ct) ps [.str x tk])(ok:∀ {f fd},Fun3 K n q st f fd->FnOk P w K mg base dz k f fd ps (ax K sp)):Mt3 P w K mg base k C n [.str x] sp:=by
 obtain⟨f,t,a,⟨⟨_,_,_,_,_,_,_,_,_,l,c⟩⟩,_,_,tk,_,_,d⟩:=H.ex;exact⟨cl,_,_,_,[.str x tk],[.str x],ok (kE l c),a,b d,.cons ⟨_,rfl⟩ .nil,fun _=>RDs.cons iC RDs.nil⟩
end
end L3
namespace RQ
open PySem PySem.Spec PyProof.Rows L2 L3
section
variable{α:Type}
def fL(l:List (Sl×α))(k:Sl):Option α:=(l.find? fun p=>decide (p.1=k)).map (·.2)
def mS(l:List (Sl×α))(k:Sl)(v:α):List (Sl×α):=if (l.any fun p=>decide (p.1=k))=true then l.map (fun p=>if p.1=k then (p.1,v)else p)else l ++ [(k,v)]
def ck(l m:List (Sl×α)):List (Sl×α):=m.foldl (fun a p=>mS a p.1 p.2) l
def a_(f:α->D)(l:List (Sl×α)):List (List aH×D):=l.map fun p=>(p.1.key,f p.2)
theorem By(f:α->D)(k:Sl):∀ l:List (Sl×α),((a_ f l).any fun kv=>decide (kv.1=k.key))=l.any fun p=>decide (p.1=k)
 | []=>rfl
 | p::r=>by
  have ih:=By f k r;unfold a_ at ih ⊢;simp only[L1,OP,ih];congr 1
  by_cases e:p.1=k
  ·rw[decide_eq_true e,decide_eq_true (by rw[e])]
  ·rw[decide_eq_false e,decide_eq_false (fun z=>e (Sl.key_inj z))]
theorem yJ(f:α->D)(l:List (Sl×α))(k:Sl)(v:α):bF (a_ f l) k.key (f v)=a_ f (mS l k v):=by
 unfold bF mS;rw[By];split
 ·unfold a_;rw[Mn,Mn];refine MR fun p _=>?_;simp only[Function.comp]
  by_cases e:p.1=k
  ·rw[if_pos e,if_pos (by rw[e])]
  ·rw[if_neg e,if_neg (fun z=>e (Sl.key_inj z))]
 ·unfold a_;rw[MB];rfl
theorem Bw(f:α->D)(k:Sl):∀ l:List (Sl×α),dy (a_ f l) k.key=(fL l k).map f
 | []=>rfl
 | p::r=>by
  have ih:=Bw f k r;unfold a_ fL dy at *
  by_cases e:p.1=k
  ·simp[Mf,e]
  ·have e':¬ p.1.key=k.key:=fun z=>e (Sl.key_inj z);simp only[L1,Mf,decide_eq_false e,decide_eq_false e'];exact ih
theorem ul(f:α->D)(m:List (Sl×α)):dictOf (a_ f m)=a_ f (ck [] m):=by
 unfold dictOf ck;have:∀ (m l:List (Sl×α)),(a_ f m).foldl (fun a kv=>bF a kv.1 kv.2) (a_ f l)=a_ f (m.foldl (fun a p=>mS a p.1 p.2) l):=by
  intro m
  induction m with
  | nil=>intro l;rfl
  | cons p r ih=>
   intro l;unfold a_ at ih ⊢;simp only[L1,OD];have:=yJ f l p.1 p.2;unfold a_ at this;rw[this];exact ih _
 exact this m []
theorem F_(l:List (Sl×α))(k j:Sl)(v:α):fL (mS l k v) j=if j=k then some v else fL l j:=by
 unfold mS;split
 ·rename_i h
  induction l with
  | nil=>simp at h
  | cons p r ih=>
   simp only[L1,fL,Mf]
   by_cases e:p.1=k
   ·rw[if_pos e]
    by_cases ej:j=k
    ·rw[if_pos ej];simp[e,ej]
    ·rw[if_neg ej];have e2:¬ p.1=j:=fun z=>ej (z.symm.trans e);simp only[decide_eq_false e2];clear ih h
     induction r with
     | nil=>rfl
     | cons q t ih2=>
      simp only[L1,Mf]
      by_cases e3:q.1=k
      ·rw[if_pos e3];have e4:¬ q.1=j:=fun z=>ej (z.symm.trans e3);simp only[decide_eq_false e4];exact ih2
      ·rw[if_neg e3]
       by_cases e4:q.1=j
       ·simp[e4]
       ·simp only[decide_eq_false e4];exact ih2
   ·rw[if_neg e];simp only[OP,decide_eq_false e,Bool.false_or]at h;have ih':=ih h;unfold fL at ih'
    by_cases e2:p.1=j
    ·have ej:¬ j=k:=fun z=>e (e2.trans z);rw[if_neg ej];simp[e2]
    ·simp only[decide_eq_false e2];exact ih'
 ·rename_i h;have hn:∀ p∈l,p.1≠k:=fun p hp z=>h (List.any_eq_true.mpr ⟨p,hp,decide_eq_true z⟩);unfold fL;rw[List.find?_append]
  by_cases ej:j=k
  ·rw[if_pos ej];have:l.find? (fun p=>decide (p.1=j))=none:=List.find?_eq_none.mpr fun p hp=>by simpa using fun z=>hn p hp (z.trans ej)
   rw[this];simp[ej]
  ·rw[if_neg ej];cases l.find? (fun p=>decide (p.1=j)) with
   | some p=>rfl
   | none=>
    have ek:¬ k=j:=fun z=>ej z.symm;simp[ek]
theorem Dr{l:List (Sl×α)}{k:Sl}{v:α}{p:Sl×α}(h:p∈mS l k v):p∈l\/p=(k,v):=by
 unfold mS at h;split at h
 ·obtain⟨q,hq,e⟩:=mem_map.mp h;split at e
  ·rename_i z;exact .inr (by rw[<- e,z])
  ·exact .inl (e ▸ hq)
 ·rcases QM.mp h with h|h
  ·exact .inl h
  ·exact .inr (PX.mp h)
theorem BQ{m:List (Sl×α)}:∀ {l:List (Sl×α)} {p:Sl×α},p∈ck l m->p∈l\/p∈m:=by
 induction m with
 | nil=>intro l p h;exact .inl h
 | cons q r ih=>
  intro l p h;rcases ih (l:=mS l q.1 q.2) h with h|h
  ·rcases Dr h with h|h
   ·exact .inl h
   ·exact .inr (h ▸ LV)
  ·exact .inr (LU _ h)
theorem Ga{l:List (Sl×α)}{k:Sl}{v:α}(h:fL l k=some v):(k,v)∈l:=by
 unfold fL at h;cases e:l.find? fun p=>decide (p.1=k) with
 | none=>rw[e]at h;cases h
 | some p=>
  rw[e]at h;cases h;have h1:=List.mem_of_find?_eq_some e;have h2:=List.find?_some e;have:p.1=k:=of_decide_eq_true h2;rw[<- this];exact h1
theorem EB{l:List (Sl×α)}{p:Sl×α}(h:p∈l):∃ v,fL l p.1=some v:=by
 unfold fL;cases e:l.find? fun q=>decide (q.1=p.1) with
 | none=>exact absurd (List.find?_eq_none.mp e p h) (by simp)
 | some q=>exact⟨q.2,rfl⟩
theorem Ds(l:List (Sl×α))(k:Sl)(v:α):(mS l k v).length<=l.length+1:=by
 unfold mS;split<;>simp
theorem fN(m:List (Sl×α)):∀ l:List (Sl×α),(ck l m).length<=l.length+m.length:=by
 induction m with
 | nil=>intro l;exact le_refl _
 | cons p r ih=>
  intro l;have h1:=ih (mS l p.1 p.2);have h2:=Ds l p.1 p.2;show (ck (mS l p.1 p.2) r).length<=_
  rw[L0];omega
theorem f_(l a b:List (Sl×α)):ck l (a ++ b)=ck (ck l a) b:=by unfold ck;rw[List.foldl_append]
theorem nJ(l a:List (Sl×α))(p:Sl×α):ck l (a ++ [p])=mS (ck l a) p.1 p.2:=by rw[f_];rfl
end
def KD(c:Nat):Str:=⟨#[c]⟩
def BJ(x:Str):List Str:=x.cps.toList.map KD
def iV(s:Sk):List (Sl×Str):=match s.act with
 | .put _ x=>(made s).zip (BJ x)
 | _=>[]
def jK(s:Sk):List (Sl×Unit):=match s.act with
 | .strike ns=>ns.map fun n=>(n,())
 | _=>[]
def m9(s:Sk):List (Sl×Sl):=match s.act with
 | .move ns _=>ns.zip (made s)
 | _=>[]
def pP(s:Sk):List (Sl×Str):=match s.act with
 | .dress ns w=>ns.map fun n=>(n,w)
 | _=>[]
def Sk.wd(s:Sk):Nat:=match s.act with
 | .put _ x=>x.length
 | .strike ns=>ns.length
 | .dress ns _=>ns.length
 | .move ns _=>ns.length
def aK(x:Str)(o:List Sk):List (Sl×Str):=ck [] ((gL x.length).zip (BJ x) ++ o.flatMap iV)
def bV(o:List Sk):List (Sl×Unit):=ck [] (o.flatMap jK)
def dA(o:List Sk):List (Sl×Sl):=ck [] (o.flatMap m9)
def hZ(o:List Sk):List (Sl×Str):=ck [] (o.flatMap pP)
abbrev Nm:=Str×Int
def Nm.d(n:Nm):D:=.tup [.str n.1,.int n.2]
def Nm.key(n:Nm):List aH:=[.inr n.1,.inl n.2]
def Sk.nm(s:Sk):Nm:=(s.pen,s.num)
def ko(row:List Sl)(s:Sk):Bool:=(made s).all fun x=>decide (x∈row)
def jU(out:List Sk)(names:List Nm)(row:List Sl):List Sk:=(out.filter fun s=>decide (s.nm∈names)).filter (ko row)
def db(x:Str)(w:List Sk):List (Sl×Sl):=ck [] (((aK x w).filter fun p=>(fL (bV w) p.1).isNone).map fun p=>((fL (dA w) p.1).getD p.1,p.1))
set_option genInjectivity false in
structure Seat where
 slot:Sl
 name:Sl
 sign:Str
 word:Str
def Seat.d(s:Seat):D:=.tup [s.slot.d,s.name.d,.str s.sign,.str s.word]
def mC(x:Str)(w:List Sk)(row:List Sl):List (Sl×Sl):=row.filterMap fun s=>(fL (db x w) s).map fun n=>(s,n)
def mB(x:Str)(out:List Sk)(names:List Nm):List Seat:=
 (mC x (jU out names (jl x.length out)) (jl x.length out)).map fun p=>⟨p.1,p.2,(fL (aK x (jU out names (jl x.length out))) p.2).getD "",(fL (hZ (jU out names (jl x.length out))) p.2).getD ""⟩
def fm(i:Nat):Md:=PySem.Challenge.pw_redquill_k51_deeds_by_numbers.main.body.getD i (.Pass ⟨0,0,0,0⟩)
def k_STANDS:D:=.str "stands"
def k_START:D:=.tup [.str "",.int 0,.int 0]
def k_WAITS:D:=.str "waits"
def k_WIPED:D:=.str "wiped"
theorem ue{a0 a1 a2 a3:D}:gA ["name","time","anchor","names"] [a0,a1,a2,a3] "name"=some a0:=by kernel_rfl
theorem ud{a0 a1 a2 a3:D}:gA ["name","time","anchor","names"] [a0,a1,a2,a3] "time"=some a1:=by kernel_rfl
theorem qI{a0 a1 a2 a3:D}:gA ["name","time","anchor","names"] [a0,a1,a2,a3] "anchor"=some a2:=by kernel_rfl
theorem r0{a0 a1 a2 a3:D}:gA ["name","time","anchor","names"] [a0,a1,a2,a3] "names"=some a3:=by kernel_rfl
theorem wM:jN [] "name"=(["name"]:List Str):=by kernel_rfl
theorem wR{x:D}:i8 [] [] "name" x=[x]:=by kernel_rfl
theorem wL:jN ["name"] "time"=(["name","time"]:List Str):=by kernel_rfl
theorem wQ{a0 x:D}:i8 ["name"] [a0] "time" x=[a0,x]:=by kernel_rfl
theorem wK:jN ["name","time"] "anchor"=(["name","time","anchor"]:List Str):=by kernel_rfl
theorem wP{a0 a1 x:D}:i8 ["name","time"] [a0,a1] "anchor" x=[a0,a1,x]:=by kernel_rfl
theorem wJ:jN ["name","time","anchor"] "names"=(["name","time","anchor","names"]:List Str):=by kernel_rfl
theorem wO{a0 a1 a2 x:D}:i8 ["name","time","anchor"] [a0,a1,a2] "names" x=[a0,a1,a2,x]:=by kernel_rfl
theorem zp{a0 a1 a2 a3 a4:D}:gA ["name","time","anchor","names","signs"] [a0,a1,a2,a3,a4] "name"=some a0:=by kernel_rfl
theorem zo{a0 a1 a2 a3 a4:D}:gA ["name","time","anchor","names","signs"] [a0,a1,a2,a3,a4] "time"=some a1:=by kernel_rfl
theorem vB{a0 a1 a2 a3 a4:D}:gA ["name","time","anchor","names","signs"] [a0,a1,a2,a3,a4] "anchor"=some a2:=by kernel_rfl
theorem xL{a0 a1 a2 a3 a4:D}:gA ["name","time","anchor","names","signs"] [a0,a1,a2,a3,a4] "signs"=some a4:=by kernel_rfl
theorem BW:jN ["name","time","anchor","names"] "anchor"=(["name","time","anchor","names"]:List Str):=by kernel_rfl
theorem BY{a0 a1 a2 a3 x:D}:i8 ["name","time","anchor","names"] [a0,a1,a2,a3] "anchor" x=[a0,a1,x,a3]:=by kernel_rfl
theorem BV:jN ["name","time","anchor","names"] "signs"=(["name","time","anchor","names","signs"]:List Str):=by kernel_rfl
theorem BX{a0 a1 a2 a3 x:D}:i8 ["name","time","anchor","names"] [a0,a1,a2,a3] "signs" x=[a0,a1,a2,a3,x]:=by kernel_rfl
theorem wN:jN ["name","time","anchor","names"] "names"=(["name","time","anchor","names"]:List Str):=by kernel_rfl
theorem wS{a0 a1 a2 a3 x:D}:i8 ["name","time","anchor","names"] [a0,a1,a2,a3] "names" x=[a0,a1,a2,x]:=by kernel_rfl
theorem vE{a0 a1 a2 a3 a4:D}:gA ["name","time","anchor","names","word"] [a0,a1,a2,a3,a4] "name"=some a0:=by kernel_rfl
theorem vD{a0 a1 a2 a3 a4:D}:gA ["name","time","anchor","names","word"] [a0,a1,a2,a3,a4] "time"=some a1:=by kernel_rfl
theorem uf{a0 a1 a2 a3 a4:D}:gA ["name","time","anchor","names","word"] [a0,a1,a2,a3,a4] "names"=some a3:=by kernel_rfl
theorem vC{a0 a1 a2 a3 a4:D}:gA ["name","time","anchor","names","word"] [a0,a1,a2,a3,a4] "word"=some a4:=by kernel_rfl
theorem yK:jN ["name","time","anchor","names"] "word"=(["name","time","anchor","names","word"]:List Str):=by kernel_rfl
theorem yL{a0 a1 a2 a3 x:D}:i8 ["name","time","anchor","names"] [a0,a1,a2,a3] "word" x=[a0,a1,a2,a3,x]:=by kernel_rfl
def ai:List Str:=["old","drawn","states","greatest","time"]
theorem kH:vG ai "old" 0:=pj (by decide +kernel)
theorem dI:vG ai "drawn" 1:=pj (by decide +kernel)
theorem cH:vG ai "states" 2:=pj (by decide +kernel)
theorem gv:vG ai "greatest" 3:=pj (by decide +kernel)
theorem jH:vG ai "time" 4:=pj (by decide +kernel)
theorem oY:("old_text":Str)∉ai:=by decide +kernel
theorem eV:("strokes":Str)∉ai:=by decide +kernel
theorem eW:("numbers":Str)∉ai:=by decide +kernel
theorem jd:("last_time":Str)∉ai:=by decide +kernel
theorem md:("check_known":Str)∉ai:=by decide +kernel
theorem l_:("state":Str)∉ai:=by decide +kernel
theorem mU:("strokes_in":Str)∉ai:=by decide +kernel
theorem eU:("waiting":Str)∉ai:=by decide +kernel
theorem jP:("unwiped":Str)∉ai:=by decide +kernel
theorem jF:("view":Str)∉ai:=by decide +kernel
theorem cD:("seats":Str)∉ai:=by decide +kernel
theorem dw:("coming_name":Str)∉ai:=by decide +kernel
theorem du:("coming_time":Str)∉ai:=by decide +kernel
theorem hU:("draw":Str)∉ai:=by decide +kernel
theorem oX:("put":Str)∉ai:=by decide +kernel
theorem rP:("strike":Str)∉ai:=by decide +kernel
theorem ma:("dress":Str)∉ai:=by decide +kernel
theorem u9:("move":Str)∉ai:=by decide +kernel
theorem u7:("part":Str)∉ai:=by decide +kernel
theorem ie:("check_waits":Str)∉ai:=by decide +kernel
theorem nP:("let_stand":Str)∉ai:=by decide +kernel
theorem u6:("wipe":Str)∉ai:=by decide +kernel
abbrev lM:Md:=fm 7
theorem wy:FnScope ["at","length"] ["at","length"] (am lM):=by walk_at "j"
abbrev iu:Md:=fm 8
theorem pU:FnScope ["at","to","length"] ["at","to","length"] (am iu):=by walk_at "j"
abbrev j0:Md:=fm 11
theorem uA:FnScope ["name","how_many"] ["name","how_many"] (am j0):=by walk_at "j"
theorem rQ:((["k"]:List Str) ++ (["name","how_many"]:List Str)).Nodup:=by decide +kernel
abbrev lH:Md:=fm 17
theorem iJ:FnScope ["row","name","time","act"] ["row"] (am lH):=by walk_at "j"
abbrev gC:Md:=fm 18
theorem ou:FnScope ["row"] ["row"] (am gC):=by walk_at "j"
abbrev nl:Md:=fm 19
theorem lu:FnScope ["rows","by_name","row"] ["rows"] (am nl):=by walk_at "j"
abbrev lJ:Md:=fm 21
theorem ww:FnScope ["old"] ["old"] (am lJ):=by walk_at "j"
abbrev j5:Md:=fm 22
theorem gP:FnScope ["following","anchor","slots","behind","slot"] ["following","anchor","slots"] (am j5):=by walk_at "j"
abbrev p4:Md:=fm 23
theorem jY:FnScope ["following","row","slot"] ["following"] (am p4):=by walk_at "j"
abbrev nk:Md:=fm 24
theorem lr:FnScope ["old","strokes","following","stroke"] ["old","strokes"] (am nk):=by walk_at "j"
theorem u_:((["row"]:List Str) ++ (["old","strokes","following","stroke"]:List Str)).Nodup:=by decide +kernel
abbrev sI:Md:=fm 26
theorem BN:FnScope ["keys"] ["keys"] (am sI):=by walk_at "j"
theorem yX:((["key"]:List Str) ++ (["keys"]:List Str)).Nodup:=by decide +kernel
abbrev lK:Md:=fm 27
theorem wx:FnScope ["stroke","in_row"] ["stroke","in_row"] (am lK):=by walk_at "j"
theorem tD:((["slot"]:List Str) ++ (["stroke","in_row"]:List Str)).Nodup:=by decide +kernel
abbrev lL:Md:=fm 28
theorem jX:FnScope ["strokes","standing","in_row","stands","chosen"] ["strokes","standing","in_row"] (am lL):=by walk_at "j"
theorem tF:((["row"]:List Str) ++ (["strokes","standing","in_row","stands","chosen"]:List Str)).Nodup:=by decide +kernel
theorem tE:((["stroke"]:List Str) ++ (["strokes","standing","in_row","stands","chosen"]:List Str)).Nodup:=by decide +kernel
abbrev iq:Md:=fm 29
theorem dF:FnScope ["old","strokes","brought","stroke","name","sign"] ["old","strokes"] (am iq):=by walk_at "j"
abbrev iX:Md:=fm 30
theorem fx:FnScope ["strokes","struck","stroke","name"] ["strokes"] (am iX):=by walk_at "j"
abbrev jy:Md:=fm 31
theorem eu:FnScope ["strokes","taken","stroke","name","slot"] ["strokes"] (am jy):=by walk_at "j"
abbrev jZ:Md:=fm 32
theorem gO:FnScope ["strokes","worn","stroke","name"] ["strokes"] (am jZ):=by walk_at "j"
abbrev sH:Md:=fm 33
theorem dZ:FnScope ["old","strokes","standing","row","working","brought","struck","taken","worn","sitting","name","seats"] ["old","strokes","standing"] (am sH):=by walk_at "j"
theorem yW:((["slot"]:List Str) ++ (["old","strokes","standing","row","working","brought","struck","taken","worn","sitting","name","seats"]:List Str)).Nodup:=by decide +kernel
theorem qR:((["slot","name"]:List Str) ++ (["old","strokes","standing","row","working","brought","struck","taken","worn","sitting","-name","seats"]:List Str)).Nodup:=by decide +kernel
abbrev p3:Md:=fm 34
theorem zU:FnScope ["old","strokes","standing"] ["old","strokes","standing"] (am p3):=by walk_at "j"
theorem xk:((["seat"]:List Str) ++ (["old","strokes","standing"]:List Str)).Nodup:=by decide +kernel
abbrev lN:Md:=fm 39
theorem wz:FnScope ["seats","at"] ["seats","at"] (am lN):=by walk_at "j"
abbrev ir:Md:=fm 40
theorem pT:FnScope ["seats","at","to"] ["seats","at","to"] (am ir):=by walk_at "j"
theorem nQ:((["seat"]:List Str) ++ (["seats","at","to"]:List Str)).Nodup:=by decide +kernel
abbrev iY:Md:=fm 43
theorem rA:FnScope ["_law_script","_law_k"] ["_law_script","_law_k"] (am iY):=by walk_at "j"
abbrev jz:Md:=fm 44
theorem eA:FnScope ["_law_cell","_law_many","_law_found","_law_number","_law_k"] ["_law_cell","_law_many"] (am jz):=by walk_at "j"
abbrev lO:Md:=fm 45
theorem eK:FnScope ["_law_cell","_law_many","_law_letters","_law_xs","_law_stem","_law_at"] ["_law_cell","_law_many"] (am lO):=by walk_at "j"
theorem tI:((["_law_x"]:List Str) ++ (["_law_cell","_law_many","_law_letters","_law_xs","_law_stem","_law_at"]:List Str)).Nodup:=by decide +kernel
theorem tH:((["_law_k"]:List Str) ++ (["_law_cell","_law_many","_law_letters","_law_xs","_law_stem","_law_at"]:List Str)).Nodup:=by decide +kernel
theorem tG:((["_law_k"]:List Str) ++ (["_law_cell","_law_many","_law_letters","_law_xs","_law_stem","_law_at"]:List Str)).Nodup:=by decide +kernel
abbrev jB:Md:=fm 46
theorem sD:FnScope ["_law_seats","_law_at"] ["_law_seats","_law_at"] (am jB):=by walk_at "j"
abbrev no:Md:=fm 47
theorem lA:FnScope ["_law_paper","_law_pen","_law_xs","_law_seats","_law_at","_law_signs"] ["_law_paper","_law_pen","_law_xs","_law_seats"] (am no):=by walk_at "j"
abbrev lP:Md:=fm 48
theorem dP:FnScope ["_law_paper","_law_pen","_law_xs","_law_seats","_law_at","_law_to","_law_names","_law_word","_law_goal"] ["_law_paper","_law_pen","_law_xs"] (am lP):=by walk_at "j"
theorem tJ:((["_law_row"]:List Str) ++ (["_law_paper","_law_pen","_law_xs","_law_seats","_law_at","_law_to","_law_names","_law_word","_law_goal"]:List Str)).Nodup:=by decide +kernel
abbrev nu:Md:=fm 49
theorem jj:FnScope ["_law_paper","_law_rows","_law_view","_law_seats","_law_waiting"] ["_law_paper","_law_rows"] (am nu):=by walk_at "j"
abbrev jA:Md:=fm 50
theorem lB:FnScope ["_law_paper","_law_xs","_law_waiting"] ["_law_paper","_law_xs"] (am jA):=by walk_at "j"
abbrev sJ:Md:=fm 51
theorem ip:FnScope ["_law_script","_law_first","_law_old","_law_pens_here","_law_paper","_law_rows","_law_numbers","_law_cell","_law_xs","_law_pen","_law_name","_law_act"] ["_law_script"] (am sJ):=by walk_at "j"
abbrev d6:Md:=aR (fm 12) 0
theorem ng:FnScope ["self","name","time"] ["self","name","time"] (am d6):=by walk_at "j"
abbrev eE:Md:=aR (fm 12) 1
theorem rB:FnScope ["self"] ["self"] (am eE):=by walk_at "j"
abbrev cm:Md:=aR (fm 12) 2
theorem ow:FnScope ["self"] ["self"] (am cm):=by walk_at "j"
abbrev iZ:Md:=aR (fm 13) 0
theorem rC:FnScope ["self","name","time","anchor","signs"] ["self","name","time","anchor","signs"] (am iZ):=by walk_at "j"
abbrev lQ:Md:=aR (fm 13) 1
theorem wA:FnScope ["self"] ["self"] (am lQ):=by walk_at "j"
abbrev p5:Md:=aR (fm 13) 3
theorem zV:FnScope ["self"] ["self"] (am p5):=by walk_at "j"
abbrev fT:Md:=aR (fm 14) 0
theorem nh:FnScope ["self","name","time","names"] ["self","name","time","names"] (am fT):=by walk_at "j"
abbrev j6:Md:=aR (fm 14) 1
theorem uB:FnScope ["self"] ["self"] (am j6):=by walk_at "j"
abbrev gH:Md:=aR (fm 15) 0
theorem oC:FnScope ["self","name","time","names","word"] ["self","name","time","names","word"] (am gH):=by walk_at "j"
abbrev lU:Md:=aR (fm 15) 1
theorem wB:FnScope ["self"] ["self"] (am lU):=by walk_at "j"
abbrev iB:Md:=aR (fm 16) 0
theorem pZ:FnScope ["self","name","time","names","anchor"] ["self","name","time","names","anchor"] (am iB):=by walk_at "j"
abbrev kg:Md:=aR (fm 16) 1
theorem uG:FnScope ["self"] ["self"] (am kg):=by walk_at "j"
abbrev nv:Md:=aR (fm 16) 2
theorem yz:FnScope ["self"] ["self"] (am nv):=by walk_at "j"
abbrev gG:Md:=aR (fm 41) 0
theorem oB:FnScope ["self","old"] ["self","old"] (am gG):=by walk_at "j"
abbrev gF:Md:=aR (fm 41) 1
theorem oA:FnScope ["self"] ["self"] (am gF):=by walk_at "j"
abbrev iz:Md:=aR (fm 41) 2
theorem pX:FnScope ["self"] ["self"] (am iz):=by walk_at "j"
abbrev iA:Md:=aR (fm 41) 3
theorem pY:FnScope ["self"] ["self"] (am iA):=by walk_at "j"
abbrev fV:Md:=aR (fm 41) 4
theorem nj:FnScope ["self"] ["self"] (am fV):=by walk_at "j"
abbrev fg:Md:=aR (fm 41) 5
theorem lG:FnScope ["self","name"] ["self","name"] (am fg):=by walk_at "j"
abbrev jC:Md:=aR (fm 41) 6
theorem sE:FnScope ["self","name"] ["self","name"] (am jC):=by walk_at "j"
abbrev fG:Md:=aR (fm 41) 7
theorem mM:FnScope ["self","state"] ["self","state"] (am fG):=by walk_at "j"
theorem kW:((["row"]:List Str) ++ (["self","state"]:List Str)).Nodup:=by decide +kernel
abbrev iw:Md:=aR (fm 41) 8
theorem pV:FnScope ["self"] ["self"] (am iw):=by walk_at "j"
theorem nR:((["row"]:List Str) ++ (["self"]:List Str)).Nodup:=by decide +kernel
abbrev ix:Md:=aR (fm 41) 10
theorem pW:FnScope ["self"] ["self"] (am ix):=by walk_at "j"
theorem nT:((["row"]:List Str) ++ (["self"]:List Str)).Nodup:=by decide +kernel
abbrev j8:Md:=aR (fm 41) 11
theorem uD:FnScope ["self"] ["self"] (am j8):=by walk_at "j"
abbrev jD:Md:=aR (fm 41) 12
theorem sF:FnScope ["self"] ["self"] (am jD):=by walk_at "j"
abbrev fe:Md:=aR (fm 41) 13
theorem lE:FnScope ["self","pen"] ["self","pen"] (am fe):=by walk_at "j"
abbrev fc:Md:=aR (fm 41) 14
theorem lD:FnScope ["self"] ["self"] (am fc):=by walk_at "j"
abbrev ke:Md:=aR (fm 41) 15
theorem uF:FnScope ["self","stroke"] ["self","stroke"] (am ke):=by walk_at "j"
abbrev lR:Md:=aR (fm 41) 16
theorem oz:FnScope ["self","pen","at","signs","seats"] ["self","pen","at","signs"] (am lR):=by walk_at "j"
abbrev i0:Md:=aR (fm 41) 17
theorem kK:FnScope ["self","pen","at","to","seats"] ["self","pen","at","to"] (am i0):=by walk_at "j"
abbrev jE:Md:=aR (fm 41) 18
theorem lC:FnScope ["self","pen","at","to","word","seats"] ["self","pen","at","to","word"] (am jE):=by walk_at "j"
abbrev j_:Md:=aR (fm 41) 19
theorem jx:FnScope ["self","pen","at","to","goal","seats","names"] ["self","pen","at","to","goal"] (am j_):=by walk_at "j"
abbrev j9:Md:=aR (fm 41) 20
theorem uE:FnScope ["self","pen","at"] ["self","pen","at"] (am j9):=by walk_at "j"
abbrev ff:Md:=aR (fm 41) 21
theorem lF:FnScope ["self","name"] ["self","name"] (am ff):=by walk_at "j"
abbrev fU:Md:=aR (fm 41) 22
theorem ni:FnScope ["self","name"] ["self","name"] (am fU):=by walk_at "j"
abbrev j7:Md:=aR (fm 41) 23
theorem uC:FnScope ["self","name"] ["self","name"] (am j7):=by walk_at "j"
def bd(_ _ _ _ _ _:LB)(_:HW):cX:=fun ds G Q=>match ds with
 | [d]=>∃ r:Rw,d=r.d/\Q r.key G
 | _=>False
def fP(G G':Gp):Prop:=∀ a o,G a=some o->G' a=some o
theorem fP.refl{G:Gp}:fP G G:=fun _ _ h=>h
theorem fP.trans{G G1 G2:Gp}(a:fP G G1)(b:fP G1 G2):fP G G2:=fun x o h=>b x o (a x o h)
theorem fP.gset{G G1:Gp}{p:LB}{o:GO}(a:fP G G1)(hp:G p=none):fP G (gset G1 p o):=fun x y h=>by
 have:x≠p:=fun z=>by subst z;rw[hp]at h;cases h
 rw[aj this];exact a x y h
def cL(_ _ _ _ _ _:LB)(_:HW):cX:=fun ds G Q=>match ds with
 | [.ref q]=>∃ rs base:List Rw,(G q=some (.lst (rs.map Rw.d))/\mL rs/\rs.length<=1000/\base.length < 64/\∀ r∈rs,r∈base)/\∀ out G',fP G G'->iG out->(∀ r,r∈out↔r∈rs)->Q (.fl (out.map Rw.d)) G'
 | _=>False
def dL(Z1 Z2 Z3 Z4 Z5 Q5:LB)(hw:HW):cX:=fun ds G Q=>match ds with
 | [.str x,.ref q]=>∃ sks base:List Sk,(G q=some (.lst (sks.map Sk.d))/\x.length<=1000/\mL (sks.map Sk.rw)/\sks.length<=1000/\base.length < 64/\(∀ s∈sks,s∈base)/\∀ s∈sks,s.ok)/\
   ∀ out G',fP G G'->iG (out.map Sk.rw)->(∀ s,s∈out↔s∈sks)->Q (.fl ((jl x.length out).map Sl.d)) G'
 | _=>False
def bA(_ _ _ _ _ _:LB)(_:HW):cX:=fun ds G Q=>match ds with
 | [.tup [.str p,.int n],.int m]=>(0<=m/\m<=1000)/\Q (.fl ((eF p n m.toNat).map Sl.d)) G
 | _=>False
def bn(Z1 Z2 Z3 Z4 Z5 Q5:LB)(s:Sk):GO:=match s.act with
 | .put a x=>.ins Z2 ["name","time","anchor","names","signs"] [.tup [.str s.pen,.int s.num],.int s.time,a.d,.tup [],.str x]
 | .strike ns=>.ins Z3 ["name","time","anchor","names"] [.tup [.str s.pen,.int s.num],.int s.time,aG.d,.tup (ns.map Sl.d)]
 | .dress ns w=>.ins Z4 ["name","time","anchor","names","word"] [.tup [.str s.pen,.int s.num],.int s.time,aG.d,.tup (ns.map Sl.d),.str w]
 | .move ns a=>.ins Z5 ["name","time","anchor","names"] [.tup [.str s.pen,.int s.num],.int s.time,a.d,.tup (ns.map Sl.d)]
def aI(Z1 Z2 Z3 Z4 Z5 Q5:LB)(hw:HW):cX:=fun ds G Q=>match ds with
 | [.ref a,d,.int t]=>(∃ C,C∈[Z1,Z2,Z3,Z4,Z5]/\G a=some (.ins C [] [])/\∃ p n,d=.tup [.str p,.int n]/\Q .non (gset G a (.ins C ["name","time","anchor","names"] [d,.int t,aG.d,.tup []])))
 | _=>False
def bB(Z1 Z2 Z3 Z4 Z5 Q5:LB)(hw:HW):cX:=fun ds G Q=>match ds with
 | [.ref a,d,.int t,b,.str x]=>G a=some (.ins Z2 [] [])/\∃ p n s,d=.tup [.str p,.int n]/\b=Sl.d s/\Q .non (gset G a (.ins Z2 ["name","time","anchor","names","signs"] [d,.int t,b,.tup [],.str x]))
 | _=>False
def aX(Z1 Z2 Z3 Z4 Z5 Q5:LB)(hw:HW):cX:=fun ds G Q=>match ds with
 | [.ref a,d,.int t,.tup ns]=>G a=some (.ins Z3 [] [])/\∃ p n,d=.tup [.str p,.int n]/\Q .non (gset G a (.ins Z3 ["name","time","anchor","names"] [d,.int t,aG.d,.tup ns]))
 | _=>False
def bf(Z1 Z2 Z3 Z4 Z5 Q5:LB)(hw:HW):cX:=fun ds G Q=>match ds with
 | [.ref a,d,.int t,.tup ns,.str w]=>G a=some (.ins Z4 [] [])/\∃ p n,d=.tup [.str p,.int n]/\Q .non (gset G a (.ins Z4 ["name","time","anchor","names","word"] [d,.int t,aG.d,.tup ns,.str w]))
 | _=>False
def bp(Z1 Z2 Z3 Z4 Z5 Q5:LB)(hw:HW):cX:=fun ds G Q=>match ds with
 | [.ref a,d,.int t,.tup ns,b]=>G a=some (.ins Z5 [] [])/\∃ p n s,d=.tup [.str p,.int n]/\b=Sl.d s/\Q .non (gset G a (.ins Z5 ["name","time","anchor","names"] [d,.int t,b,.tup ns]))
 | _=>False
def cq(Z1 Z2 Z3 Z4 Z5 Q5:LB)(hw:HW):cX:=fun ds G Q=>match ds with
 | [d]=>∃ s:Sk,d=s.d/\∀ p,G p=none->Q (.ref p) (gset G p (bn Z1 Z2 Z3 Z4 Z5 Q5 s))
 | _=>False
def ar(_ _ _ _ _ _:LB)(_:HW):cX:=fun ds G Q=>match ds with
 | [.ref _]=>Q (.fl []) G
 | _=>False
def aZ(Z1 Z2 Z3 Z4 Z5 Q5:LB)(hw:HW):cX:=fun ds G Q=>match ds with
 | [.ref a]=>∃ (s:Sk) (b:Sl) (x:Str),(s.act=.put b x/\G a=some (bn Z1 Z2 Z3 Z4 Z5 Q5 s)/\x.length<=1000)/\Q (.fl ((made s).map Sl.d)) G
 | _=>False
def aQ(Z1 Z2 Z3 Z4 Z5 Q5:LB)(hw:HW):cX:=fun ds G Q=>match ds with
 | [.ref a]=>∃ (s:Sk) (b:Sl) (ns:List Sl),(s.act=.move ns b/\G a=some (bn Z1 Z2 Z3 Z4 Z5 Q5 s)/\ns.length<=1000)/\Q (.fl ((made s).map Sl.d)) G
 | _=>False
def cr(_ _ _ _ _ _:LB)(_:HW):cX:=fun ds G Q=>match ds with
 | [.str x]=>x.length<=1000/\Q (.fl ((gL x.length).map Sl.d)) G
 | _=>False
def cu(Z1 Z2 Z3 Z4 Z5 Q5:LB)(hw:HW):cX:=fun ds G Q=>match ds with
 | [.ref p,a,.lst xs]=>∃ (b:Sl) (ss W:List Sl) (kvs:List (List aH×D)),(a=b.d/\xs=ss.map Sl.d/\G p=some (.dT hw kvs)/\CH kvs W/\b∈W/\ss.Nodup/\(∀ x∈ss,x∉W)/\W.length+ss.length<=900000)/\
   ∀ T9,CH T9 (cj W b ss)->Q .non (gset G p (.dT hw T9))
 | _=>False
def et(Z1 Z2 Z3 Z4 Z5 Q5:LB)(hw:HW):cX:=fun ds G Q=>match ds with
 | [.ref p]=>∃ (R:List Sl) (kvs:List (List aH×D)),(G p=some (.dT hw kvs)/\CH kvs (aG::R)/\R.length<=900000)/\Q (.fl (R.map Sl.d)) G
 | _=>False
def jI(Z1 Z2 Z3 Z4 Z5 Q5:LB)(G:Gp)(ps:List LB)(o:List Sk):Prop:=ps.length=o.length/\∀ (j:Nat) p s,ps[j]?=some p->o[j]?=some s->G p=some (bn Z1 Z2 Z3 Z4 Z5 Q5 s)
def wf(o:List Sk):Prop:=o.length<=64/\∀ s∈o,s.wd<=1000
def dY(Z1 Z2 Z3 Z4 Z5 Q5:LB)(hw:HW):cX:=fun ds G Q=>match ds with
 | [.lst xs]=>(∃ ss:List Sl,(xs=ss.map Sl.d/\ss.length<=900000)/\∀ p,G p=none->Q (.ref p) (gset G p (.dT hw (a_ (fun _=>.bl true) (ck [] (ss.map fun s=>(s,())))))))\/
   ∃ ns:List Nm,(xs=ns.map Nm.d/\ns.length<=900000)/\∀ p,G p=none->Q (.ref p) (gset G p (.dT hw (dictOf (ns.map fun n=>(n.key,.bl true)))))
 | _=>False
def c7(Z1 Z2 Z3 Z4 Z5 Q5:LB)(hw:HW):cX:=fun ds G Q=>match ds with
 | [.ref a,.ref p]=>∃ (s:Sk) (row:List (Sl×Unit)),(G a=some (bn Z1 Z2 Z3 Z4 Z5 Q5 s)/\s.wd<=1000/\G p=some (.dT hw (a_ (fun _=>.bl true) row)))/\Q (.bl ((made s).all fun x=>(fL row x).isSome)) G
 | _=>False
def bP(Z1 Z2 Z3 Z4 Z5 Q5:LB)(hw:HW):cX:=fun ds G Q=>match ds with
 | [.str x,.lst xs]=>∃ (ps:List LB) (o:List Sk),(xs=ps.map D.ref/\jI Z1 Z2 Z3 Z4 Z5 Q5 G ps o/\wf o/\x.length<=1000)/\∀ p,G p=none->Q (.ref p) (gset G p (.dT hw (a_ D.str (aK x o))))
 | _=>False
def ag(Z1 Z2 Z3 Z4 Z5 Q5:LB)(hw:HW):cX:=fun ds G Q=>match ds with
 | [.ref a]=>∃ (s:Sk) (ns:List Sl),((s.act=.strike ns\/(∃ w,s.act=.dress ns w)\/∃ b,s.act=.move ns b)/\G a=some (bn Z1 Z2 Z3 Z4 Z5 Q5 s)/\ns.length<=1000)/\Q (.fl (ns.map Sl.d)) G
 | _=>False
def cb(Z1 Z2 Z3 Z4 Z5 Q5:LB)(hw:HW):cX:=fun ds G Q=>match ds with
 | [.lst xs]=>∃ (ps:List LB) (o:List Sk),(xs=ps.map D.ref/\jI Z1 Z2 Z3 Z4 Z5 Q5 G ps o/\wf o)/\∀ p,G p=none->Q (.ref p) (gset G p (.dT hw (a_ (fun _=>.bl true) (bV o))))
 | _=>False
def cz(Z1 Z2 Z3 Z4 Z5 Q5:LB)(hw:HW):cX:=fun ds G Q=>match ds with
 | [.lst xs]=>∃ (ps:List LB) (o:List Sk),(xs=ps.map D.ref/\jI Z1 Z2 Z3 Z4 Z5 Q5 G ps o/\wf o)/\∀ p,G p=none->Q (.ref p) (gset G p (.dT hw (a_ Sl.d (dA o))))
 | _=>False
def cK(Z1 Z2 Z3 Z4 Z5 Q5:LB)(hw:HW):cX:=fun ds G Q=>match ds with
 | [.lst xs]=>∃ (ps:List LB) (o:List Sk),(xs=ps.map D.ref/\jI Z1 Z2 Z3 Z4 Z5 Q5 G ps o/\wf o)/\∀ p,G p=none->Q (.ref p) (gset G p (.dT hw (a_ D.str (hZ o))))
 | _=>False
def c8(Z1 Z2 Z3 Z4 Z5 Q5:LB)(hw:HW):cX:=fun ds G Q=>match ds with
 | [.ref q,.lst ns,.ref p]=>∃ (sks base:List Sk) (names:List Nm) (row:List Sl),(G q=some (.lst (sks.map Sk.d))/\mL (sks.map Sk.rw)/\sks.length<=1000/\base.length < 64/\(∀ s∈sks,s∈base)/\(∀ s∈sks,s.wd<=1000)/\ns=names.map Nm.d/\names.length<=900000/\G p=some (.dT hw (a_ (fun _=>.bl true) (ck [] (row.map fun s=>(s,()))))))/\
   ∀ out ps G',fP G G'->iG (out.map Sk.rw)->(∀ s,s∈out↔s∈sks)->jI Z1 Z2 Z3 Z4 Z5 Q5 G' ps (jU out names row)->Q (.fl (ps.map D.ref)) G'
 | _=>False
def dX(Z1 Z2 Z3 Z4 Z5 Q5:LB)(hw:HW):cX:=fun ds G Q=>match ds with
 | [.str x,.ref q,.lst ns]=>∃ (sks base:List Sk) (names:List Nm),(G q=some (.lst (sks.map Sk.d))/\x.length<=1000/\mL (sks.map Sk.rw)/\sks.length<=1000/\base.length < 64/\(∀ s∈sks,s∈base)/\(∀ s∈sks,1<=s.num/\s.wd<=1000)/\ns=names.map Nm.d/\names.length<=900000)/\
   ∀ out G',fP G G'->iG (out.map Sk.rw)->(∀ s,s∈out↔s∈sks)->Q (.fl ((mB x out names).map Seat.d)) G'
 | _=>False
def Seat.d3(s:Seat):D:=.tup [s.name.d,.str s.sign,.str s.word]
def eh(Z1 Z2 Z3 Z4 Z5 Q5:LB)(hw:HW):cX:=fun ds G Q=>match ds with
 | [.str x,.ref q,.lst ns]=>∃ (sks base:List Sk) (names:List Nm),(G q=some (.lst (sks.map Sk.d))/\x.length<=1000/\mL (sks.map Sk.rw)/\sks.length<=1000/\base.length < 64/\(∀ s∈sks,s∈base)/\(∀ s∈sks,1<=s.num/\s.wd<=1000)/\ns=names.map Nm.d/\names.length<=900000)/\
   ∀ out G',fP G G'->iG (out.map Sk.rw)->(∀ s,s∈out↔s∈sks)->Q (.fl ((mB x out names).map Seat.d3)) G'
 | _=>False
def dB(Z1 Z2 Z3 Z4 Z5 Q5:LB)(hw:HW):cX:=fun ds G Q=>match ds with
 | [.ref p]=>∃ (s:Sk) (a:Sl) (x:Str),(s.act=.put a x/\G p=some (bn Z1 Z2 Z3 Z4 Z5 Q5 s))/\Q s.d G
 | _=>False
def bT(Z1 Z2 Z3 Z4 Z5 Q5:LB)(hw:HW):cX:=fun ds G Q=>match ds with
 | [.ref p]=>∃ (s:Sk) (ns:List Sl),(s.act=.strike ns/\G p=some (bn Z1 Z2 Z3 Z4 Z5 Q5 s))/\Q s.d G
 | _=>False
def cy(Z1 Z2 Z3 Z4 Z5 Q5:LB)(hw:HW):cX:=fun ds G Q=>match ds with
 | [.ref p]=>∃ (s:Sk) (ns:List Sl) (w:Str),(s.act=.dress ns w/\G p=some (bn Z1 Z2 Z3 Z4 Z5 Q5 s))/\Q s.d G
 | _=>False
def cP(Z1 Z2 Z3 Z4 Z5 Q5:LB)(hw:HW):cX:=fun ds G Q=>match ds with
 | [.ref p]=>∃ (s:Sk) (ns:List Sl) (a:Sl),(s.act=.move ns a/\G p=some (bn Z1 Z2 Z3 Z4 Z5 Q5 s))/\Q s.d G
 | _=>False
def ce(_ _ _ _ _ _:LB)(_:HW):cX:=fun ds G Q=>match ds with
 | [.lst xs,.int k]=>∃ ns:List Int,(xs=ns.map D.int/\k=0)/\∀ c:Int,Q (.int c) G
 | _=>False
def bK(_ _ _ _ _ _:LB)(_:HW):cX:=fun ds G Q=>match ds with
 | [.int _,.int m]=>(0<=m/\m<=100)/\∀ xs:List Int,(xs.length:Int)=m->(∀ x∈xs,0<=x/\x < 2147483647)->Q (.fl (xs.map D.int)) G
 | _=>False
def c9(_ _ _ _ _ _:LB)(_:HW):cX:=fun ds G Q=>match ds with
 | [.int _,.int m]=>(1<=m/\m<=4)/\∀ ps:List Str,(ps.length:Int)=m->Q (.fl (ps.map D.str)) G
 | _=>False
set_option genInjectivity false in
structure Pp where
 old:Str
 sks:List Sk
 st:List (List aH×D)
 gr:List (aH×D)
 time:Int
def hX(C:LB)(hw0:List aH->Int)(G:Gp)(p d s g:LB)(P:Pp):Prop:=G p=some (.ins C ai [.str P.old,.ref d,.ref s,.ref g,.int P.time])/\G d=some (.lst (P.sks.map Sk.d))/\G s=some (.dT hw0 P.st)/\G g=some (.dK P.gr)
def ik(P:Pp)(n:Nm):Bool:=eJ ((dy P.st n.key).getD .non) (.str (LI "wiped"))
def Pp.unw(P:Pp):List Nm:=(P.sks.filter fun s=>!ik P s.nm).map Sk.nm
def Pp.num(P:Pp)(pen:Str):Int:=match dy P.gr (.inr pen) with
 | some (.int m)=>m+1
 | _=>1
def Pp.add(P:Pp)(k:Sk):Pp:=⟨P.old,P.sks ++ [k],bF P.st k.nm.key (.str (LI "waits")),bF P.gr (.inr k.pen) (.int k.num),k.time⟩
structure Pp.ok(P:Pp)(n:Nat):Prop where
 lo:P.old.length<=40
 ls:P.sks.length<=n
 lt:P.st.length<=n
 lg:P.gr.length<=n
 sk:∀ s∈P.sks,1<=s.num/\s.wd<=60/\s.time<=P.time
 ap:(P.sks.map Sk.rw).Pairwise my
 kn:∀ s∈P.sks,∃ w:Str,dy P.st s.nm.key=some (.str w)
 gi:∀ k v,dy P.gr k=some v->∃ m:Int,v=.int m/\0<=m
 gm:∀ s∈P.sks,∃ m:Int,dy P.gr (.inr s.pen)=some (.int m)/\s.num<=m
def wg(l:List LB)(G G':Gp):Prop:=∀ a o,a∉l->G a=some o->G' a=some o
def Srt(P:Pp)(out:List Sk):Prop:=iG (out.map Sk.rw)/\∀ s,s∈out↔s∈P.sks
def Pp.seats(P:Pp)(out:List Sk):List Seat:=mB P.old out P.unw
def bo(Z1 Z2 Z3 Z4 Z5 Q5:LB)(hw:HW):cX:=fun ds G Q=>match ds with
 | [.ref p]=>∃ (P:Pp) (d s g:LB),(hX Q5 hw G p d s g P/\P.ok 50)/\Q (.fl (P.unw.map Nm.d)) G
 | _=>False
def bU(Z1 Z2 Z3 Z4 Z5 Q5:LB)(hw:HW):cX:=fun ds G Q=>match ds with
 | [.ref p]=>∃ (P:Pp) (d s g:LB),(hX Q5 hw G p d s g P/\P.ok 50)/\∀ out G',fP G G'->Srt P out->Q (.fl ((P.seats out).map Seat.d3)) G'
 | _=>False
def aF(Z1 Z2 Z3 Z4 Z5 Q5:LB)(hw:HW):cX:=fun ds G Q=>match ds with
 | [.ref p]=>∃ (P:Pp) (d s g:LB),(hX Q5 hw G p d s g P/\P.ok 50)/\∀ out G',fP G G'->Srt P out->Q (.fl ((P.seats out).map Seat.d)) G'
 | _=>False
def aV(Z1 Z2 Z3 Z4 Z5 Q5:LB)(hw:HW):cX:=fun ds G Q=>match ds with
 | [.ref p]=>∃ (P:Pp) (d s g:LB),(hX Q5 hw G p d s g P/\P.sks.length<=50)/\Q (.fl (P.sks.map Sk.d)) G
 | _=>False
def aD(Z1 Z2 Z3 Z4 Z5 Q5:LB)(hw:HW):cX:=fun ds G Q=>match ds with
 | [.ref p,.str pen]=>∃ (P:Pp) (d s g:LB),(hX Q5 hw G p d s g P/\∀ k v,dy P.gr k=some v->∃ m:Int,v=.int m/\0<=m)/\Q (.tup [.str pen,.int (P.num pen)]) G
 | _=>False
def aB(Z1 Z2 Z3 Z4 Z5 Q5:LB)(hw:HW):cX:=fun ds G Q=>match ds with
 | [.ref p]=>∃ (P:Pp) (d s g:LB),hX Q5 hw G p d s g P/\Q (.int (P.time+1)) G
 | _=>False
def be(Z1 Z2 Z3 Z4 Z5 Q5:LB)(hw:HW):cX:=fun ds G Q=>match ds with
 | [.ref p,.ref a]=>∃ (P:Pp) (d s g:LB) (k:Sk),(hX Q5 hw G p d s g P/\G a=some (bn Z1 Z2 Z3 Z4 Z5 Q5 k)/\P.sks.length<=50/\P.st.length<=50/\P.gr.length<=50)/\∀ G',wg [p,d,s,g] G G'->hX Q5 hw G' p d s g (P.add k)->Q (.tup [.str k.pen,.int k.num]) G'
 | _=>False
def bh(Z1 Z2 Z3 Z4 Z5 Q5:LB)(hw:HW):cX:=fun ds G Q=>match ds with
 | [.ref p,.tup [.str a,.int b]]=>∃ (P:Pp) (d s g:LB) (w:Str),(hX Q5 hw G p d s g P/\dy P.st [.inr a,.inl b]=some (.str w))/\Q .non G
 | _=>False
def bL(Z1 Z2 Z3 Z4 Z5 Q5:LB)(hw:HW):cX:=fun ds G Q=>match ds with
 | [.ref p,.tup [.str a,.int b]]=>∃ (P:Pp) (d s g:LB) (w:Str),(hX Q5 hw G p d s g P/\dy P.st [.inr a,.inl b]=some (.str w))/\Q (.str w) G
 | _=>False
def aN(Z1 Z2 Z3 Z4 Z5 Q5:LB)(hw:HW):cX:=fun ds G Q=>match ds with
 | [.ref p,.tup [.str a,.int b]]=>∃ (P:Pp) (d s g:LB),(hX Q5 hw G p d s g P/\dy P.st [.inr a,.inl b]=some (.str (LI "waits")))/\Q .non G
 | _=>False
def Pp.wipe(P:Pp)(n:List aH):Pp:=⟨P.old,P.sks,bF P.st n (.str (LI "wiped")),P.gr,P.time⟩
def cM(Z1 Z2 Z3 Z4 Z5 Q5:LB)(hw:HW):cX:=fun ds G Q=>match ds with
 | [.ref p,.tup [.str a,.int b]]=>∃ (P:Pp) (d s g:LB),(hX Q5 hw G p d s g P/\dy P.st [.inr a,.inl b]=some (.str (LI "waits"))/\P.st.length<=50)/\∀ G',wg [p,d,s,g] G G'->hX Q5 hw G' p d s g (P.wipe [.inr a,.inl b])->Q .non G'
 | _=>False
def bD(Z1 Z2 Z3 Z4 Z5 Q5:LB)(hw:HW):cX:=fun ds G Q=>match ds with
 | [.ref p,.str x]=>G p=some (.ins Q5 [] [])/\∀ d s g G',wg [p,d,s,g] G G'->hX Q5 hw G' p d s g ⟨x,[],[],[],0⟩->Q .non G'
 | _=>False
def cv(_ _ _ _ _ _:LB)(_:HW):cX:=fun ds G Q=>match ds with
 | [.int at_,.int n]=>(0<=at_/\at_<=n)/\Q .non G
 | _=>False
def aT(_ _ _ _ _ _:LB)(_:HW):cX:=fun ds G Q=>match ds with
 | [.int at_,.int to_,.int n]=>(0<=at_/\at_ < n/\at_ < to_/\to_<=n)/\Q .non G
 | _=>False
def aS(_ _ _ _ _ _:LB)(_:HW):cX:=fun ds G Q=>match ds with
 | [.lst xs,.int i,.int j]=>∃ seats:List Seat,(xs=seats.map Seat.d/\0<=i/\i<=j/\j<=seats.length/\seats.length<=100000)/\Q (.tup ((((seats.drop i.toNat).take (j - i).toNat).map Seat.name).map Sl.d)) G
 | _=>False
def Pp.next(P:Pp)(pen:Str)(k:Sk):Prop:=k.pen=pen/\k.num=P.num pen/\k.time=P.time+1
def cf(Z1 Z2 Z3 Z4 Z5 Q5:LB)(hw:HW):cX:=fun ds G Q=>match ds with
 | [.ref p,.str pen,.int i,.int j]=>∃ (P:Pp) (d s g:LB),(hX Q5 hw G p d s g P/\P.ok 49)/\∀ out,Srt P out->(0<=i/\i < (P.seats out).length/\i < j/\j<=(P.seats out).length)/\
   ∀ G',wg [p,d,s,g] G G'->hX Q5 hw G' p d s g (P.add ⟨pen,P.num pen,P.time+1,.strike ((((P.seats out).drop i.toNat).take (j - i).toNat).map Seat.name)⟩)->Q (.tup [.str pen,.int (P.num pen)]) G'
 | _=>False
def sy(_ _ _ _ _ _:LB)(_:HW):cX:=fun vs _ Q=>match vs with
 | [.lst ds]=>∃ ns:List Int,ds=ns.map D.int/\ns.length<=63/\∀ G',Q (.bl true) G'
 | _=>False
def jt(seats:List Seat)(i:Int):Sl:=if i=0 then aG else match seats[(i - 1).toNat]? with
 | some s=>s.slot
 | none=>aG
def cw(_ _ _ _ _ _:LB)(_:HW):cX:=fun ds G Q=>match ds with
 | [.lst xs,.int i]=>∃ seats:List Seat,(xs=seats.map Seat.d/\0<=i/\i<=seats.length)/\Q (jt seats i).d G
 | _=>False
def bw(_ _ _ _ _ _:LB)(_:HW):cX:=fun ds G Q=>match ds with
 | [.lst xs,.int i]=>∃ seats:List Seat,(xs=seats.map Seat.d/\0<=i/\i<=seats.length)/\Q (jt seats i).d G
 | _=>False
def mf(seats:List Seat)(i j:Int):List Sl:=((seats.drop i.toNat).take (j - i).toNat).map Seat.name
def bM(Z1 Z2 Z3 Z4 Z5 Q5:LB)(hw:HW):cX:=fun ds G Q=>match ds with
 | [.ref p,.str pen,.int i,.int j,.str w]=>∃ (P:Pp) (d s g:LB),(hX Q5 hw G p d s g P/\P.ok 49)/\∀ out,Srt P out->(0<=i/\i < (P.seats out).length/\i < j/\j<=(P.seats out).length)/\
   ∀ G',wg [p,d,s,g] G G'->hX Q5 hw G' p d s g (P.add ⟨pen,P.num pen,P.time+1,.dress (mf (P.seats out) i j) w⟩)->Q (.tup [.str pen,.int (P.num pen)]) G'
 | _=>False
def cx(Z1 Z2 Z3 Z4 Z5 Q5:LB)(hw:HW):cX:=fun ds G Q=>match ds with
 | [.ref p,.str pen,.int i,.str x]=>∃ (P:Pp) (d s g:LB),(hX Q5 hw G p d s g P/\P.ok 49)/\∀ out,Srt P out->(0<=i/\i<=(P.seats out).length)/\
   ∀ G',wg [p,d,s,g] G G'->hX Q5 hw G' p d s g (P.add ⟨pen,P.num pen,P.time+1,.put (jt (P.seats out) i) x⟩)->Q (.tup [.str pen,.int (P.num pen)]) G'
 | _=>False
def cN(Z1 Z2 Z3 Z4 Z5 Q5:LB)(hw:HW):cX:=fun ds G Q=>match ds with
 | [.ref p,.str pen,.int i]=>∃ (P:Pp) (d s g:LB),(hX Q5 hw G p d s g P/\P.ok 49)/\∀ out,Srt P out->(0<=i/\i<=(P.seats out).length)/\
   ∀ G',wg [p,d,s,g] G G'->hX Q5 hw G' p d s g (P.add ⟨pen,P.num pen,P.time+1,.put (jt (P.seats out) i) (LI "\n")⟩)->Q (.tup [.str pen,.int (P.num pen)]) G'
 | _=>False
def cO(Z1 Z2 Z3 Z4 Z5 Q5:LB)(hw:HW):cX:=fun ds G Q=>match ds with
 | [.ref p,.str pen,.int i,.int j,.int m]=>∃ (P:Pp) (d s g:LB),(hX Q5 hw G p d s g P/\P.ok 49)/\∀ out,Srt P out->(0<=i/\i < (P.seats out).length/\i < j/\j<=(P.seats out).length/\0<=m/\m<=(P.seats out).length)/\
   ∀ G',wg [p,d,s,g] G G'->hX Q5 hw G' p d s g (P.add ⟨pen,P.num pen,P.time+1,.move (mf (P.seats out) i j) (jt (P.seats out) m)⟩)->Q (.tup [.str pen,.int (P.num pen)]) G'
 | _=>False
def Pp.inS(P:Pp)(w:Str):List Sk:=P.sks.filter fun s=>eJ ((dy P.st s.nm.key).getD .non) (.str w)
def Pp.wai(P:Pp):List Nm:=(P.inS (LI "waits")).map Sk.nm
def bq(Z1 Z2 Z3 Z4 Z5 Q5:LB)(hw:HW):cX:=fun ds G Q=>match ds with
 | [.ref p,.str w]=>∃ (P:Pp) (d s g:LB),(hX Q5 hw G p d s g P/\P.ok 50)/\Q (.fl ((P.inS w).map Sk.d)) G
 | _=>False
def aU(Z1 Z2 Z3 Z4 Z5 Q5:LB)(hw:HW):cX:=fun ds G Q=>match ds with
 | [.ref p]=>∃ (P:Pp) (d s g:LB),(hX Q5 hw G p d s g P/\P.ok 50)/\Q (.fl (P.wai.map Nm.d)) G
 | _=>False
def Pp.stand(P:Pp)(n:List aH):Pp:=⟨P.old,P.sks,bF P.st n (.str (LI "stands")),P.gr,P.time⟩
def bx(Z1 Z2 Z3 Z4 Z5 Q5:LB)(hw:HW):cX:=fun ds G Q=>match ds with
 | [.ref p,.tup [.str a,.int b]]=>∃ (P:Pp) (d s g:LB),(hX Q5 hw G p d s g P/\dy P.st [.inr a,.inl b]=some (.str (LI "waits"))/\P.st.length<=50)/\∀ G',wg [p,d,s,g] G G'->hX Q5 hw G' p d s g (P.stand [.inr a,.inl b])->Q .non G'
 | _=>False
def bj(Z1 Z2 Z3 Z4 Z5 Q5:LB)(hw:HW):cX:=fun ds G Q=>match ds with
 | [.ref p]=>∃ (P:Pp) (d s g:LB),hX Q5 hw G p d s g P/\Q (.int P.time) G
 | _=>False
def bC(Z1 Z2 Z3 Z4 Z5 Q5:LB)(hw:HW):cX:=fun ds G Q=>match ds with
 | [.ref p]=>∃ (P:Pp) (d s g:LB),hX Q5 hw G p d s g P/\Q (.str P.old) G
 | _=>False
def zq(ps:List (Str×Int)):List (aH×D):=ps.map fun p=>((.inr p.1:aH),D.int p.2)
def bb(Z1 Z2 Z3 Z4 Z5 Q5:LB)(hw:HW):cX:=fun ds G Q=>match ds with
 | [.ref p]=>∃ (P:Pp) (d s g:LB) (ps:List (Str×Int)),(hX Q5 hw G p d s g P/\P.gr=zq ps/\ps.length < 64)/\Q (.fl ((uy ps).map zH)) G
 | _=>False
def J2(xs:List D):Prop:=∃ a b c d e f:Int,xs=[.int a,.int b,.int c,.int d,.int e,.int f]/\(0<=a/\0<=b/\0<=c/\0<=d/\0<=e/\0<=f)/\(a < 2147483647/\b < 2147483647/\c < 2147483647/\d < 2147483647/\e < 2147483647/\f < 2147483647)
def dM(Z1 Z2 Z3 Z4 Z5 Q5:LB)(hw:HW):cX:=fun ds G Q=>match ds with
 | [.ref p,.str pen,.lst xs,.lst ss]=>∃ (P:Pp) (d s g:LB) (out:List Sk),(hX Q5 hw G p d s g P/\P.ok 49/\J2 xs/\Srt P out/\ss=(P.seats out).map Seat.d)/\
   ∀ k G',P.next pen k->k.wd<=60->wg [p,d,s,g] G G'->hX Q5 hw G' p d s g (P.add k)->Q (.tup [.tup [.str pen,.int (P.num pen)],k.act.d]) G'
 | _=>False
def da(Z1 Z2 Z3 Z4 Z5 Q5:LB)(hw:HW):cX:=fun ds G Q=>match ds with
 | [.ref p,.str pen,.lst xs]=>∃ (P:Pp) (d s g:LB),(hX Q5 hw G p d s g P/\P.ok 49/\J2 xs)/\
   ∀ k G',P.next pen k->k.wd<=60->wg [p,d,s,g] G G'->hX Q5 hw G' p d s g (P.add k)->Q (.tup [.tup [.str pen,.int (P.num pen)],k.act.d]) G'
 | _=>False
def c_(Z1 Z2 Z3 Z4 Z5 Q5:LB)(hw:HW):cX:=fun ds G Q=>match ds with
 | [.ref p,x]=>∃ (P:Pp) (d s g:LB),(hX Q5 hw G p d s g P/\P.ok 50/\n6 G x=some (P.sks.map Sk.d))/\∀ G',fP G G'->Q (.bl true) G'
 | _=>False
def Lf(P P':Pp):Prop:=P'.old=P.old/\P'.sks=P.sks/\P'.gr=P.gr/\P'.time=P.time/\∀ n,P.ok n->P'.ok n
def cA(Z1 Z2 Z3 Z4 Z5 Q5:LB)(hw:HW):cX:=fun ds G Q=>match ds with
 | [.ref p,.lst xs]=>∃ (P:Pp) (d s g:LB),(hX Q5 hw G p d s g P/\P.ok 50/\J2 xs)/\∀ G' P',Lf P P'->wg [p,d,s,g] G G'->hX Q5 hw G' p d s g P'->Q .non G'
 | _=>False
def fA(Z1 Z2 Z3 Z4 Z5:LB)(Q5:LB)(hw:List aH->Int):cn:=sSeq (lV (cJ (bG FA (ab 1) (eB ji (ae (ab 0) (au))))) (br (bG fK (ab 0) (ab 1))) (cW))
 (br (eC (.int 0)))
def fY(Z1 Z2 Z3 Z4 Z5:LB)(Q5:LB)(hw:List aH->Int):cn:=sSeq (C6 2 (pG (au)))
 (sSeq (bW 3 (bG gw (bG An (bG ib (ab 0) (eC (.int 1))) (eC (.int 48271))) (eC (.int 2147483647))))
 (sSeq (kQ (Jw (ae (ab 1) (au))) (gN 4) (sSeq (bW 3 (bG gw (bG An (bG ib (bG ib (ab 3) (bG An (eC (.int 7919)) (ab 4))) (eC (.int 1))) (bG ib (bG B3 (ab 3) (eC (.int 1009))) (eC (.int 69621)))) (eC (.int 2147483647))))
 (cR (gn (ab 2) (ae (ab 3) (au))))))
 (jk 2)))
def iQ(Z1 Z2 Z3 Z4 Z5:LB)(Q5:LB)(hw:List aH->Int):cn:=sSeq (bW 2 (eC (.str "abcdefghijklmnopqrstuvwxyz")))
 (sSeq (bW 3 (aY (bK Z1 Z2 Z3 Z4 Z5 Q5 hw) [] (ae (ab 0) (ae (eC (.int 10)) (au)))))
 (sSeq (bW 4 (Bn (eC (.str "")) (ae (e_ 1 (gy (Cp A1 (ab 3) (EH) (iI (eC (.int 8))))) (gN 0) (iH) (bG fK (ab 3) (bG gw (ab 0) (eC (.int 26))))) (au))))
 (sSeq (lV (cJ (fj zI (bG gw (bG fK (ab 3) (eC (.int 9))) (eC (.int 3))) (eC (.int 0)))) (br (e_ 1 (Jw (ae (ab 1) (au))) (gN 0) (iH) (Cp A1 (ab 5) (EH) (iI (bG ib (eC (.int 1)) (bG gw (bG ib (ab 0) (bG fK (ab 4) (eC (.int 8)))) (eC (.int 8)))))))) (cW))
 (sSeq (bW 4 (Cp A1 (ab 4) (EH) (iI (bG ib (eC (.int 1)) (bG gw (bG fK (ab 3) (eC (.int 8))) (eC (.int 8)))))))
 (sSeq (bW 5 (bG gw (bG B3 (bG fK (ab 3) (eC (.int 9))) (eC (.int 3))) (eB ji (ae (ab 4) (au)))))
 (br (e_ 1 (Jw (ae (ab 1) (au))) (gN 0) (iH) (bG ib (bG ib (Cp A1 (ab 5) (EH) (iI (ab 6))) (bG fK (ab 3) (bG gw (bG ib (bG B3 (bG fK (ab 4) (eC (.int 9))) (eC (.int 32))) (bG An (eC (.int 7)) (ab 0))) (eC (.int 26))))) (Cp A1 (ab 5) (iI (bG ib (ab 6) (eC (.int 1)))) (EH))))))))))
def i6(Z1 Z2 Z3 Z4 Z5:LB)(Q5:LB)(hw:List aH->Int):cn:=sSeq (lV (cJ (fj zI (ab 1) (eC (.int 0)))) (br (eC k_START)) (cW))
 (br (bG fK (bG fK (ab 0) (bG DR (ab 1) (eC (.int 1)))) (eC (.int 0))))
def iP(Z1 Z2 Z3 Z4 Z5:LB)(Q5:LB)(hw:List aH->Int):cn:=lV (vJ (cJ (qJ IC IC (eC (.int 0)) (ab 0) (ab 1)))) (nw) (cW)
def fX(Z1 Z2 Z3 Z4 Z5:LB)(Q5:LB)(hw:List aH->Int):cn:=sSeq (lV (cJ (fj zI (ab 1) (eC (.int 0)))) (br (eC k_START)) (cW))
 (br (bG fK (bG fK (ab 0) (bG DR (ab 1) (eC (.int 1)))) (eC (.int 0))))
def gT(Z1 Z2 Z3 Z4 Z5:LB)(Q5:LB)(hw:List aH->Int):cn:=sSeq (bW 3 (ab 1))
 (kQ (gy (ab 2)) (gN 4) (sSeq (d7 hw (ab 0) (ab 4) (r8 hw (ab 0) (ab 3)))
 (sSeq (d7 hw (ab 0) (ab 3) (ab 4))
 (bW 3 (ab 4)))))
def gR(Z1 Z2 Z3 Z4 Z5:LB)(Q5:LB)(hw:List aH->Int):cn:=br (e_ 1 (KO (ae (eC (.int 1)) (ae (bG ib (ab 1) (eC (.int 1))) (au)))) (gN 0) (iH) (bG ib (ab 1) (fh (ae (ab 0) (au)))))
def iM(Z1 Z2 Z3 Z4 Z5:LB)(Q5:LB)(hw:List aH->Int):cn:=br (aY (bA Z1 Z2 Z3 Z4 Z5 Q5 hw) [] (ae (Cp A1 (eC k_START) (EH) (iI (eC (.int 2)))) (ae (eB ji (ae (ab 0) (au))) (au))))
def d8(Z1 Z2 Z3 Z4 Z5:LB)(Q5:LB)(hw:List aH->Int):cn:=br (fh (ae (bG fK (ab 0) (eC (.int 1))) (ae (bG fK (ab 0) (eC (.int 0))) (au))))
def jn(Z1 Z2 Z3 Z4 Z5:LB)(Q5:LB)(hw:List aH->Int):cn:=sSeq (bW 1 (qZ hw))
 (sSeq (C8 (ab 0) (gN 2) (d7 hw (ab 1) (bG fK (ab 2) (eC (.int 0))) (ab 2)))
 (br (AE (bd Z1 Z2 Z3 Z4 Z5 Q5 hw) (ab 1))))
def dQ(Z1 Z2 Z3 Z4 Z5:LB)(Q5:LB)(hw:List aH->Int):cn:=sSeq (jM [Z1,Z2,Z3,Z4,Z5] "name" (ab 0) (ab 1))
 (sSeq (jM [Z1,Z2,Z3,Z4,Z5] "time" (ab 0) (ab 2))
 (sSeq (jM [Z1,Z2,Z3,Z4,Z5] "anchor" (ab 0) (eC k_START))
 (jM [Z1,Z2,Z3,Z4,Z5] "names" (ab 0) (fh (au)))))
def fC(Z1 Z2 Z3 Z4 Z5:LB)(Q5:LB)(hw:List aH->Int):cn:=sSeq (cR (aY (aI Z1 Z2 Z3 Z4 Z5 Q5 hw) [] (ae (ab 0) (ae (ab 1) (ae (ab 2) (au))))))
 (sSeq (jM [Z1,Z2,Z3,Z4,Z5] "anchor" (ab 0) (ab 3))
 (jM [Z1,Z2,Z3,Z4,Z5] "signs" (ab 0) (ab 4)))
def dR(Z1 Z2 Z3 Z4 Z5:LB)(Q5:LB)(hw:List aH->Int):cn:=sSeq (cR (aY (aI Z1 Z2 Z3 Z4 Z5 Q5 hw) [] (ae (ab 0) (ae (ab 1) (ae (ab 2) (au))))))
 (jM [Z1,Z2,Z3,Z4,Z5] "names" (ab 0) (ab 3))
def ef(Z1 Z2 Z3 Z4 Z5:LB)(Q5:LB)(hw:List aH->Int):cn:=sSeq (cR (aY (aI Z1 Z2 Z3 Z4 Z5 Q5 hw) [] (ae (ab 0) (ae (ab 1) (ae (ab 2) (au))))))
 (sSeq (jM [Z1,Z2,Z3,Z4,Z5] "names" (ab 0) (ab 3))
 (jM [Z1,Z2,Z3,Z4,Z5] "word" (ab 0) (ab 4)))
def eT(Z1 Z2 Z3 Z4 Z5:LB)(Q5:LB)(hw:List aH->Int):cn:=sSeq (cR (aY (aI Z1 Z2 Z3 Z4 Z5 Q5 hw) [] (ae (ab 0) (ae (ab 1) (ae (ab 2) (au))))))
 (sSeq (jM [Z1,Z2,Z3,Z4,Z5] "names" (ab 0) (ab 3))
 (jM [Z1,Z2,Z3,Z4,Z5] "anchor" (ab 0) (ab 4)))
def iL(Z1 Z2 Z3 Z4 Z5:LB)(Q5:LB)(hw:List aH->Int):cn:=sSeq (bW 1 (bG fK (ab 0) (eC (.int 0))))
 (sSeq (bW 2 (bG fK (ab 0) (eC (.int 1))))
 (sSeq (bW 3 (bG fK (ab 0) (eC (.int 2))))
 (sSeq (lV (cJ (fj zI (bG fK (ab 3) (eC (.int 0))) (eC (.str "put")))) (br (kO Z2 (bB Z1 Z2 Z3 Z4 Z5 Q5 hw) [] (ae (ab 1) (ae (ab 2) (ae (bG fK (ab 3) (eC (.int 1))) (ae (bG fK (ab 3) (eC (.int 2))) (au))))))) (cW))
 (sSeq (lV (cJ (fj zI (bG fK (ab 3) (eC (.int 0))) (eC (.str "strike")))) (br (kO Z3 (aX Z1 Z2 Z3 Z4 Z5 Q5 hw) [] (ae (ab 1) (ae (ab 2) (ae (bG fK (ab 3) (eC (.int 1))) (au)))))) (cW))
 (sSeq (lV (cJ (fj zI (bG fK (ab 3) (eC (.int 0))) (eC (.str "dress")))) (br (kO Z4 (bf Z1 Z2 Z3 Z4 Z5 Q5 hw) [] (ae (ab 1) (ae (ab 2) (ae (bG fK (ab 3) (eC (.int 1))) (ae (bG fK (ab 3) (eC (.int 2))) (au))))))) (cW))
 (br (kO Z5 (bp Z1 Z2 Z3 Z4 Z5 Q5 hw) [] (ae (ab 1) (ae (ab 2) (ae (bG fK (ab 3) (eC (.int 1))) (ae (bG fK (ab 3) (eC (.int 2))) (au))))))))))))
def kj(Z1 Z2 Z3 Z4 Z5:LB)(Q5:LB)(hw:List aH->Int):cn:=sSeq (C6 1 (pG (au)))
 (sSeq (bW 2 (r8 hw (ab 0) (eC k_START)))
 (sSeq (zW (cJ (bG yS (ab 2) (eC .non))) (sSeq (cR (gn (ab 1) (ae (ab 2) (au))))
 (bW 2 (r8 hw (ab 0) (ab 2)))))
 (jk 1)))
def fB(Z1 Z2 Z3 Z4 Z5:LB)(Q5:LB)(hw:List aH->Int):cn:=br (pG (au))
def iS(Z1 Z2 Z3 Z4 Z5:LB)(Q5:LB)(hw:List aH->Int):cn:=br (aY (bA Z1 Z2 Z3 Z4 Z5 Q5 hw) [] (ae (bQ [Z1,Z2,Z3,Z4,Z5] "name" (ab 0)) (ae (eB ji (ae (bQ [Z1,Z2,Z3,Z4,Z5] "signs" (ab 0)) (au))) (au))))
def g_(Z1 Z2 Z3 Z4 Z5:LB)(Q5:LB)(hw:List aH->Int):cn:=br (aY (bA Z1 Z2 Z3 Z4 Z5 Q5 hw) [] (ae (bQ [Z1,Z2,Z3,Z4,Z5] "name" (ab 0)) (ae (eB ji (ae (bQ [Z1,Z2,Z3,Z4,Z5] "names" (ab 0)) (au))) (au))))
def jm(Z1 Z2 Z3 Z4 Z5:LB)(Q5:LB)(hw:List aH->Int):cn:=sSeq (bW 2 (AH hw (eC k_START) (eC .non)))
 (sSeq (cR (aY (cu Z1 Z2 Z3 Z4 Z5 Q5 hw) [] (ae (ab 2) (ae (eC k_START) (ae (aY (cr Z1 Z2 Z3 Z4 Z5 Q5 hw) [] (ae (ab 0) (au))) (au))))))
 (sSeq (kQ (gy (e_ 1 (gy (aY (cL Z1 Z2 Z3 Z4 Z5 Q5 hw) [] (ae (ab 1) (au)))) (gN 0) (iH) (aY (cq Z1 Z2 Z3 Z4 Z5 Q5 hw) [] (ae (ab 0) (au))))) (gN 3) (lV (cJ (xR hw (bQ [Z1,Z2,Z3,Z4,Z5] "anchor" (ab 3)) (ab 2))) (cR (aY (cu Z1 Z2 Z3 Z4 Z5 Q5 hw) [] (ae (ab 2) (ae (bQ [Z1,Z2,Z3,Z4,Z5] "anchor" (ab 3)) (ae (fk [(Z1,ar Z1 Z2 Z3 Z4 Z5 Q5 hw),(Z2,aZ Z1 Z2 Z3 Z4 Z5 Q5 hw),(Z3,ar Z1 Z2 Z3 Z4 Z5 Q5 hw),(Z4,ar Z1 Z2 Z3 Z4 Z5 Q5 hw),(Z5,aQ Z1 Z2 Z3 Z4 Z5 Q5 hw)] "slots" [] (ab 3) au) (au)))))) (cW)))
 (br (aY (et Z1 Z2 Z3 Z4 Z5 Q5 hw) [] (ae (ab 2) (au))))))
def mE(Z1 Z2 Z3 Z4 Z5:LB)(Q5:LB)(hw:List aH->Int):cn:=br (AG hw (e_ 1 (gy (ab 0)) (gN 0) (iH) (fh (ae (ab 0) (ae (eC (.bl true)) (au))))))
def iN(Z1 Z2 Z3 Z4 Z5:LB)(Q5:LB)(hw:List aH->Int):cn:=br (eB Bv (ae (e_ 1 (gy (fk [(Z1,ar Z1 Z2 Z3 Z4 Z5 Q5 hw),(Z2,aZ Z1 Z2 Z3 Z4 Z5 Q5 hw),(Z3,ar Z1 Z2 Z3 Z4 Z5 Q5 hw),(Z4,ar Z1 Z2 Z3 Z4 Z5 Q5 hw),(Z5,aQ Z1 Z2 Z3 Z4 Z5 Q5 hw)] "slots" [] (ab 0) au)) (gN 0) (iH) (xR hw (ab 0) (ab 2))) (au)))
def iO(Z1 Z2 Z3 Z4 Z5:LB)(Q5:LB)(hw:List aH->Int):cn:=sSeq (bW 3 (aY (dY Z1 Z2 Z3 Z4 Z5 Q5 hw) [] (ae (ab 1) (au))))
 (sSeq (bW 4 (e_ 1 (gy (aY (cL Z1 Z2 Z3 Z4 Z5 Q5 hw) [] (ae (ab 0) (au)))) (gN 0) (cJ (xR hw (bG fK (ab 0) (eC (.int 0))) (ab 4))) (aY (cq Z1 Z2 Z3 Z4 Z5 Q5 hw) [] (ae (ab 0) (au)))))
 (br (e_ 1 (gy (ab 4)) (gN 0) (ux (aY (c7 Z1 Z2 Z3 Z4 Z5 Q5 hw) [] (ae (ab 0) (ae (ab 3) (au))))) (ab 0))))
def eL(Z1 Z2 Z3 Z4 Z5:LB)(Q5:LB)(hw:List aH->Int):cn:=sSeq (bW 2 (AF hw (ae (aY (cr Z1 Z2 Z3 Z4 Z5 Q5 hw) [] (ae (ab 0) (au))) (ae (ab 0) (au)))))
 (sSeq (kQ (gy (ab 1)) (gN 3) (lV (ux (eB (x_ [(Z1,false),(Z2,true),(Z3,false),(Z4,false),(Z5,false)] Z2) (ae (ab 3) (ae (eC (.ref Z2)) au)))) (kQ (Ch (ae (fk [(Z1,ar Z1 Z2 Z3 Z4 Z5 Q5 hw),(Z2,aZ Z1 Z2 Z3 Z4 Z5 Q5 hw),(Z3,ar Z1 Z2 Z3 Z4 Z5 Q5 hw),(Z4,ar Z1 Z2 Z3 Z4 Z5 Q5 hw),(Z5,aQ Z1 Z2 Z3 Z4 Z5 Q5 hw)] "slots" [] (ab 3) au) (ae (bQ [Z1,Z2,Z3,Z4,Z5] "signs" (ab 3)) (au)))) (qX 2 (gM (gN 4) (gM (gN 5) (qY)))) (d7 hw (ab 2) (ab 4) (ab 5))) (cW)))
 (br (ab 2)))
def d9(Z1 Z2 Z3 Z4 Z5:LB)(Q5:LB)(hw:List aH->Int):cn:=br (eB rj (ae (bQ [Z1,Z2,Z3,Z4,Z5] "names" (ab 0)) (au)))
def fy(Z1 Z2 Z3 Z4 Z5:LB)(Q5:LB)(hw:List aH->Int):cn:=sSeq (bW 1 (qZ hw))
 (sSeq (kQ (gy (ab 0)) (gN 2) (lV (ux (eB (x_ [(Z1,false),(Z2,false),(Z3,true),(Z4,false),(Z5,false)] Z3) (ae (ab 2) (ae (eC (.ref Z3)) au)))) (kQ (gy (fk [(Z1,ag Z1 Z2 Z3 Z4 Z5 Q5 hw),(Z2,ag Z1 Z2 Z3 Z4 Z5 Q5 hw),(Z3,ag Z1 Z2 Z3 Z4 Z5 Q5 hw),(Z4,ag Z1 Z2 Z3 Z4 Z5 Q5 hw),(Z5,ag Z1 Z2 Z3 Z4 Z5 Q5 hw)] "touched" [] (ab 2) au)) (gN 3) (d7 hw (ab 1) (ab 3) (eC (.bl true)))) (cW)))
 (br (ab 1)))
def fW(Z1 Z2 Z3 Z4 Z5:LB)(Q5:LB)(hw:List aH->Int):cn:=sSeq (bW 1 (qZ hw))
 (sSeq (kQ (gy (ab 0)) (gN 2) (lV (ux (eB (x_ [(Z1,false),(Z2,false),(Z3,false),(Z4,false),(Z5,true)] Z5) (ae (ab 2) (ae (eC (.ref Z5)) au)))) (kQ (Ch (ae (fk [(Z1,ag Z1 Z2 Z3 Z4 Z5 Q5 hw),(Z2,ag Z1 Z2 Z3 Z4 Z5 Q5 hw),(Z3,ag Z1 Z2 Z3 Z4 Z5 Q5 hw),(Z4,ag Z1 Z2 Z3 Z4 Z5 Q5 hw),(Z5,ag Z1 Z2 Z3 Z4 Z5 Q5 hw)] "touched" [] (ab 2) au) (ae (fk [(Z1,ar Z1 Z2 Z3 Z4 Z5 Q5 hw),(Z2,aZ Z1 Z2 Z3 Z4 Z5 Q5 hw),(Z3,ar Z1 Z2 Z3 Z4 Z5 Q5 hw),(Z4,ar Z1 Z2 Z3 Z4 Z5 Q5 hw),(Z5,aQ Z1 Z2 Z3 Z4 Z5 Q5 hw)] "slots" [] (ab 2) au) (au)))) (qX 2 (gM (gN 3) (gM (gN 4) (qY)))) (d7 hw (ab 1) (ab 3) (ab 4))) (cW)))
 (br (ab 1)))
def gQ(Z1 Z2 Z3 Z4 Z5:LB)(Q5:LB)(hw:List aH->Int):cn:=sSeq (bW 1 (qZ hw))
 (sSeq (kQ (gy (ab 0)) (gN 2) (lV (ux (eB (x_ [(Z1,false),(Z2,false),(Z3,false),(Z4,true),(Z5,false)] Z4) (ae (ab 2) (ae (eC (.ref Z4)) au)))) (kQ (gy (fk [(Z1,ag Z1 Z2 Z3 Z4 Z5 Q5 hw),(Z2,ag Z1 Z2 Z3 Z4 Z5 Q5 hw),(Z3,ag Z1 Z2 Z3 Z4 Z5 Q5 hw),(Z4,ag Z1 Z2 Z3 Z4 Z5 Q5 hw),(Z5,ag Z1 Z2 Z3 Z4 Z5 Q5 hw)] "touched" [] (ab 2) au)) (gN 3) (d7 hw (ab 1) (ab 3) (bQ [Z1,Z2,Z3,Z4,Z5] "word" (ab 2)))) (cW)))
 (br (ab 1)))
def mD(Z1 Z2 Z3 Z4 Z5:LB)(Q5:LB)(hw:List aH->Int):cn:=sSeq (bW 3 (aY (dL Z1 Z2 Z3 Z4 Z5 Q5 hw) [] (ae (ab 0) (ae (ab 1) (au)))))
 (sSeq (bW 4 (aY (c8 Z1 Z2 Z3 Z4 Z5 Q5 hw) [] (ae (ab 1) (ae (ab 2) (ae (aY (dY Z1 Z2 Z3 Z4 Z5 Q5 hw) [] (ae (ab 3) (au))) (au))))))
 (sSeq (bW 5 (aY (bP Z1 Z2 Z3 Z4 Z5 Q5 hw) [] (ae (ab 0) (ae (ab 4) (au)))))
 (sSeq (bW 6 (aY (cb Z1 Z2 Z3 Z4 Z5 Q5 hw) [] (ae (ab 4) (au))))
 (sSeq (bW 7 (aY (cz Z1 Z2 Z3 Z4 Z5 Q5 hw) [] (ae (ab 4) (au))))
 (sSeq (bW 8 (aY (cK Z1 Z2 Z3 Z4 Z5 Q5 hw) [] (ae (ab 4) (au))))
 (sSeq (bW 9 (qZ hw))
 (sSeq (C9 (ab 5) (gN 10) (lV (cJ (mJ hw (ab 10) (ab 6))) (d7 hw (ab 9) (ms hw (ab 7) (ab 10) (ab 10)) (ab 10)) (cW)))
 (sSeq (bW 11 (e_ 1 (gy (ab 3)) (gN 0) (cJ (xR hw (ab 0) (ab 10))) (fh (ae (ab 0) (ae (r8 hw (ab 10) (ab 0)) (au))))))
 (br (e_ 2 (gy (ab 11)) (qX 2 (gM (gN 0) (gM (gN 1) (qY)))) (iH) (fh (ae (ab 0) (ae (ab 1) (ae (r8 hw (ab 7) (ab 1)) (ae (ms hw (ab 10) (ab 1) (eC (.str ""))) (au))))))))))))))))
def eP(Z1 Z2 Z3 Z4 Z5:LB)(Q5:LB)(hw:List aH->Int):cn:=br (uk 1 (iF Q5 ai 1 (ab 0)) (gN 0) (cJ (fj yT (r8 hw (iF Q5 ai 2 (ab 1)) (bG fK (ab 0) (eC (.int 0)))) (eC k_WIPED))) (bG fK (ab 0) (eC (.int 0))))
def f7(Z1 Z2 Z3 Z4 Z5:LB)(Q5:LB)(hw:List aH->Int):cn:=br (aY (dX Z1 Z2 Z3 Z4 Z5 Q5 hw) [] (ae (iF Q5 ai 0 (ab 0)) (ae (iF Q5 ai 1 (ab 0)) (ae (aW Q5 ai (bo Z1 Z2 Z3 Z4 Z5 Q5 hw) [] (ab 0) au) (au)))))
def km(Z1 Z2 Z3 Z4 Z5:LB)(Q5:LB)(hw:List aH->Int):cn:=br (fh (ae (bQ [Z1,Z2,Z3,Z4,Z5] "name" (ab 0)) (ae (bQ [Z1,Z2,Z3,Z4,Z5] "time" (ab 0)) (ae (fh (ae (eC (.str "put")) (ae (bQ [Z1,Z2,Z3,Z4,Z5] "anchor" (ab 0)) (ae (bQ [Z1,Z2,Z3,Z4,Z5] "signs" (ab 0)) (au))))) (au)))))
def gU(Z1 Z2 Z3 Z4 Z5:LB)(Q5:LB)(hw:List aH->Int):cn:=br (fh (ae (bQ [Z1,Z2,Z3,Z4,Z5] "name" (ab 0)) (ae (bQ [Z1,Z2,Z3,Z4,Z5] "time" (ab 0)) (ae (fh (ae (eC (.str "strike")) (ae (bQ [Z1,Z2,Z3,Z4,Z5] "names" (ab 0)) (au)))) (au)))))
def iU(Z1 Z2 Z3 Z4 Z5:LB)(Q5:LB)(hw:List aH->Int):cn:=br (fh (ae (bQ [Z1,Z2,Z3,Z4,Z5] "name" (ab 0)) (ae (bQ [Z1,Z2,Z3,Z4,Z5] "time" (ab 0)) (ae (fh (ae (eC (.str "dress")) (ae (bQ [Z1,Z2,Z3,Z4,Z5] "names" (ab 0)) (ae (bQ [Z1,Z2,Z3,Z4,Z5] "word" (ab 0)) (au))))) (au)))))
def jr(Z1 Z2 Z3 Z4 Z5:LB)(Q5:LB)(hw:List aH->Int):cn:=br (fh (ae (bQ [Z1,Z2,Z3,Z4,Z5] "name" (ab 0)) (ae (bQ [Z1,Z2,Z3,Z4,Z5] "time" (ab 0)) (ae (fh (ae (eC (.str "move")) (ae (bQ [Z1,Z2,Z3,Z4,Z5] "names" (ab 0)) (ae (bQ [Z1,Z2,Z3,Z4,Z5] "anchor" (ab 0)) (au))))) (au)))))
def gZ(Z1 Z2 Z3 Z4 Z5:LB)(Q5:LB)(hw:List aH->Int):cn:=sSeq (cR (gn (iF Q5 ai 1 (ab 0)) (ae (fk [(Z2,dB Z1 Z2 Z3 Z4 Z5 Q5 hw),(Z3,bT Z1 Z2 Z3 Z4 Z5 Q5 hw),(Z4,cy Z1 Z2 Z3 Z4 Z5 Q5 hw),(Z5,cP Z1 Z2 Z3 Z4 Z5 Q5 hw)] "row" [] (ab 1) au) (au))))
 (sSeq (d7 hw (iF Q5 ai 2 (ab 0)) (bQ [Z1,Z2,Z3,Z4,Z5] "name" (ab 1)) (eC k_WAITS))
 (sSeq (d7 hw (iF Q5 ai 3 (ab 0)) (bG fK (bQ [Z1,Z2,Z3,Z4,Z5] "name" (ab 1)) (eC (.int 0))) (bG fK (bQ [Z1,Z2,Z3,Z4,Z5] "name" (ab 1)) (eC (.int 1))))
 (sSeq (A5 Q5 ai 4 (ab 0) (bQ [Z1,Z2,Z3,Z4,Z5] "time" (ab 1)))
 (br (bQ [Z1,Z2,Z3,Z4,Z5] "name" (ab 1))))))
def df(Z1 Z2 Z3 Z4 Z5:LB)(Q5:LB)(hw:List aH->Int):cn:=br (fh (ae (ab 1) (ae (bG ib (ms hw (iF Q5 ai 3 (ab 0)) (ab 1) (eC (.int 0))) (eC (.int 1))) (au))))
def de(Z1 Z2 Z3 Z4 Z5:LB)(Q5:LB)(hw:List aH->Int):cn:=br (bG ib (iF Q5 ai 4 (ab 0)) (eC (.int 1)))
def iT(Z1 Z2 Z3 Z4 Z5:LB)(Q5:LB)(hw:List aH->Int):cn:=sSeq (bW 4 (aW Q5 ai (aF Z1 Z2 Z3 Z4 Z5 Q5 hw) [] (ab 0) au))
 (sSeq (cR (aY (cv Z1 Z2 Z3 Z4 Z5 Q5 hw) [] (ae (ab 2) (ae (eB ji (ae (ab 4) (au))) (au)))))
 (br (aW Q5 ai (be Z1 Z2 Z3 Z4 Z5 Q5 hw) [] (ab 0) (ae (kO Z2 (bB Z1 Z2 Z3 Z4 Z5 Q5 hw) [] (ae (aW Q5 ai (aD Z1 Z2 Z3 Z4 Z5 Q5 hw) [] (ab 0) (ae (ab 1) (au))) (ae (aW Q5 ai (aB Z1 Z2 Z3 Z4 Z5 Q5 hw) [] (ab 0) au) (ae (aY (cw Z1 Z2 Z3 Z4 Z5 Q5 hw) [] (ae (ab 4) (ae (ab 2) (au)))) (ae (ab 3) (au)))))) (au)))))
def gX(Z1 Z2 Z3 Z4 Z5:LB)(Q5:LB)(hw:List aH->Int):cn:=br (aW Q5 ai (cx Z1 Z2 Z3 Z4 Z5 Q5 hw) [] (ab 0) (ae (ab 1) (ae (ab 2) (ae (eC (.str "\n")) (au)))))
def jp(Z1 Z2 Z3 Z4 Z5:LB)(Q5:LB)(hw:List aH->Int):cn:=sSeq (bW 4 (bG gw (bG fK (ab 2) (eC (.int 2))) (bG ib (eB ji (ae (ab 3) (au))) (eC (.int 1)))))
 (sSeq (lV (cJ (fj zI (bG gw (bG fK (ab 2) (eC (.int 1))) (eC (.int 8))) (eC (.int 0)))) (br (fh (ae (aW Q5 ai (cN Z1 Z2 Z3 Z4 Z5 Q5 hw) [] (ab 0) (ae (ab 1) (ae (ab 4) (au)))) (ae (fh (ae (eC (.str "put")) (ae (aY (bw Z1 Z2 Z3 Z4 Z5 Q5 hw) [] (ae (ab 3) (ae (ab 4) (au)))) (ae (eC (.str "\n")) (au))))) (au))))) (cW))
 (sSeq (bW 5 (bG fK (pG (ae (eC (.str "a")) (ae (eC (.str "bc")) (ae (eC (.str "\nd")) (ae (eC (.str "four")) (au)))))) (bG gw (bG fK (ab 2) (eC (.int 3))) (eC (.int 4)))))
 (br (fh (ae (aW Q5 ai (cx Z1 Z2 Z3 Z4 Z5 Q5 hw) [] (ab 0) (ae (ab 1) (ae (ab 4) (ae (ab 5) (au))))) (ae (fh (ae (eC (.str "put")) (ae (aY (bw Z1 Z2 Z3 Z4 Z5 Q5 hw) [] (ae (ab 3) (ae (ab 4) (au)))) (ae (ab 5) (au))))) (au)))))))
def eN(Z1 Z2 Z3 Z4 Z5:LB)(Q5:LB)(hw:List aH->Int):cn:=sSeq (lV (vJ (cJ (qJ IC FA (eC (.int 0)) (ab 0) (ab 2)))) (nw) (cW))
 (lV (vJ (cJ (qJ FA IC (ab 0) (ab 1) (ab 2)))) (nw) (cW))
def eM(Z1 Z2 Z3 Z4 Z5:LB)(Q5:LB)(hw:List aH->Int):cn:=br (eB uq (ae (e_ 1 (gy (Cp A1 (ab 0) (iI (ab 1)) (iI (ab 2)))) (gN 0) (iH) (bG fK (ab 0) (eC (.int 1)))) (au)))
def fE(Z1 Z2 Z3 Z4 Z5:LB)(Q5:LB)(hw:List aH->Int):cn:=sSeq (bW 4 (aW Q5 ai (aF Z1 Z2 Z3 Z4 Z5 Q5 hw) [] (ab 0) au))
 (sSeq (cR (aY (aT Z1 Z2 Z3 Z4 Z5 Q5 hw) [] (ae (ab 2) (ae (ab 3) (ae (eB ji (ae (ab 4) (au))) (au))))))
 (br (aW Q5 ai (be Z1 Z2 Z3 Z4 Z5 Q5 hw) [] (ab 0) (ae (kO Z3 (aX Z1 Z2 Z3 Z4 Z5 Q5 hw) [] (ae (aW Q5 ai (aD Z1 Z2 Z3 Z4 Z5 Q5 hw) [] (ab 0) (ae (ab 1) (au))) (ae (aW Q5 ai (aB Z1 Z2 Z3 Z4 Z5 Q5 hw) [] (ab 0) au) (ae (aY (aS Z1 Z2 Z3 Z4 Z5 Q5 hw) [] (ae (ab 4) (ae (ab 2) (ae (ab 3) (au))))) (au))))) (au)))))
def f8(Z1 Z2 Z3 Z4 Z5:LB)(Q5:LB)(hw:List aH->Int):cn:=sSeq (bW 5 (aW Q5 ai (aF Z1 Z2 Z3 Z4 Z5 Q5 hw) [] (ab 0) au))
 (sSeq (cR (aY (aT Z1 Z2 Z3 Z4 Z5 Q5 hw) [] (ae (ab 2) (ae (ab 3) (ae (eB ji (ae (ab 5) (au))) (au))))))
 (br (aW Q5 ai (be Z1 Z2 Z3 Z4 Z5 Q5 hw) [] (ab 0) (ae (kO Z4 (bf Z1 Z2 Z3 Z4 Z5 Q5 hw) [] (ae (aW Q5 ai (aD Z1 Z2 Z3 Z4 Z5 Q5 hw) [] (ab 0) (ae (ab 1) (au))) (ae (aW Q5 ai (aB Z1 Z2 Z3 Z4 Z5 Q5 hw) [] (ab 0) au) (ae (aY (aS Z1 Z2 Z3 Z4 Z5 Q5 hw) [] (ae (ab 5) (ae (ab 2) (ae (ab 3) (au))))) (ae (ab 4) (au)))))) (au)))))
def gY(Z1 Z2 Z3 Z4 Z5:LB)(Q5:LB)(hw:List aH->Int):cn:=sSeq (bW 5 (aW Q5 ai (aF Z1 Z2 Z3 Z4 Z5 Q5 hw) [] (ab 0) au))
 (sSeq (cR (aY (aT Z1 Z2 Z3 Z4 Z5 Q5 hw) [] (ae (ab 2) (ae (ab 3) (ae (eB ji (ae (ab 5) (au))) (au))))))
 (sSeq (cR (aY (cv Z1 Z2 Z3 Z4 Z5 Q5 hw) [] (ae (ab 4) (ae (eB ji (ae (ab 5) (au))) (au)))))
 (sSeq (bW 6 (aY (aS Z1 Z2 Z3 Z4 Z5 Q5 hw) [] (ae (ab 5) (ae (ab 2) (ae (ab 3) (au))))))
 (br (aW Q5 ai (be Z1 Z2 Z3 Z4 Z5 Q5 hw) [] (ab 0) (ae (kO Z5 (bp Z1 Z2 Z3 Z4 Z5 Q5 hw) [] (ae (aW Q5 ai (aD Z1 Z2 Z3 Z4 Z5 Q5 hw) [] (ab 0) (ae (ab 1) (au))) (ae (aW Q5 ai (aB Z1 Z2 Z3 Z4 Z5 Q5 hw) [] (ab 0) au) (ae (ab 6) (ae (aY (cw Z1 Z2 Z3 Z4 Z5 Q5 hw) [] (ae (ab 5) (ae (ab 4) (au)))) (au)))))) (au)))))))
def iR(Z1 Z2 Z3 Z4 Z5:LB)(Q5:LB)(hw:List aH->Int):cn:=sSeq (bW 3 (aW Q5 ai (aF Z1 Z2 Z3 Z4 Z5 Q5 hw) [] (ab 0) au))
 (sSeq (lV (rp (cJ (fj zI (ab 3) (pG (au)))) (cJ (bG FA (bG gw (bG fK (ab 2) (eC (.int 1))) (eC (.int 16))) (eC (.int 5))))) (br (aY (dM Z1 Z2 Z3 Z4 Z5 Q5 hw) [] (ae (ab 0) (ae (ab 1) (ae (ab 2) (ae (ab 3) (au))))))) (cW))
 (sSeq (bW 4 (bG gw (bG fK (ab 2) (eC (.int 2))) (eB ji (ae (ab 3) (au)))))
 (sSeq (bW 5 (bG ib (bG ib (ab 4) (eC (.int 1))) (bG gw (bG fK (ab 2) (eC (.int 3))) (eB EA (ae (eC (.int 5)) (ae (bG DR (eB ji (ae (ab 3) (au))) (ab 4)) (au)))))))
 (sSeq (bW 6 (eB uq (ae (e_ 1 (gy (Cp A1 (ab 3) (iI (ab 4)) (iI (ab 5)))) (gN 0) (iH) (bG fK (ab 0) (eC (.int 1)))) (au))))
 (sSeq (lV (cJ (bG FA (bG gw (bG fK (ab 2) (eC (.int 1))) (eC (.int 16))) (eC (.int 8)))) (br (fh (ae (aW Q5 ai (cf Z1 Z2 Z3 Z4 Z5 Q5 hw) [] (ab 0) (ae (ab 1) (ae (ab 4) (ae (ab 5) (au))))) (ae (fh (ae (eC (.str "strike")) (ae (ab 6) (au)))) (au))))) (cW))
 (sSeq (lV (cJ (bG FA (bG gw (bG fK (ab 2) (eC (.int 1))) (eC (.int 16))) (eC (.int 10)))) (sSeq (bW 7 (bG fK (pG (ae (eC (.str "bold")) (ae (eC (.str "b")) (ae (eC (.str "")) (au))))) (bG gw (bG fK (ab 2) (eC (.int 4))) (eC (.int 3)))))
 (sSeq (lV (cJ (fj zI (bG gw (bG fK (ab 2) (eC (.int 4))) (eC (.int 3))) (eC (.int 2)))) (br (fh (ae (aW Q5 ai (bM Z1 Z2 Z3 Z4 Z5 Q5 hw) [.str ""] (ab 0) (ae (ab 1) (ae (ab 4) (ae (ab 5) (au))))) (ae (fh (ae (eC (.str "dress")) (ae (ab 6) (ae (ab 7) (au))))) (au))))) (cW))
 (br (fh (ae (aW Q5 ai (bM Z1 Z2 Z3 Z4 Z5 Q5 hw) [] (ab 0) (ae (ab 1) (ae (ab 4) (ae (ab 5) (ae (ab 7) (au)))))) (ae (fh (ae (eC (.str "dress")) (ae (ab 6) (ae (ab 7) (au))))) (au))))))) (cW))
 (sSeq (bW 8 (bG gw (bG fK (ab 2) (eC (.int 4))) (bG ib (eB ji (ae (ab 3) (au))) (eC (.int 1)))))
 (br (fh (ae (aW Q5 ai (cO Z1 Z2 Z3 Z4 Z5 Q5 hw) [] (ab 0) (ae (ab 1) (ae (ab 4) (ae (ab 5) (ae (ab 8) (au)))))) (ae (fh (ae (eC (.str "move")) (ae (ab 6) (ae (aY (bw Z1 Z2 Z3 Z4 Z5 Q5 hw) [] (ae (ab 3) (ae (ab 8) (au)))) (au))))) (au))))))))))))
def kh(Z1 Z2 Z3 Z4 Z5:LB)(Q5:LB)(hw:List aH->Int):cn:=br (e_ 1 (gy (aY (dX Z1 Z2 Z3 Z4 Z5 Q5 hw) [] (ae (ab 0) (ae (ab 1) (ae (ab 2) (au)))))) (gN 0) (iH) (Cp A1 (ab 0) (iI (eC (.int 1))) (EH)))
def gW(Z1 Z2 Z3 Z4 Z5:LB)(Q5:LB)(hw:List aH->Int):cn:=br (aY (eh Z1 Z2 Z3 Z4 Z5 Q5 hw) [] (ae (iF Q5 ai 0 (ab 0)) (ae (iF Q5 ai 1 (ab 0)) (ae (aW Q5 ai (bo Z1 Z2 Z3 Z4 Z5 Q5 hw) [] (ab 0) au) (au)))))
def dE(Z1 Z2 Z3 Z4 Z5:LB)(Q5:LB)(hw:List aH->Int):cn:=br (uk 1 (iF Q5 ai 1 (ab 0)) (gN 0) (cJ (fj zI (r8 hw (iF Q5 ai 2 (ab 1)) (bG fK (ab 0) (eC (.int 0)))) (ab 2))) (ab 0))
def eO(Z1 Z2 Z3 Z4 Z5:LB)(Q5:LB)(hw:List aH->Int):cn:=br (e_ 1 (gy (aW Q5 ai (bq Z1 Z2 Z3 Z4 Z5 Q5 hw) [] (ab 0) (ae (eC k_WAITS) (au)))) (gN 0) (iH) (bG fK (ab 0) (eC (.int 0))))
def eQ(Z1 Z2 Z3 Z4 Z5:LB)(Q5:LB)(hw:List aH->Int):cn:=br (eB rj (ae (iF Q5 ai 1 (ab 0)) (au)))
def jq(Z1 Z2 Z3 Z4 Z5:LB)(Q5:LB)(hw:List aH->Int):cn:=sSeq (bW 2 (eB rj (ae (aW Q5 ai (bU Z1 Z2 Z3 Z4 Z5 Q5 hw) [] (ab 0) au) (au))))
 (sSeq (bW 3 (eB rj (ae (aW Q5 ai (aF Z1 Z2 Z3 Z4 Z5 Q5 hw) [] (ab 0) au) (au))))
 (sSeq (bW 4 (eB rj (ae (aW Q5 ai (aU Z1 Z2 Z3 Z4 Z5 Q5 hw) [] (ab 0) au) (au))))
 (sSeq (cR (gn (mr (aW Q5 ai (bU Z1 Z2 Z3 Z4 Z5 Q5 hw) [] (ab 0) au)) (ae (eC (.int 1)) (au))))
 (sSeq (cR (xS (mr (aW Q5 ai (aF Z1 Z2 Z3 Z4 Z5 Q5 hw) [] (ab 0) au))))
 (sSeq (cR (gn (mr (aW Q5 ai (aU Z1 Z2 Z3 Z4 Z5 Q5 hw) [] (ab 0) au)) (ae (eC (.int 1)) (au))))
 (sSeq (cR (xS (mr (aW Q5 ai (aV Z1 Z2 Z3 Z4 Z5 Q5 hw) [] (ab 0) au))))
 (sSeq (lV (rp (cJ (fj yT (aW Q5 ai (bU Z1 Z2 Z3 Z4 Z5 Q5 hw) [] (ab 0) au) (ab 2))) (cJ (fj yT (aW Q5 ai (aF Z1 Z2 Z3 Z4 Z5 Q5 hw) [] (ab 0) au) (ab 3)))) (br (eC (.bl false))) (cW))
 (br (F1 (fj zI (aW Q5 ai (aU Z1 Z2 Z3 Z4 Z5 Q5 hw) [] (ab 0) au) (ab 4)) (fj HE (aW Q5 ai (aV Z1 Z2 Z3 Z4 Z5 Q5 hw) [] (ab 0) au) (ab 1)))))))))))
def dh(Z1 Z2 Z3 Z4 Z5:LB)(Q5:LB)(hw:List aH->Int):cn:=lV (cJ (mJ hw (ab 1) (iF Q5 ai 2 (ab 0)))) (nw) (cW)
def f6(Z1 Z2 Z3 Z4 Z5:LB)(Q5:LB)(hw:List aH->Int):cn:=sSeq (cR (aW Q5 ai (bh Z1 Z2 Z3 Z4 Z5 Q5 hw) [] (ab 0) (ae (ab 1) (au))))
 (br (r8 hw (iF Q5 ai 2 (ab 0)) (ab 1)))
def dg(Z1 Z2 Z3 Z4 Z5:LB)(Q5:LB)(hw:List aH->Int):cn:=lV (cJ (fj yT (aW Q5 ai (bL Z1 Z2 Z3 Z4 Z5 Q5 hw) [] (ab 0) (ae (ab 1) (au))) (eC k_WAITS))) (nw) (cW)
def dS(Z1 Z2 Z3 Z4 Z5:LB)(Q5:LB)(hw:List aH->Int):cn:=sSeq (cR (aW Q5 ai (aN Z1 Z2 Z3 Z4 Z5 Q5 hw) [] (ab 0) (ae (ab 1) (au))))
 (d7 hw (iF Q5 ai 2 (ab 0)) (ab 1) (eC k_STANDS))
def gV(Z1 Z2 Z3 Z4 Z5:LB)(Q5:LB)(hw:List aH->Int):cn:=sSeq (cR (aW Q5 ai (aN Z1 Z2 Z3 Z4 Z5 Q5 hw) [] (ab 0) (ae (ab 1) (au))))
 (d7 hw (iF Q5 ai 2 (ab 0)) (ab 1) (eC k_WIPED))
def fZ(Z1 Z2 Z3 Z4 Z5:LB)(Q5:LB)(hw:List aH->Int):cn:=sSeq (bW 2 (aW Q5 ai (aU Z1 Z2 Z3 Z4 Z5 Q5 hw) [] (ab 0) au))
 (lV (CW (cJ (fj yT (ab 2) (pG (au)))) (cJ (fj zI (bG gw (bG fK (ab 1) (eC (.int 1))) (eC (.int 2))) (eC (.int 0))))) (cR (aW Q5 ai (bx Z1 Z2 Z3 Z4 Z5 Q5 hw) [] (ab 0) (ae (bG fK (ab 2) (bG gw (bG fK (ab 1) (eC (.int 2))) (eB ji (ae (ab 2) (au))))) (au)))) (lV (cJ (fj yT (ab 2) (pG (au)))) (cR (aW Q5 ai (cM Z1 Z2 Z3 Z4 Z5 Q5 hw) [] (ab 0) (ae (bG fK (ab 2) (bG gw (bG fK (ab 1) (eC (.int 2))) (eB ji (ae (ab 2) (au))))) (au)))) (cW)))
def dU(Z1 Z2 Z3 Z4 Z5:LB)(Q5:LB)(hw:List aH->Int):cn:=br (iF Q5 ai 4 (ab 0))
def eR(Z1 Z2 Z3 Z4 Z5:LB)(Q5:LB)(hw:List aH->Int):cn:=br (uj (iF Q5 ai 3 (ab 0)))
def d_(Z1 Z2 Z3 Z4 Z5:LB)(Q5:LB)(hw:List aH->Int):cn:=br (iF Q5 ai 0 (ab 0))
def ee(Z1 Z2 Z3 Z4 Z5:LB)(Q5:LB)(hw:List aH->Int):cn:=sSeq (sK Q5 [] "old" (ab 0) (ab 1))
 (sSeq (sK Q5 ["old"] "drawn" (ab 0) (mr (pG (au))))
 (sSeq (sK Q5 ["old","drawn"] "states" (ab 0) (qZ hw))
 (sSeq (sK Q5 ["old","drawn","states"] "greatest" (ab 0) (Bo))
 (sK Q5 ["old","drawn","states","greatest"] "time" (ab 0) (eC (.int 0))))))
def wI(Z1 Z2 Z3 Z4 Z5:LB)(Q5:LB)(hw:List aH->Int):cn:=sSeq (bW 1 (aY (ce Z1 Z2 Z3 Z4 Z5 Q5 hw) [] (ae (ab 0) (ae (eC (.int 0)) (au)))))
 (sSeq (bW 2 (Cp A1 (eC (.str "an old\npaper")) (EH) (iI (bG gw (ab 1) (eC (.int 13))))))
 (sSeq (bW 3 (aY (c9 Z1 Z2 Z3 Z4 Z5 Q5 hw) [] (ae (ab 1) (ae (bG ib (eC (.int 1)) (bG gw (bG B3 (ab 1) (eC (.int 13))) (eC (.int 3)))) (au)))))
 (sSeq (bW 4 (kO Q5 (bD Z1 Z2 Z3 Z4 Z5 Q5 hw) [] (ae (ab 2) (au))))
 (sSeq (C6 5 (pG (au)))
 (sSeq (bW 6 (Bo))
 (sSeq (lV (rp (cJ (fj yT (aW Q5 ai (bj Z1 Z2 Z3 Z4 Z5 Q5 hw) [] (ab 4) au) (eC (.int 0)))) (rp (cJ (fj yT (aW Q5 ai (aV Z1 Z2 Z3 Z4 Z5 Q5 hw) [] (ab 4) au) (pG (au)))) (rp (cJ (fj yT (aW Q5 ai (bb Z1 Z2 Z3 Z4 Z5 Q5 hw) [] (ab 4) au) (pG (au)))) (cJ (fj yT (aW Q5 ai (bC Z1 Z2 Z3 Z4 Z5 Q5 hw) [] (ab 4) au) (ab 2)))))) (br (eC (.bl false))) (cW))
 (sSeq (kQ (gy (Cp A1 (ab 0) (iI (eC (.int 1))) (iI (eC (.int 23))))) (gN 7) (sSeq (bW 8 (aY (bK Z1 Z2 Z3 Z4 Z5 Q5 hw) [] (ae (ab 7) (ae (eC (.int 6)) (au)))))
 (sSeq (bW 9 (bG fK (ab 3) (bG gw (bG fK (ab 8) (eC (.int 0))) (eB ji (ae (ab 3) (au))))))
 (lV (cJ (bG FA (bG gw (bG fK (ab 8) (eC (.int 5))) (eC (.int 16))) (eC (.int 12)))) (sSeq (GY (aY (da Z1 Z2 Z3 Z4 Z5 Q5 hw) [] (ae (ab 4) (ae (ab 9) (ae (ab 8) (au))))) (qX 2 (gM (gN 10) (gM (gN 11) (qY)))))
 (sSeq (d7 hw (ab 6) (ab 9) (bG ib (ms hw (ab 6) (ab 9) (eC (.int 0))) (eC (.int 1))))
 (sSeq (cR (gn (ab 5) (ae (fh (ae (fh (ae (ab 9) (ae (r8 hw (ab 6) (ab 9)) (au)))) (ae (bG ib (eB ji (ae (ab 5) (au))) (eC (.int 1))) (ae (ab 11) (au))))) (au))))
 (sSeq (lV (rp (cJ (fj yT (ab 10) (fh (ae (ab 9) (ae (r8 hw (ab 6) (ab 9)) (au)))))) (rp (cJ (fj HD (aW Q5 ai (aV Z1 Z2 Z3 Z4 Z5 Q5 hw) [] (ab 4) au) (ab 5))) (cJ (fj yT (aW Q5 ai (bL Z1 Z2 Z3 Z4 Z5 Q5 hw) [] (ab 4) (ae (ab 10) (au))) (eC (.str "waits")))))) (br (eC (.bl false))) (cW))
 (lV (vJ (ux (aY (c_ Z1 Z2 Z3 Z4 Z5 Q5 hw) [] (ae (ab 4) (ae (ab 5) (au)))))) (br (eC (.bl false))) (cW)))))) (cR (aY (cA Z1 Z2 Z3 Z4 Z5 Q5 hw) [] (ae (ab 4) (ae (ab 8) (au)))))))))
 (sSeq (C7 5 (lV (rp (cJ (fj yT (aW Q5 ai (bb Z1 Z2 Z3 Z4 Z5 Q5 hw) [] (ab 4) au) (uj (ab 6)))) (cJ (fj yT (aW Q5 ai (bj Z1 Z2 Z3 Z4 Z5 Q5 hw) [] (ab 4) au) (eB ji (ae (ab 5) (au)))))) (br (eC (.bl false))) (cW)))
 (sSeq (cR (gn (mr (aW Q5 ai (bb Z1 Z2 Z3 Z4 Z5 Q5 hw) [] (ab 4) au)) (ae (fh (ae (eC (.str "zoe")) (ae (eC (.int 1)) (au)))) (au))))
 (C7 5 (br (F1 (aY (c_ Z1 Z2 Z3 Z4 Z5 Q5 hw) [] (ae (ab 4) (ae (ab 5) (au)))) (fj zI (aW Q5 ai (bb Z1 Z2 Z3 Z4 Z5 Q5 hw) [] (ab 4) au) (uj (ab 6)))))))))))))))
def wl:String:="cW cR br IQ GX IR lV nw bW C6 jk GY A5 sK ab eC bG fj qJ F1 Lq JD Lr KU cJ CW rp vJ ux iH GM fh pG au ae ib oI Gv DR gw B3 KF An FA IC Lc Lo zI yT fK Cp EH iI A1 eB ji rj uq KY EA KZ K0 xx aY aW kO iF Bn gn e_ kQ gy Jw KO KN C7 fF n6 EI gN qX gM qY val jw List.map_cons List.map_nil List.replicate List.length_cons List.length_nil List.cons_append List.nil_append List.append_nil List.getElem?_cons_zero List.getElem?_cons_succ List.getElem?_nil List.set_cons_zero List.set_cons_succ List.set_nil Nat.reduceAdd Nat.reduceSub Nat.reduceLeDiff Nat.zero_add Option.some.injEq Option.map_some decide_eq_true_eq true_and and_true and_self if_true if_false Bool.false_eq_true reduceCtorEq List.cons.injEq GO.ins.injEq GO.lst.injEq D.lst.injEq D.fl.injEq exists_eq_left' exists_eq_left exists_eq' av eX pl bc JX JW JV JU JT JS JR JQ JP JO JN JM JL JK JJ qZ Bo ms d7 l9 JE JC xS KE HC kN cV pi zb FM HR FL HQ Eb FK zj xF zi vy xE xH vA xG t6 vz zh xB zg vp xA vo t3 vn rY tZ xD vt xC t5 vq Bool.not_true Bool.not_false bQ jM fk AH Ic Ib AE KG yS t7 zW r8 xR mJ K1 JI if_true if_false AG AF Ch gB C9 Bv x_ JB F0 Lj JC mJ ms kN Lc mr C8 uk Bn k_WAITS k_WIPED k_STANDS EA IM uj HE HD k_START ue ud qI r0 wM wR wL wQ wK wP wJ wO zp zo vB xL BW BY BV BX wN wS vE vD uf vC yK yL bd cL bA aI bB aX bf bp cq ar aZ aQ cr cu et dL dY c7 c8 bP ag cb cz cK dX eh cv aT cw aS dB bT cy cP bo bU aF aV bq aU aD aB be bh bL aN cM bx bj bC bb bD cf cx cN bM cO ce bK c9 bw dM da c_ cA"
local macro_rules | `(tactic| walk_at "st") => do let ls <- (("sSeq " ++ wl).splitOn " ").toArray.mapM (fun s => `(Lean.Parser.Tactic.simpLemma| $(Lean.mkIdent s.toName):term)); `(tactic| simp only [$ls,*, *])
local macro_rules | `(tactic| walk_at "s1") => do let ls <- (wl.splitOn " ").toArray.mapM (fun s => `(Lean.Parser.Tactic.simpLemma| $(Lean.mkIdent s.toName):term)); `(tactic| simp only [$ls,*, *])
theorem xz{b:Bool}{p q:Prop}(h1:b=true->p)(h2:b=false->q):if b=true then p else q:=by
 cases b
 ·rw[if_neg (by decide)];exact h2 rfl
 ·rw[if_pos rfl];exact h1 rfl
theorem iteF{p q:Prop}(h:q):if (false:Bool)=true then p else q:=by rw[if_neg (by decide)];exact h
theorem iteT{p q:Prop}(h:p):if (true:Bool)=true then p else q:=by rw[if_pos rfl];exact h
theorem eG{a b:Int}(h:0 < b):0<=a % b/\a % b < b:=⟨Int.emod_nonneg _ (by walk_at "o"),Int.emod_lt_of_pos _ h⟩
def Ex(m:Str)(i:Int):Str:=⟨#[m.cps.toList.getD i.toNat 0]⟩
theorem yt{m:Str}{i:Int}(h0:0<=i)(h:i < m.length):L3.strAt m i=some (.str (Ex m i)):=by
 have hl:i.toNat < m.cps.toList.length:=by simp only[Array.length_toList];have:m.length=m.cps.size:=rfl;omega
 unfold L3.strAt jJ FO;have h2:i < (m.cps.toList.length:Int):=by walk_at "o"
 rw[if_pos h0,if_pos h2];have hl':i.toNat < m.cps.size:=by simpa using hl
 simp[Ex,hl']
theorem AK{α:Type}[Inhabited α]{f:α->D}{xs:List α}{i:Int}(h0:0<=i)(h:i < xs.length):jJ (xs.map f) i=some (f (xs.getD i.toNat default)):=by
 rw[pI h0 (by rw[LG];exact h)]
 have hi:i.toNat < xs.length:=by walk_at "o"
 simp[hi]
theorem zl{α:Type}[Inhabited α]{xs:List α}{i:Nat}(h:i < xs.length):xs.getD i default∈xs:=by
 rw[LW,LP h];exact Nx h
theorem vZ{G:Gp}{p:LB}{o:GO}(h:G p=none):fu (gset G p o) p=G:=by
 funext a
 by_cases e:a=p
 ·subst e;rw[dH,h]
 ·rw[cF e,aj e]
local macro_rules | `(tactic| walk_at "conds") => `(tactic| (repeat ((with_reducible refine And.intro ?cc ?_); (case cc => first | decide | omega | rfl))))
def bI(sp:cX)(rd:cn)(ns:List Str):Prop:=∀ ds G Q,sp ds G Q->rd { nx:=fun _ G'=>Q .non G',rt:=Q } (jw ns ds) G
def bJ(sp:cX)(n:Nat):Prop:=∀ ds G Q,sp ds G Q->ds.length=n
theorem u8{k:Nat}{A:LY}(r:Room k A):A.units+8 < Mp:=by have:=r.un;omega
theorem u4{k:Nat}{A:LY}(r:Room k A):A.units+4 < Mp:=by have:=r.un;omega
theorem KS{P:LS}{w:L6}{K:PySem.W.Frag}{mg:Str->Option LC}{base:L5}{k:Nat}{x:Str}{f:LB}{fd:LO}{ps:List Str}{sp:cX}(o:FnOk P w K mg base dz k f fd ps (ax K sp))(m:mg x=some (.ref f))(q:PySem.W.keepIn K (.ref f)=true)(b:fw K fd ps []):Fn3 P w K mg base k x [] sp:=⟨_,_,_,[],[],o,m,q,b,.nil,fun _=>RDs.nil⟩
theorem KJ{P:LS}{w:L6}{K:PySem.W.Frag}{mg:Str->Option LC}{base:L5}{k:Nat}{C:LB}{x:Str}{f:LB}{fd:LO}{ps:List Str}{sp:cX}(c:Cls K C)(o:FnOk P w K mg base dz k f fd ps (ax K sp))(m:Meth K C x f)(b:fw K fd ps []):Mt3 P w K mg base k C x [] sp:=⟨c,_,_,_,[],[],o,m,b,.nil,fun _=>RDs.nil⟩
local macro_rules | `(tactic| walk_at "i") => `(tactic| first | exact Or.inl rfl | exact Or.inr rfl)
theorem mN(Z1 Z2 Z3 Z4 Z5 Q5:LB)(hw:HW):bI (aI Z1 Z2 Z3 Z4 Z5 Q5 hw) (dQ Z1 Z2 Z3 Z4 Z5 Q5 hw) ["self","name","time"]:=by
 intro ds G Q h;unfold aI at h;split at h
 ·rename_i a d t;obtain⟨C,hC,hG,p,n,rfl,h⟩:=h;have hs:=ak;unfold dQ;walk_at "st";walk_at "conds";exact h
 ·exact h.elim
theorem p_(Z1 Z2 Z3 Z4 Z5 Q5:LB)(hw:HW):bI (bB Z1 Z2 Z3 Z4 Z5 Q5 hw) (fC Z1 Z2 Z3 Z4 Z5 Q5 hw) ["self","name","time","anchor","signs"]:=by
 intro ds G Q h;unfold bB at h;split at h
 ·rename_i a d t b x;obtain⟨hG,p,n,s,rfl,rfl,h⟩:=h;have hs:=ak;have hc:Z2∈[Z1,Z2,Z3,Z4,Z5]:=by simp
  unfold fC;unfold Sl.d;walk_at "st";exact⟨Z2,hc,rfl,p,n,rfl,⟨hc,by decide⟩,⟨hc,by decide⟩,h⟩
 ·exact h.elim
theorem mO(Z1 Z2 Z3 Z4 Z5 Q5:LB)(hw:HW):bI (aX Z1 Z2 Z3 Z4 Z5 Q5 hw) (dR Z1 Z2 Z3 Z4 Z5 Q5 hw) ["self","name","time","names"]:=by
 intro ds G Q h;unfold aX at h;split at h
 ·obtain⟨hG,p,n,rfl,h⟩:=h;have hs:=ak;have hc:Z3∈[Z1,Z2,Z3,Z4,Z5]:=by simp
  unfold dR;walk_at "st";exact⟨Z3,hc,rfl,p,n,rfl,⟨hc,by decide⟩,h⟩
 ·exact h.elim
theorem nG(Z1 Z2 Z3 Z4 Z5 Q5:LB)(hw:HW):bI (bf Z1 Z2 Z3 Z4 Z5 Q5 hw) (ef Z1 Z2 Z3 Z4 Z5 Q5 hw) ["self","name","time","names","word"]:=by
 intro ds G Q h;unfold bf at h;split at h
 ·obtain⟨hG,p,n,rfl,h⟩:=h;have hs:=ak;have hc:Z4∈[Z1,Z2,Z3,Z4,Z5]:=by simp
  unfold ef;walk_at "st";exact⟨Z4,hc,rfl,p,n,rfl,⟨hc,by decide⟩,⟨hc,by decide⟩,h⟩
 ·exact h.elim
theorem oO(Z1 Z2 Z3 Z4 Z5 Q5:LB)(hw:HW):bI (bp Z1 Z2 Z3 Z4 Z5 Q5 hw) (eT Z1 Z2 Z3 Z4 Z5 Q5 hw) ["self","name","time","names","anchor"]:=by
 intro ds G Q h;unfold bp at h;split at h
 ·obtain⟨hG,p,n,s,rfl,rfl,h⟩:=h;have hs:=ak;have hc:Z5∈[Z1,Z2,Z3,Z4,Z5]:=by simp
  unfold eT;unfold Sl.d;walk_at "st";exact⟨Z5,hc,rfl,p,n,rfl,⟨hc,by decide⟩,⟨hc,by decide⟩,h⟩
 ·exact h.elim
theorem sN(Z1 Z2 Z3 Z4 Z5 Q5:LB)(hw:HW):bI (bA Z1 Z2 Z3 Z4 Z5 Q5 hw) (gR Z1 Z2 Z3 Z4 Z5 Q5 hw) ["name","how_many"]:=by
 intro ds G Q h;unfold bA at h;split at h
 ·rename_i p n m;obtain⟨⟨h1,h2⟩,h⟩:=h;have hs:=ak;unfold gR;walk_at "s1";refine⟨⟨by walk_at "o",by walk_at "o",by walk_at "o",by walk_at "o"⟩,gu (fun d=>match d with|.int k=>.tup [.str p,.int n,.int k]|d=>d) (by rw[dC];omega) (fun d hd P hP=>?_) ?_⟩
  ·obtain⟨k,hk,rfl⟩:=mem_map.mp hd;walk_at "st";exact⟨rfl,by walk_at "o",by simp,by walk_at "o",hP _ rfl⟩
  ·have e:(gI 1 (m+1 - 1).toNat).map (fun d=>match d with|D.int k=>D.tup [.str p,.int n,.int k]|d=>d)=(eF p n m.toNat).map Sl.d:=by
    unfold gI eF;rw[Mn,Mn,show m+1 - 1=m by walk_at "o"]
    refine MR fun k _=>?_;simp only[Function.comp,Sl.d];rw[Int.add_comm]
   rw[e];exact h
 ·exact h.elim
theorem uI(Z1 Z2 Z3 Z4 Z5 Q5:LB)(hw:HW):bI (cr Z1 Z2 Z3 Z4 Z5 Q5 hw) (iM Z1 Z2 Z3 Z4 Z5 Q5 hw) ["old"]:=by
 intro ds G Q h;unfold cr at h;split at h
 ·rename_i x;obtain⟨h1,h⟩:=h;have hs:=ak;unfold iM;have ec:L3.cutD [D.str (LI ""),D.int 0,D.int 0] none (some 2)=[D.str (LI ""),D.int 0]:=by rw[sj (by decide)];rfl
  walk_at "st";refine⟨by decide,by walk_at "o",⟨by walk_at "o",by walk_at "o"⟩,?_⟩
  rw[Int.toNat_natCast];exact h
 ·exact h.elim
theorem p9(Z1 Z2 Z3 Z4 Z5 Q5:LB)(hw:HW):bI (ar Z1 Z2 Z3 Z4 Z5 Q5 hw) (fB Z1 Z2 Z3 Z4 Z5 Q5 hw) ["self"]:=by
 intro ds G Q h;unfold ar at h;split at h
 ·have hs:=ak;unfold fB;walk_at "st"
  first|exact⟨by walk_at "o",h⟩|omega
 ·exact h.elim
theorem uP(Z1 Z2 Z3 Z4 Z5 Q5:LB)(hw:HW):bI (aZ Z1 Z2 Z3 Z4 Z5 Q5 hw) (iS Z1 Z2 Z3 Z4 Z5 Q5 hw) ["self"]:=by
 intro ds G Q h;unfold aZ at h;split at h
 ·rename_i a;obtain⟨s,b,x,⟨e,hG,hl⟩,h⟩:=h;have hs:=ak;have hc:Z2∈[Z1,Z2,Z3,Z4,Z5]:=by simp
  unfold bn at hG;rw[e]at hG;unfold iS;walk_at "st";refine⟨by walk_at "o",⟨by walk_at "o",by walk_at "o"⟩,?_⟩
  rw[Int.toNat_natCast];unfold made at h;rw[e]at h;exact h
 ·exact h.elim
theorem sV(Z1 Z2 Z3 Z4 Z5 Q5:LB)(hw:HW):bI (aQ Z1 Z2 Z3 Z4 Z5 Q5 hw) (g_ Z1 Z2 Z3 Z4 Z5 Q5 hw) ["self"]:=by
 intro ds G Q h;unfold aQ at h;split at h
 ·rename_i a;obtain⟨s,b,ns,⟨e,hG,hl⟩,h⟩:=h;have hs:=ak;have hc:Z5∈[Z1,Z2,Z3,Z4,Z5]:=by simp
  unfold bn at hG;rw[e]at hG;unfold g_;walk_at "st";rw[LG];refine⟨⟨by walk_at "o",by walk_at "o"⟩,?_⟩
  rw[Int.toNat_natCast];unfold made at h;rw[e]at h;exact h
 ·exact h.elim
theorem pQ{a b:String}(h:LI a≠LI b):eJ (.str (LI a)) (.str (LI b))=false:=bO fun z=>h (by injection z)
theorem uH(Z1 Z2 Z3 Z4 Z5 Q5:LB)(hw:HW):bI (cq Z1 Z2 Z3 Z4 Z5 Q5 hw) (iL Z1 Z2 Z3 Z4 Z5 Q5 hw) ["row","name","time","act"]:=by
 intro ds G Q h;unfold cq at h;split at h
 ·obtain⟨⟨pen,num,time,act⟩,rfl,h⟩:=h;have hs:=ak;unfold bn at h;unfold iL Sk.d;cases act with
  | put a x=>
   unfold Act.d;dsimp only at h;rw[af];walk_at "s1";rw[af];walk_at "s1";rw[af];walk_at "s1";rw[af];unfold Sl.d at h;unfold Sl.d;walk_at "s1";exact fun p hp=>⟨pen,num,a,rfl,rfl,h p hp⟩
  | strike ns=>
   unfold Act.d;dsimp only at h;rw[af];walk_at "s1";rw[af];walk_at "s1";rw[af];walk_at "s1";have e0:=pQ (a:="strike") (b:="put") (by decide +kernel)
   rw[af];refine cB false (fun K hK=>?_) (iteF ?_)
   ·walk_at "st"
   ·simp only[cW];rw[af];walk_at "s1";exact fun p hp=>⟨pen,num,rfl,h p hp⟩
  | dress ns w=>
   unfold Act.d;dsimp only at h;rw[af];walk_at "s1";rw[af];walk_at "s1";rw[af];walk_at "s1";have e0:=pQ (a:="dress") (b:="put") (by decide +kernel)
   have e1:=pQ (a:="dress") (b:="strike") (by decide +kernel)
   rw[af];refine cB false (fun K hK=>?_) (iteF ?_)
   ·walk_at "st"
   ·simp only[cW];rw[af];refine cB false (fun K hK=>?_) (iteF ?_)
    ·walk_at "st"
    ·simp only[cW];rw[af];walk_at "s1";exact fun p hp=>⟨pen,num,rfl,h p hp⟩
  | move ns a=>
   unfold Act.d;dsimp only at h;rw[af];walk_at "s1";rw[af];walk_at "s1";rw[af];walk_at "s1";have e0:=pQ (a:="move") (b:="put") (by decide +kernel)
   have e1:=pQ (a:="move") (b:="strike") (by decide +kernel)
   have e2:=pQ (a:="move") (b:="dress") (by decide +kernel)
   rw[af];refine cB false (fun K hK=>?_) (iteF ?_)
   ·walk_at "st"
   ·simp only[cW];rw[af];refine cB false (fun K hK=>?_) (iteF ?_)
    ·walk_at "st"
    ·simp only[cW];rw[af];refine cB false (fun K hK=>?_) (iteF ?_)
     ·walk_at "st"
     ·simp only[cW];unfold Sl.d at h;unfold Sl.d;walk_at "s1";exact fun p hp=>⟨pen,num,a,rfl,rfl,h p hp⟩
 ·exact h.elim
theorem nB(Z1 Z2 Z3 Z4 Z5 Q5:LB)(hw:HW):bI (bd Z1 Z2 Z3 Z4 Z5 Q5 hw) (d8 Z1 Z2 Z3 Z4 Z5 Q5 hw) ["row"]:=by
 intro ds G Q h;unfold bd at h;split at h
 ·obtain⟨r,rfl,h⟩:=h;have hs:=ak;unfold d8 Rw.d;walk_at "st"
  first|exact⟨by walk_at "o",h⟩|omega
 ·exact h.elim
def Lm(hw:List aH->Int)(G:Gp)(p:LB)(ss W:List Sl)(b:Sl)(a:D)(i:Nat)(σ:fO)(G':Gp):Prop:=∃ (x4:Option D) (Wi:List Sl) (bi:Sl) (kvs:List (List aH×D)),σ=[some (.ref p),some a,some (.lst (ss.map Sl.d)),some bi.d,x4]/\G'=gset G p (.dT hw kvs)/\CH kvs Wi/\bi∈Wi/\(∀ x∈ss.drop i,x∉Wi)/\cj Wi bi (ss.drop i)=cj W b ss/\Wi.length=W.length+i
theorem sO(Z1 Z2 Z3 Z4 Z5 Q5:LB)(hw:HW):bI (cu Z1 Z2 Z3 Z4 Z5 Q5 hw) (gT Z1 Z2 Z3 Z4 Z5 Q5 hw) ["following","anchor","slots","behind","slot"]:=by
 intro ds G Q h;unfold cu at h;split at h
 ·rename_i p a xs;obtain⟨b,ss,W,kvs,⟨rfl,rfl,hG,hF,hb,nd,hf,hl⟩,h⟩:=h;have hs:=ak;unfold gT;rw[af];have eb:(match b.d with|D.fl ds=>D.lst ds|d=>d)=b.d:=rfl
  simp only[bW,ab,jw,val,L1,N3,NR,NZ,List.replicate,Mw,MF,L0,Mv,Mb,My,Nat.reduceAdd,Nat.reduceSub,eb];refine⟨Lm hw G p ss W b b.d,⟨_,W,b,kvs,rfl,?_,hF,hb,hf,rfl,rfl⟩,?_,?_⟩
  ·funext z
   by_cases e:z=p
   ·subst e;rw[av];exact hG
   ·rw[aj e]
  ·rintro i d σ G' hd ⟨x4,Wi,bi,kvs,rfl,rfl,hF,hb,hf,hI,hlen⟩
   rw[L4]at hd;cases hx:ss[i]? with
   | none=>rw[hx]at hd;cases hd
   | some x=>
    rw[hx]at hd;cases hd;obtain⟨hi,ex⟩:=List.getElem?_eq_some_iff.mp hx;have dr:ss.drop i=x::ss.drop (i+1):=by rw[<- ex];exact List.drop_eq_getElem_cons hi
    rw[dr]at hf hI;have hxW:=hf x LV;have fs:=El hF hb hxW;have lk:=hF.2.2.2 bi hb;have lx:=hF.2.2.1 x hxW;have nx1:=hF.2.1;have nd':(x::ss.drop (i+1)).Nodup:=by rw[<- dr];exact nd.sublist (List.drop_sublist _ _)
    rw[Nv]at nd';simp only[gN,My,Mb];have kx:=xy x;have kb:=xy bi;have vx:val x.d=x.d:=rfl;have vb:val bi.d=bi.d:=rfl;rw[af];show ∃ d,cV hw (gset G p (.dT hw kvs)) (.ref p) bi.d (some d)/\l9 hw (.ref p) x.d (val d) (gset G p (.dT hw kvs)) _
    refine⟨nx Wi bi,?_,?_⟩
    ·show (match gset G p (.dT hw kvs) p with|some (.dT hw' kvs)=>hw'=hw/\∃ ks,pi bi.d=some ks/\some (nx Wi bi)=dy kvs ks|some (.dK kvs)=>_|_=>False)
     rw[av];exact⟨rfl,bi.key,kb,lk.symm⟩
    ·rw[HF];show (match gset G p (.dT hw kvs) p with|some (.dT hw' kvs)=>hw'=hw/\∃ ks,pi x.d=some ks/\kvs.length < LL/\_|some (.dK kvs)=>_|some (.lst ds)=>_|_=>False)
     rw[av];refine⟨rfl,x.key,kx,by walk_at "o",?_⟩
     rw[eX];dsimp only;rw[af];show (match gset G p (.dT hw (bF kvs x.key (nx Wi bi))) p with|some (.dT hw' kvs)=>hw'=hw/\∃ ks,pi bi.d=some ks/\kvs.length < LL/\_|some (.dK kvs)=>_|some (.lst ds)=>_|_=>False)
     rw[av];refine⟨rfl,bi.key,kb,by have:=fM kvs x.key (nx Wi bi);omega,?_⟩
     rw[eX];refine⟨_,lb Wi bi x,x,_,rfl,rfl,fs,(gl hb x).mpr (.inr rfl),fun y hy hW=>?_,?_,by rw[mm hb];omega⟩
     ·rcases (gl hb y).mp hW with z|z
      ·exact hf y (LU _ hy) z
      ·exact nd'.1 (z ▸ hy)
     ·exact hI
  ·rintro σ G' ⟨x4,Wi,bi,kvs,rfl,rfl,hF,hb,hf,hI,hlen⟩
   rw[LG,List.drop_length]at hI;have:Wi=cj W b ss:=hI;rw[this]at hF;exact h _ hF
 ·exact h.elim
def Lb(G:Gp)(p q:LB)(R:List Sl)(m:Nat)(σ:fO)(G':Gp):Prop:=∃ i,i<=R.length/\m=R.length - i/\σ=[some (.ref p),some (.ref q),some (CI (R.drop i))]/\G'=gset G q (.lst ((R.take i).map Sl.d))
theorem Jq{W:List Sl}(hW:W.Nodup):∀ {pre post:List Sl} {c:Sl},W=pre ++ c::post->nx W c=CI post:=by
 induction W with
 | nil=>intro pre post c h;simp at h
 | cons a t ih=>
  intro pre post c h;rw[Nv]at hW;cases pre with
  | nil=>
   simp only[NZ,List.cons.injEq]at h;obtain⟨rfl,rfl⟩:=h;simp[nx]
  | cons a' pre=>
   simp only[NR,List.cons.injEq]at h;obtain⟨rfl,h⟩:=h;have hc:c∈t:=by rw[h];simp
   simp only[nx];rw[if_neg (fun (z:a=c)=>hW.1 (by rw[z];exact hc))]
   exact ih hW.2 h
theorem yC(Z1 Z2 Z3 Z4 Z5 Q5:LB)(hw:HW):bI (et Z1 Z2 Z3 Z4 Z5 Q5 hw) (kj Z1 Z2 Z3 Z4 Z5 Q5 hw) ["following","row","slot"]:=by
 intro ds G Q h;unfold et at h;split at h
 ·rename_i p;obtain⟨R,kvs,⟨hG,hF,hl⟩,h⟩:=h;have hs:=ak;unfold kj;rw[af];walk_at "s1";refine⟨by walk_at "o",fun q hq=>?_⟩
  have hpq:p≠q:=fun z=>by subst z;rw[hG]at hq;cases hq
  have gp:∀ o,gset G q o p=some (.dT hw kvs):=fun o=>by rw[aj hpq];exact hG
  have look:∀ c∈aG::R,∀ o,cV hw (gset G q o) (.ref p) c.d (some (nx (aG::R) c)):=fun c hc o=>by
   show (match gset G q o p with|some (.dT hw' kvs)=>hw'=hw/\∃ ks,pi c.d=some ks/\some (nx (aG::R) c)=dy kvs ks|some (.dK kvs)=>_|_=>False)
   rw[gp];exact⟨rfl,c.key,xy c,(hF.2.2.2 c hc).symm⟩
  rw[af];show ∃ d,cV hw (gset G q (.lst [])) (.ref p) aG.d (some d)/\_
  refine⟨_,look aG (by simp) _,?_⟩
  have e0:nx (aG::R) aG=CI R:=by simp[nx]
  dsimp only;rw[af,e0,xi];simp only[My,Mb];refine⟨Lb G p q R,⟨R.length,0,Mg _,rfl,rfl,rfl⟩,?_⟩;have wc:∀ (a b:Option D) (d:D) (K:Bool->Gp->Prop) (G:Gp),cJ (bG yS (ab 2) (eC .non)) [a,b,some d] G K↔K (!t7 d) G:=fun a b d K G=>Iff.rfl
  rintro m σ G' ⟨i,hi,rfl,rfl,rfl⟩
  by_cases hlt:i < R.length
  ·have dr:R.drop i=R[i]::R.drop (i+1):=List.drop_eq_getElem_cons hlt;rw[dr];refine (wc _ _ (R[i]).d _ _).mpr ?_;dsimp only;rw[show (!t7 (R[i]).d)=true from rfl,if_pos rfl]
   have e1:nx (aG::R) R[i]=CI (R.drop (i+1)):=Jq hF.1 (pre:=aG::R.take i) (by rw[NR];congr 1;rw[<- dr];exact (List.take_append_drop i R).symm)
   refine⟨fun σ G'=>Lb G p q R (R.length - (i+1)) σ G',fun σ2 G2 hN=>⟨_,by walk_at "o",hN⟩,?_⟩
   rw[af];have ua:∀ (E:Ends3) (Z:D),cR (gn (ab 1) (ae (ab 2) au)) E [some (.ref p),some (.ref q),some (R[i]).d] (gset G q (.lst ((R.take i).map Sl.d)))↔((R.take i).map Sl.d).length < LL/\E.nx [some (.ref p),some (.ref q),some (R[i]).d] (gset G q (.lst ((R.take i).map Sl.d ++ [(R[i]).d]))):=fun E Z=>by
    unfold Sl.d;walk_at "s1"
   rw[show CI (R[i]::R.drop (i+1))=(R[i]).d from rfl,ua _ .non]
   refine⟨by rw[LG,Mm];omega,?_⟩
   dsimp only;show ∃ d,cV hw (gset G q _) (.ref p) (R[i]).d (some d)/\_
   refine⟨_,look R[i] (by simp) _,i+1,by walk_at "o",rfl,?_,?_⟩
   ·rw[e1,xi];rfl
   ·rw[MH,LP hlt,MB];rfl
  ·have ei:i=R.length:=by walk_at "o"
   subst ei;rw[List.drop_length,Mo];refine (wc _ _ .non _ _).mpr ?_;dsimp only;rw[show (!t7 D.non)=false from rfl,if_neg (by decide)]
   show jk 1 _ _ _
   simp only[jk,MF,Mw,av];rw[vZ hq];exact h
 ·exact h.elim
theorem ES(vs:List Rw):(vs.map qB).map (·.2)=vs.map Rw.d:=by rw[Mn];rfl
theorem Dg{rs:List Rw}{i:Nat}{d:D}(h:(rs.map Rw.d)[i]?=some d):∃ r,rs[i]?=some r/\d=r.d:=by
 rw[L4]at h;cases e:rs[i]? with
 | none=>rw[e]at h;cases h
 | some r=>rw[e]at h;cases h;exact⟨r,rfl,rfl⟩
theorem key_at{rs:List Rw}{i:Nat}{d:D}(h:(rs.map Rw.key)[i]?=some d):∃ r,rs[i]?=some r/\d=r.key:=by
 rw[L4]at h;cases e:rs[i]? with
 | none=>rw[e]at h;cases h
 | some r=>rw[e]at h;cases h;exact⟨r,rfl,rfl⟩
theorem EZ(Z1 Z2 Z3 Z4 Z5 Q5:LB)(hw:HW)(G:Gp){vs base:List Rw}(hv:vs.Pairwise my)(hb:base.length < 64)(sub:∀ r∈vs,r∈base):
  SortBy (bd Z1 Z2 Z3 Z4 Z5 Q5 hw) G (vs.map Rw.d) (vs.map Rw.key) fun i=>PySem.W.rankIn Rw.lt vs (vs.getD i default) where
 few:=by
  rw[LG];have:=ic (rl hv) sub;omega
 len:=by rw[LG,LG]
 key:=fun i d kd h1 h2=>by
  obtain⟨r,e1,rfl⟩:=Dg h1;obtain⟨r',e2,rfl⟩:=key_at h2;rw[e1]at e2;cases e2;exact⟨r,rfl,rfl,rfl⟩
 ki:=fun d hd=>by
  obtain⟨r,_,rfl⟩:=mem_map.mp hd;exact⟨_,_,rfl⟩
 cp:=fun a ha b hb=>by
  obtain⟨r,_,rfl⟩:=mem_map.mp ha;obtain⟨r',_,rfl⟩:=mem_map.mp hb;exact HP r r'
 lt:=fun i j a b h1 h2=>by
  obtain⟨r,e1,rfl⟩:=key_at h1;obtain⟨r',e2,rfl⟩:=key_at h2;rw[HL,PySem.W.rank_lt C_ (LZ e1),LW,LW,e1,e2];rfl
theorem wD(Z1 Z2 Z3 Z4 Z5 Q5:LB)(hw:HW):bI (cL Z1 Z2 Z3 Z4 Z5 Q5 hw) (jn Z1 Z2 Z3 Z4 Z5 Q5 hw) ["rows","by_name","row"]:=by
 intro ds G Q h;unfold cL at h;split at h
 ·rename_i q;obtain⟨rs,base,⟨hq0,one,l1,l2,sub⟩,h⟩:=h;have hs:=ak;unfold jn;rw[af];walk_at "s1";intro p hp;have hqp:q≠p:=fun z=>by subst z;rw[hp]at hq0;cases hq0
  rw[af];walk_at "s1";refine⟨rs.map Rw.d,by rw[aj hqp];exact hq0,fun i σ G'=>∃ (vs:List Rw) (v:Option D),(σ=[some (.ref q),some (.ref p),v]/\G'=gset G p (.dT hw (vs.map qB)))/\vs.Pairwise my/\∀ r,r∈vs↔r∈rs.take i,⟨[],none,⟨rfl,rfl⟩,.nil,by simp⟩,?_,?_,?_⟩
  ·rintro i σ G' ⟨vs,v,⟨_,rfl⟩,_⟩
   rw[aj hqp];exact hq0
  ·rintro i d σ G' hd ⟨vs,v,⟨rfl,rfl⟩,hv,hm⟩
   obtain⟨r,hr,rfl⟩:=Dg hd;have hr':=LZ hr;have tk:∀ x,x∈rs.take (i+1)↔x∈rs.take i\/x=r:=fun x=>by
    rw[MH,hr,QM];simp
   have lv:vs.length<=base.length:=ic (rl hv) fun x hx=>sub x (No ((hm x).mp hx));simp only[gN,My,Mb];have fin:∀ G2,G2=gset G p (.dT hw (bF (vs.map qB) (qS r) r.d))->∃ (vs:List Rw) (v:Option D),(([some (D.ref q),some (.ref p),some r.d]:fO)=[some (.ref q),some (.ref p),v]/\G2=gset G p (.dT hw (vs.map qB)))/\vs.Pairwise my/\∀ x,x∈vs↔x∈rs.take (i+1):=by
    intro G2 e
    by_cases hin:r∈vs
    ·refine⟨vs,_,⟨rfl,?_⟩,hv,fun x=>?_⟩
     ·rw[e,He hin fun a ha pp nn=>one a (No ((hm a).mp ha)) r hr' pp nn]
     ·rw[tk,hm];constructor
      ·exact .inl
      ·rintro (z|rfl)
       ·exact z
       ·exact (hm _).mp hin
    ·have ap:∀ a∈vs,my a r:=fun a ha z=>hin (by
      have:=one a (No ((hm a).mp ha)) r hr' z.1 z.2;subst this;exact ha)
     refine⟨vs ++ [r],_,⟨rfl,?_⟩,?_,fun x=>?_⟩
     ·rw[e,put_new ap]
     ·rw[List.pairwise_append];exact⟨hv,List.pairwise_singleton _ _,fun a ha b hb=>by rw[PX.mp hb];exact ap a ha⟩
     ·rw[tk,QM,hm,PX]
   refine (show d7 hw (ab 1) (bG fK (ab 2) (eC (.int 0))) (ab 2) _ [some (D.ref q),some (.ref p),some r.d] _ from ?_)
   show (match (gset G p (.dT hw (vs.map qB))) p with
    | some (.dT hw' kvs)=>hw'=hw/\∃ ks,pi (.tup [.str r.pen,.int r.num])=some ks/\kvs.length < LL/\_
    | some (.dK kvs)=>_
    | some (.lst ds)=>_
    | _=>False)
   rw[av];exact⟨rfl,qS r,rfl,by rw[LG];omega,fin _ (by rw[eX];rfl)⟩
  ·rintro σ G' ⟨vs,v,⟨rfl,rfl⟩,hv,hm⟩
   rw[LG,Mo]at hm;show (match (gset G p (.dT hw (vs.map qB))) p with
    | some (.dT _ kvs)=>∃ ks r,SortBy (bd Z1 Z2 Z3 Z4 Z5 Q5 hw) (gset G p (.dT hw (vs.map qB))) (kvs.map (·.2)) ks r/\∀ p':List Nat,p'.Perm (List.range (kvs.map (·.2)).length)->(p'.map r).Pairwise (·<=·)->Q (.fl (p'.map fun i=>(kvs.map (·.2)).getD i .non)) (gset G p (.dT hw (vs.map qB)))
    | _=>False)
   rw[av];dsimp only;rw[ES];refine⟨vs.map Rw.key,_,EZ Z1 Z2 Z3 Z4 Z5 Q5 hw _ hv l2 (fun r hr=>sub r ((hm r).mp hr)),fun q hq hsq=>?_⟩;rw[LG]at hq;obtain⟨st,mem⟩:=CY hv hq hsq;have e:(q.map fun i=>(vs.map Rw.d).getD i .non)=(q.map fun i=>vs.getD i default).map Rw.d:=by
    rw[Mn];refine MR fun i hi=>?_;have li:i < vs.length:=mem_range.mp (hq.mem_iff.mp hi);simp[li]
   rw[e];exact h _ _ (fP.refl.gset hp) st fun r=>(mem r).trans (hm r)
 ·exact h.elim
theorem zX{sks:List Sk}:∀ {out:List Rw},(∀ r∈out,r∈sks.map Sk.rw)->∃ o:List Sk,out=o.map Sk.rw/\∀ s∈o,s∈sks
 | [],_=>⟨[],rfl,fun s hs=>by simp at hs⟩
 | r::t,h=>by
  obtain⟨o,e,ho⟩:=zX fun x hx=>h x (LU _ hx);obtain⟨s,hs,er⟩:=mem_map.mp (h r LV);refine⟨s::o,by rw[e,<- er];rfl,fun x hx=>?_⟩
  rcases L_.mp hx with z|z
  ·rw[z];exact hs
  ·exact ho x z
theorem Act.d_inj{a b:Act}(h:a.d=b.d):a=b:=by
 have sl:∀ {xs ys:List Sl},xs.map Sl.d=ys.map Sl.d->xs=ys:=fun {xs ys} e=>List.map_inj_right (f:=Sl.d) (fun x y=>Sl.d_inj) |>.mp e
 have ne:∀ {x y:String},LI x≠LI y->D.str (LI x)≠D.str (LI y):=fun h z=>h (by injection z)
 cases a<;>cases b<;>simp only[Act.d,D.tup.injEq,List.cons.injEq,D.str.injEq,and_true,true_and,reduceCtorEq,and_false,false_and]at h
 ·obtain⟨h1,h2⟩:=h;rw[Sl.d_inj h1,h2]
 all_goals first
  | (exact absurd h (by decide +kernel))
  | (exact absurd h.1 (by decide +kernel))
  | skip
 ·rw[sl h]
 ·rw[sl h.1,h.2]
 ·rw[sl h.1,Sl.d_inj h.2]
theorem Sk.rw_inj{a b:Sk}(h:a.rw=b.rw):a=b:=by
 obtain⟨a1,a2,a3,a4⟩:=a;obtain⟨b1,b2,b3,b4⟩:=b;simp only[Sk.rw,Rw.mk.injEq]at h;obtain⟨rfl,rfl,rfl,h⟩:=h;rw[Act.d_inj h]
theorem ug(Z1 Z2 Z3 Z4 Z5 Q5:LB)(hw:HW){σ:fO}{G:Gp}{p:LB}{s:Sk}{i:Nat}{Q:mZ}(hσ:σ[i]?=some (some (.ref p)))(hG:G p=some (bn Z1 Z2 Z3 Z4 Z5 Q5 s))(h:Q s.act.anch.d G):bQ [Z1,Z2,Z3,Z4,Z5] "anchor" (ab i) σ G Q:=by
 obtain⟨pen,num,time,act⟩:=s;unfold bQ ab;rw[hσ];cases act<;>(simp only[bn]at hG;simp only[hG];refine⟨by simp,?_⟩;first|exact h)
theorem kz(Z1 Z2 Z3 Z4 Z5 Q5:LB)(hw:HW){σ:fO}{G:Gp}{p:LB}{s:Sk}{i:Nat}{Q:mZ}(hσ:σ[i]?=some (some (.ref p)))(hG:G p=some (bn Z1 Z2 Z3 Z4 Z5 Q5 s))(hm:s.act.many<=1000)(h:Q (.fl ((made s).map Sl.d)) G):
  fk [(Z1,ar Z1 Z2 Z3 Z4 Z5 Q5 hw),(Z2,aZ Z1 Z2 Z3 Z4 Z5 Q5 hw),(Z3,ar Z1 Z2 Z3 Z4 Z5 Q5 hw),(Z4,ar Z1 Z2 Z3 Z4 Z5 Q5 hw),(Z5,aQ Z1 Z2 Z3 Z4 Z5 Q5 hw)] "slots" [] (ab i) au σ G Q:=by
 obtain⟨pen,num,time,act⟩:=s;unfold fk ab;rw[hσ];cases act with
 | put a x=>
  have hG':=hG;simp only[bn]at hG;simp only[hG];exact⟨by decide +kernel,aZ Z1 Z2 Z3 Z4 Z5 Q5 hw,by simp,⟨_,a,x,⟨rfl,hG',hm⟩,h⟩⟩
 | strike ns=>
  simp only[bn]at hG;simp only[hG];exact⟨by decide +kernel,ar Z1 Z2 Z3 Z4 Z5 Q5 hw,by simp,h⟩
 | dress ns w=>
  simp only[bn]at hG;simp only[hG];exact⟨by decide +kernel,ar Z1 Z2 Z3 Z4 Z5 Q5 hw,by simp,h⟩
 | move ns a=>
  have hG':=hG;simp only[bn]at hG;simp only[hG];exact⟨by decide +kernel,aQ Z1 Z2 Z3 Z4 Z5 Q5 hw,by simp,⟨_,a,ns,⟨rfl,hG',hm⟩,h⟩⟩
def EE(Z1 Z2 Z3 Z4 Z5 Q5:LB)(G:Gp)(ps:List LB)(o:List Sk):Prop:=∀ (j:Nat) p s,ps[j]?=some p->o[j]?=some s->G p=some (bn Z1 Z2 Z3 Z4 Z5 Q5 s)
theorem qt(Z1 Z2 Z3 Z4 Z5 Q5:LB)(s:Sk):∃ C L ds,bn Z1 Z2 Z3 Z4 Z5 Q5 s=.ins C L ds:=by
 obtain⟨pen,num,time,act⟩:=s;cases act<;>exact⟨_,_,_,rfl⟩
theorem oE(n:Nat):∀ (o:List Sk) (W:List Sl),(∀ s∈o,s.act.many<=1000)->(o.foldl fR W).length<=W.length+1000*o.length
 | [],W,_=>by simp
 | s::t,W,h=>by
  have h1:=h s LV;have ih:=oE n t (fR W s) fun x hx=>h x (LU _ hx);have h2:(fR W s).length<=W.length+1000:=by
   unfold fR;split
   ·rename_i ha;rw[m6 ha];have:(made s).length=s.act.many:=cG _ _ _;omega
   ·omega
  simp only[OD,L0];omega
def Ln(Z1 Z2 Z3 Z4 Z5 Q5:LB)(hw:List aH->Int)(G:Gp)(f:LB)(ps:List LB)(o:List Sk)(n:Nat)(x0 x1:Option D)(i:Nat)(σ:fO)(G':Gp):Prop:=∃ (x3:Option D) (kvs:List (List aH×D)),σ=[x0,x1,some (.ref f),x3]/\fP G G'/\EE Z1 Z2 Z3 Z4 Z5 Q5 G' ps o/\G' f=some (.dT hw kvs)/\CH kvs (nA n (o.take i))
theorem wC(Z1 Z2 Z3 Z4 Z5 Q5:LB)(hw:HW):bI (dL Z1 Z2 Z3 Z4 Z5 Q5 hw) (jm Z1 Z2 Z3 Z4 Z5 Q5 hw) ["old","strokes","following","stroke"]:=by
 intro ds G Q h;unfold dL at h;split at h
 ·rename_i x q;obtain⟨sks,base,⟨hq0,hx,one,l1,l2,sub,ok⟩,h⟩:=h;have hs:=ak;unfold jm;rw[af];show ∀ f,G f=none->(match gset G f (.dT hw []) f with|some (.dT hw' [])=>hw'=hw/\∃ ks,pi aG.d=some ks/\_|_=>False)
  intro f hf;have hqf:q≠f:=fun z=>by subst z;rw[hf]at hq0;cases hq0
  rw[av];refine⟨rfl,aG.key,rfl,?_⟩;rw[eX];dsimp only;rw[af];simp only[My,Mb,jw,L1,N3,NR,NZ,List.replicate,L0,Mv,Nat.reduceAdd,Nat.reduceSub];show x.length<=1000/\(∃ (b:Sl) (ss W:List Sl) (kvs:List (List aH×D)),(aG.d=b.d/\(gL x.length).map Sl.d=ss.map Sl.d/\gset G f (.dT hw [(aG.key,.non)]) f=some (.dT hw kvs)/\CH kvs W/\b∈W/\ss.Nodup/\(∀ x∈ss,x∉W)/\W.length+ss.length<=900000)/\∀ T9,CH T9 (cj W b ss)->_)
  have ol:(gL x.length).length=x.length:=cG _ _ _;refine⟨hx,aG,gL x.length,[aG],_,⟨rfl,rfl,av,Cn (fun _=>True),by simp,jc _ _ _,fun y hy hW=>?_,by rw[ol];simp;omega⟩,fun kvs hF=>?_⟩
  ·obtain⟨_,_,hk⟩:=gg hy;rw[PX.mp hW]at hk;exact absurd hk (by decide)
  ·rw[eX];dsimp only;rw[af];walk_at "s1";refine⟨sks.map Sk.rw,base.map Sk.rw,⟨by rw[aj hqf,hq0,Mn];rfl,one,by rw[LG];exact l1,by rw[LG];exact l2,fun r hr=>?_⟩,fun out G1 hE st mem=>?_⟩
   ·obtain⟨s,hs',rfl⟩:=mem_map.mp hr;exact mem_map.mpr ⟨s,sub s hs',rfl⟩
   obtain⟨o,rfl,ho⟩:=zX (sks:=sks) (out:=out) fun r hr=>(mem r).mp hr;have memo:∀ s,s∈o↔s∈sks:=fun s=>⟨ho s,fun hs'=>by
    obtain⟨s',h1,h2⟩:=mem_map.mp ((mem s.rw).mpr (mem_map.mpr ⟨s,hs',rfl⟩));rw[<- Sk.rw_inj h2];exact h1⟩
   have lo:o.length < 64:=by
    have:=ic (fQ st) (ys:=base.map Sk.rw) fun r hr=>by
     obtain⟨s,hs',rfl⟩:=mem_map.mp hr;exact mem_map.mpr ⟨s,sub s (ho s hs'),rfl⟩
    rw[LG,LG]at this;omega
   have hG1:G1 f=some (.dT hw kvs):=hE f _ av;have hE1:fP G G1:=fun a o' ha=>hE a o' (by
    have:a≠f:=fun z=>by subst z;rw[hf]at ha;cases ha
    rw[aj this];exact ha)
   have dmap:(o.map Sk.rw).map Rw.d=o.map Sk.d:=by rw[Mn];rfl
   rw[dmap];refine⟨by rw[LG];omega,fun i acc G2=>∃ ps:List LB,ps.length=i/\acc=ps.map D.ref/\fP G1 G2/\EE Z1 Z2 Z3 Z4 Z5 Q5 G2 ps o,⟨[],rfl,rfl,fP.refl,fun j p s hj=>by simp at hj⟩,?_,?_⟩
   ·rintro i d acc G2 hd ⟨ps,rfl,rfl,hE2,hO⟩
    rw[L4]at hd;cases hsj:o[ps.length]? with
    | none=>rw[hsj]at hd;cases hd
    | some s=>
     rw[hsj]at hd;cases hd;refine⟨⟨by simp,rfl⟩,?_⟩
     show ∃ s':Sk,s.d=s'.d/\∀ p,G2 p=none->_
     refine⟨s,rfl,fun p hp=>⟨ps ++ [p],by simp,by rw[MB];rfl,fun a o' ha=>?_,fun j q s' hj hs'=>?_⟩⟩
     ·have:a≠p:=fun z=>by subst z;rw[hE2 a o' ha]at hp;cases hp
      rw[aj this];exact hE2 a o' ha
     ·rw[List.getElem?_append]at hj;split at hj
      ·have h1:=hO j q s' hj hs';have:q≠p:=fun z=>by subst z;rw[h1]at hp;cases hp
       rw[aj this];exact h1
      ·rename_i hge;have hj0:j=ps.length:=by
        by_cases z:j - ps.length=0
        ·omega
        ·obtain⟨k,hk⟩:∃ k,j - ps.length=k+1:=⟨j - ps.length - 1,by walk_at "o"⟩
         rw[hk]at hj;simp at hj
       subst hj0;simp at hj;subst hj;rw[hsj]at hs';cases hs';exact av
   ·rintro acc G2 ⟨ps,hl,rfl,hE2,hO⟩
    rw[LG]at hl;show L3.ForIn _ _ _ _ (ps.map D.ref) G2
    refine⟨Ln Z1 Z2 Z3 Z4 Z5 Q5 hw G f ps o x.length (some (.str x)) (some (.ref q)),⟨_,kvs,rfl,hE1.trans hE2,hO,hE2 f _ hG1,hF⟩,?_,?_⟩
    ·rintro i d σ G3 hd ⟨x3,kvs3,rfl,hE3,hO3,hf3,hF3⟩
     rw[L4]at hd;cases hpj:ps[i]? with
     | none=>rw[hpj]at hd;cases hd
     | some p=>
      rw[hpj]at hd;cases hd;have hil:i < o.length:=by have:=(List.getElem?_eq_some_iff.mp hpj).1;omega
      have hsi:o[i]?=some o[i]:=LP hil;have TV:=hO3 i p _ hpj hsi;have oks:=ok o[i] (ho _ (Nx hil));have tk:o.take (i+1)=o.take i ++ [o[i]]:=by rw[MH,hsi];rfl
      have fr:AQ (o.take i) (nA x.length (o.take i)):=by
       have:=zn x.length (o.take i) [] _ (AD x.length)
       simpa[nA]using this
      have apart:∀ r∈o.take i,¬ (r.pen=(o[i]).pen/\r.num=(o[i]).num):=fun r hr z=>by
       obtain⟨j,hj,er⟩:=List.mem_iff_getElem.mp hr;rw[Mm]at hj;rw[List.getElem_take]at er;have hji:j < i:=by walk_at "o"
       have st':∀ a b:Nat,(ha:a < (o.map Sk.rw).length)->(hb:b < (o.map Sk.rw).length)->a < b->((o.map Sk.rw)[a]).lt (o.map Sk.rw)[b]=true:=fun a b ha hb hab=>List.pairwise_iff_getElem.mp st a b ha hb hab;have:=st' j i (by rw[LG];omega) (by rw[LG];omega) hji
       rw[Oq,Oq,er]at this;have U3:=one (o[i]).rw (mem_map.mpr ⟨_,ho _ (Nx hil),rfl⟩) r.rw (mem_map.mpr ⟨_,ho _ (er ▸ Nx (by walk_at "o")),rfl⟩) z.1.symm z.2.symm
       rw[U3,lt_irrefl]at this;cases this
      have fresh:=Ek fr oks.1 apart;have wl:=oE x.length (o.take i) (cj [aG] aG (gL x.length)) fun s hs'=>(ok s (ho s (No hs'))).2;rw[dN]at wl;have wl2:(nA x.length (o.take i)).length<=100000:=by
       have e1:nA x.length (o.take i)=(o.take i).foldl fR (aG::gL x.length):=by unfold nA;rw[dN]
       rw[e1];rw[Mm,L0,ol]at wl;omega
      generalize o[i]=s at *
      simp only[gN,My,Mb];have nf:f≠p:=fun z=>by subst z;obtain⟨C,L,ds,e⟩:=qt Z1 Z2 Z3 Z4 Z5 Q5 s;rw[hf3,e]at TV;cases TV
      refine cB (decide (s.act.anch∈nA x.length (o.take i))) (fun K hK=>?_) (xz (fun hin=>?_) fun U9=>?_)
      ·unfold cJ xR;refine ug Z1 Z2 Z3 Z4 Z5 Q5 hw (p:=p) (i:=3) rfl TV ?_;show ∃ r,cV hw G3 (.ref f) s.act.anch.d r/\_
       refine⟨dy kvs3 s.act.anch.key,?_,?_⟩
       ·show (match G3 f with|some (.dT hw' kvs)=>hw'=hw/\∃ ks,pi s.act.anch.d=some ks/\dy kvs3 s.act.anch.key=dy kvs ks|some (.dK kvs)=>_|_=>False)
        rw[hf3];exact⟨rfl,_,rfl,rfl⟩
       ·have e1:(dy kvs3 s.act.anch.key).isSome=decide (s.act.anch∈nA x.length (o.take i)):=by
         by_cases z:s.act.anch∈nA x.length (o.take i)
         ·rw[hF3.2.2.2 _ z,decide_eq_true z];rfl
         ·rw[hF3.2.2.1 _ z,decide_eq_false z];rfl
        rw[e1];exact hK
      ·have UW:=of_decide_eq_true hin;simp only[cR,aY,ae,au,ab,Mw,MF];refine ug Z1 Z2 Z3 Z4 Z5 Q5 hw (p:=p) (i:=3) rfl TV ?_;refine kz Z1 Z2 Z3 Z4 Z5 Q5 hw (p:=p) (i:=3) rfl TV oks.2 ?_;have lm:(made s).length=s.act.many:=cG _ _ _;have lm2:=oks.2;show ∃ (b:Sl) (ss W:List Sl) (kvs:List (List aH×D)),(s.act.anch.d=b.d/\(made s).map Sl.d=ss.map Sl.d/\G3 f=some (.dT hw kvs)/\CH kvs W/\b∈W/\ss.Nodup/\(∀ x∈ss,x∉W)/\W.length+ss.length<=900000)/\∀ T9,CH T9 (cj W b ss)->_
       refine⟨s.act.anch,made s,_,kvs3,⟨rfl,rfl,hf3,hF3,UW,jc _ _ _,fresh,by walk_at "o"⟩,fun T9 hF'=>?_⟩
       refine⟨_,T9,rfl,fun a o' ha=>?_,fun j q s' hj hs'=>?_,av,?_⟩
       ·have:a≠f:=fun z=>by subst z;rw[hf]at ha;cases ha
        rw[aj this];exact hE3 a o' ha
       ·have h1:=hO3 j q s' hj hs';have:q≠f:=fun z=>by subst z;obtain⟨C,L,ds,e⟩:=qt Z1 Z2 Z3 Z4 Z5 Q5 s';rw[hf3,e]at h1;cases h1
        rw[aj this];exact h1
       ·rw[tk,vP];unfold fR;rw[if_pos UW];exact hF'
      ·have UU:=of_decide_eq_false U9;simp only[cW];refine⟨_,kvs3,rfl,hE3,hO3,hf3,?_⟩;rw[tk,vP];unfold fR;rw[if_neg UU];exact hF3
    ·rintro σ G3 ⟨x3,kvs3,rfl,hE3,hO3,hf3,hF3⟩
     rw[LG,hl,Mo]at hF3;rw[r_]at hF3;show ∃ (R:List Sl) (kvs:List (List aH×D)),(G3 f=some (.dT hw kvs)/\CH kvs (aG::R)/\R.length<=900000)/\_
     refine⟨jl x.length o,kvs3,⟨hf3,hF3,?_⟩,h o G3 hE3 st memo⟩;have wl:=oE x.length o (cj [aG] aG (gL x.length)) fun s hs'=>(ok s (ho s hs')).2;have e1:o.foldl fR (cj [aG] aG (gL x.length))=aG::jl x.length o:=r_ x.length o;rw[e1,dN,L0,L0,ol]at wl;omega
 ·exact h.elim
theorem mG(s:Sk):s.act.many<=s.wd:=by
 obtain⟨pen,num,time,act⟩:=s;cases act<;>first|exact le_refl _|exact Mg _
theorem zZ(Z1 Z2 Z3 Z4 Z5 Q5:LB)(hw:HW):bI (dY Z1 Z2 Z3 Z4 Z5 Q5 hw) (mE Z1 Z2 Z3 Z4 Z5 Q5 hw) ["keys"]:=by
 intro ds G Q h;unfold dY at h;split at h
 ·rename_i xs;have hs:=ak;unfold mE;rcases h with ⟨ss,⟨rfl,hl⟩,h⟩|⟨ns,⟨rfl,hl⟩,h⟩
  ·walk_at "s1";refine gu (fun d=>.tup [d,.bl true]) (by rw[LG];omega) (fun d hd P hP=>?_) ?_
   ·obtain⟨s,hs',rfl⟩:=mem_map.mp hd;unfold Sl.d;walk_at "st";exact⟨rfl,by walk_at "o",hP _ rfl⟩
   ·dsimp only;refine⟨a_ (fun _=>.bl true) (ss.map fun s=>(s,())),⟨?_,by unfold a_;rw[LG,LG];exact hl⟩,fun p hp=>?_⟩
    ·unfold a_;rw[Mn,Mn,Mn];rfl
    ·rw[ul];exact h p hp
  ·walk_at "s1";refine gu (fun d=>.tup [d,.bl true]) (by rw[LG];omega) (fun d hd P hP=>?_) ?_
   ·obtain⟨s,hs',rfl⟩:=mem_map.mp hd;unfold Nm.d;walk_at "st";exact⟨rfl,by walk_at "o",hP _ rfl⟩
   ·dsimp only;refine⟨ns.map fun n=>(n.key,.bl true),⟨?_,by rw[LG];exact hl⟩,fun p hp=>h p hp⟩
    rw[Mn,Mn];rfl
 ·exact h.elim
theorem kA(Z1 Z2 Z3 Z4 Z5 Q5:LB)(hw:HW){G:Gp}{p:LB}{α:Type}{f:α->D}{l:List (Sl×α)}(x:Sl)(hG:G p=some (.dT hw (a_ f l))):cV hw G (.ref p) x.d ((fL l x).map f):=by
 unfold cV;dsimp only;rw[hG];exact⟨rfl,x.key,rfl,(Bw f x l).symm⟩
theorem uJ(Z1 Z2 Z3 Z4 Z5 Q5:LB)(hw:HW):bI (c7 Z1 Z2 Z3 Z4 Z5 Q5 hw) (iN Z1 Z2 Z3 Z4 Z5 Q5 hw) ["stroke","in_row"]:=by
 intro ds G Q h;unfold c7 at h;split at h
 ·rename_i a p;obtain⟨s,row,⟨hG,hw',hp⟩,h⟩:=h;have hs:=ak;have mw:=mG s;unfold iN;unfold br eB ae au e_ gy;refine kz Z1 Z2 Z3 Z4 Z5 Q5 hw (p:=a) (i:=0) (s:=s) rfl hG (by walk_at "o") ?_
  dsimp only[fF];have lm:(made s).length=s.act.many:=cG _ _ _;refine gu (fun d=>match d with|.tup [.str q,.int n,.int k]=>.bl (fL row ⟨q,n,k⟩).isSome|d=>d) (by rw[LG,lm];omega) (fun d hd P hP=>?_) ?_
  ·obtain⟨x,hx,rfl⟩:=mem_map.mp hd;refine⟨⟨by simp[jw],rfl⟩,?_⟩
   show ∃ r,cV hw G (.ref p) x.d r/\P (.bl r.isSome) G
   refine⟨_,kA Z1 Z2 Z3 Z4 Z5 Q5 hw x hp,hP _ ?_⟩;show D.bl ((fL row x).map _).isSome=D.bl (fL row x).isSome
   rw[Option.isSome_map]
  ·show ∃ bs:List Bool,n6 G (val _)=some (bs.map D.bl)/\_;refine⟨(made s).map fun x=>(fL row x).isSome,?_,?_⟩
   ·show some _=some _;congr 1;rw[Mn,Mn];rfl
   ·rw[List.all_map];exact h
 ·exact h.elim
theorem FD{ns:List Nm}(n:Nm):(dy (dictOf (ns.map fun n=>(n.key,D.bl true))) n.key).isSome=decide (n∈ns):=by
 unfold dictOf;have key_inj:∀ {a b:Nm},a.key=b.key->a=b:=fun {a b} h=>by
  obtain⟨a1,a2⟩:=a;obtain⟨b1,b2⟩:=b;simp only[Nm.key,List.cons.injEq,Sum.inr.injEq,Sum.inl.injEq,and_true]at h;obtain⟨rfl,rfl⟩:=h;rfl
 suffices H:∀ l:List (List aH×D),(dy ((ns.map fun n=>(n.key,D.bl true)).foldl (fun a kv=>bF a kv.1 kv.2) l) n.key).isSome=((dy l n.key).isSome || decide (n∈ns)) by
  have:=H []
  simpa[dy]using this
 induction ns with
 | nil=>intro l;simp
 | cons m r ih=>
  intro l;rw[L1,OD,ih,hV]
  by_cases e:n=m
  ·subst e;simp
  ·rw[if_neg (fun z=>e (key_inj z))];simp[e]
theorem jI.ext{Z1 Z2 Z3 Z4 Z5 Q5:LB}{G G':Gp}{ps:List LB}{o:List Sk}(h:jI Z1 Z2 Z3 Z4 Z5 Q5 G ps o)(e:fP G G'):jI Z1 Z2 Z3 Z4 Z5 Q5 G' ps o:=⟨h.1,fun j p s hp hs=>e _ _ (h.2 j p s hp hs)⟩
theorem jI.nil{Z1 Z2 Z3 Z4 Z5 Q5:LB}{G:Gp}:jI Z1 Z2 Z3 Z4 Z5 Q5 G [] []:=⟨rfl,fun j p s hp=>by simp at hp⟩
theorem jI.add{Z1 Z2 Z3 Z4 Z5 Q5:LB}{G:Gp}{ps:List LB}{o:List Sk}{p:LB}{s:Sk}(h:jI Z1 Z2 Z3 Z4 Z5 Q5 G ps o)(hp:G p=some (bn Z1 Z2 Z3 Z4 Z5 Q5 s)):jI Z1 Z2 Z3 Z4 Z5 Q5 G (ps ++ [p]) (o ++ [s]):=by
 obtain⟨hl,h⟩:=h;refine⟨by simp[hl],fun j q t hq ht=>?_⟩
 rw[List.getElem?_append]at hq ht;split at hq
 ·rename_i hj;rw[if_pos (by walk_at "o")]at ht
  exact h j q t hq ht
 ·rename_i hj;rw[if_neg (by walk_at "o")]at ht
  have hj0:j - ps.length=0:=by
   by_cases z:j - ps.length=0
   ·exact z
   ·obtain⟨k,hk⟩:∃ k,j - ps.length=k+1:=⟨j - ps.length - 1,by walk_at "o"⟩
    rw[hk]at hq;simp at hq
  rw[hj0]at hq;rw[show j - o.length=0 by walk_at "o"]at ht
  simp only[Mw,Option.some.injEq]at hq ht;subst hq ht;exact hp
theorem FF(row:List Sl)(x:Sl):(fL (ck [] (row.map fun s=>(s,()))) x).isSome=decide (x∈row):=by
 suffices H:∀ l:List (Sl×Unit),(fL (ck l (row.map fun s=>(s,()))) x).isSome=((fL l x).isSome || decide (x∈row)) by
  have:=H []
  simpa[fL]using this
 induction row with
 | nil=>intro l;simp[ck]
 | cons m r ih=>
  intro l;show (fL (ck (mS l m ()) (r.map fun s=>(s,()))) x).isSome=_
  rw[ih,F_]
  by_cases e:x=m
  ·subst e;simp
  ·rw[if_neg e];simp[e]
theorem jI.snoc{Z1 Z2 Z3 Z4 Z5 Q5:LB}{G:Gp}{ps:List LB}{o:List Sk}{p:LB}{s:Sk}(h:jI Z1 Z2 Z3 Z4 Z5 Q5 G ps o)(hp:G p=none):jI Z1 Z2 Z3 Z4 Z5 Q5 (gset G p (bn Z1 Z2 Z3 Z4 Z5 Q5 s)) (ps ++ [p]) (o ++ [s]):=
 (h.ext (fP.refl.gset hp)).add av
theorem uK(Z1 Z2 Z3 Z4 Z5 Q5:LB)(hw:HW):bI (c8 Z1 Z2 Z3 Z4 Z5 Q5 hw) (iO Z1 Z2 Z3 Z4 Z5 Q5 hw) ["strokes","standing","in_row","stands","chosen"]:=by
 intro ds G Q h;unfold c8 at h;split at h
 ·rename_i q0 ns p;obtain⟨sks,base,names,row,⟨hq0,one,l1,l2,sub,wd,rfl,l3,hG⟩,h⟩:=h;have hs:=ak;unfold iO;rw[af];walk_at "s1";refine .inr ⟨names,⟨rfl,l3⟩,fun q hq=>?_⟩;have hpq:p≠q:=fun z=>by subst z;rw[hG]at hq;cases hq
  rw[af];have g1:gset G q (.dT hw (dictOf (names.map fun n=>(n.key,.bl true)))) q=some (.dT hw (dictOf (names.map fun n=>(n.key,.bl true)))):=av;have g2:fP G (gset G q (.dT hw (dictOf (names.map fun n=>(n.key,.bl true))))):=fP.refl.gset hq;generalize gset G q (.dT hw (dictOf (names.map fun n=>(n.key,.bl true))))=G1 at g1 g2;walk_at "s1";refine⟨sks.map Sk.rw,base.map Sk.rw,⟨by rw[g2 q0 _ hq0,Mn];rfl,one,by rw[LG];exact l1,by rw[LG];exact l2,fun r hr=>?_⟩,fun out G2 hE st mem=>?_⟩
  ·obtain⟨s,hs',rfl⟩:=mem_map.mp hr;exact mem_map.mpr ⟨s,sub s hs',rfl⟩
  obtain⟨o,rfl,ho⟩:=zX (sks:=sks) (out:=out) fun r hr=>(mem r).mp hr;have memo:∀ s,s∈o↔s∈sks:=fun s=>⟨ho s,fun hs'=>by
   obtain⟨s',h1,h2⟩:=mem_map.mp ((mem s.rw).mpr (mem_map.mpr ⟨s,hs',rfl⟩));rw[<- Sk.rw_inj h2];exact h1⟩
  have lo:o.length < 64:=by
   have:=ic (fQ st) (ys:=base.map Sk.rw) fun r hr=>by
    obtain⟨s,hs',rfl⟩:=mem_map.mp hr;exact mem_map.mpr ⟨s,sub s (ho s hs'),rfl⟩
   rw[LG,LG]at this;omega
  have dmap:(o.map Sk.rw).map Rw.d=o.map Sk.d:=by rw[Mn];rfl
  rw[dmap];refine⟨by rw[LG];omega,fun i acc G3=>∃ ps:List LB,acc=ps.map D.ref/\fP G2 G3/\jI Z1 Z2 Z3 Z4 Z5 Q5 G3 ps ((o.take i).filter fun s=>decide (s.nm∈names)),⟨[],rfl,fP.refl,by simpa using jI.nil⟩,?_,?_⟩
  ·rintro i d acc G3 hd ⟨ps,rfl,hE3,hO⟩
   rw[L4]at hd;cases hsj:o[i]? with
   | none=>rw[hsj]at hd;cases hd
   | some s=>
    rw[hsj]at hd;cases hd;have tk:(o.take (i+1)).filter (fun s=>decide (s.nm∈names))=(o.take i).filter (fun s=>decide (s.nm∈names)) ++ (if s.nm∈names then [s]else []):=by
     rw[MH,hsj,NI]
     by_cases e:s.nm∈names
     ·rw[if_pos e];simp[e]
     ·rw[if_neg e];simp[e]
    refine⟨⟨by simp,rfl⟩,?_⟩
    show ∃ r,cV hw G3 (.ref q) s.nm.d r/\(match D.bl r.isSome with|.bl b=>_|_=>False)
    refine⟨dy (dictOf (names.map fun n=>(n.key,D.bl true))) s.nm.key,?_,?_⟩
    ·unfold cV;dsimp only;rw[hE3 q _ (hE q _ g1)];exact⟨rfl,_,rfl,rfl⟩
    ·rw[FD];dsimp only
     by_cases e:s.nm∈names
     ·rw[decide_eq_true e,if_pos rfl];show ∃ s':Sk,s.d=s'.d/\∀ p,G3 p=none->_
      refine⟨s,rfl,fun r hr=>⟨ps ++ [r],by rw[MB];rfl,fun a o' ha=>?_,?_⟩⟩
      ·have:a≠r:=fun z=>by subst z;rw[hE3 a o' ha]at hr;cases hr
       rw[aj this];exact hE3 a o' ha
      ·rw[tk,if_pos e];exact hO.snoc hr
     ·rw[decide_eq_false e,if_neg Bool.false_ne_true];refine⟨ps,rfl,hE3,?_⟩;rw[tk,if_neg e,M8];exact hO
  ·rintro acc G3 ⟨ps,rfl,hE3,hO⟩
   rw[LG,Mo]at hO;dsimp only[val];have hE4:fP G G3:=g2.trans (hE.trans hE3);generalize hfl:o.filter (fun s=>decide (s.nm∈names))=ws at hO;have U0:∀ s∈ws,s∈o:=fun s hs'=>by rw[<- hfl]at hs';exact (mem_filter.mp hs').1
   have lw:ws.length<=o.length:=by rw[<- hfl];exact MP _ _
   have hl:=hO.1;show (_<=LL)/\_
   refine⟨by rw[LG];omega,fun i acc G4=>∃ qs:List LB,acc=qs.map D.ref/\G4=G3/\jI Z1 Z2 Z3 Z4 Z5 Q5 G3 qs ((ws.take i).filter (ko row)),⟨[],rfl,rfl,by simpa using jI.nil⟩,?_,?_⟩
   ·rintro i d acc G4 hd ⟨qs,rfl,rfl,hQ⟩
    rw[L4]at hd;cases hpi:ps[i]? with
    | none=>rw[hpi]at hd;cases hd
    | some a=>
     rw[hpi]at hd;cases hd;have hi:i < ws.length:=by have:=(List.getElem?_eq_some_iff.mp hpi).1;omega
     have hwi:ws[i]?=some ws[i]:=LP hi;have hob:=hO.2 i a _ hpi hwi;refine⟨⟨by simp,rfl⟩,?_⟩
     have tk:(ws.take (i+1)).filter (ko row)=(ws.take i).filter (ko row) ++ (if ko row ws[i]=true then [ws[i]]else []):=by
      rw[MH,hwi,NI]
      by_cases e:ko row ws[i]=true
      ·rw[if_pos e];simp[e]
      ·rw[if_neg e];simp[e]
     have hgp:G4 p=some (.dT hw (a_ (fun _=>.bl true) (ck [] (row.map fun s=>(s,()))))):=hE4 p _ hG;have pe:(made ws[i]).all (fun x=>(fL (ck [] (row.map fun s=>(s,()))) x).isSome)=ko row ws[i]:=by
      unfold ko;congr 1;funext x;exact FF row x
     refine⟨_,_,⟨hob,wd _ (ho _ (U0 _ (Nx hi))),hgp⟩,?_⟩;rw[pe];show True/\_
     refine⟨trivial,?_⟩;dsimp only
     by_cases e:ko row ws[i]=true
     ·rw[if_pos e];exact⟨qs ++ [a],by rw[MB];rfl,rfl,by rw[tk,if_pos e];exact hQ.add hob⟩
     ·rw[if_neg e];exact⟨qs,rfl,rfl,by rw[tk,if_neg e,M8];exact hQ⟩
   ·rintro acc G4 ⟨qs,rfl,rfl,hQ⟩
    rw[LG,hl,Mo]at hQ;refine h o qs _ hE4 st memo ?_;unfold jU;rw[hfl];exact hQ
 ·exact h.elim
theorem wu{hw:HW}{α:Type}{f:α->D}{l:List (Sl×α)}{G:Gp}{p:LB}{x:Sl}{w:α}{K:Gp->Prop}(hG:G p=some (.dT hw (a_ f l)))(hl:l.length < LL)(h:K (gset G p (.dT hw (a_ f (mS l x w))))):l9 hw (.ref p) x.d (f w) G K:=by
 unfold l9;dsimp only;rw[hG];exact⟨rfl,x.key,rfl,by unfold a_;rw[LG];exact hl,by rw[yJ];exact h⟩
theorem sC{α:Type}{σ:List α}{a:Nat}(h:a < σ.length):σ.set a σ[a]=σ:=List.set_getElem_self h
theorem Gw{hw:HW}{α:Type}{f:α->D}(hf:∀ v,val (f v)=f v){m l:List (Sl×α)}{a b d:Nat}{σ:fO}{G:Gp}{p:LB}{E:Ends3}(hab:a≠b)(had:a≠d)(hbd:b≠d)(ha:a < σ.length)(hb:b < σ.length)(hσ:σ[d]?=some (some (.ref p)))(hl:l.length+m.length < LL)
  (h:∀ u v,E.nx ((σ.set a u).set b v) (gset G p (.dT hw (a_ f (ck l m))))):ForIn (qX 2 (gM (gN a) (gM (gN b) qY))) (d7 hw (ab d) (ab a) (ab b)) E σ (m.map fun q=>.tup [q.1.d,f q.2]) (gset G p (.dT hw (a_ f l))):=by
 refine⟨fun i σ' G'=>∃ u v,σ'=(σ.set a u).set b v/\G'=gset G p (.dT hw (a_ f (ck l (m.take i)))),⟨σ[a],σ[b],by rw[sC ha,sC hb],rfl⟩,?_,?_⟩
 ·rintro i dd σ' G' hd ⟨u,v,rfl,rfl⟩
  rw[L4]at hd;cases hq:m[i]? with
  | none=>rw[hq]at hd;cases hd
  | some q=>
   rw[hq]at hd;cases hd;have hi:=(List.getElem?_eq_some_iff.mp hq).1;have tk:m.take (i+1)=m.take i ++ [q]:=by rw[MH,hq];rfl
   unfold qX gM qY gN;refine⟨rfl,?_⟩;show d7 hw (ab d) (ab a) (ab b) _ ((((σ.set a u).set b v).set a (some q.1.d)).set b (some (f q.2))) _
   have e0:(((σ.set a u).set b v).set a (some q.1.d)).set b (some (f q.2))=(σ.set a (some q.1.d)).set b (some (f q.2)):=by
    rw[List.set_comm _ _ (Ne.symm hab),List.set_set,List.set_set]
   rw[e0];have s1:((σ.set a (some q.1.d)).set b (some (f q.2)))[b]?=some (some (f q.2)):=by rw[List.getElem?_set_self (by rw[List.length_set];exact hb)]
   have s2:((σ.set a (some q.1.d)).set b (some (f q.2)))[a]?=some (some q.1.d):=by rw[Np (Ne.symm hab),List.getElem?_set_self ha]
   have s3:((σ.set a (some q.1.d)).set b (some (f q.2)))[d]?=some (some (.ref p)):=by rw[Np hbd,Np had];exact hσ
   unfold d7 ab;rw[s1,s2,s3];dsimp only;rw[hf];have pl:=fN (m.take i) l;rw[Mm]at pl;refine wu (x:=q.1) av (by walk_at "o") ⟨_,_,rfl,?_⟩
   rw[eX,tk,nJ]
 ·rintro σ' G' ⟨u,v,rfl,rfl⟩
  rw[LG,Mo];exact h u v
theorem Gx{hw:HW}{α:Type}{f:α->D}{w:α}(hf:val (f w)=f w){ns:List Sl}{l:List (Sl×α)}{a d:Nat}{σ:fO}{G:Gp}{p:LB}{E:Ends3}{te:bH}(had:a≠d)(ha:a < σ.length)(hσ:σ[d]?=some (some (.ref p)))(hl:l.length+ns.length < LL)
  (ht:∀ u l (K:mZ),K (f w) (gset G p (.dT hw (a_ f l)))->te (σ.set a u) (gset G p (.dT hw (a_ f l))) K)
  (h:∀ u,E.nx (σ.set a u) (gset G p (.dT hw (a_ f (ck l (ns.map fun n=>(n,w))))))):ForIn (gN a) (d7 hw (ab d) (ab a) te) E σ (ns.map Sl.d) (gset G p (.dT hw (a_ f l))):=by
 refine⟨fun i σ' G'=>∃ u,σ'=σ.set a u/\G'=gset G p (.dT hw (a_ f (ck l ((ns.take i).map fun n=>(n,w))))),⟨σ[a],by rw[sC ha],rfl⟩,?_,?_⟩
 ·rintro i dd σ' G' hd ⟨u,rfl,rfl⟩
  rw[L4]at hd;cases hq:ns[i]? with
  | none=>rw[hq]at hd;cases hd
  | some q=>
   rw[hq]at hd;cases hd;have hi:=(List.getElem?_eq_some_iff.mp hq).1;have tk:ns.take (i+1)=ns.take i ++ [q]:=by rw[MH,hq];rfl
   show d7 hw (ab d) (ab a) te _ ((σ.set a u).set a (some q.d)) _
   rw[List.set_set];have s2:(σ.set a (some q.d))[a]?=some (some q.d):=by rw[List.getElem?_set_self ha]
   have s3:(σ.set a (some q.d))[d]?=some (some (.ref p)):=by rw[Np had];exact hσ
   unfold d7;refine ht _ _ _ ?_;unfold ab;rw[s2,s3];dsimp only;rw[hf];have pl:=fN ((ns.take i).map fun n=>(n,w)) l;rw[LG,Mm]at pl;refine wu (x:=q) av (by walk_at "o") ⟨_,rfl,?_⟩
   rw[eX,tk,MB,L1,N3,nJ]
 ·rintro σ' G' ⟨u,rfl,rfl⟩
  rw[LG,Mo];exact h u
theorem oh{α β:Type}(f:α->D)(g:β->D):∀ (a:List α) (b:List β),oj (a.map f) (b.map g)=(a.zip b).map fun q=>.tup [f q.1,g q.2]
 | [],_=>rfl
 | _::_,[]=>rfl
 | x::a,y::b=>by simp only[L1,oj,NF,oh f g a b]
theorem vM(x:Str):L3.signs x=(BJ x).map D.str:=by unfold L3.signs BJ;rw[Mn];rfl
theorem A2(x:Str):(BJ x).length=x.length:=by simp[BJ,Ny]
theorem mI{β:Type}(g:Sk->List β){o:List Sk}{i:Nat}{s:Sk}(h:o[i]?=some s):(o.take (i+1)).flatMap g=(o.take i).flatMap g ++ g s:=by
 rw[MH,h,List.flatMap_append];simp
theorem ui{β:Type}(g:Sk->List β):∀ {o:List Sk},(∀ s∈o,(g s).length<=1000)->(o.flatMap g).length<=1000*o.length
 | [],_=>by simp
 | s::r,h=>by
  have h1:=h s LV;have h2:=ui g (o:=r) fun t ht=>h t (LU _ ht);rw[List.flatMap_cons,Mz,L0];omega
theorem qN{s:Sk}(h:s.wd<=1000):(iV s).length<=1000:=by
 obtain⟨pen,num,time,act⟩:=s;cases act with
 | put a x=>
  show ((made _).zip (BJ x)).length<=1000
  rw[O2,A2];have:x.length<=1000:=h;omega
 | _=>exact Mg _
theorem zR{s:Sk}(h:s.wd<=1000):(jK s).length<=1000:=by
 obtain⟨pen,num,time,act⟩:=s;cases act with
 | strike ns=>show (ns.map _).length<=1000;rw[LG];exact h
 | _=>exact Mg _
theorem CM{s:Sk}(h:s.wd<=1000):(pP s).length<=1000:=by
 obtain⟨pen,num,time,act⟩:=s;cases act with
 | dress ns w=>show (ns.map _).length<=1000;rw[LG];exact h
 | _=>exact Mg _
theorem yn{s:Sk}(h:s.wd<=1000):(m9 s).length<=1000:=by
 obtain⟨pen,num,time,act⟩:=s;cases act with
 | move ns a=>
  show (ns.zip (made _)).length<=1000
  rw[O2];have:ns.length<=1000:=h;omega
 | _=>exact Mg _
theorem jV{β:Type}{o:List Sk}(h:wf o)(g:Sk->List β)(hg:∀ s:Sk,s.wd<=1000->(g s).length<=1000)(i:Nat):((o.take i).flatMap g).length<=64000:=by
 have h1:=ui g (o:=o.take i) fun s hs=>hg s (h.2 s (No hs));have h2:=h.1;rw[Mm]at h1;omega
theorem mj(Z1 Z2 Z3 Z4 Z5 Q5:LB)(hw:HW){σ:fO}{G:Gp}{a C:LB}{s:Sk}{i:Nat}{cs:List (LB×Bool)}{K:Bool->Gp->Prop}(b:Bool)(hσ:σ[i]?=some (some (.ref a)))(hG:G a=some (bn Z1 Z2 Z3 Z4 Z5 Q5 s))
  (hc:match s.act with|.put _ _=>(Z2,b)∈cs|.strike _=>(Z3,b)∈cs|.dress _ _=>(Z4,b)∈cs|.move _ _=>(Z5,b)∈cs) (h:K b G):ux (eB (x_ cs C) (ae (ab i) (ae (eC (.ref C)) au))) σ G K:=by
 obtain⟨pen,num,time,act⟩:=s;unfold ux eB ae au ab eC x_;rw[hσ];cases act<;>(simp only[bn]at hG;simp only[val,hG];exact⟨trivial,b,hc,⟨trivial,h⟩⟩)
theorem kt(Z1 Z2 Z3 Z4 Z5 Q5:LB)(hw:HW){σ:fO}{G:Gp}{p:LB}{s:Sk}{ns:List Sl}{i:Nat}{Q:mZ}(hσ:σ[i]?=some (some (.ref p)))(hG:G p=some (bn Z1 Z2 Z3 Z4 Z5 Q5 s))(ha:s.act=.strike ns\/(∃ w,s.act=.dress ns w)\/∃ b,s.act=.move ns b)(hm:ns.length<=1000)(h:Q (.fl (ns.map Sl.d)) G):
  fk [(Z1,ag Z1 Z2 Z3 Z4 Z5 Q5 hw),(Z2,ag Z1 Z2 Z3 Z4 Z5 Q5 hw),(Z3,ag Z1 Z2 Z3 Z4 Z5 Q5 hw),(Z4,ag Z1 Z2 Z3 Z4 Z5 Q5 hw),(Z5,ag Z1 Z2 Z3 Z4 Z5 Q5 hw)] "touched" [] (ab i) au σ G Q:=by
 have hG':=hG;unfold fk ab;rw[hσ];obtain⟨pen,num,time,act⟩:=s;rcases ha with e|⟨w,e⟩|⟨b,e⟩<;>(have e':act=_:=e;subst e';simp only[bn]at hG;simp only[hG])
 ·exact⟨by decide +kernel,ag Z1 Z2 Z3 Z4 Z5 Q5 hw,by simp,_,ns,⟨.inl rfl,hG',hm⟩,h⟩
 ·exact⟨by decide +kernel,ag Z1 Z2 Z3 Z4 Z5 Q5 hw,by simp,_,ns,⟨.inr (.inl ⟨w,rfl⟩),hG',hm⟩,h⟩
 ·exact⟨by decide +kernel,ag Z1 Z2 Z3 Z4 Z5 Q5 hw,by simp,_,ns,⟨.inr (.inr ⟨b,rfl⟩),hG',hm⟩,h⟩
theorem nC(Z1 Z2 Z3 Z4 Z5 Q5:LB)(hw:HW):bI (ag Z1 Z2 Z3 Z4 Z5 Q5 hw) (d9 Z1 Z2 Z3 Z4 Z5 Q5 hw) ["self"]:=by
 intro ds G Q h;unfold ag at h;split at h
 ·rename_i p;obtain⟨⟨pen,num,time,act⟩,ns,⟨ha,hG,hl⟩,h⟩:=h;have hs:=ak;unfold bn at hG;unfold d9;rcases ha with e|⟨w,e⟩|⟨b,e⟩<;>(have e':act=_:=e;subst e';dsimp only at hG)
  ·have hc:Z3∈[Z1,Z2,Z3,Z4,Z5]:=by simp
   walk_at "st"
   try exact h
  ·have hc:Z4∈[Z1,Z2,Z3,Z4,Z5]:=by simp
   walk_at "st"
   try exact h
  ·have hc:Z5∈[Z1,Z2,Z3,Z4,Z5]:=by simp
   walk_at "st"
   try exact h
 ·exact h.elim
theorem x6(x:Str){o:List Sk}{i:Nat}{s:Sk}(h:o[i]?=some s):aK x (o.take (i+1))=ck (aK x (o.take i)) (iV s):=by
 unfold aK;rw[mI iV h,<- List.append_assoc,f_]
theorem yr{o:List Sk}{i:Nat}{s:Sk}(h:o[i]?=some s):bV (o.take (i+1))=ck (bV (o.take i)) (jK s):=by
 unfold bV;rw[mI jK h,f_]
theorem zQ{o:List Sk}{i:Nat}{s:Sk}(h:o[i]?=some s):dA (o.take (i+1))=ck (dA (o.take i)) (m9 s):=by
 unfold dA;rw[mI m9 h,f_]
theorem BC{o:List Sk}{i:Nat}{s:Sk}(h:o[i]?=some s):hZ (o.take (i+1))=ck (hZ (o.take i)) (pP s):=by
 unfold hZ;rw[mI pP h,f_]
theorem Fa{Z1 Z2 Z3 Z4 Z5 Q5:LB}{G:Gp}{ps:List LB}{o:List Sk}{i:Nat}{d:D}(h:jI Z1 Z2 Z3 Z4 Z5 Q5 G ps o)(hd:(ps.map D.ref)[i]?=some d):∃ a s,d=.ref a/\o[i]?=some s/\G a=some (bn Z1 Z2 Z3 Z4 Z5 Q5 s):=by
 rw[L4]at hd;cases hp:ps[i]? with
 | none=>rw[hp]at hd;cases hd
 | some a=>
  rw[hp]at hd;cases hd;have hi:i < o.length:=by have:=(List.getElem?_eq_some_iff.mp hp).1;have:=h.1;omega
  exact⟨a,o[i],rfl,LP hi,h.2 i a _ hp (LP hi)⟩
theorem Co(Z1 Z2 Z3 Z4 Z5 Q5:LB)(hw:HW){σ:fO}{G:Gp}{p:LB}{pen:Str}{num time:Int}{a:Sl}{x:Str}{i:Nat}{Q:mZ}(hσ:σ[i]?=some (some (.ref p)))(hG:G p=some (bn Z1 Z2 Z3 Z4 Z5 Q5 ⟨pen,num,time,.put a x⟩))(h:Q (.str x) G):bQ [Z1,Z2,Z3,Z4,Z5] "signs" (ab i) σ G Q:=by
 unfold bQ ab;rw[hσ];simp only[bn]at hG;simp only[hG];exact⟨by simp,h⟩
theorem Em(Z1 Z2 Z3 Z4 Z5 Q5:LB)(hw:HW){σ:fO}{G:Gp}{p:LB}{pen:Str}{num time:Int}{ns:List Sl}{w:Str}{i:Nat}{Q:mZ}(hσ:σ[i]?=some (some (.ref p)))(hG:G p=some (bn Z1 Z2 Z3 Z4 Z5 Q5 ⟨pen,num,time,.dress ns w⟩))(h:Q (.str w) G):bQ [Z1,Z2,Z3,Z4,Z5] "word" (ab i) σ G Q:=by
 unfold bQ ab;rw[hσ];simp only[bn]at hG;simp only[hG];exact⟨by simp,h⟩
theorem oF(Z1 Z2 Z3 Z4 Z5 Q5:LB)(hw:HW):bI (bP Z1 Z2 Z3 Z4 Z5 Q5 hw) (eL Z1 Z2 Z3 Z4 Z5 Q5 hw) ["old","strokes","brought","stroke","name","sign"]:=by
 intro ds G Q h;unfold bP at h;split at h
 ·rename_i x xs;obtain⟨ps,o,⟨rfl,hO,hS,hx⟩,h⟩:=h;have hs:=ak;unfold eL;rw[af];walk_at "s1";have ol:(gL x.length).length=x.length:=cG _ _ _;have l0:((gL x.length).zip (BJ x)).length<=1000:=by rw[O2];omega
  refine⟨_,_,a_ D.str ((gL x.length).zip (BJ x)),⟨rfl,rfl,?_,by unfold a_;rw[LG];omega⟩,fun p hp=>?_⟩
  ·rw[vM,oh];unfold a_;rw[Mn];rfl
  rw[ul];have e0:ck [] ((gL x.length).zip (BJ x))=aK x (o.take 0):=by unfold aK;simp
  rw[e0];rw[af];have hE:fP G (gset G p (.dT hw (a_ D.str (aK x (o.take 0))))):=fP.refl.gset hp;show ForIn _ _ _ _ (ps.map D.ref) _
  refine⟨fun i σ G'=>∃ x3 x4 x5,σ=[some (.str x),some (.lst (ps.map D.ref)),some (.ref p),x3,x4,x5]/\G'=gset G p (.dT hw (a_ D.str (aK x (o.take i)))),⟨_,_,_,rfl,rfl⟩,?_,?_⟩
  ·rintro i d σ G' hd ⟨x3,x4,x5,rfl,rfl⟩
   obtain⟨a,s,rfl,hsi,hGa⟩:=Fa hO hd;have hap:a≠p:=fun z=>by subst z;rw[hp]at hGa;cases hGa
   have Sr:∀ u,gset G p u a=some (bn Z1 Z2 Z3 Z4 Z5 Q5 s):=fun u=>by rw[aj hap];exact hGa
   have swd:s.wd<=1000:=hS.2 s (LZ hsi);have bl:(aK x (o.take i)).length<=65000:=by
    have h1:=fN ((gL x.length).zip (BJ x) ++ (o.take i).flatMap iV) [];have h2:=jV hS iV (fun s hs=>qN hs) i;rw[Mz,Mv]at h1;unfold aK;omega
   have bt:=x6 x hsi;simp only[gN,My,Mb];obtain⟨pen,num,time,act⟩:=s;cases act with
   | put an w=>
    refine cB true (fun K hK=>mj Z1 Z2 Z3 Z4 Z5 Q5 hw (s:=⟨pen,num,time,.put an w⟩) (a:=a) (i:=3) true rfl (Sr _) (by simp) hK) ?_
    rw[if_pos rfl];unfold kQ Ch ae au;have mw:=mG ⟨pen,num,time,.put an w⟩;refine kz Z1 Z2 Z3 Z4 Z5 Q5 hw (p:=a) (i:=3) (s:=⟨pen,num,time,.put an w⟩) rfl (Sr _) (by walk_at "o") ?_
    refine Co Z1 Z2 Z3 Z4 Z5 Q5 hw (p:=a) (i:=3) (a:=an) (x:=w) rfl (Sr _) ?_;refine⟨_,_,⟨rfl,rfl⟩,?_⟩;rw[vM,oh];have bl2:=qN swd;refine Gw (f:=D.str) (fun _=>rfl) (m:=(made ⟨pen,num,time,.put an w⟩).zip (BJ w)) (by decide) (by decide) (by decide) (by simp) (by simp) rfl (by show _+(iV ⟨pen,num,time,.put an w⟩).length < _;omega) fun u v=>⟨_,_,_,rfl,?_⟩
    rw[bt];rfl
   | _=>
    refine cB false (fun K hK=>mj Z1 Z2 Z3 Z4 Z5 Q5 hw (s:=⟨pen,num,time,_⟩) (a:=a) (i:=3) false rfl (Sr _) (by simp) hK) ?_
    rw[if_neg Bool.false_ne_true];refine⟨_,_,_,rfl,?_⟩;rw[bt];rfl
  ·rintro σ G' ⟨x3,x4,x5,rfl,rfl⟩
   rw[LG,hO.1,Mo];exact h p hp
 ·exact h.elim
theorem p7(Z1 Z2 Z3 Z4 Z5 Q5:LB)(hw:HW):bI (cb Z1 Z2 Z3 Z4 Z5 Q5 hw) (fy Z1 Z2 Z3 Z4 Z5 Q5 hw) ["strokes","struck","stroke","name"]:=by
 intro ds G Q h;unfold cb at h;split at h
 ·rename_i xs;obtain⟨ps,o,⟨rfl,hO,hS⟩,h⟩:=h;have hs:=ak;unfold fy;rw[af];walk_at "s1";intro p hp;rw[af];show ForIn _ _ _ _ (ps.map D.ref) _
  refine⟨fun i σ G'=>∃ x2 x3,σ=[some (.lst (ps.map D.ref)),some (.ref p),x2,x3]/\G'=gset G p (.dT hw (a_ (fun _=>.bl true) (bV (o.take i)))),⟨_,_,rfl,rfl⟩,?_,?_⟩
  ·rintro i d σ G' hd ⟨x2,x3,rfl,rfl⟩
   obtain⟨a,s,rfl,hsi,hGa⟩:=Fa hO hd;have hap:a≠p:=fun z=>by subst z;rw[hp]at hGa;cases hGa
   have Sr:∀ u,gset G p u a=some (bn Z1 Z2 Z3 Z4 Z5 Q5 s):=fun u=>by rw[aj hap];exact hGa
   have swd:s.wd<=1000:=hS.2 s (LZ hsi);have bl:(bV (o.take i)).length<=65000:=by
    have h1:=fN ((o.take i).flatMap jK) [];have h2:=jV hS jK (fun s hs=>zR hs) i;rw[Mv]at h1;unfold bV;omega
   have bt:=yr hsi;simp only[gN,My,Mb];obtain⟨pen,num,time,act⟩:=s;cases act with
   | strike ns=>
    refine cB true (fun K hK=>mj Z1 Z2 Z3 Z4 Z5 Q5 hw (s:=⟨pen,num,time,.strike ns⟩) (a:=a) (i:=2) true rfl (Sr _) (by simp) hK) ?_
    rw[if_pos rfl];unfold kQ gy;have hl:ns.length<=1000:=swd;refine kt Z1 Z2 Z3 Z4 Z5 Q5 hw (p:=a) (i:=2) (s:=⟨pen,num,time,.strike ns⟩) rfl (Sr _) (.inl rfl) hl ?_;dsimp only[fF];refine Gx (f:=fun (_:Unit)=>D.bl true) (w:=()) rfl (by decide) (by simp) rfl (by walk_at "o") (fun u l K hK=>hK) fun u=>⟨_,_,rfl,?_⟩
    rw[bt];rfl
   | _=>
    refine cB false (fun K hK=>mj Z1 Z2 Z3 Z4 Z5 Q5 hw (s:=⟨pen,num,time,_⟩) (a:=a) (i:=2) false rfl (Sr _) (by simp) hK) ?_
    rw[if_neg Bool.false_ne_true];refine⟨_,_,rfl,?_⟩;rw[bt];rfl
  ·rintro σ G' ⟨x2,x3,rfl,rfl⟩
   rw[LG,hO.1,Mo];exact h p hp
 ·exact h.elim
theorem sM(Z1 Z2 Z3 Z4 Z5 Q5:LB)(hw:HW):bI (cK Z1 Z2 Z3 Z4 Z5 Q5 hw) (gQ Z1 Z2 Z3 Z4 Z5 Q5 hw) ["strokes","worn","stroke","name"]:=by
 intro ds G Q h;unfold cK at h;split at h
 ·rename_i xs;obtain⟨ps,o,⟨rfl,hO,hS⟩,h⟩:=h;have hs:=ak;unfold gQ;rw[af];walk_at "s1";intro p hp;rw[af];show ForIn _ _ _ _ (ps.map D.ref) _
  refine⟨fun i σ G'=>∃ x2 x3,σ=[some (.lst (ps.map D.ref)),some (.ref p),x2,x3]/\G'=gset G p (.dT hw (a_ D.str (hZ (o.take i)))),⟨_,_,rfl,rfl⟩,?_,?_⟩
  ·rintro i d σ G' hd ⟨x2,x3,rfl,rfl⟩
   obtain⟨a,s,rfl,hsi,hGa⟩:=Fa hO hd;have hap:a≠p:=fun z=>by subst z;rw[hp]at hGa;cases hGa
   have Sr:∀ u,gset G p u a=some (bn Z1 Z2 Z3 Z4 Z5 Q5 s):=fun u=>by rw[aj hap];exact hGa
   have swd:s.wd<=1000:=hS.2 s (LZ hsi);have bl:(hZ (o.take i)).length<=65000:=by
    have h1:=fN ((o.take i).flatMap pP) [];have h2:=jV hS pP (fun s hs=>CM hs) i;rw[Mv]at h1;unfold hZ;omega
   have bt:=BC hsi;simp only[gN,My,Mb];obtain⟨pen,num,time,act⟩:=s;cases act with
   | dress ns w=>
    refine cB true (fun K hK=>mj Z1 Z2 Z3 Z4 Z5 Q5 hw (s:=⟨pen,num,time,.dress ns w⟩) (a:=a) (i:=2) true rfl (Sr _) (by simp) hK) ?_
    rw[if_pos rfl];unfold kQ gy;have hl:ns.length<=1000:=swd;refine kt Z1 Z2 Z3 Z4 Z5 Q5 hw (p:=a) (i:=2) (s:=⟨pen,num,time,.dress ns w⟩) rfl (Sr _) (.inr (.inl ⟨w,rfl⟩)) hl ?_;dsimp only[fF];refine Gx (f:=D.str) (w:=w) rfl (by decide) (by simp) rfl (by walk_at "o") (fun u l K hK=>Em Z1 Z2 Z3 Z4 Z5 Q5 hw (p:=a) (i:=2) (ns:=ns) (w:=w) rfl (Sr _) hK) fun u=>⟨_,_,rfl,?_⟩
    rw[bt];rfl
   | _=>
    refine cB false (fun K hK=>mj Z1 Z2 Z3 Z4 Z5 Q5 hw (s:=⟨pen,num,time,_⟩) (a:=a) (i:=2) false rfl (Sr _) (by simp) hK) ?_
    rw[if_neg Bool.false_ne_true];refine⟨_,_,rfl,?_⟩;rw[bt];rfl
  ·rintro σ G' ⟨x2,x3,rfl,rfl⟩
   rw[LG,hO.1,Mo];exact h p hp
 ·exact h.elim
theorem rD(Z1 Z2 Z3 Z4 Z5 Q5:LB)(hw:HW):bI (cz Z1 Z2 Z3 Z4 Z5 Q5 hw) (fW Z1 Z2 Z3 Z4 Z5 Q5 hw) ["strokes","taken","stroke","name","slot"]:=by
 intro ds G Q h;unfold cz at h;split at h
 ·rename_i xs;obtain⟨ps,o,⟨rfl,hO,hS⟩,h⟩:=h;have hs:=ak;unfold fW;rw[af];walk_at "s1";intro p hp;rw[af];show ForIn _ _ _ _ (ps.map D.ref) _
  refine⟨fun i σ G'=>∃ x2 x3 x4,σ=[some (.lst (ps.map D.ref)),some (.ref p),x2,x3,x4]/\G'=gset G p (.dT hw (a_ Sl.d (dA (o.take i)))),⟨_,_,_,rfl,rfl⟩,?_,?_⟩
  ·rintro i d σ G' hd ⟨x2,x3,x4,rfl,rfl⟩
   obtain⟨a,s,rfl,hsi,hGa⟩:=Fa hO hd;have hap:a≠p:=fun z=>by subst z;rw[hp]at hGa;cases hGa
   have Sr:∀ u,gset G p u a=some (bn Z1 Z2 Z3 Z4 Z5 Q5 s):=fun u=>by rw[aj hap];exact hGa
   have swd:s.wd<=1000:=hS.2 s (LZ hsi);have bl:(dA (o.take i)).length<=65000:=by
    have h1:=fN ((o.take i).flatMap m9) [];have h2:=jV hS m9 (fun s hs=>yn hs) i;rw[Mv]at h1;unfold dA;omega
   have bt:=zQ hsi;simp only[gN,My,Mb];obtain⟨pen,num,time,act⟩:=s;cases act with
   | move ns an=>
    refine cB true (fun K hK=>mj Z1 Z2 Z3 Z4 Z5 Q5 hw (s:=⟨pen,num,time,.move ns an⟩) (a:=a) (i:=2) true rfl (Sr _) (by simp) hK) ?_
    rw[if_pos rfl];unfold kQ Ch ae au;have hl:ns.length<=1000:=swd;have mw:=mG ⟨pen,num,time,.move ns an⟩;refine kt Z1 Z2 Z3 Z4 Z5 Q5 hw (p:=a) (i:=2) (s:=⟨pen,num,time,.move ns an⟩) rfl (Sr _) (.inr (.inr ⟨an,rfl⟩)) hl ?_;refine kz Z1 Z2 Z3 Z4 Z5 Q5 hw (p:=a) (i:=2) (s:=⟨pen,num,time,.move ns an⟩) rfl (Sr _) (by walk_at "o") ?_
    refine⟨_,_,⟨rfl,rfl⟩,?_⟩;rw[oh];have bl2:=yn swd;refine Gw (f:=Sl.d) (fun _=>rfl) (m:=ns.zip (made ⟨pen,num,time,.move ns an⟩)) (by decide) (by decide) (by decide) (by simp) (by simp) rfl (by show _+(m9 ⟨pen,num,time,.move ns an⟩).length < _;omega) fun u v=>⟨_,_,_,rfl,?_⟩
    rw[bt];rfl
   | _=>
    refine cB false (fun K hK=>mj Z1 Z2 Z3 Z4 Z5 Q5 hw (s:=⟨pen,num,time,_⟩) (a:=a) (i:=2) false rfl (Sr _) (by simp) hK) ?_
    rw[if_neg Bool.false_ne_true];refine⟨_,_,_,rfl,?_⟩;rw[bt];rfl
  ·rintro σ G' ⟨x2,x3,x4,rfl,rfl⟩
   rw[LG,hO.1,Mo];exact h p hp
 ·exact h.elim
theorem sB{xs ys:List Sk}(h:xs.map Sk.rw=ys.map Sk.rw):xs=ys:=List.map_inj_right (f:=Sk.rw) (fun x y=>Sk.rw_inj) |>.mp h
def GV:D->Sl
 | .tup [.str q,.int n,.int k]=>⟨q,n,k⟩
 | _=>default
theorem C0(x:Sl):GV x.d=x:=rfl
theorem BK(row:List Sl)(sit:List (Sl×Sl)):((row.map Sl.d).filter fun d=>(fL sit (GV d)).isSome).map (fun d=>.tup [d,((fL sit (GV d)).getD default).d])=(row.filterMap fun s=>(fL sit s).map fun n=>(s,n)).map fun p=>D.tup [p.1.d,p.2.d]:=by
 induction row with
 | nil=>rfl
 | cons s r ih=>
  rw[L1,List.filter_cons,C0];cases e:fL sit s with
  | none=>
   rw[List.filterMap_cons_none (by rw[e];rfl)]
   simpa using ih
  | some n=>
   rw[List.filterMap_cons_some (b:=(s,n)) (by rw[e];rfl)]
   simp only[Option.isSome_some,if_true,L1,ih,C0,e,Option.getD_some]
theorem zY(Z1 Z2 Z3 Z4 Z5 Q5:LB)(hw:HW):bI (dX Z1 Z2 Z3 Z4 Z5 Q5 hw) (mD Z1 Z2 Z3 Z4 Z5 Q5 hw) ["old","strokes","standing","row","working","brought","struck","taken","worn","sitting","name","seats"]:=by
 intro ds G Q h;unfold dX at h;split at h
 ·rename_i x q0 ns;obtain⟨sks,base,names,⟨hq0,hx,one,l1,l2,sub,ok,rfl,l3⟩,h⟩:=h;have hs:=ak;have okk:∀ s∈sks,s.ok:=fun s hs'=>⟨(ok s hs').1,le_trans (mG s) (ok s hs').2⟩;unfold mD;rw[af];walk_at "s1";refine⟨sks,base,⟨by first|rfl|exact hq0,one,l1,l2,sub,okk⟩,fun out G1 hE1 st1 Uo=>?_⟩
  have lo:out.length < 64:=by
   have:=ic (fQ st1) (ys:=base.map Sk.rw) fun r hr=>by
    obtain⟨s,hs',rfl⟩:=mem_map.mp hr;exact mem_map.mpr ⟨s,sub s ((Uo s).mp hs'),rfl⟩
   rw[LG,LG]at this;omega
  have UL:(jl x.length out).length<=900000:=by
   have wl:=oE x.length out (cj [aG] aG (gL x.length)) fun s hs'=>(okk s ((Uo s).mp hs')).2;have e1:out.foldl fR (cj [aG] aG (gL x.length))=aG::jl x.length out:=r_ x.length out;have ol:(gL x.length).length=x.length:=cG _ _ _;rw[e1,dN,L0,L0,ol]at wl;omega
  rw[af];have h':=fun G' hE=>h out G' hE st1 Uo;clear h;unfold mB at h';generalize jl x.length out=row at UL h' ⊢;walk_at "s1";refine .inl ⟨row,⟨rfl,UL⟩,fun pm hpm=>?_⟩;refine⟨sks,base,names,row,⟨by first|exact (fP.refl.gset hpm) q0 _ (hE1 q0 _ hq0)|rfl,one,l1,l2,sub,fun s hs'=>(ok s hs').2,rfl,l3,rfl⟩,fun UJ ps G2 hE2 st2 UK hO2=>?_⟩
  have eo:UJ=out:=sB (ju st2 st1 fun r=>by
   constructor
   ·intro hr;obtain⟨s,hs',rfl⟩:=mem_map.mp hr;exact mem_map.mpr ⟨s,(Uo s).mpr ((UK s).mp hs'),rfl⟩
   ·intro hr;obtain⟨s,hs',rfl⟩:=mem_map.mp hr;exact mem_map.mpr ⟨s,(UK s).mpr ((Uo s).mp hs'),rfl⟩)
  subst eo;have hE3:fP G G2:=hE1.trans ((fP.refl.gset hpm).trans hE2);have sw:wf (jU UJ names row):=⟨le_trans (le_trans (MP _ _) (MP _ _)) (by walk_at "o"),fun s hs'=>(ok s ((Uo s).mp (mem_filter.mp (mem_filter.mp hs').1).1)).2⟩
  generalize jU UJ names row=w at *
  clear hE2 hpm Uo UK st1 st2 lo;rw[af];walk_at "s1";refine⟨ps,w,⟨rfl,hO2,sw⟩,fun pb hpb=>?_⟩;have hE4:fP G (gset G2 pb (.dT hw (a_ D.str (aK x w)))):=hE3.trans (fP.refl.gset hpb);have hO4:=hO2.ext (G':=gset G2 pb (.dT hw (a_ D.str (aK x w)))) (fP.refl.gset hpb);have f1:gset G2 pb (.dT hw (a_ D.str (aK x w))) pb=some (.dT hw (a_ D.str (aK x w))):=av;generalize gset G2 pb (.dT hw (a_ D.str (aK x w)))=G4 at *
  clear hE3 hO2 hpb;rw[af];walk_at "s1";refine⟨ps,w,⟨rfl,hO4,sw⟩,fun pk hpk=>?_⟩;have ne1:pb≠pk:=fun z=>by subst z;rw[f1]at hpk;cases hpk
  have hE5:fP G4 (gset G4 pk (.dT hw (a_ (fun _=>.bl true) (bV w)))):=fP.refl.gset hpk;have hO5:=hO4.ext hE5;have f2:gset G4 pk (.dT hw (a_ (fun _=>.bl true) (bV w))) pk=some (.dT hw (a_ (fun _=>.bl true) (bV w))):=av;have f1':=hE5 _ _ f1;have hE5':=hE4.trans hE5;generalize gset G4 pk (.dT hw (a_ (fun _=>.bl true) (bV w)))=G5 at *
  clear hE4 hO4 hpk hE5 f1;rw[af];walk_at "s1";refine⟨ps,w,⟨rfl,hO5,sw⟩,fun pt hpt=>?_⟩;have ne2:pb≠pt:=fun z=>by subst z;rw[f1']at hpt;cases hpt
  have ne3:pk≠pt:=fun z=>by subst z;rw[f2]at hpt;cases hpt
  have hE6:fP G5 (gset G5 pt (.dT hw (a_ Sl.d (dA w)))):=fP.refl.gset hpt;have hO6:=hO5.ext hE6;have f3:gset G5 pt (.dT hw (a_ Sl.d (dA w))) pt=some (.dT hw (a_ Sl.d (dA w))):=av;have f1:=hE6 _ _ f1';have f2':=hE6 _ _ f2;have hE6':=hE5'.trans hE6;generalize gset G5 pt (.dT hw (a_ Sl.d (dA w)))=G6 at *
  clear hE5' hO5 hpt hE6 f1' f2;rw[af];walk_at "s1";refine⟨ps,w,⟨rfl,hO6,sw⟩,fun pw hpw=>?_⟩;have ne4:pb≠pw:=fun z=>by subst z;rw[f1]at hpw;cases hpw
  have hE7:fP G6 (gset G6 pw (.dT hw (a_ D.str (hZ w)))):=fP.refl.gset hpw;have f4:gset G6 pw (.dT hw (a_ D.str (hZ w))) pw=some (.dT hw (a_ D.str (hZ w))):=av;have f1':=hE7 _ _ f1;have f2:=hE7 _ _ f2';have f3':=hE7 _ _ f3;have UZ:=hE6'.trans hE7;generalize gset G6 pw (.dT hw (a_ D.str (hZ w)))=G7 at *
  clear hE6' hO6 hpw hE7 f1 f2' f3;rw[af];walk_at "s1";intro pq hpq;have n1:pb≠pq:=fun z=>by subst z;rw[f1']at hpq;cases hpq
  have n2:pk≠pq:=fun z=>by subst z;rw[f2]at hpq;cases hpq
  have n3:pt≠pq:=fun z=>by subst z;rw[f3']at hpq;cases hpq
  have n4:pw≠pq:=fun z=>by subst z;rw[f4]at hpq;cases hpq
  rw[af];have gb:gset G7 pq (.dT hw []) pb=some (.dT hw (a_ D.str (aK x w))):=by rw[aj n1];exact f1'
  refine⟨hw,_,gb,?_⟩;clear gb;have bl:(aK x w).length<=65000:=by
   have h1:=fN ((gL x.length).zip (BJ x) ++ w.flatMap iV) [];have h2:=ui iV (o:=w) fun s hs'=>qN (sw.2 s hs');have h3:=sw.1;rw[Mz,Mv,O2,A2]at h1;unfold aK;omega
  have keys:(a_ D.str (aK x w)).map D_=(aK x w).map fun p=>p.1.d:=by
   unfold a_;rw[Mn];rfl
  rw[keys];refine⟨fun i σ G'=>∃ x10,σ=[some (.str x),some (.ref q0),some (.lst (names.map Nm.d)),some (.lst (row.map Sl.d)),some (.lst (ps.map D.ref)),some (.ref pb),some (.ref pk),some (.ref pt),some (.ref pw),some (.ref pq),x10,none]/\G'=gset (fu G7 pb) pq (.dT hw (a_ Sl.d (ck [] ((((aK x w).take i).filter fun p=>(fL (bV w) p.1).isNone).map fun p=>((fL (dA w) p.1).getD p.1,p.1))))),⟨_,rfl,?_⟩,?_,?_⟩
  ·funext b
   by_cases e1:b=pq
   ·rw[e1,cF n1.symm,av,av];rfl
   ·rw[aj e1]
    by_cases e2:b=pb
    ·rw[e2,dH,dH]
    ·rw[cF e2,cF e2,aj e1]
  ·rintro i d σ G' hd ⟨x10,rfl,rfl⟩
   rw[L4]at hd;cases hq:(aK x w)[i]? with
   | none=>rw[hq]at hd;cases hd
   | some q=>
    rw[hq]at hd;cases hd;have hi:=(List.getElem?_eq_some_iff.mp hq).1;simp only[gN,My,Mb];generalize hL:(((aK x w).take i).filter fun p=>(fL (bV w) p.1).isNone).map (fun p=>((fL (dA w) p.1).getD p.1,p.1))=L;have ll:L.length<=65000:=by
     rw[<- hL,LG];have:=MP (fun p:Sl×Str=>(fL (bV w) p.1).isNone) ((aK x w).take i);rw[Mm]at this;omega
    have pl:=fN L [];rw[Mv]at pl;have tk:(((aK x w).take (i+1)).filter fun p=>(fL (bV w) p.1).isNone).map (fun p=>((fL (dA w) p.1).getD p.1,p.1))=L ++ (if (fL (bV w) q.1).isNone=true then [((fL (dA w) q.1).getD q.1,q.1)]else []):=by
     rw[MH,hq,NI,MB,hL];congr 1
     by_cases e:(fL (bV w) q.1).isNone=true
     ·rw[if_pos e];simp[e]
     ·rw[if_neg e];simp[e]
    have gk:gset (fu G7 pb) pq (.dT hw (a_ Sl.d (ck [] L))) pk=some (.dT hw (a_ (fun _=>.bl true) (bV w))):=by rw[aj n2,cF (Ne.symm ne1)];exact f2
    have gt:gset (fu G7 pb) pq (.dT hw (a_ Sl.d (ck [] L))) pt=some (.dT hw (a_ Sl.d (dA w))):=by rw[aj n3,cF (Ne.symm ne2)];exact f3'
    refine cB (fL (bV w) q.1).isNone (fun K hK=>?_) ?_
    ·show ∃ r,cV hw _ (.ref pk) q.1.d r/\K (!r.isSome) _;refine⟨_,kA Z1 Z2 Z3 Z4 Z5 Q5 hw q.1 gk,?_⟩;rw[Option.isSome_map];cases e:fL (bV w) q.1<;>(rw[e]at hK;exact hK)
    ·by_cases e:(fL (bV w) q.1).isNone=true
     ·rw[if_pos e];show kN _ _/\∃ r,cV hw _ (.ref pt) q.1.d r/\l9 hw (.ref pq) (val (r.getD q.1.d)) q.1.d _ _
      refine⟨?_,_,kA Z1 Z2 Z3 Z4 Z5 Q5 hw q.1 gt,?_⟩
      ·unfold kN;simp only[val,gt]
      ·have ek:val (((fL (dA w) q.1).map Sl.d).getD q.1.d)=((fL (dA w) q.1).getD q.1).d:=by cases fL (dA w) q.1<;>rfl
       rw[ek];refine wu (f:=Sl.d) (w:=q.1) av (by walk_at "o") ⟨_,rfl,?_⟩
       rw[eX,tk,if_pos e,nJ]
     ·rw[if_neg e];refine⟨_,rfl,?_⟩;rw[tk,if_neg e,M8]
  ·rintro σ G' ⟨x10,rfl,rfl⟩
   rw[LG,Mo];dsimp only;have es:ck [] (((aK x w).filter fun p=>(fL (bV w) p.1).isNone).map fun p=>((fL (dA w) p.1).getD p.1,p.1))=db x w:=rfl;rw[es];have g9:gset (gset (fu G7 pb) pq (.dT hw (a_ Sl.d (db x w)))) pb (.dT hw (a_ D.str (aK x w))) pq=some (.dT hw (a_ Sl.d (db x w))):=by rw[aj n1.symm,av]
   have g5:gset (gset (fu G7 pb) pq (.dT hw (a_ Sl.d (db x w)))) pb (.dT hw (a_ D.str (aK x w))) pb=some (.dT hw (a_ D.str (aK x w))):=av;have g8:gset (gset (fu G7 pb) pq (.dT hw (a_ Sl.d (db x w)))) pb (.dT hw (a_ D.str (aK x w))) pw=some (.dT hw (a_ D.str (hZ w))):=by rw[aj ne4.symm,aj n4,cF ne4.symm];exact f4
   have gE:fP G (gset (gset (fu G7 pb) pq (.dT hw (a_ Sl.d (db x w)))) pb (.dT hw (a_ D.str (aK x w)))):=fun a o ha=>by
    have h7:=UZ a o ha
    by_cases e1:a=pb
    ·rw[e1]at h7 ⊢;rw[g5,<- h7,f1']
    ·rw[aj e1];have e2:a≠pq:=fun z=>by rw[z,hpq]at h7;cases h7
     rw[aj e2,cF e1];exact h7
   generalize gset (gset (fu G7 pb) pq (.dT hw (a_ Sl.d (db x w)))) pb (.dT hw (a_ D.str (aK x w)))=G9 at *
   clear f1' f2 f3' f4 UZ hpq n1 n2 n3 n4 ne1 ne2 ne3 ne4 bl keys es;rw[af];unfold bW e_ gy;simp only[ab,Mw,MF,fF];refine zy (fun d=>(fL (db x w) (GV d)).isSome) (fun d=>.tup [d,((fL (db x w) (GV d)).getD default).d]) (by rw[LG];omega) (fun d hd P R hP hR=>?_) ?_
   ·obtain⟨s,hs',rfl⟩:=mem_map.mp hd;rw[C0]at hP hR;refine⟨⟨by simp,rfl⟩,?_⟩
    show ∃ r,cV hw G9 (.ref pq) s.d r/\(if r.isSome=true then _ else R G9)
    refine⟨_,kA Z1 Z2 Z3 Z4 Z5 Q5 hw s g9,?_⟩;rw[Option.isSome_map];cases e:fL (db x w) s with
    | none=>
     rw[e]at hR;simp only[Option.isSome_none,Bool.false_eq_true,if_false];exact hR rfl
    | some n=>
     rw[e]at hP;simp only[Option.isSome_some,if_true];have lk:=kA Z1 Z2 Z3 Z4 Z5 Q5 hw s g9;rw[e]at lk;show ∃ d,cV hw G9 (.ref pq) s.d (some d)/\_
     exact⟨n.d,lk,by show 2<=LL;omega,hP rfl _ rfl⟩
   ·rw[BK];have eI:(row.filterMap fun s=>(fL (db x w) s).map fun n=>(s,n))=mC x w row:=rfl;rw[eI];dsimp only[val];have lI:(mC x w row).length<=900000:=le_trans (List.length_filterMap_le _ _) UL;have mem:∀ p∈mC x w row,∃ z,fL (aK x w) p.2=some z:=fun p hp=>by
     unfold mC at hp;obtain⟨s,_,e⟩:=List.mem_filterMap.mp hp;cases e2:fL (db x w) s with
     | none=>rw[e2]at e;cases e
     | some n=>
      rw[e2]at e;cases e;have m1:=Ga e2;unfold db at m1;rcases BQ m1 with m2|m2
      ·simp at m2
      ·obtain⟨q,hq,e3⟩:=mem_map.mp m2;have hq':=(mem_filter.mp hq).1;obtain⟨z,hz⟩:=EB hq';injection e3 with e4 e5
       exact⟨z,by show fL (aK x w) n=some z;rw[<- e5];exact hz⟩
    unfold br;simp only[Mw,MF,Mb,My,fF];refine gu (fun d=>match d with|.tup [a,b]=>.tup [a,b,.str ((fL (aK x w) (GV b)).getD (LI "")),.str ((fL (hZ w) (GV b)).getD (LI ""))]|d=>d) (by rw[LG];omega) (fun d hd P hP=>?_) ?_
    ·obtain⟨p,hp,rfl⟩:=mem_map.mp hd;obtain⟨z,hz⟩:=mem p hp;refine⟨rfl,⟨by simp,rfl⟩,?_⟩
     have lk:=kA Z1 Z2 Z3 Z4 Z5 Q5 hw p.2 g5;rw[hz]at lk;show ∃ d,cV hw G9 (.ref pb) p.2.d (some d)/\kN G9 _/\∃ r,cV hw G9 (.ref pw) p.2.d r/\_
     refine⟨.str z,lk,?_,_,kA Z1 Z2 Z3 Z4 Z5 Q5 hw p.2 g8,by show 4<=LL;omega,hP _ ?_⟩
     ·unfold kN;simp only[val,g8]
     ·show D.tup [p.1.d,p.2.d,.str z,val (((fL (hZ w) p.2).map D.str).getD (.str (LI "")))]=D.tup [p.1.d,p.2.d,.str ((fL (aK x w) p.2).getD (LI "")),.str ((fL (hZ w) p.2).getD (LI ""))];rw[hz];cases fL (hZ w) p.2<;>rfl
    ·have:=h' G9 gE;rw[Mn]at this;rw[Mn];exact this
 ·exact h.elim
theorem jL(s:Sl)(n:Nat):pl (n+1) s.d:=by
 intro d hd;simp only[L_,L8,or_false]at hd;rcases hd with rfl|rfl|rfl<;>cases n<;>trivial
theorem CZ(ss:List Sl)(n:Nat):∀ d∈ss.map Sl.d,pl (n+1) d:=fun d hd=>by
 obtain⟨s,_,rfl⟩:=mem_map.mp hd;exact jL s n
theorem GN{t u:pK}{σ:fO}{G:Gp}(b1 b2:Bool)(h1:∀ K:Bool->Gp->Prop,K b1 G->t σ G K)(h2:b1=false->∀ K:Bool->Gp->Prop,K b2 G->u σ G K):∀ K:Bool->Gp->Prop,K (b1 || b2) G->rp t u σ G K:=fun K hK=>by
 unfold rp;refine h1 _ ?_;cases b1 with
 | true=>rw[if_pos rfl];exact hK
 | false=>rw[if_neg (by decide)];exact h2 rfl K hK
theorem GZ{x:Str}{out:List Sk}(om:∀ s∈out,s.act.many<=1000):(jl x.length out).length<=x.length+1000*out.length:=by
 have wl:=oE x.length out (cj [aG] aG (gL x.length)) om;have e1:out.foldl fR (cj [aG] aG (gL x.length))=aG::jl x.length out:=r_ x.length out;have ol:(gL x.length).length=x.length:=cG _ _ _;rw[e1,dN,L0,L0,ol]at wl;omega
theorem yy{x:Str}{out:List Sk}{names:List Nm}(om:∀ s∈out,s.act.many<=1000):(mB x out names).length<=x.length+1000*out.length:=by
 unfold mB mC;rw[LG];exact le_trans (List.length_filterMap_le _ _) (GZ om)
def Gk:D->D
 | .tup (_::t)=>.tup t
 | d=>d
theorem BF(seats:List Seat):(seats.map Seat.d).map Gk=seats.map Seat.d3:=by rw[Mn];rfl
theorem yB(Z1 Z2 Z3 Z4 Z5 Q5:LB)(hw:HW):bI (eh Z1 Z2 Z3 Z4 Z5 Q5 hw) (kh Z1 Z2 Z3 Z4 Z5 Q5 hw) ["old","strokes","standing"]:=by
 intro ds G Q h;unfold eh at h;split at h
 ·rename_i x q0 ns;obtain⟨sks,base,names,hc,h⟩:=h;have hs:=ak;unfold kh;simp only[br,e_,gy,aY,ae,au,ab,jw,L1,N3,NR,NZ,List.replicate,Mw,MF,L0,Mv,Nat.reduceAdd,Nat.reduceSub,val,M8];refine⟨sks,base,names,hc,fun out G1 hE st mem=>?_⟩;obtain⟨_,hx,_,_,l2,sub,ok,_,_⟩:=hc;have lo:out.length < 64:=by
   have:=ic (fQ st) (ys:=base.map Sk.rw) fun r hr=>by
    obtain⟨s,hs',rfl⟩:=mem_map.mp hr;exact mem_map.mpr ⟨s,sub s ((mem s).mp hs'),rfl⟩
   rw[LG,LG]at this;omega
  have ls:=yy (x:=x) (names:=names) fun s (hs':s∈out)=>le_trans (mG s) (ok s ((mem s).mp hs')).2;refine gu Gk (by rw[LG];omega) (fun d hd P hP=>?_) ?_
  ·obtain⟨s,_,rfl⟩:=mem_map.mp hd;have ed:s.d=.tup [s.slot.d,s.name.d,.str s.sign,.str s.word]:=rfl;rw[ed]at hP ⊢;refine⟨⟨by simp[Mb,List.replicate],rfl⟩,?_⟩
   show _/\_
   refine⟨by unfold HT.sIx;simp,?_⟩
   exact hP _ rfl
  ·rw[BF];exact h out G1 hE st mem
 ·exact h.elim
theorem yD(Z1 Z2 Z3 Z4 Z5 Q5:LB)(hw:HW):bI (dB Z1 Z2 Z3 Z4 Z5 Q5 hw) (km Z1 Z2 Z3 Z4 Z5 Q5 hw) ["self"]:=by
 intro ds G Q h;unfold dB at h;split at h
 ·rename_i p;obtain⟨⟨pen,num,time,act⟩,a,x,⟨rfl,hG⟩,h⟩:=h;have hs:=ak;have hc:Z2∈[Z1,Z2,Z3,Z4,Z5]:=by simp
  unfold bn Sl.d at hG;dsimp only at hG;unfold km;walk_at "st";exact⟨by walk_at "o",by walk_at "o",h⟩
 ·exact h.elim
theorem sP(Z1 Z2 Z3 Z4 Z5 Q5:LB)(hw:HW):bI (bT Z1 Z2 Z3 Z4 Z5 Q5 hw) (gU Z1 Z2 Z3 Z4 Z5 Q5 hw) ["self"]:=by
 intro ds G Q h;unfold bT at h;split at h
 ·rename_i p;obtain⟨⟨pen,num,time,act⟩,ns,⟨rfl,hG⟩,h⟩:=h;have hs:=ak;have hc:Z3∈[Z1,Z2,Z3,Z4,Z5]:=by simp
  unfold bn at hG;dsimp only at hG;unfold gU;walk_at "st";exact⟨by walk_at "o",by walk_at "o",h⟩
 ·exact h.elim
theorem uR(Z1 Z2 Z3 Z4 Z5 Q5:LB)(hw:HW):bI (cy Z1 Z2 Z3 Z4 Z5 Q5 hw) (iU Z1 Z2 Z3 Z4 Z5 Q5 hw) ["self"]:=by
 intro ds G Q h;unfold cy at h;split at h
 ·rename_i p;obtain⟨⟨pen,num,time,act⟩,ns,w,⟨rfl,hG⟩,h⟩:=h;have hs:=ak;have hc:Z4∈[Z1,Z2,Z3,Z4,Z5]:=by simp
  unfold bn at hG;dsimp only at hG;unfold iU;walk_at "st";exact⟨by walk_at "o",by walk_at "o",h⟩
 ·exact h.elim
theorem wG(Z1 Z2 Z3 Z4 Z5 Q5:LB)(hw:HW):bI (cP Z1 Z2 Z3 Z4 Z5 Q5 hw) (jr Z1 Z2 Z3 Z4 Z5 Q5 hw) ["self"]:=by
 intro ds G Q h;unfold cP at h;split at h
 ·rename_i p;obtain⟨⟨pen,num,time,act⟩,ns,a,⟨rfl,hG⟩,h⟩:=h;have hs:=ak;have hc:Z5∈[Z1,Z2,Z3,Z4,Z5]:=by simp
  unfold bn at hG;dsimp only at hG;have ea:a.d=.tup [.str a.pen,.int a.n,.int a.k]:=rfl;rw[ea]at hG;unfold jr;walk_at "st";exact⟨by walk_at "o",by walk_at "o",h⟩
 ·exact h.elim
theorem xN(Z1 Z2 Z3 Z4 Z5 Q5:LB)(hw:HW){σ:fO}{G:Gp}{p:LB}{i j:Nat}{vs:List D}{v:D}{Q:mZ}(hσ:σ[i]?=some (some (.ref p)))(hG:G p=some (.ins Q5 ai vs))(hv:vs[j]?=some v)(h:Q v G):iF Q5 ai j (ab i) σ G Q:=by
 unfold iF ab;rw[hσ];dsimp only;rw[hG];dsimp only
 first
 | (rw[hv];exact⟨⟨rfl,rfl⟩,h⟩)
 | (refine⟨⟨rfl,rfl⟩,?_⟩;rw[hv];exact h)
 | exact⟨⟨rfl,rfl⟩,v,hv,h⟩
theorem A3{hw0:List aH->Int}{to ti te:bH}{E:Ends3}{σ:fO}{G:Gp}{o i v:D}(hv:∀ Q:mZ,Q v G->te σ G Q)(ho:∀ Q:mZ,Q o G->to σ G Q)(hi:∀ Q:mZ,Q i G->ti σ G Q)(h:l9 hw0 (val o) (val i) (val v) G fun G4=>E.nx σ G4):d7 hw0 to ti te E σ G:=hv _ (ho _ (hi _ h))
theorem pE(Z1 Z2 Z3 Z4 Z5 Q5:LB)(hw:HW){σ:fO}{G:Gp}{p:LB}{s:Sk}{i:Nat}{Q:mZ}(hσ:σ[i]?=some (some (.ref p)))(hG:G p=some (bn Z1 Z2 Z3 Z4 Z5 Q5 s))(h:Q (.tup [.str s.pen,.int s.num]) G):bQ [Z1,Z2,Z3,Z4,Z5] "name" (ab i) σ G Q:=by
 obtain⟨pen,num,time,act⟩:=s;unfold bQ ab;rw[hσ];cases act<;>(simp only[bn]at hG;simp only[hG];refine⟨by simp,?_⟩;first|exact h)
theorem En(Z1 Z2 Z3 Z4 Z5 Q5:LB)(hw:HW){σ:fO}{G:Gp}{p:LB}{s:Sk}{i:Nat}{Q:mZ}(hσ:σ[i]?=some (some (.ref p)))(hG:G p=some (bn Z1 Z2 Z3 Z4 Z5 Q5 s))(h:Q (.int s.time) G):bQ [Z1,Z2,Z3,Z4,Z5] "time" (ab i) σ G Q:=by
 obtain⟨pen,num,time,act⟩:=s;unfold bQ ab;rw[hσ];cases act<;>(simp only[bn]at hG;simp only[hG];refine⟨by simp,?_⟩;first|exact h)
theorem DX(Z1 Z2 Z3 Z4 Z5 Q5:LB)(hw:HW){σ:fO}{G:Gp}{p:LB}{s:Sk}{i:Nat}{Q:mZ}(hσ:σ[i]?=some (some (.ref p)))(hG:G p=some (bn Z1 Z2 Z3 Z4 Z5 Q5 s))(h:Q s.d G):
  fk [(Z2,dB Z1 Z2 Z3 Z4 Z5 Q5 hw),(Z3,bT Z1 Z2 Z3 Z4 Z5 Q5 hw),(Z4,cy Z1 Z2 Z3 Z4 Z5 Q5 hw),(Z5,cP Z1 Z2 Z3 Z4 Z5 Q5 hw)] "row" [] (ab i) au σ G Q:=by
 obtain⟨pen,num,time,act⟩:=s;unfold fk ab;rw[hσ];cases act with
 | put a x=>
  have hG':=hG;simp only[bn]at hG;simp only[hG];exact⟨by decide +kernel,dB Z1 Z2 Z3 Z4 Z5 Q5 hw,by simp,⟨_,a,x,⟨rfl,hG'⟩,h⟩⟩
 | strike ns=>
  have hG':=hG;simp only[bn]at hG;simp only[hG];exact⟨by decide +kernel,bT Z1 Z2 Z3 Z4 Z5 Q5 hw,by simp,⟨_,ns,⟨rfl,hG'⟩,h⟩⟩
 | dress ns w=>
  have hG':=hG;simp only[bn]at hG;simp only[hG];exact⟨by decide +kernel,cy Z1 Z2 Z3 Z4 Z5 Q5 hw,by simp,⟨_,ns,w,⟨rfl,hG'⟩,h⟩⟩
 | move ns a=>
  have hG':=hG;simp only[bn]at hG;simp only[hG];exact⟨by decide +kernel,cP Z1 Z2 Z3 Z4 Z5 Q5 hw,by simp,⟨_,ns,a,⟨rfl,hG'⟩,h⟩⟩
theorem uL(Z1 Z2 Z3 Z4 Z5 Q5:LB)(hw:HW):bI (cv Z1 Z2 Z3 Z4 Z5 Q5 hw) (iP Z1 Z2 Z3 Z4 Z5 Q5 hw) ["at","length"]:=by
 intro ds G Q h;unfold cv at h;split at h
 ·obtain⟨⟨h1,h2⟩,h⟩:=h;unfold iP;walk_at "st";rw[decide_eq_true True.intro];exact True.intro
 ·exact h.elim
theorem oH(Z1 Z2 Z3 Z4 Z5 Q5:LB)(hw:HW):bI (aT Z1 Z2 Z3 Z4 Z5 Q5 hw) (eN Z1 Z2 Z3 Z4 Z5 Q5 hw) ["at","to","length"]:=by
 intro ds G Q h;unfold aT at h;split at h
 ·obtain⟨⟨h1,h2,h3,h4⟩,h⟩:=h;unfold eN;walk_at "st";rw[decide_eq_true True.intro];exact True.intro
 ·exact h.elim
theorem oK(Z1 Z2 Z3 Z4 Z5 Q5:LB)(hw:HW):bI (bo Z1 Z2 Z3 Z4 Z5 Q5 hw) (eP Z1 Z2 Z3 Z4 Z5 Q5 hw) ["self"]:=by
 intro ds G Q h;unfold bo at h;split at h
 ·rename_i p;obtain⟨P,d,s,g,⟨⟨g1,g2,g3,g4⟩,ok⟩,h⟩:=h;have hs:=ak;have l1:=ok.ls;unfold eP;walk_at "st";refine⟨by rw[LG];omega,fun i acc G'=>acc=(((P.sks.take i).filter fun s=>!ik P s.nm).map Sk.nm).map Nm.d/\G'=G,⟨rfl,rfl⟩,fun i acc G' hp=>by rw[hp.2];exact g2,?_,?_⟩
  ·rintro i dd acc G' hd ⟨rfl,rfl⟩
   rw[L4]at hd;cases hq:P.sks[i]? with
   | none=>rw[hq]at hd;cases hd
   | some k=>
    rw[hq]at hd;cases hd;obtain⟨w,hw0⟩:=ok.kn k (LZ hq);have tk:((P.sks.take (i+1)).filter fun s=>!ik P s.nm)=((P.sks.take i).filter fun s=>!ik P s.nm) ++ if (!ik P k.nm)=true then [k]else []:=by
     rw[MH,hq,NI];congr 1
     by_cases z:(!ik P k.nm)=true
     ·rw[if_pos z];exact List.filter_cons_of_pos z
     ·rw[if_neg z];exact List.filter_cons_of_neg z
    have wk:ik P k.nm=eJ (.str w) (.str (LI "wiped")):=by unfold ik;rw[hw0];rfl
    have ed:k.d=.tup [.tup [.str k.pen,.int k.num],.int k.time,k.act.d]:=rfl;rw[ed];refine⟨⟨by simp[Mb,List.replicate],rfl⟩,?_⟩
    have hk:dy P.st [.inr k.pen,.inl k.num]=some (.str w):=hw0;clear ok;have tk':(((P.sks.take (i+1)).filter fun s=>!ik P s.nm).map Sk.nm).map Nm.d=(((P.sks.take i).filter fun s=>!ik P s.nm).map Sk.nm).map Nm.d ++ if (!ik P k.nm)=true then [.tup [.str k.pen,.int k.num]]else []:=by
     rw[tk,MB,MB];congr 1;split<;>rfl
    clear tk;generalize (((P.sks.take i).filter fun s=>!ik P s.nm).map Sk.nm).map Nm.d=A0 at *
    rw[wk]at tk';walk_at "st"
    by_cases z:(!eJ (.str w) (.str (LI "wiped")))=true
    ·rw[if_pos z,if_pos z]
    ·rw[if_neg z,if_neg z,M8]
  ·rintro acc G' ⟨rfl,rfl⟩
   rw[LG,Mo];exact h
 ·exact h.elim
theorem oM(Z1 Z2 Z3 Z4 Z5 Q5:LB)(hw:HW):bI (aV Z1 Z2 Z3 Z4 Z5 Q5 hw) (eQ Z1 Z2 Z3 Z4 Z5 Q5 hw) ["self"]:=by
 intro ds G Q h;unfold aV at h;split at h
 ·rename_i p;obtain⟨P,d,s,g,⟨⟨g1,g2,g3,g4⟩,ok⟩,h⟩:=h;have hs:=ak;unfold eQ;walk_at "st"
 ·exact h.elim
theorem kS(Z1 Z2 Z3 Z4 Z5 Q5:LB)(hw:HW):bI (aD Z1 Z2 Z3 Z4 Z5 Q5 hw) (df Z1 Z2 Z3 Z4 Z5 Q5 hw) ["self","pen"]:=by
 intro ds G Q h;unfold aD at h;split at h
 ·rename_i p pen;obtain⟨P,d,s,g,⟨⟨g1,g2,g3,g4⟩,gi⟩,h⟩:=h;have hs:=ak;unfold df;unfold Pp.num at h;cases e:dy P.gr (.inr pen) with
  | none=>
   rw[e]at h;walk_at "st";exact⟨by walk_at "o",h⟩
  | some v=>
   obtain⟨m,rfl,_⟩:=gi _ _ e;rw[e]at h;walk_at "st";exact⟨by walk_at "o",h⟩
 ·exact h.elim
theorem kR(Z1 Z2 Z3 Z4 Z5 Q5:LB)(hw:HW):bI (aB Z1 Z2 Z3 Z4 Z5 Q5 hw) (de Z1 Z2 Z3 Z4 Z5 Q5 hw) ["self"]:=by
 intro ds G Q h;unfold aB at h;split at h
 ·rename_i p;obtain⟨P,d,s,g,⟨g1,g2,g3,g4⟩,h⟩:=h;unfold de;walk_at "st"
 ·exact h.elim
theorem kU(Z1 Z2 Z3 Z4 Z5 Q5:LB)(hw:HW):bI (bh Z1 Z2 Z3 Z4 Z5 Q5 hw) (dh Z1 Z2 Z3 Z4 Z5 Q5 hw) ["self","name"]:=by
 intro ds G Q h;unfold bh at h;split at h
 ·rename_i p a b;obtain⟨P,d,s,g,w,⟨⟨g1,g2,g3,g4⟩,hk⟩,h⟩:=h;unfold dh;walk_at "st";exact iteF True.intro
 ·exact h.elim
theorem rH(Z1 Z2 Z3 Z4 Z5 Q5:LB)(hw:HW):bI (bL Z1 Z2 Z3 Z4 Z5 Q5 hw) (f6 Z1 Z2 Z3 Z4 Z5 Q5 hw) ["self","name"]:=by
 intro ds G Q h;unfold bL at h;split at h
 ·rename_i p a b;obtain⟨P,d,s,g,w,⟨⟨g1,g2,g3,g4⟩,hk⟩,h⟩:=h;unfold f6;rw[af];walk_at "s1";exact⟨P,d,s,g,w,⟨g1,g2,g3,g4⟩,hk⟩
 ·exact h.elim
theorem kT(Z1 Z2 Z3 Z4 Z5 Q5:LB)(hw:HW):bI (aN Z1 Z2 Z3 Z4 Z5 Q5 hw) (dg Z1 Z2 Z3 Z4 Z5 Q5 hw) ["self","name"]:=by
 intro ds G Q h;unfold aN at h;split at h
 ·rename_i p a b;obtain⟨P,d,s,g,⟨⟨g1,g2,g3,g4⟩,hk⟩,h⟩:=h;unfold dg;walk_at "st";refine⟨P,d,s,g,_,⟨⟨g1,g2,g3,g4⟩,hk⟩,?_⟩;rw[bc];exact iteF True.intro
 ·exact h.elim
theorem sQ(Z1 Z2 Z3 Z4 Z5 Q5:LB)(hw:HW):bI (cM Z1 Z2 Z3 Z4 Z5 Q5 hw) (gV Z1 Z2 Z3 Z4 Z5 Q5 hw) ["self","name"]:=by
 intro ds G Q h;unfold cM at h;split at h
 ·rename_i p a b;obtain⟨P,d,s,g,⟨⟨g1,g2,g3,g4⟩,hk,l2⟩,h⟩:=h;have hs:=ak;unfold gV;rw[af];walk_at "s1";refine⟨P,d,s,g,⟨⟨g1,g2,g3,g4⟩,hk⟩,by walk_at "o",h _ (fun x o hx hG=>?_) ⟨?_,?_,av,?_⟩⟩
  ·rw[aj (fun z=>hx (by rw[z];simp))]
   exact hG
  ·rw[aj (fun z=>by rw[z,g3]at g1;cases g1)]
   exact g1
  ·rw[aj (fun z=>by rw[z,g3]at g2;cases g2)]
   exact g2
  ·rw[aj (fun z=>by rw[z,g3]at g4;cases g4)]
   exact g4
 ·exact h.elim
theorem sR(Z1 Z2 Z3 Z4 Z5 Q5:LB)(hw:HW):bI (bU Z1 Z2 Z3 Z4 Z5 Q5 hw) (gW Z1 Z2 Z3 Z4 Z5 Q5 hw) ["self"]:=by
 intro ds G Q h;unfold bU at h;split at h
 ·rename_i p;obtain⟨P,d,s,g,⟨⟨g1,g2,g3,g4⟩,ok⟩,h⟩:=h;have hs:=ak;have o1:=ok.lo;have o2:=ok.ls;have un:P.unw.length<=P.sks.length:=by
   unfold Pp.unw;rw[LG];exact MP _ _
  have sk:∀ k∈P.sks,1<=k.num/\k.wd<=1000:=fun k hk=>⟨(ok.sk k hk).1,le_trans (ok.sk k hk).2.1 (by decide)⟩
  unfold gW;walk_at "st";refine⟨P,d,s,g,⟨⟨g1,g2,g3,g4⟩,ok⟩,P.sks,P.sks,P.unw,⟨rfl,by walk_at "o",wb ok.ap,by walk_at "o",by walk_at "o",fun k hk=>hk,sk,rfl,by walk_at "o"⟩,fun out G' hE so mo=>h out G' hE ⟨so,mo⟩⟩
 ·exact h.elim
theorem rJ(Z1 Z2 Z3 Z4 Z5 Q5:LB)(hw:HW):bI (aF Z1 Z2 Z3 Z4 Z5 Q5 hw) (f7 Z1 Z2 Z3 Z4 Z5 Q5 hw) ["self"]:=by
 intro ds G Q h;unfold aF at h;split at h
 ·rename_i p;obtain⟨P,d,s,g,⟨⟨g1,g2,g3,g4⟩,ok⟩,h⟩:=h;have hs:=ak;have o1:=ok.lo;have o2:=ok.ls;have un:P.unw.length<=P.sks.length:=by
   unfold Pp.unw;rw[LG];exact MP _ _
  have sk:∀ k∈P.sks,1<=k.num/\k.wd<=1000:=fun k hk=>⟨(ok.sk k hk).1,le_trans (ok.sk k hk).2.1 (by decide)⟩
  unfold f7;walk_at "st";refine⟨P,d,s,g,⟨⟨g1,g2,g3,g4⟩,ok⟩,P.sks,P.sks,P.unw,⟨rfl,by walk_at "o",wb ok.ap,by walk_at "o",by walk_at "o",fun k hk=>hk,sk,rfl,by walk_at "o"⟩,fun out G' hE so mo=>h out G' hE ⟨so,mo⟩⟩
 ·exact h.elim
theorem sU(Z1 Z2 Z3 Z4 Z5 Q5:LB)(hw:HW):bI (be Z1 Z2 Z3 Z4 Z5 Q5 hw) (gZ Z1 Z2 Z3 Z4 Z5 Q5 hw) ["self","stroke"]:=by
 intro ds G Q h;unfold be at h;split at h
 ·rename_i p a;obtain⟨P,d,s,g,k,⟨⟨g1,g2,g3,g4⟩,ga,l1,l2,l3⟩,h⟩:=h;have hs:=ak;have npd:p≠d:=fun z=>by rw[z,g2]at g1;cases g1
  have nps:p≠s:=fun z=>by rw[z,g3]at g1;cases g1
  have npg:p≠g:=fun z=>by rw[z,g4]at g1;cases g1
  have nds:d≠s:=fun z=>by rw[z,g3]at g2;cases g2
  have ndg:d≠g:=fun z=>by rw[z,g4]at g2;cases g2
  have nsg:s≠g:=fun z=>by rw[z,g4]at g3;cases g3
  obtain⟨C,L,fs,eo⟩:=qt Z1 Z2 Z3 Z4 Z5 Q5 k;have gx:G a=some (.ins C L fs):=ga.trans (by rw[eo])
  have nad:a≠d:=fun z=>by rw[z,g2]at gx;cases gx
  have nas:a≠s:=fun z=>by rw[z,g3]at gx;cases gx
  have nag:a≠g:=fun z=>by rw[z,g4]at gx;cases gx
  unfold gZ;rw[af];unfold cR gn;refine xN Z1 Z2 Z3 Z4 Z5 Q5 hw (i:=0) rfl g1 rfl ?_;refine⟨⟨_,g2⟩,?_⟩;unfold ae;refine DX Z1 Z2 Z3 Z4 Z5 Q5 hw (i:=1) rfl ga ?_;unfold au;dsimp only;rw[g2];dsimp only;refine⟨by rw[LG];omega,?_⟩
  have e1:(P.sks.map Sk.d) ++ [val k.d]=(P.sks ++ [k]).map Sk.d:=by rw[MB];rfl
  rw[e1];clear e1;have h1:gset G d (.lst ((P.sks ++ [k]).map Sk.d)) p=_:=(aj npd).trans g1;have h2:gset G d (.lst ((P.sks ++ [k]).map Sk.d)) d=_:=av;have h3:gset G d (.lst ((P.sks ++ [k]).map Sk.d)) s=_:=(aj nds.symm).trans g3;have h4:gset G d (.lst ((P.sks ++ [k]).map Sk.d)) g=_:=(aj ndg.symm).trans g4;have ha:gset G d (.lst ((P.sks ++ [k]).map Sk.d)) a=_:=(aj nad).trans ga;have ho:wg [p,d,s,g] G (gset G d (.lst ((P.sks ++ [k]).map Sk.d))):=fun x o hx hG=>(aj fun z=>hx (by rw[z];simp)).trans hG
  generalize gset G d (.lst ((P.sks ++ [k]).map Sk.d))=G1 at *
  clear g1 g2 g3 g4 ga gx;rw[af];refine A3 (v:=.str (LI "waits")) (o:=.ref s) (i:=.tup [.str k.pen,.int k.num]) (fun Q h=>h) (fun Q h=>xN Z1 Z2 Z3 Z4 Z5 Q5 hw (i:=0) rfl h1 rfl h) (fun Q h=>pE Z1 Z2 Z3 Z4 Z5 Q5 hw (i:=1) rfl ha h) ?_;unfold l9;dsimp only[val];rw[h3];refine⟨rfl,k.nm.key,rfl,by walk_at "o",?_⟩
  have i1:gset G1 s (.dT hw (bF P.st k.nm.key (.str (LI "waits")))) p=_:=(aj nps).trans h1;have i2:gset G1 s (.dT hw (bF P.st k.nm.key (.str (LI "waits")))) d=_:=(aj nds).trans h2;have i3:gset G1 s (.dT hw (bF P.st k.nm.key (.str (LI "waits")))) s=_:=av;have i4:gset G1 s (.dT hw (bF P.st k.nm.key (.str (LI "waits")))) g=_:=(aj nsg.symm).trans h4;have ia:gset G1 s (.dT hw (bF P.st k.nm.key (.str (LI "waits")))) a=_:=(aj nas).trans ha;have io:wg [p,d,s,g] G (gset G1 s (.dT hw (bF P.st k.nm.key (.str (LI "waits"))))):=fun x o hx hG=>(aj fun z=>hx (by rw[z];simp)).trans (ho x o hx hG)
  generalize gset G1 s (.dT hw (bF P.st k.nm.key (.str (LI "waits"))))=G2 at *
  clear h1 h2 h3 h4 ha ho;rw[af];refine A3 (v:=.int k.num) (o:=.ref g) (i:=.str k.pen) (fun Q h=>by unfold bG;exact pE Z1 Z2 Z3 Z4 Z5 Q5 hw (i:=1) rfl ia h) (fun Q h=>xN Z1 Z2 Z3 Z4 Z5 Q5 hw (i:=0) rfl i1 rfl h) (fun Q h=>by unfold bG;exact pE Z1 Z2 Z3 Z4 Z5 Q5 hw (i:=1) rfl ia h) ?_
  unfold l9;dsimp only[val];rw[i4];refine⟨.inr k.pen,rfl,by walk_at "o",?_⟩
  have j1:gset G2 g (.dK (bF P.gr (.inr k.pen) (.int k.num))) p=_:=(aj npg).trans i1;have j2:gset G2 g (.dK (bF P.gr (.inr k.pen) (.int k.num))) d=_:=(aj ndg).trans i2;have j3:gset G2 g (.dK (bF P.gr (.inr k.pen) (.int k.num))) s=_:=(aj nsg).trans i3;have j4:gset G2 g (.dK (bF P.gr (.inr k.pen) (.int k.num))) g=_:=av;have ja:gset G2 g (.dK (bF P.gr (.inr k.pen) (.int k.num))) a=_:=(aj nag).trans ia;have jo:wg [p,d,s,g] G (gset G2 g (.dK (bF P.gr (.inr k.pen) (.int k.num)))):=fun x o hx hG=>(aj fun z=>hx (by rw[z];simp)).trans (io x o hx hG)
  generalize gset G2 g (.dK (bF P.gr (.inr k.pen) (.int k.num)))=G3 at *
  clear i1 i2 i3 i4 ia io;rw[af];unfold A5;refine En Z1 Z2 Z3 Z4 Z5 Q5 hw (i:=1) (p:=a) (σ:=[some (.ref p),some (.ref a)]) rfl ja ?_;show (match G3 p with|some (.ins C' L' ds)=>_|_=>False)
  rw[j1];refine⟨⟨rfl,rfl⟩,?_⟩;have npa:a≠p:=fun z=>by
   rw[z,j1]at ja;obtain⟨pen,num,time,act⟩:=k;cases act<;>cases ja
  dsimp only;unfold br;refine pE Z1 Z2 Z3 Z4 Z5 Q5 hw (i:=1) (p:=a) (σ:=[some (.ref p),some (.ref a)]) rfl ((aj npa).trans ja) ?_;exact h _ (fun x o hx hG=>(aj fun z=>hx (by rw[z];simp)).trans (jo x o hx hG)) ⟨av,(aj npd.symm).trans j2,(aj nps.symm).trans j3,(aj npg.symm).trans j4⟩
 ·exact h.elim
theorem nF(Z1 Z2 Z3 Z4 Z5 Q5:LB)(hw:HW):bI (bD Z1 Z2 Z3 Z4 Z5 Q5 hw) (ee Z1 Z2 Z3 Z4 Z5 Q5 hw) ["self","old"]:=by
 intro ds G Q h;unfold bD at h;split at h
 ·rename_i p x;obtain⟨g1,h⟩:=h;have hs:=ak;unfold ee;rw[af];walk_at "s1";rw[af];walk_at "s1";refine⟨by walk_at "o",fun d hd=>?_⟩
  have npd:p≠d:=fun z=>by rw[<- z,av]at hd;cases hd
  have hd0:G d=none:=by rwa[aj npd.symm]at hd
  rw[aj npd,av];dsimp only;refine⟨⟨rfl,rfl⟩,?_⟩;rw[af];generalize hG1:gset (gset (gset G p _) d _) p _=G1;have a1:G1 p=some (.ins Q5 ["old","drawn"] [.str x,.ref d]):=by rw[<- hG1];exact av
  have a2:G1 d=some (.lst []):=by rw[<- hG1,aj npd.symm];exact av
  have a0:∀ y o,y≠p->y≠d->G y=some o->G1 y=some o:=fun y o h1 h2 hG=>by rw[<- hG1,aj h1,aj h2,aj h1];exact hG
  clear hG1;walk_at "s1";intro s hs1;have nps:p≠s:=fun z=>by rw[<- z,a1]at hs1;cases hs1
  have nds:d≠s:=fun z=>by rw[<- z,a2]at hs1;cases hs1
  rw[aj nps,a1];dsimp only;refine⟨⟨rfl,rfl⟩,?_⟩;rw[af];generalize hG2:gset (gset G1 s _) p _=G2;have b1:G2 p=some (.ins Q5 ["old","drawn","states"] [.str x,.ref d,.ref s]):=by rw[<- hG2];exact av
  have b2:G2 d=some (.lst []):=by rw[<- hG2,aj npd.symm,aj nds];exact a2
  have b3:G2 s=some (.dT hw []):=by rw[<- hG2,aj nps.symm];exact av
  have b0:∀ y o,y≠p->y≠d->y≠s->G y=some o->G2 y=some o:=fun y o h1 h2 h3 hG=>by rw[<- hG2,aj h1,aj h3];exact a0 y o h1 h2 hG
  clear hG2 a1 a2 a0 hs1;walk_at "s1";intro g hg;have npg:p≠g:=fun z=>by rw[<- z,b1]at hg;cases hg
  have ndg:d≠g:=fun z=>by rw[<- z,b2]at hg;cases hg
  have nsg:s≠g:=fun z=>by rw[<- z,b3]at hg;cases hg
  rw[aj npg,b1];dsimp only;refine⟨⟨rfl,rfl⟩,?_⟩;walk_at "st";refine h d s g _ (fun y o hy hG=>?_) ⟨av,?_,?_,?_⟩
  ·simp only[L_,L8,or_false,not_or]at hy;rw[aj hy.1,aj hy.2.2.2];exact b0 y o hy.1 hy.2.1 hy.2.2.1 hG
  ·rw[aj npd.symm,aj ndg];exact b2
  ·rw[aj nps.symm,aj nsg];exact b3
  ·rw[aj npg.symm];exact av
 ·exact h.elim
theorem F8{seats:List Seat}{i:Int}(h0:0<=i)(h1:i < seats.length):jJ (seats.map Seat.d) i=some (seats[i.toNat]'(by walk_at "o")).d:=by
 have:=pI (ds:=seats.map Seat.d) (i:=i) h0 (by rw[LG];omega)
 rw[this,Oq]
def DV:D->D
 | .tup (_::d::_)=>d
 | d=>d
theorem vU(seats:List Seat):(seats.map Seat.d).map DV=(seats.map Seat.name).map Sl.d:=by rw[Mn,Mn];rfl
theorem oG(Z1 Z2 Z3 Z4 Z5 Q5:LB)(hw:HW):bI (aS Z1 Z2 Z3 Z4 Z5 Q5 hw) (eM Z1 Z2 Z3 Z4 Z5 Q5 hw) ["seats","at","to"]:=by
 intro ds G Q h;unfold aS at h;split at h
 ·rename_i xs i j;obtain⟨seats,⟨rfl,h0,h1,h2,h3⟩,h⟩:=h;have hs:=ak;unfold eM;walk_at "st";have ec:L3.cutD (seats.map Seat.d) (some i) (some j)=((seats.drop i.toNat).take (j - i).toNat).map Seat.d:=by
   rw[pH h0 (by walk_at "o"),List.map_take,List.map_drop]
   congr 1;omega
  rw[ec];refine gu DV (by rw[LG];exact le_trans (List.length_take_le' _ _) (by rw[N8];omega)) (fun d hd P hP=>?_) ?_
  ·obtain⟨s,_,rfl⟩:=mem_map.mp hd;have ed:s.d=.tup [s.slot.d,s.name.d,.str s.sign,.str s.word]:=rfl;rw[ed]at hP ⊢;refine⟨⟨by simp[Mb,List.replicate],rfl⟩,?_⟩
   exact hP _ rfl
  ·rw[vU];exact h
 ·exact h.elim
theorem hX.off{C:LB}{hw0:List aH->Int}{G:Gp}{p d s g a:LB}{P:Pp}{o:GO}(h:hX C hw0 G p d s g P)(ha:G a=none):hX C hw0 (gset G a o) p d s g P:=by
 have ne:∀ {b:LB} {u:GO},G b=some u->b≠a:=fun hb z=>by rw[z,ha]at hb;cases hb
 obtain⟨h1,h2,h3,h4⟩:=h;exact⟨(aj (ne h1)).trans h1,(aj (ne h2)).trans h2,(aj (ne h3)).trans h3,(aj (ne h4)).trans h4⟩
theorem hX.ext{C:LB}{hw0:List aH->Int}{G G':Gp}{p d s g:LB}{P:Pp}(h:hX C hw0 G p d s g P)(e:fP G G'):hX C hw0 G' p d s g P:=⟨e _ _ h.1,e _ _ h.2.1,e _ _ h.2.2.1,e _ _ h.2.2.2⟩
theorem Pp.ok.le{P:Pp}{n m:Nat}(h:P.ok n)(hl:n<=m):P.ok m:=⟨h.lo,le_trans h.ls hl,le_trans h.lt hl,le_trans h.lg hl,h.sk,h.ap,h.kn,h.gi,h.gm⟩
theorem EY{P:Pp}{out:List Sk}(so:Srt P out):out.length<=P.sks.length:=by
 have:=ic (fQ so.1) (ys:=P.sks.map Sk.rw) fun r hr=>by
  obtain⟨s,hs',rfl⟩:=mem_map.mp hr;exact mem_map.mpr ⟨s,(so.2 s).mp hs',rfl⟩
 rwa[LG,LG]at this
theorem jW{P:Pp}{out:List Sk}(ok:P.ok 50)(so:Srt P out):(P.seats out).length<=60000:=by
 have h1:=yy (x:=P.old) (out:=out) (names:=P.unw) fun s hs'=>le_trans (mG s) (le_trans (ok.sk s ((so.2 s).mp hs')).2.1 (by decide))
 have h2:=EY so;have h3:=ok.ls;have h4:=ok.lo;unfold Pp.seats;omega
theorem xh{G G1 G':Gp}{a p d s g:LB}{o:GO}(e:fP G G1)(ha:G1 a=none)(h:wg [p,d,s,g] (gset G1 a o) G'):wg [p,d,s,g] G G':=fun x u hx hG=>h x u hx ((aj fun z=>by rw[<- z,e x u hG]at ha;cases ha).trans (e x u hG))
theorem qa(Z1 Z2 Z3 Z4 Z5 Q5:LB)(hw:HW):bI (cf Z1 Z2 Z3 Z4 Z5 Q5 hw) (fE Z1 Z2 Z3 Z4 Z5 Q5 hw) ["self","pen","at","to","seats"]:=by
 intro ds G Q h;unfold cf at h;split at h
 ·rename_i p pen i j;obtain⟨P,d,s,g,⟨⟨g1,g2,g3,g4⟩,ok⟩,h⟩:=h;have hs:=ak;have ok':P.ok 50:=ok.le (by decide)
  have ls:=ok.ls;have lt:=ok.lt;have lg:=ok.lg;have gi:=ok.gi;unfold fE;rw[af];walk_at "s1";refine⟨P,d,s,g,⟨⟨g1,g2,g3,g4⟩,ok'⟩,fun out G1 hE so=>?_⟩;obtain⟨⟨c1,c2,c3,c4⟩,h⟩:=h out so;have k1:=hE _ _ g1;have k2:=hE _ _ g2;have k3:=hE _ _ g3;have k4:=hE _ _ g4;rw[af];walk_at "s1";have sb:=jW ok' so;have pa:hX Q5 hw G1 p d s g P:=⟨k1,k2,k3,k4⟩;refine⟨⟨by rw[LG];exact c2,by rw[LG];exact c4⟩,P,d,s,g,⟨pa,gi⟩,P,d,s,g,pa,P.seats out,⟨rfl,by walk_at "o",c4,by walk_at "o"⟩,fun a ha=>⟨pen,_,rfl,P,d,s,g,⟨pen,P.num pen,P.time+1,.strike ((((P.seats out).drop i.toNat).take (j - i).toNat).map Seat.name)⟩,⟨pa.off ha,?_⟩,fun G' of pt=>h G' (xh hE ha of) pt⟩⟩
  exact⟨rfl,by walk_at "o",by walk_at "o",by walk_at "o"⟩
 ·exact h.elim
theorem sS(Z1 Z2 Z3 Z4 Z5 Q5:LB)(hw:HW):bI (cN Z1 Z2 Z3 Z4 Z5 Q5 hw) (gX Z1 Z2 Z3 Z4 Z5 Q5 hw) ["self","pen","at"]:=by
 intro ds G Q h;unfold cN at h;split at h
 ·rename_i p pen i;obtain⟨P,d,s,g,⟨⟨g1,g2,g3,g4⟩,ok⟩,h⟩:=h;unfold gX;walk_at "st";exact⟨P,d,s,g,⟨⟨g1,g2,g3,g4⟩,ok⟩,h⟩
 ·exact h.elim
theorem srt_uniq{P:Pp}{a b:List Sk}(ha:Srt P a)(hb:Srt P b):a=b:=sB (ju ha.1 hb.1 fun r=>by
 constructor
 ·intro hr;obtain⟨s,hs',rfl⟩:=mem_map.mp hr;exact mem_map.mpr ⟨s,(hb.2 s).mpr ((ha.2 s).mp hs'),rfl⟩
 ·intro hr;obtain⟨s,hs',rfl⟩:=mem_map.mp hr;exact mem_map.mpr ⟨s,(ha.2 s).mpr ((hb.2 s).mp hs'),rfl⟩)
theorem Iv{seats:List Seat}{i:Int}(h0:0 < i)(h1:i<=seats.length):∃ st:Seat,jJ (seats.map Seat.d) (i - 1)=some st.d/\jt seats i=st.slot:=by
 refine⟨seats[(i - 1).toNat]'(by walk_at "o"),F8 (by walk_at "o") (by walk_at "o"),?_⟩
 unfold jt;rw[if_neg (by walk_at "o"),LP (by walk_at "o")]
theorem EC(Z1 Z2 Z3 Z4 Z5 Q5:LB)(hw:HW){seats:List Seat}{i:Int}{Q:mZ}{G:Gp}(h0:0<=i)(h1:i<=seats.length)(h:Q (jt seats i).d G):fX Z1 Z2 Z3 Z4 Z5 Q5 hw { nx:=fun _ G'=>Q .non G',rt:=Q } [some (.lst (seats.map Seat.d)),some (.int i)] G:=by
 have hs:=ak;unfold fX
 by_cases e:i=0
 ·subst e;refine C5 (NX:=fun _ _=>False) (fun _ _ z=>z.elim) fun NX hNX=>?_;refine cB true (fun K hK=>?_) (iteT ?_)
  ·walk_at "st"
  ·exact h
 ·refine C5 (NX:=fun σ' G'=>σ'=[some (.lst (seats.map Seat.d)),some (.int i)]/\G'=G) (fun σ' G' z=>?_) fun NX hNX=>?_
  ·obtain⟨rfl,rfl⟩:=z;obtain⟨st,as,ea⟩:=Iv (seats:=seats) (i:=i) (by walk_at "o") h1
   rw[ea]at h;have ed:st.d=.tup [st.slot.d,st.name.d,.str st.sign,.str st.word]:=rfl;rw[ed]at as;clear ea ed;walk_at "st"
  ·have en:eJ (.int i) (.int 0)=false:=bO fun z=>e (by injection z)
   refine cB false (fun K hK=>?_) (iteF ?_)
   ·walk_at "st"
   ·exact hNX _ _ ⟨rfl,rfl⟩
theorem uM(Z1 Z2 Z3 Z4 Z5 Q5:LB)(hw:HW):bI (cw Z1 Z2 Z3 Z4 Z5 Q5 hw) (fX Z1 Z2 Z3 Z4 Z5 Q5 hw) ["seats","at"]:=by
 intro ds G Q h;unfold cw at h;split at h
 ·rename_i xs i;obtain⟨seats,⟨rfl,h0,h1⟩,h⟩:=h;exact EC Z1 Z2 Z3 Z4 Z5 Q5 hw h0 h1 h
 ·exact h.elim
theorem rG(Z1 Z2 Z3 Z4 Z5 Q5:LB)(hw:HW):bI (bw Z1 Z2 Z3 Z4 Z5 Q5 hw) (i6 Z1 Z2 Z3 Z4 Z5 Q5 hw) ["_law_seats","_law_at"]:=by
 intro ds G Q h;unfold bw at h;split at h
 ·rename_i xs i;obtain⟨seats,⟨rfl,h0,h1⟩,h⟩:=h;exact EC Z1 Z2 Z3 Z4 Z5 Q5 hw h0 h1 h
 ·exact h.elim
theorem uQ(Z1 Z2 Z3 Z4 Z5 Q5:LB)(hw:HW):bI (cx Z1 Z2 Z3 Z4 Z5 Q5 hw) (iT Z1 Z2 Z3 Z4 Z5 Q5 hw) ["self","pen","at","signs","seats"]:=by
 intro ds G Q h;unfold cx at h;split at h
 ·rename_i p pen i w;obtain⟨P,d,s,g,⟨⟨g1,g2,g3,g4⟩,ok⟩,h⟩:=h;have hs:=ak;have ok':P.ok 50:=ok.le (by decide)
  have ls:=ok.ls;have lt:=ok.lt;have lg:=ok.lg;have gi:=ok.gi;unfold iT;rw[af];walk_at "s1";refine⟨P,d,s,g,⟨⟨g1,g2,g3,g4⟩,ok'⟩,fun out G1 hE so=>?_⟩;obtain⟨⟨c1,c2⟩,h⟩:=h out so;have k1:=hE _ _ g1;have k2:=hE _ _ g2;have k3:=hE _ _ g3;have k4:=hE _ _ g4;rw[af];walk_at "s1";have sb:=jW ok' so;have pa:hX Q5 hw G1 p d s g P:=⟨k1,k2,k3,k4⟩;refine⟨by rw[LG];exact c2,P,d,s,g,⟨pa,gi⟩,P,d,s,g,pa,P.seats out,⟨rfl,c2⟩,fun a ha=>⟨pen,_,_,rfl,rfl,P,d,s,g,⟨pen,P.num pen,P.time+1,.put (jt (P.seats out) i) w⟩,⟨pa.off ha,?_⟩,fun G' of pt=>h G' (xh hE ha of) pt⟩⟩
  exact⟨rfl,by walk_at "o",by walk_at "o",by walk_at "o"⟩
 ·exact h.elim
theorem sT(Z1 Z2 Z3 Z4 Z5 Q5:LB)(hw:HW):bI (cO Z1 Z2 Z3 Z4 Z5 Q5 hw) (gY Z1 Z2 Z3 Z4 Z5 Q5 hw) ["self","pen","at","to","goal","seats","names"]:=by
 intro ds G Q h;unfold cO at h;split at h
 ·rename_i p pen i j m;obtain⟨P,d,s,g,⟨⟨g1,g2,g3,g4⟩,ok⟩,h⟩:=h;have hs:=ak;have ok':P.ok 50:=ok.le (by decide)
  have ls:=ok.ls;have lt:=ok.lt;have lg:=ok.lg;have gi:=ok.gi;unfold gY;rw[af];walk_at "s1";refine⟨P,d,s,g,⟨⟨g1,g2,g3,g4⟩,ok'⟩,fun out G1 hE so=>?_⟩;obtain⟨⟨c1,c2,c3,c4,c5,c6⟩,h⟩:=h out so;have k1:=hE _ _ g1;have k2:=hE _ _ g2;have k3:=hE _ _ g3;have k4:=hE _ _ g4;rw[af];walk_at "s1";have sb:=jW ok' so;have pa:hX Q5 hw G1 p d s g P:=⟨k1,k2,k3,k4⟩;refine⟨⟨by rw[LG];exact c2,by rw[LG];exact c4⟩,?_⟩
  rw[af];walk_at "s1";refine⟨by rw[LG];exact c6,?_⟩
  rw[af];walk_at "s1";refine⟨P.seats out,⟨rfl,by walk_at "o",c4,by walk_at "o"⟩,P,d,s,g,⟨pa,gi⟩,P,d,s,g,pa,P.seats out,⟨rfl,c6⟩,fun a ha=>⟨pen,_,_,rfl,rfl,P,d,s,g,⟨pen,P.num pen,P.time+1,.move (mf (P.seats out) i j) (jt (P.seats out) m)⟩,⟨pa.off ha,?_⟩,fun G' of pt=>h G' (xh hE ha of) pt⟩⟩
  exact⟨rfl,by walk_at "o",by walk_at "o",by walk_at "o"⟩
 ·exact h.elim
theorem rK(Z1 Z2 Z3 Z4 Z5 Q5:LB)(hw:HW):bI (bM Z1 Z2 Z3 Z4 Z5 Q5 hw) (f8 Z1 Z2 Z3 Z4 Z5 Q5 hw) ["self","pen","at","to","word","seats"]:=by
 intro ds G Q h;unfold bM at h;split at h
 ·rename_i p pen i j w;obtain⟨P,d,s,g,⟨⟨g1,g2,g3,g4⟩,ok⟩,h⟩:=h;have hs:=ak;have ok':P.ok 50:=ok.le (by decide)
  have ls:=ok.ls;have lt:=ok.lt;have lg:=ok.lg;have gi:=ok.gi;unfold f8;rw[af];walk_at "s1";refine⟨P,d,s,g,⟨⟨g1,g2,g3,g4⟩,ok'⟩,fun out G1 hE so=>?_⟩;obtain⟨⟨c1,c2,c3,c4⟩,h⟩:=h out so;have k1:=hE _ _ g1;have k2:=hE _ _ g2;have k3:=hE _ _ g3;have k4:=hE _ _ g4;rw[af];walk_at "s1";have sb:=jW ok' so;have pa:hX Q5 hw G1 p d s g P:=⟨k1,k2,k3,k4⟩;refine⟨⟨by rw[LG];exact c2,by rw[LG];exact c4⟩,P,d,s,g,⟨pa,gi⟩,P,d,s,g,pa,P.seats out,⟨rfl,by walk_at "o",c4,by walk_at "o"⟩,fun a ha=>⟨pen,_,rfl,P,d,s,g,⟨pen,P.num pen,P.time+1,.dress (mf (P.seats out) i j) w⟩,⟨pa.off ha,?_⟩,fun G' of pt=>h G' (xh hE ha of) pt⟩⟩
  exact⟨rfl,by walk_at "o",by walk_at "o",by walk_at "o"⟩
 ·exact h.elim
theorem lW(Z1 Z2 Z3 Z4 Z5 Q5:LB)(hw:HW):bI (bq Z1 Z2 Z3 Z4 Z5 Q5 hw) (dE Z1 Z2 Z3 Z4 Z5 Q5 hw) ["self","state"]:=by
 intro ds G Q h;unfold bq at h;split at h
 ·rename_i p w;obtain⟨P,d,s,g,⟨⟨g1,g2,g3,g4⟩,ok⟩,h⟩:=h;have hs:=ak;have l1:=ok.ls;unfold dE;walk_at "st";refine⟨by rw[LG];omega,fun i acc G'=>acc=((P.sks.take i).filter fun s=>eJ ((dy P.st s.nm.key).getD .non) (.str w)).map Sk.d/\G'=G,⟨rfl,rfl⟩,fun i acc G' hp=>by rw[hp.2];exact g2,?_,?_⟩
  ·rintro i dd acc G' hd ⟨rfl,rfl⟩
   rw[L4]at hd;cases hq:P.sks[i]? with
   | none=>rw[hq]at hd;cases hd
   | some k=>
    rw[hq]at hd;cases hd;obtain⟨w',hw0⟩:=ok.kn k (LZ hq);have tk:((P.sks.take (i+1)).filter fun s=>eJ ((dy P.st s.nm.key).getD .non) (.str w)).map Sk.d=((P.sks.take i).filter fun s=>eJ ((dy P.st s.nm.key).getD .non) (.str w)).map Sk.d ++ if eJ (.str w') (.str w)=true then [k.d]else []:=by
     rw[MH,hq,NI,MB];congr 1;have wk:eJ ((dy P.st k.nm.key).getD .non) (.str w)=eJ (.str w') (.str w):=by rw[hw0];rfl
     by_cases z:eJ (.str w') (.str w)=true
     ·rw[if_pos z,Option.toList_some,List.filter_cons_of_pos (by rw[wk];exact z)];rfl
     ·rw[if_neg z,Option.toList_some,List.filter_cons_of_neg (by rw[wk];exact z)];rfl
    have ed:k.d=.tup [.tup [.str k.pen,.int k.num],.int k.time,k.act.d]:=rfl;rw[ed]at tk ⊢;refine⟨⟨by simp[Mb,List.replicate],rfl⟩,?_⟩
    have hk:dy P.st [.inr k.pen,.inl k.num]=some (.str w'):=hw0;clear ok;generalize ((P.sks.take i).filter fun s=>eJ ((dy P.st s.nm.key).getD .non) (.str w)).map Sk.d=A0 at *
    walk_at "st"
    by_cases z:eJ (.str w') (.str w)=true
    ·rw[if_pos z,if_pos z]
    ·rw[if_neg z,if_neg z,M8]
  ·rintro acc G' ⟨rfl,rfl⟩
   rw[LG,Mo];exact h
 ·exact h.elim
def Jy:D->D
 | .tup (d::_)=>d
 | d=>d
theorem oJ(Z1 Z2 Z3 Z4 Z5 Q5:LB)(hw:HW):bI (aU Z1 Z2 Z3 Z4 Z5 Q5 hw) (eO Z1 Z2 Z3 Z4 Z5 Q5 hw) ["self"]:=by
 intro ds G Q h;unfold aU at h;split at h
 ·rename_i p;obtain⟨P,d,s,g,⟨⟨g1,g2,g3,g4⟩,ok⟩,h⟩:=h;have hs:=ak;have l1:=ok.ls;have l2:(P.inS (LI "waits")).length<=P.sks.length:=MP _ _;unfold eO;walk_at "st";refine⟨P,d,s,g,⟨⟨g1,g2,g3,g4⟩,ok⟩,?_⟩;refine gu Jy (by rw[LG];omega) (fun e he K hK=>?_) ?_
  ·obtain⟨k,_,rfl⟩:=mem_map.mp he;have ed:k.d=.tup [.tup [.str k.pen,.int k.num],.int k.time,k.act.d]:=rfl;rw[ed]at hK ⊢;refine⟨⟨by simp[Mb,List.replicate],rfl⟩,?_⟩
   exact hK _ rfl
  ·have e:((P.inS (LI "waits")).map Sk.d).map Jy=P.wai.map Nm.d:=by unfold Pp.wai;rw[Mn,Mn];rfl
   rw[e];exact h
 ·exact h.elim
theorem mP(Z1 Z2 Z3 Z4 Z5 Q5:LB)(hw:HW):bI (bx Z1 Z2 Z3 Z4 Z5 Q5 hw) (dS Z1 Z2 Z3 Z4 Z5 Q5 hw) ["self","name"]:=by
 intro ds G Q h;unfold bx at h;split at h
 ·rename_i p a b;obtain⟨P,d,s,g,⟨⟨g1,g2,g3,g4⟩,hk,l2⟩,h⟩:=h;have hs:=ak;unfold dS;rw[af];walk_at "s1";refine⟨P,d,s,g,⟨⟨g1,g2,g3,g4⟩,hk⟩,by walk_at "o",h _ (fun x o hx hG=>?_) ⟨?_,?_,av,?_⟩⟩
  ·rw[aj (fun z=>hx (by rw[z];simp))]
   exact hG
  ·rw[aj (fun z=>by rw[z,g3]at g1;cases g1)]
   exact g1
  ·rw[aj (fun z=>by rw[z,g3]at g2;cases g2)]
   exact g2
  ·rw[aj (fun z=>by rw[z,g3]at g4;cases g4)]
   exact g4
 ·exact h.elim
theorem mQ(Z1 Z2 Z3 Z4 Z5 Q5:LB)(hw:HW):bI (bj Z1 Z2 Z3 Z4 Z5 Q5 hw) (dU Z1 Z2 Z3 Z4 Z5 Q5 hw) ["self"]:=by
 intro ds G Q h;unfold bj at h;split at h
 ·rename_i p;obtain⟨P,d,s,g,⟨g1,g2,g3,g4⟩,h⟩:=h;unfold dU;walk_at "st"
 ·exact h.elim
theorem nE(Z1 Z2 Z3 Z4 Z5 Q5:LB)(hw:HW):bI (bC Z1 Z2 Z3 Z4 Z5 Q5 hw) (d_ Z1 Z2 Z3 Z4 Z5 Q5 hw) ["self"]:=by
 intro ds G Q h;unfold bC at h;split at h
 ·rename_i p;obtain⟨P,d,s,g,⟨g1,g2,g3,g4⟩,h⟩:=h;unfold d_;walk_at "st"
 ·exact h.elim
theorem oN(Z1 Z2 Z3 Z4 Z5 Q5:LB)(hw:HW):bI (bb Z1 Z2 Z3 Z4 Z5 Q5 hw) (eR Z1 Z2 Z3 Z4 Z5 Q5 hw) ["self"]:=by
 intro ds G Q h;unfold bb at h;split at h
 ·rename_i p;obtain⟨P,d,s,g,ps,⟨⟨g1,g2,g3,g4⟩,e,hl⟩,h⟩:=h;unfold eR;rw[e]at g4;walk_at "st";exact⟨ps,rfl,hl,h⟩
 ·exact h.elim
theorem p8(Z1 Z2 Z3 Z4 Z5 Q5:LB)(hw:HW):bI (ce Z1 Z2 Z3 Z4 Z5 Q5 hw) (fA Z1 Z2 Z3 Z4 Z5 Q5 hw) ["_law_script","_law_k"]:=by
 intro ds G Q h;unfold ce at h;split at h
 ·obtain⟨ns,⟨rfl,rfl⟩,h⟩:=h;unfold fA;rw[af];refine cB (decide ((0:Int) < ns.length)) (fun K hK=>?_) (xz (fun e=>?_) fun e=>?_)
  ·walk_at "st";rw[LG];exact hK
  ·rw[decide_eq_true_eq]at e;walk_at "st";rw[AK (by decide) e]
   exact h _
  ·walk_at "st"
   first|done|exact h _
 ·exact h.elim
theorem rE(Z1 Z2 Z3 Z4 Z5 Q5:LB)(hw:HW):bI (bK Z1 Z2 Z3 Z4 Z5 Q5 hw) (fY Z1 Z2 Z3 Z4 Z5 Q5 hw) ["_law_cell","_law_many","_law_found","_law_number","_law_k"]:=by
 intro ds G Q h;unfold bK at h;split at h
 ·rename_i c m;obtain⟨⟨h1,h2⟩,h⟩:=h;have hs:=ak;unfold fY;rw[af];walk_at "s1";refine⟨by walk_at "o",fun p hp=>?_⟩
  rw[af];walk_at "s1";refine⟨.inr ⟨by decide,by decide⟩,by decide,?_⟩
  have b0:=eG (a:=(c+1)*48271) (b:=2147483647) (by decide)
  generalize (c+1)*48271 % 2147483647=n0 at *
  rw[af];walk_at "s1";refine⟨⟨by walk_at "o",by walk_at "o"⟩,fun i σ G'=>∃ (xs:List Int) (n:Int) (v:Option D),(σ=[some (.int c),some (.int m),some (.ref p),some (.int n),v]/\G'=gset G p (.lst (xs.map D.int)))/\xs.length=i/\(0<=n/\n < 2147483647)/\∀ x∈xs,0<=x/\x < 2147483647,
   ⟨[],n0,_,⟨rfl,rfl⟩,rfl,b0,by simp⟩,?_,?_⟩
  ·rintro i d σ G' hd ⟨xs,n,v,⟨rfl,rfl⟩,hl,hn,hx⟩
   obtain⟨hi,rfl⟩:=z_ hd;simp only[gN,My,Mb];rw[af];walk_at "s1";have b1:=eG (a:=(n+7919*(0+(i:Nat))+1)*(n / 1009+69621)) (b:=2147483647) (by decide)
   refine⟨.inl ⟨by decide,by decide⟩,⟨by decide,by decide⟩,.inl ⟨by walk_at "o",by walk_at "o"⟩,by decide,?_⟩
   generalize (n+7919*(0+(i:Nat))+1)*(n / 1009+69621) % 2147483647=n1 at *
   refine⟨by rw[LG];omega,xs ++ [n1],n1,_,⟨⟨rfl,rfl⟩,by rw[MB];rfl⟩,by rw[Mz,hl];rfl,b1,fun x hx'=>?_⟩
   rcases QM.mp hx' with hx'|hx'
   ·exact hx x hx'
   ·rw[PX.mp hx'];exact b1
  ·rintro σ G' ⟨xs,n,v,⟨rfl,rfl⟩,hl,hn,hx⟩
   rw[dC]at hl;simp only[jk,MF,Mw,av];rw[vZ hp];exact h xs (by walk_at "o") hx
 ·exact h.elim
theorem qM{k:Nat}{g:sm}{te:bH}{σ:fO}{ds:List D}{G1:Gp}{Q:mZ}(R:Str->Prop)(hl:ds.length<=LL)
  (he:∀ d∈ds,∀ P:mZ,(∀ w,R w->P (.str w) G1)->g d (List.replicate k none ++ σ) G1 fun σ2 G2=>(k<=σ2.length/\σ2.drop k=σ)/\te σ2 G2 P) (hq:∀ ps:List Str,ps.length=ds.length->(∀ w∈ps,R w)->Q (.fl (ps.map D.str)) G1):uw k g iH te σ ds G1 Q:=by
 refine⟨hl,fun i acc G'=>G'=G1/\∃ ps:List Str,ps.length=i/\acc=ps.map D.str/\∀ w∈ps,R w,⟨rfl,[],rfl,rfl,by simp⟩,fun i d acc G' hd ⟨hG,ps,h1,h2,h3⟩=>?_,fun acc G' ⟨hG,ps,h1,h2,h3⟩=>?_⟩
 ·subst hG;exact he d (LZ hd) (fun y G4=>G4=G'/\∃ ps:List Str,ps.length=i+1/\acc ++ [val y]=ps.map D.str/\∀ w∈ps,R w) fun w hw=>⟨rfl,ps ++ [w],by rw[Mz,h1];rfl,by rw[h2,MB];rfl,fun w' hw'=>by
   rcases QM.mp hw' with z|z
   ·exact h3 w' z
   ·rw[PX.mp z];exact hw⟩
 ·subst hG h2;exact hq ps h1 h3
theorem AO:(LI "abcdefghijklmnopqrstuvwxyz").length=26:=by decide +kernel
theorem vT:∀ ps:List Str,(∀ w∈ps,∃ c:Nat,w=⟨#[c]⟩)->∃ cs:List Nat,cs.length=ps.length/\ps=cs.map fun c=>(⟨#[c]⟩:Str)
 | [],_=>⟨[],rfl,rfl⟩
 | w::r,h=>by
  obtain⟨c,rfl⟩:=h w LV;obtain⟨cs,l,e⟩:=vT r fun w hw=>h w (LU _ hw);exact⟨c::cs,by simp[l],by rw[e];rfl⟩
theorem uN(Z1 Z2 Z3 Z4 Z5 Q5:LB)(hw:HW):bI (c9 Z1 Z2 Z3 Z4 Z5 Q5 hw) (iQ Z1 Z2 Z3 Z4 Z5 Q5 hw) ["_law_cell","_law_many","_law_letters","_law_xs","_law_stem","_law_at"]:=by
 intro ds G Q h;unfold c9 at h;split at h
 ·rename_i c m;obtain⟨⟨h1,h2⟩,h⟩:=h;have hs:=ak;unfold iQ;rw[af];walk_at "s1";have hL:=AO;generalize LI "abcdefghijklmnopqrstuvwxyz"=L at *
  rw[af];walk_at "s1";walk_at "conds";intro xs hx hb;have a8:jJ (xs.map D.int) 8=some (.int (xs.getD 8 default)):=AK (by decide) (by walk_at "o")
  have a9:jJ (xs.map D.int) 9=some (.int (xs.getD 9 default)):=AK (by decide) (by walk_at "o")
  have b8:=hb _ (zl (xs:=xs) (i:=8) (by walk_at "o"))
  have b9:=hb _ (zl (xs:=xs) (i:=9) (by walk_at "o"))
  generalize xs.getD 8 default=x8 at *
  generalize xs.getD 9 default=x9 at *
  rw[af];walk_at "s1";refine qM (R:=fun w=>∃ c:Nat,w=⟨#[c]⟩) ?_ (fun d hd P hP=>?_) fun ps hl hps=>?_
  ·rw[sj (by decide),Mm,LG];omega
  ·rw[sj (by decide)]at hd
   obtain⟨x,_,rfl⟩:=mem_map.mp (No hd);walk_at "st";have b:=eG (a:=x) (b:=26) (by decide)
   walk_at "conds";rw[yt b.1 (by walk_at "o")]
   exact hP _ ⟨_,rfl⟩
  ·obtain⟨cs,l2,rfl⟩:=vT ps hps;simp only[sj (show (0:Int)<=8 by decide),Mm,LG,show ((8:Int).toNat)=8 from rfl]at hl
   have lc:cs.length=8:=by walk_at "o"
   dsimp only;refine⟨_,rfl,?_,?_⟩
   ·rw[Bm,zE,Mn];have:((fun x:Str=>x.length) ∘ fun c:Nat=>(⟨#[c]⟩:Str))=fun _=>1:=by funext c;rfl
    rw[this,List.map_const',lc];simp
   ·rw[Bm,Av];have lS:=zE (cs:=cs);generalize S cs=stem at *
    clear hps l2 hl;rw[af];refine cB (eJ (.int (x9 % 3)) (.int 0)) (fun K hK=>?_) (xz (fun e=>?_) fun e=>?_)
    ·walk_at "st";decide
    ·walk_at "s1";walk_at "conds";refine qM (R:=fun _=>True) (by rw[dC];omega) (fun d hd P hP=>?_) fun ps hl _=>h ps (by rw[dC]at hl;omega)
     obtain⟨k,hk,rfl⟩:=mem_map.mp hd;walk_at "st";walk_at "conds"
     first|exact hP _ trivial|omega
    ·simp only[cW];rw[af];walk_at "s1";walk_at "conds";have b7:=eG (a:=x8) (b:=8) (by decide)
     have lT:(⟨(jQ stem.cps.toList none (some (1+x8 % 8))).toArray⟩:Str).length=(1+x8 % 8).toNat:=by
      show (jQ stem.cps.toList none (some (1+x8 % 8))).toArray.size=_
      rw[Bq (by walk_at "o"),LM,Mm]
      have:stem.cps.toList.length=stem.length:=by simp[Ny]
      omega
     generalize (⟨(jQ stem.cps.toList none (some (1+x8 % 8))).toArray⟩:Str)=T at *
     rw[af];walk_at "s1";refine⟨⟨by decide,by decide⟩,by walk_at "o",by walk_at "o",by walk_at "o",?_⟩
     have ba:=eG (a:=x9 / 3) (b:=((1+x8 % 8).toNat:Int)) (by walk_at "o")
     generalize x9 / 3 % ((1+x8 % 8).toNat:Int)=at0 at *
     refine qM (R:=fun _=>True) (by rw[dC];omega) (fun d hd P hP=>?_) fun ps hl _=>h ps (by rw[dC]at hl;omega)
     obtain⟨k,hk,rfl⟩:=mem_map.mp hd;walk_at "st";have bk:=eG (a:=x9 / 32+7*(0+(k:Int))) (b:=26) (by decide)
     rw[yt bk.1 (by walk_at "o")]
     have q1:(⟨(jQ T.cps.toList none (some at0)).toArray⟩:Str).length<=T.length:=by
      have:=jg T.cps.toList none (some at0)
      simpa[Ny]using this
     have q2:(⟨(jQ T.cps.toList (some (at0+1)) none).toArray⟩:Str).length<=T.length:=by
      have:=jg T.cps.toList (some (at0+1)) none
      simpa[Ny]using this
     have q3:(Ex L ((x9 / 32+7*(0+(k:Int))) % 26)).length=1:=rfl;refine⟨rfl,by walk_at "o",⟨by decide,by decide⟩,.inl ⟨by decide,by decide⟩,by decide,by walk_at "o",?_⟩
     dsimp only;refine⟨by walk_at "o",by walk_at "o",?_⟩
     rw[ot];omega
 ·exact h.elim
theorem E4(s:Seat):pl 7 s.d:=by
 intro d hd;simp only[L_,L8,or_false]at hd;rcases hd with rfl|rfl|rfl|rfl
 ·exact jL _ 5
 ·exact jL _ 5
 ·exact trivial
 ·exact trivial
theorem yx(l:List Seat):pl 8 (.lst (l.map Seat.d)):=fun d hd=>by
 obtain⟨s,_,rfl⟩:=mem_map.mp hd;exact E4 s
theorem wt{xs:List D}(h:J2 xs):∃ a b c d e f:Int,(jJ xs 0=some (.int a)/\jJ xs 1=some (.int b)/\jJ xs 2=some (.int c)/\jJ xs 3=some (.int d)/\jJ xs 4=some (.int e)/\jJ xs 5=some (.int f))/\
  (0<=a/\0<=b/\0<=c/\0<=d/\0<=e/\0<=f)/\(a < 2147483647/\b < 2147483647/\c < 2147483647/\d < 2147483647/\e < 2147483647/\f < 2147483647):=by
 obtain⟨a,b,c,d,e,f,rfl,h1,h2⟩:=h;exact⟨a,b,c,d,e,f,⟨rfl,rfl,rfl,rfl,rfl,rfl⟩,h1,h2⟩
theorem C3(x:Int):∃ w:Str,w.length<=60/\jJ [D.str (LI "a"),D.str (LI "bc"),D.str (LI "\nd"),D.str (LI "four")] (x % 4)=some (.str w):=by
 have h:x % 4=0\/x % 4=1\/x % 4=2\/x % 4=3:=by walk_at "o"
 rcases h with h|h|h|h<;>rw[h]
 ·exact⟨LI "a",by decide +kernel,rfl⟩
 ·exact⟨LI "bc",by decide +kernel,rfl⟩
 ·exact⟨LI "\nd",by decide +kernel,rfl⟩
 ·exact⟨LI "four",by decide +kernel,rfl⟩
theorem wE(Z1 Z2 Z3 Z4 Z5 Q5:LB)(hw:HW):bI (dM Z1 Z2 Z3 Z4 Z5 Q5 hw) (jp Z1 Z2 Z3 Z4 Z5 Q5 hw) ["_law_paper","_law_pen","_law_xs","_law_seats","_law_at","_law_signs"]:=by
 intro ds G Q h;unfold dM at h;split at h
 ·rename_i p pen xs ss;obtain⟨P,d,s,g,out,⟨pa,ok,six,so,rfl⟩,h⟩:=h;have hs:=ak;obtain⟨x0,x1,x2,x3,x4,x5,⟨a0,a1,a2,a3,a4,a5⟩,⟨b0,b1,b2,b3,b4,b5⟩,⟨c0,c1,c2,c3,c4,c5⟩⟩:=wt six;have sb:=jW (ok.le (by decide)) so
  have g1:=pa.1;unfold jp;rw[af];walk_at "s1";refine⟨by walk_at "o",?_⟩
  have at1:0<=x2 % (((P.seats out).map Seat.d).length+1:Int)/\x2 % (((P.seats out).map Seat.d).length+1:Int)<=(P.seats out).length:=by
   have h1:=Int.emod_nonneg x2 (b:=(((P.seats out).map Seat.d).length+1:Int)) (by walk_at "o")
   have h2:=Int.emod_lt_of_pos x2 (b:=(((P.seats out).map Seat.d).length+1:Int)) (by walk_at "o")
   rw[LG]at h2 ⊢;rw[LG]at h1;omega
  generalize x2 % (((P.seats out).map Seat.d).length+1:Int)=i at at1 ⊢;have due:∀ (x:Str),x.length<=60->∀ G',wg [p,d,s,g] G G'->hX Q5 hw G' p d s g (P.add ⟨pen,P.num pen,P.time+1,.put (jt (P.seats out) i) x⟩)->Q (.tup [.tup [.str pen,.int (P.num pen)],.tup [.str (LI "put"),(jt (P.seats out) i).d,.str x]]) G':=fun x hx G' of pt=>h ⟨pen,P.num pen,P.time+1,.put (jt (P.seats out) i) x⟩ G' ⟨rfl,rfl,rfl⟩ hx of pt;clear h;rw[af];refine cB (eJ (.int (x1 % 8)) (.int 0)) (fun K hK=>?_) (xz (fun e=>?_) fun e=>?_)
  ·walk_at "st";decide
  ·walk_at "s1";refine⟨P,d,s,g,⟨pa,ok⟩,fun o2 so2=>?_⟩;rw[srt_uniq so2 so];exact⟨at1.2,fun G' of pt=>⟨P.seats out,⟨rfl,at1.2⟩,by walk_at "o",by walk_at "o",due _ (by decide +kernel) G' of pt⟩⟩
  ·obtain⟨w,lw,aw⟩:=C3 x3;simp only[cW];rw[af];walk_at "s1";refine⟨by walk_at "o",by decide,P,d,s,g,⟨pa,ok⟩,fun o2 so2=>?_⟩
   rw[srt_uniq so2 so];exact⟨at1.2,fun G' of pt=>⟨P.seats out,⟨rfl,at1.2⟩,by walk_at "o",by walk_at "o",due _ lw G' of pt⟩⟩
 ·exact h.elim
theorem GI(x:Int):∃ w:Str,jJ [D.str (LI "bold"),D.str (LI "b"),D.str (LI "")] (x % 3)=some (.str w)/\(x % 3=2->w=LI ""):=by
 have h:x % 3=0\/x % 3=1\/x % 3=2:=by walk_at "o"
 rcases h with h|h|h<;>rw[h]
 ·exact⟨LI "bold",rfl,fun z=>by cases z⟩
 ·exact⟨LI "b",rfl,fun z=>by cases z⟩
 ·exact⟨LI "",rfl,fun _=>rfl⟩
theorem uO(Z1 Z2 Z3 Z4 Z5 Q5:LB)(hw:HW):bI (da Z1 Z2 Z3 Z4 Z5 Q5 hw) (iR Z1 Z2 Z3 Z4 Z5 Q5 hw) ["_law_paper","_law_pen","_law_xs","_law_seats","_law_at","_law_to","_law_names","_law_word","_law_goal"]:=by
 intro ds G Q h;unfold da at h;split at h
 ·rename_i p pen xs;obtain⟨P,d,s,g,⟨pa,ok,six⟩,h⟩:=h;have hs:=ak;obtain⟨x0,x1,x2,x3,x4,x5,⟨a0,a1,a2,a3,a4,a5⟩,⟨b0,b1,b2,b3,b4,b5⟩,⟨c0,c1,c2,c3,c4,c5⟩⟩:=wt six;have ok':P.ok 50:=ok.le (by decide)
  have g0:=pa.1;unfold iR;rw[af];walk_at "s1";refine⟨P,d,s,g,⟨pa,ok'⟩,fun out G1 hE so=>?_⟩;have pa1:=pa.ext hE;have g1:=pa1.1;have sb:=jW ok' so;have h':∀ k G',P.next pen k->k.wd<=60->wg [p,d,s,g] G1 G'->hX Q5 hw G' p d s g (P.add k)->Q (.tup [.tup [.str pen,.int (P.num pen)],k.act.d]) G':=fun k G' nx wd of pt=>h k G' nx wd (fun x u hx hG=>of x u hx (hE x u hG)) pt;clear h pa g0;have pls:pl 8 (.lst ((P.seats out).map Seat.d)):=yx _;rw[af];refine cB (eJ (.lst ((P.seats out).map Seat.d)) (.lst []) || decide (x1 % 16 < 5)) (GN _ _ (fun K hK=>?_) fun _ K hK=>?_) (xz (fun e=>?_) fun e=>?_)
  ·walk_at "st";exact⟨Mg _,pls,fun d hd=>by cases hd⟩
  ·walk_at "st";decide
  ·walk_at "s1";exact⟨P,d,s,g,out,⟨pa1,ok,so,rfl⟩,h'⟩
  ·have nz:0 < (P.seats out).length:=by
    rcases Nat.eq_zero_or_pos (P.seats out).length with z|z
    ·rw[length_eq_zero_iff.mp z,N3,bc]at e;cases e
    ·exact z
   clear e;simp only[cW];rw[af];walk_at "s1";refine⟨by rw[LG];omega,?_⟩
   have at1:0<=x2 % (((P.seats out).map Seat.d).length:Int)/\x2 % (((P.seats out).map Seat.d).length:Int) < (P.seats out).length:=by
    rw[LG];exact⟨Int.emod_nonneg x2 (by walk_at "o"),Int.emod_lt_of_pos x2 (by walk_at "o")⟩
   generalize x2 % (((P.seats out).map Seat.d).length:Int)=i at at1 ⊢;rw[af];walk_at "s1";have mp:0 < (if (((P.seats out).map Seat.d).length:Int) - i < 5 then (((P.seats out).map Seat.d).length:Int) - i else 5)/\(if (((P.seats out).map Seat.d).length:Int) - i < 5 then (((P.seats out).map Seat.d).length:Int) - i else 5)<=5/\(if (((P.seats out).map Seat.d).length:Int) - i < 5 then (((P.seats out).map Seat.d).length:Int) - i else 5)<=(P.seats out).length - i:=by
    rw[LG];split<;>omega
   refine⟨mp.1,?_⟩;generalize (if (((P.seats out).map Seat.d).length:Int) - i < 5 then (((P.seats out).map Seat.d).length:Int) - i else 5)=m at mp ⊢
   have y1:=Int.emod_nonneg x3 (b:=m) (by walk_at "o")
   have y2:=Int.emod_lt_of_pos x3 (b:=m) (by walk_at "o")
   generalize x3 % m=y at y1 y2 ⊢;have jb:i < i+1+y/\i+1+y<=(P.seats out).length/\i+1+y - i<=5:=by walk_at "o"
   generalize i+1+y=j at jb ⊢;clear mp y1 y2;have lm:(mf (P.seats out) i j).length<=5:=by
    unfold mf;rw[LG,Mm];omega
   rw[af];walk_at "s1";have ec:L3.cutD ((P.seats out).map Seat.d) (some i) (some j)=(((P.seats out).drop i.toNat).take (j - i).toNat).map Seat.d:=by
    rw[pH at1.1 (by walk_at "o"),List.map_take,List.map_drop]
    congr 1;omega
   rw[ec];refine gu DV (by rw[LG];exact le_trans (List.length_take_le' _ _) (by rw[N8];omega)) (fun d hd P hP=>?_) ?_
   ·obtain⟨s,_,rfl⟩:=mem_map.mp hd;have ed:s.d=.tup [s.slot.d,s.name.d,.str s.sign,.str s.word]:=rfl;rw[ed]at hP ⊢;refine⟨⟨by simp[Mb,List.replicate],rfl⟩,?_⟩
    exact hP _ rfl
   ·rw[vU];have em:(((((P.seats out).drop i.toNat).take (j - i).toNat)).map Seat.name).map Sl.d=(mf (P.seats out) i j).map Sl.d:=rfl;rw[em];clear em ec;dsimp only;have due:∀ (act:Act) G',(Sk.mk pen (P.num pen) (P.time+1) act).wd<=60->wg [p,d,s,g] G1 G'->hX Q5 hw G' p d s g (P.add ⟨pen,P.num pen,P.time+1,act⟩)->Q (.tup [.tup [.str pen,.int (P.num pen)],act.d]) G':=fun act G' wd of pt=>h' ⟨pen,P.num pen,P.time+1,act⟩ G' ⟨rfl,rfl,rfl⟩ wd of pt;clear h' pls six;rw[af];refine cB (decide (x1 % 16 < 8)) (fun K hK=>?_) (xz (fun e=>?_) fun e=>?_)
    ·walk_at "st";decide
    ·walk_at "s1";refine⟨P,d,s,g,⟨pa1,ok⟩,fun o2 so2=>?_⟩;rw[srt_uniq so2 so];exact⟨⟨at1.2,jb.2.1⟩,fun G' of pt=>⟨by walk_at "o",by walk_at "o",due (.strike (mf (P.seats out) i j)) G' (le_trans lm (by decide)) of pt⟩⟩
    ·simp only[cW];clear e;rw[af];refine cB (decide (x1 % 16 < 10)) (fun K hK=>?_) (xz (fun e=>?_) fun e=>?_)
     ·walk_at "st";decide
     ·obtain⟨w,aw,ew⟩:=GI x4;rw[af];walk_at "s1";refine⟨by walk_at "o",by decide,?_⟩
      rw[af];refine cB (eJ (.int (x4 % 3)) (.int 2)) (fun K hK=>?_) (xz (fun e2=>?_) fun e2=>?_)
      ·walk_at "st";decide
      ·have e3:x4 % 3=2:=by
        have:=kF.mp e2;injection this
       rw[ew e3];walk_at "s1";refine⟨P,d,s,g,⟨pa1,ok⟩,fun o2 so2=>?_⟩;rw[srt_uniq so2 so];exact⟨⟨at1.2,jb.2.1⟩,fun G' of pt=>⟨by walk_at "o",by walk_at "o",due (.dress (mf (P.seats out) i j) (LI "")) G' (le_trans lm (by decide)) of pt⟩⟩
      ·simp only[cW];walk_at "s1";refine⟨P,d,s,g,⟨pa1,ok⟩,fun o2 so2=>?_⟩;rw[srt_uniq so2 so];exact⟨⟨at1.2,jb.2.1⟩,fun G' of pt=>⟨by walk_at "o",by walk_at "o",due (.dress (mf (P.seats out) i j) w) G' (le_trans lm (by decide)) of pt⟩⟩
     ·simp only[cW];clear e;rw[af];walk_at "s1";have m1:0<=x4 % (((P.seats out).map Seat.d).length+1:Int)/\x4 % (((P.seats out).map Seat.d).length+1:Int)<=(P.seats out).length:=by
       have h1:=Int.emod_nonneg x4 (b:=(((P.seats out).map Seat.d).length+1:Int)) (by walk_at "o")
       have h2:=Int.emod_lt_of_pos x4 (b:=(((P.seats out).map Seat.d).length+1:Int)) (by walk_at "o")
       rw[LG]at h2 ⊢;rw[LG]at h1;omega
      refine⟨by walk_at "o",P,d,s,g,⟨pa1,ok⟩,fun o2 so2=>?_⟩
      rw[srt_uniq so2 so];generalize x4 % (((P.seats out).map Seat.d).length+1:Int)=m at m1 ⊢;exact⟨⟨at1.2,jb.2.1,m1⟩,fun G' of pt=>⟨P.seats out,⟨rfl,m1⟩,by walk_at "o",by walk_at "o",due (.move (mf (P.seats out) i j) (jt (P.seats out) m)) G' (le_trans lm (by decide)) of pt⟩⟩
 ·exact h.elim
theorem IP(s:Sk)(n:Nat):pl (n+5) s.d:=by
 have sl:∀ ns:List Sl,pl (n+3) (.tup (ns.map Sl.d)):=fun ns=>CZ ns (n+1);have st:∀ (m:Nat) (x:Str),pl m (.str x):=fun m x=>by cases m<;>trivial
 have it:∀ (m:Nat) (x:Int),pl m (.int x):=fun m x=>by cases m<;>trivial
 obtain⟨pen,num,time,act⟩:=s;intro d hd;simp only[L_,L8,or_false]at hd;rcases hd with rfl|rfl|rfl
 ·intro d hd;simp only[L_,L8,or_false]at hd;rcases hd with rfl|rfl
  ·exact st _ _
  ·exact it _ _
 ·exact it _ _
 ·cases act with
  | put a x=>
   intro d hd;simp only[L_,L8,or_false]at hd;rcases hd with rfl|rfl|rfl
   ·exact st _ _
   ·exact jL a (n+2)
   ·exact st _ _
  | strike ns=>
   intro d hd;simp only[L_,L8,or_false]at hd;rcases hd with rfl|rfl
   ·exact st _ _
   ·exact sl ns
  | dress ns w=>
   intro d hd;simp only[L_,L8,or_false]at hd;rcases hd with rfl|rfl|rfl
   ·exact st _ _
   ·exact sl ns
   ·exact st _ _
  | move ns a=>
   intro d hd;simp only[L_,L8,or_false]at hd;rcases hd with rfl|rfl|rfl
   ·exact st _ _
   ·exact sl ns
   ·exact jL a (n+2)
theorem C1(ss:List Sk)(n:Nat):∀ d∈ss.map Sk.d,pl (n+5) d:=fun d hd=>by
 obtain⟨s,_,rfl⟩:=mem_map.mp hd;exact IP s n
theorem BL(l:List Seat):pl 8 (.lst (l.map Seat.d3)):=fun d hd=>by
 obtain⟨s,_,rfl⟩:=mem_map.mp hd;intro e he;simp only[L_,L8,or_false]at he;rcases he with rfl|rfl|rfl
 ·exact jL _ 5
 ·exact trivial
 ·exact trivial
theorem DU(l:List Nm):pl 8 (.lst (l.map Nm.d)):=fun d hd=>by
 obtain⟨n,_,rfl⟩:=mem_map.mp hd;intro e he;simp only[L_,L8,or_false]at he;rcases he with rfl|rfl<;>exact trivial
theorem fP.none{G G':Gp}{a:LB}(e:fP G G')(h:G' a=none):G a=none:=by
 cases q:G a with
 | none=>rfl
 | some o=>rw[e _ _ q]at h;cases h
theorem Bx{G G':Gp}{x:D}{ds:List D}(e:fP G G')(h:n6 G x=some ds):n6 G' x=some ds:=by
 unfold n6 at h ⊢;split at h
 ·exact h
 ·exact h
 ·rename_i a;split at h
  ·rename_i es hg;rw[e _ _ hg];exact h
  ·cases h
 ·cases h
theorem Cz{G:Gp}{x:D}{ds:List D}(h:n6 G x=some ds):x=.lst ds\/x=.fl ds\/∃ q,x=.ref q/\G q=some (.lst ds):=by
 unfold n6 at h;split at h
 ·cases h;exact .inl rfl
 ·cases h;exact .inr (.inl rfl)
 ·rename_i a;split at h
  ·rename_i es hg;cases h;exact .inr (.inr ⟨a,rfl,hg⟩)
  ·cases h
 ·cases h
theorem AV(P:Pp):P.wai.length<=P.sks.length:=by
 unfold Pp.wai;rw[LG];exact MP _ _
theorem A4{t:pK}{a b0:cn}{E:Ends3}{σ:fO}{G:Gp}{b:Bool}(ht:∀ K:Bool->Gp->Prop,(∀ G',fP G G'->K b G')->t σ G K)(h:∀ G',fP G G'->(if b=true then a E σ G' else b0 E σ G')):lV t a b0 E σ G:=ht _ h
theorem wF(Z1 Z2 Z3 Z4 Z5 Q5:LB)(hw:HW):bI (c_ Z1 Z2 Z3 Z4 Z5 Q5 hw) (jq Z1 Z2 Z3 Z4 Z5 Q5 hw) ["_law_paper","_law_rows","_law_view","_law_seats","_law_waiting"]:=by
 intro ds G Q h;unfold c_ at h;split at h
 ·rename_i p x;obtain⟨P,d,s,g,⟨pa,ok,as⟩,h⟩:=h;have hs:=ak;have g0:=pa.1;have wl:=AV P;have ls:=ok.ls;unfold jq;rw[af];walk_at "s1";refine⟨P,d,s,g,⟨pa,ok⟩,fun out G1 e1 so=>?_⟩;have pa1:=pa.ext e1;have k1:=pa1.1;rw[af];walk_at "s1";refine⟨P,d,s,g,⟨pa1,ok⟩,fun o2 G2 e2 so2=>?_⟩;rw[srt_uniq so2 so];have pa2:=pa1.ext e2;have k2:=pa2.1;rw[af];walk_at "s1";refine⟨P,d,s,g,⟨pa2,ok⟩,?_⟩;rw[af];walk_at "s1";refine⟨P,d,s,g,⟨pa2,ok⟩,fun o3 G3 e3 so3=>?_⟩;intro a1 ha1;refine⟨by rw[LG];have:=jW ok so3;omega,?_⟩
  generalize hG4:gset G3 a1 _=G4;have e4:fP G2 G4:=by rw[<- hG4];exact (e3.gset (e3.none ha1))
  clear hG4 e3 ha1;have pa4:=pa2.ext e4;have k4:=pa4.1;rw[af];walk_at "s1";refine⟨P,d,s,g,⟨pa4,ok⟩,fun o5 G5 e5 so5=>?_⟩;intro a2 ha2;generalize hG6:gset G5 a2 _=G6;have e6:fP G4 G6:=by rw[<- hG6];exact (e5.gset (e5.none ha2))
  clear hG6 e5 ha2;have pa6:=pa4.ext e6;have k6:=pa6.1;rw[af];walk_at "s1";refine⟨P,d,s,g,⟨pa6,ok⟩,fun a3 ha3=>⟨by rw[LG];omega,?_⟩⟩
  generalize hG7:gset G6 a3 _=G7;have e7:fP G6 G7:=by rw[<- hG7];exact (fP.refl.gset ha3)
  clear hG7 ha3;have pa7:=pa6.ext e7;have k7:=pa7.1;rw[af];walk_at "s1";refine⟨P,d,s,g,⟨pa7,by walk_at "o"⟩,fun a4 ha4=>?_⟩
  generalize hG8:gset G7 a4 _=G8;have e8:fP G7 G8:=by rw[<- hG8];exact (fP.refl.gset ha4)
  clear hG8 ha4;have pa8:=pa7.ext e8;have k8:=pa8.1;have e0:fP G G8:=e1.trans (e2.trans (e4.trans (e6.trans (e7.trans e8))));have as8:=Bx e0 as;clear e1 e2 e4 e6 e7 e8 pa pa1 pa2 pa4 pa6 pa7 g0 k1 k2 k4 k6 k7 as;have q3:=BL (P.seats out);have q4:=yx (P.seats out);have q2:=DU P.wai;have qs:∀ e∈P.sks.map Sk.d,pl 7 e:=C1 P.sks 2;rw[af];refine A4 (b:=false) ?_ fun G9 e9=>iteF ?_
  ·intro K hK;walk_at "s1";refine⟨P,d,s,g,⟨pa8,ok⟩,fun o5 G5 e5 so5=>?_⟩;rw[srt_uniq so5 so,bc];have pa9:=pa8.ext e5;have k9:=pa9.1;walk_at "s1";refine⟨q3,q3,P,d,s,g,⟨pa9,ok⟩,fun o6 G6 e6 so6=>?_⟩;rw[srt_uniq so6 so,bc];exact⟨q4,q4,hK _ (e5.trans e6)⟩
  ·have pa9:=pa8.ext e9;have k9:=pa9.1;have as9:=Bx e9 as8;clear as8 k8 pa8;rcases Cz as9 with rfl|rfl|⟨q,rfl,hq⟩<;>
   ·walk_at "s1";refine⟨P,d,s,g,⟨pa9,ok⟩,q2,q2,?_⟩;rw[bc];exact iteT ⟨P,d,s,g,⟨pa9,by walk_at "o"⟩,_,⟨rfl,rfl,qs⟩,h _ (e0.trans e9)⟩
 ·exact h.elim
theorem Ep{P:Pp}{k:List aH}{w v:Str}(h:dy P.st k=some (.str w)):Lf P ⟨P.old,P.sks,bF P.st k (.str v),P.gr,P.time⟩:=by
 refine⟨rfl,rfl,rfl,rfl,fun n ok=>⟨ok.lo,ok.ls,?_,ok.lg,ok.sk,ok.ap,fun s hs=>?_,ok.gi,ok.gm⟩⟩
 ·show (bF P.st k (.str v)).length<=n;rw[sX,h];exact ok.lt
 ·show ∃ w:Str,dy (bF P.st k (.str v)) s.nm.key=some (.str w);rw[hV];split
  ·exact⟨v,rfl⟩
  ·exact ok.kn s hs
theorem GJ{P:Pp}{n:Nat}(ok:P.ok n){m:Nm}(h:m∈P.wai):dy P.st m.key=some (.str (LI "waits")):=by
 obtain⟨k,hk,rfl⟩:=mem_map.mp h;obtain⟨h1,h2⟩:=mem_filter.mp hk;obtain⟨w,hw0⟩:=ok.kn k h1;rw[hw0]at h2 ⊢;exact congrArg some (kF.mp h2)
theorem rF(Z1 Z2 Z3 Z4 Z5 Q5:LB)(hw:HW):bI (cA Z1 Z2 Z3 Z4 Z5 Q5 hw) (fZ Z1 Z2 Z3 Z4 Z5 Q5 hw) ["_law_paper","_law_xs","_law_waiting"]:=by
 intro ds G Q h;unfold cA at h;split at h
 ·rename_i p xs;obtain⟨P,d,s,g,⟨pa,ok,six⟩,h⟩:=h;have hs:=ak;obtain⟨x0,x1,x2,x3,x4,x5,⟨a0,a1,a2,a3,a4,a5⟩,⟨b0,b1,b2,b3,b4,b5⟩,⟨c0,c1,c2,c3,c4,c5⟩⟩:=wt six;have g1:=pa.1;have wl:=AV P;have ls:=ok.ls;have q2:=DU P.wai;have lt:=ok.lt;unfold fZ
  by_cases z:P.wai=[]
  ·have ez:eJ (.lst (P.wai.map Nm.d)) (.lst [])=true:=by rw[z];exact bc _
   rw[af];walk_at "s1";refine⟨P,d,s,g,⟨pa,ok⟩,?_⟩;simp only[ez,Bool.not_true,Bool.false_eq_true,if_false];exact⟨Mg _,q2,(fun _ hd=>by cases hd),⟨Mg _,q2,(fun _ hd=>by cases hd),(h G P ⟨rfl,rfl,rfl,rfl,fun _ o=>o⟩ (fun _ _ _ e=>e) pa)⟩⟩
  ·have lz:0 < P.wai.length:=List.length_pos_iff.mpr z;have ez:eJ (.lst (P.wai.map Nm.d)) (.lst [])=false:=bO fun e=>z (List.map_eq_nil_iff.mp (by injection e))
   have m1:=Int.emod_nonneg x2 (b:=((P.wai.map Nm.d).length:Int)) (by rw[LG];omega)
   have m2:=Int.emod_lt_of_pos x2 (b:=((P.wai.map Nm.d).length:Int)) (by rw[LG];omega)
   have at1:=pI (ds:=P.wai.map Nm.d) m1 (by walk_at "o")
   rw[Oq]at at1;have ml:(x2 % ((P.wai.map Nm.d).length:Int)).toNat < P.wai.length:=by
    rw[LG]at m1 m2 ⊢;omega
   have hk:=GJ ok (Nx ml);generalize P.wai[(x2 % ((P.wai.map Nm.d).length:Int)).toNat]'ml=n at at1 hk;obtain⟨a,b⟩:=n;have ed:Nm.d (a,b)=.tup [.str a,.int b]:=rfl;rw[ed]at at1;clear ed m1 m2 ml;have hk':dy P.st [.inr a,.inl b]=some (.str (LI "waits")):=hk;clear hk;rw[af];walk_at "s1";refine⟨P,d,s,g,⟨pa,ok⟩,Mg _,q2,(fun _ hd=>by cases hd),?_⟩
   simp only[ez,at1,Bool.not_false,if_true];refine⟨by decide,xz (fun _=>⟨by rw[LG];omega,P,d,s,g,⟨pa,hk',by walk_at "o"⟩,fun G' of pt=>h G' _ (Ep hk') of pt⟩) fun _=>⟨Mg _,q2,(fun _ hd=>by cases hd),by rw[LG];omega,P,d,s,g,⟨pa,hk',by walk_at "o"⟩,fun G' of pt=>h G' _ (Ep hk') of pt⟩⟩
 ·exact h.elim
theorem FC{P:Pp}{n:Nat}(ok:P.ok n)(pen:Str):1<=P.num pen:=by
 unfold Pp.num;split
 ·rename_i m e;obtain⟨m',e',h⟩:=ok.gi _ _ e;cases e';omega
 ·exact Int.le_refl _
theorem DS{P:Pp}{pen:Str}{m:Int}(h:dy P.gr (.inr pen)=some (.int m)):P.num pen=m+1:=by
 unfold Pp.num;rw[h]
theorem HB{P:Pp}{n:Nat}{pen:Str}{k:Sk}(ok:P.ok n)(nx:P.next pen k)(wd:k.wd<=60):(P.add k).ok (n+1):=by
 obtain⟨rfl,e2,e3⟩:=nx;have np:=FC ok k.pen;refine⟨ok.lo,?_,?_,?_,fun s hs=>?_,?_,fun s hs=>?_,fun q v hv=>?_,fun s hs=>?_⟩
 ·show (P.sks ++ [k]).length<=n+1;rw[Mz];exact Nat.succ_le_succ ok.ls
 ·exact le_trans (fM _ _ _) (Nat.succ_le_succ ok.lt)
 ·exact le_trans (fM _ _ _) (Nat.succ_le_succ ok.lg)
 ·rcases QM.mp hs with h|h
  ·obtain⟨h1,h2,h3⟩:=ok.sk s h;exact⟨h1,h2,by show s.time<=k.time;omega⟩
  ·rw[PX.mp h];exact⟨by walk_at "o",wd,Int.le_refl _⟩
 ·show ((P.sks ++ [k]).map Sk.rw).Pairwise my;rw[MB,List.pairwise_append];refine⟨ok.ap,List.pairwise_singleton _ _,fun a ha b hb=>?_⟩;obtain⟨s,hs,rfl⟩:=mem_map.mp ha;rw[L1,N3,PX]at hb;subst hb
  rintro⟨z1,z2⟩
  obtain⟨m,hm,le⟩:=ok.gm s hs;have z1':s.pen=k.pen:=z1;have z2':s.num=k.num:=z2;rw[z1']at hm;have:=DS hm;omega
 ·show ∃ w:Str,dy (bF P.st k.nm.key (.str (LI "waits"))) s.nm.key=some (.str w);rw[hV];split
  ·exact⟨_,rfl⟩
  ·rename_i ne;rcases QM.mp hs with h|h
   ·exact ok.kn s h
   ·exact absurd (by rw[PX.mp h]) ne
 ·have hv':dy (bF P.gr (.inr k.pen) (.int k.num)) q=some v:=hv;rw[hV]at hv';split at hv'
  ·cases hv';exact⟨_,rfl,by walk_at "o"⟩
  ·exact ok.gi _ _ hv'
 ·show ∃ m:Int,dy (bF P.gr (.inr k.pen) (.int k.num)) (.inr s.pen)=some (.int m)/\s.num<=m;rw[hV];split
  ·rename_i z;refine⟨_,rfl,?_⟩;rcases QM.mp hs with h|h
   ·obtain⟨m,hm,le⟩:=ok.gm s h;rw[z]at hm;have:=DS hm;omega
   ·rw[PX.mp h];exact Int.le_refl _
  ·rename_i ne;rcases QM.mp hs with h|h
   ·exact ok.gm s h
   ·exact absurd (by rw[PX.mp h]) ne
theorem FY(ps:List (Str×Int))(x:Str)(m:Int):∃ qs,bF (zq ps) (.inr x) (.int m)=zq qs:=by
 unfold bF;split
 ·refine⟨ps.map fun p=>if p.1=x then (p.1,m)else p,?_⟩
  unfold zq;rw[Mn,Mn];refine MR fun p _=>?_
  by_cases e:p.1=x
  ·simp[e]
  ·simp[e]
 ·exact⟨ps ++ [(x,m)],by unfold zq;rw[MB];rfl⟩
structure Std(C:LB)(hw0:List aH->Int)(G:Gp)(p d s g r q:LB)(P:Pp)(n:Nat):Prop where
 pa:hX C hw0 G p d s g P
 ok:P.ok n
 rr:G r=some (.lst (P.sks.map Sk.d))
 qq:G q=some (.dK P.gr)
 tm:P.time=P.sks.length
 en:∃ ps,P.gr=zq ps
theorem Std.ext{C:LB}{hw0:List aH->Int}{G G':Gp}{p d s g r q:LB}{P:Pp}{n:Nat}(h:Std C hw0 G p d s g r q P n)(e:fP G G'):Std C hw0 G' p d s g r q P n:=⟨h.pa.ext e,h.ok,e _ _ h.rr,e _ _ h.qq,h.tm,h.en⟩
theorem FZ(ps:List (Str×Int)):(zq ps).length=ps.length:=LG _
theorem EW:uy []=[]:=AX (List.Perm.refl []) List.Pairwise.nil
theorem F6{ns:List Int}{i:Nat}{dd:D}(h:(L3.cutD (ns.map D.int) (some 1) (some 23))[i]?=some dd):∃ z:Int,dd=.int z/\i < 22:=by
 rw[pH (by decide) (by decide),<- List.map_drop,<- List.map_take]at h
 obtain⟨z,_,e⟩:=mem_map.mp (LZ h);refine⟨z,e.symm,?_⟩;have:=(List.getElem?_eq_some_iff.mp h).1;rw[LG,Mm]at this;have e23:((23:Int).toNat - (1:Int).toNat)=22:=by decide
 omega
theorem GW:∀ {xs:List Int},(xs.length:Int)=6->(∀ x∈xs,0<=x/\x < 2147483647)->J2 (xs.map D.int)
 | [a,b,c,d,e,f],_,h=>by
  have h0:=h a (by simp)
  have h1:=h b (by simp)
  have h2:=h c (by simp)
  have h3:=h d (by simp)
  have h4:=h e (by simp)
  have h5:=h f (by simp)
  exact⟨a,b,c,d,e,f,rfl,⟨h0.1,h1.1,h2.1,h3.1,h4.1,h5.1⟩,⟨h0.2,h1.2,h2.2,h3.2,h4.2,h5.2⟩⟩
 | [],h,_=>by cases h
 | [_],h,_=>by cases h
 | [_,_],h,_=>by cases h
 | [_,_,_],h,_=>by cases h
 | [_,_,_,_],h,_=>by cases h
 | [_,_,_,_,_],h,_=>by cases h
 | _::_::_::_::_::_::_::_,h,_=>by simp only[L0]at h;omega
theorem FB{hw0:List aH->Int}{E:Ends3}{σ:fO}{G:Gp}{q:LB}{pen:Str}{P:Pp}(h6:σ[6]?=some (some (.ref q)))(h9:σ[9]?=some (some (.str pen)))(gq:G q=some (.dK P.gr))(gi:∀ k v,dy P.gr k=some v->∃ m:Int,v=.int m/\0<=m)(lg:P.gr.length < 100)
  (h:E.nx σ (gset G q (.dK (bF P.gr (.inr pen) (.int (P.num pen)))))):d7 hw0 (ab 6) (ab 9) (bG ib (ms hw0 (ab 6) (ab 9) (eC (.int 0))) (eC (.int 1))) E σ G:=by
 have hs:=ak;unfold Pp.num at h;cases e:dy P.gr (.inr pen) with
 | none=>
  rw[e]at h;walk_at "st";exact⟨by walk_at "o",h⟩
 | some v=>
  obtain⟨m,rfl,_⟩:=gi _ _ e;rw[e]at h;walk_at "st";exact⟨by walk_at "o",h⟩
theorem BH(l:List (Str×Int)):(uy l).Perm l:=by
 have h:∃ L,L.Perm l/\L3.Srt L:=by
  refine⟨l.mergeSort fun a b=>!yg b a,List.mergeSort_perm _ _,?_⟩;have tr:∀ a b c:Str×Int,(!yg b a)=true->(!yg c b)=true->(!yg c a)=true:=fun a b c h1 h2=>by
   rw[Bool.not_eq_true']at h1 h2 ⊢
   by_cases e:yg c a=true
   ·by_cases e2:yg a b=true
    ·rw[nK.trans _ _ _ e e2]at h2;cases h2
    ·rw[nK.tot a b (by simpa using e2) h1,h2]at e;cases e
   ·simpa using e
  have to:∀ a b:Str×Int,((!yg b a) || (!yg a b))=true:=fun a b=>by
   cases e1:yg b a with
   | false=>rfl
   | true=>
    cases e2:yg a b with
    | false=>rfl
    | true=>have:=nK.trans _ _ _ e1 e2;rw[nK.irrefl]at this;cases this
  exact (List.pairwise_mergeSort tr to l).imp fun {a b} h=>by rwa[Bool.not_eq_true']at h
 exact (Classical.epsilon_spec h).1
theorem Hg(l:List (Str×Int)):∀ e∈l.map zH,pl 7 e:=fun e he=>by
 obtain⟨y,_,rfl⟩:=mem_map.mp he;intro e he;simp only[L_,L8,or_false]at he;rcases he with rfl|rfl<;>exact trivial
theorem E5(Z1 Z2 Z3 Z4 Z5 Q5:LB)(hw:HW):bI (sy Z1 Z2 Z3 Z4 Z5 Q5 hw) (wI Z1 Z2 Z3 Z4 Z5 Q5 hw) ["_law_script","_law_first","_law_old","_law_pens_here","_law_paper","_law_rows","_law_numbers","_law_cell","_law_xs","_law_pen","_law_name","_law_act"]:=by
 intro vs G Q h;unfold sy at h;split at h
 ·obtain⟨ns,rfl,hn,hq⟩:=h;have hs:=ak;unfold wI;rw[af];walk_at "s1";refine⟨ns,rfl,fun c=>?_⟩;rw[af];walk_at "s1";have UQ:(LI "an old\npaper").length=12:=by decide +kernel
  have b13:=eG (a:=c) (b:=13) (by decide)
  refine⟨by decide,by rw[UQ];omega,?_⟩
  have lx:(⟨(jQ (LI "an old\npaper").cps.toList none (some (c % 13))).toArray⟩:Str).length<=40:=by
   rw[Bq b13.1];show (List.toArray _).size<=40
   rw[LM,Mm];omega
  generalize (⟨(jQ (LI "an old\npaper").cps.toList none (some (c % 13))).toArray⟩:Str)=x at *
  clear UQ b13;rw[af];walk_at "s1";refine⟨⟨by decide,by decide⟩,by decide,by walk_at "o",fun pens hp=>?_⟩
  have hp0:0 < pens.length/\pens.length<=3:=by walk_at "o"
  clear hp;rw[af];walk_at "s1";intro p hp d s g G1 of pa;have g1:=pa.1;rw[af];walk_at "s1";refine⟨by walk_at "o",fun r hr=>?_⟩
  rw[af];walk_at "s1";intro q hq';have rq:r≠q:=fun z=>by rw[<- z,av]at hq';cases hq'
  have hq1:G1 q=none:=by rwa[aj rq.symm]at hq'
  have of4:∀ {a:LB},G1 a=none->a∉[p,d,s,g]:=fun {a} ha z=>by
   simp only[L_,L8,or_false]at z;rcases z with rfl|rfl|rfl|rfl
   ·rw[pa.1]at ha;cases ha
   ·rw[pa.2.1]at ha;cases ha
   ·rw[pa.2.2.1]at ha;cases ha
   ·rw[pa.2.2.2]at ha;cases ha
  have nr:=of4 hr;have nq:=of4 hq1;clear of4;generalize hG2:gset (gset G1 r (.lst [])) q (.dK [])=G2;have S0:Std Q5 hw G2 p d s g r q ⟨x,[],[],[],0⟩ 0:=by
   refine⟨?_,⟨lx,le_refl _,le_refl _,le_refl _,(fun _ h=>by cases h),List.Pairwise.nil,(fun _ h=>by cases h),(fun _ _ h=>by cases h),(fun _ h=>by cases h)⟩,?_,?_,rfl,[],rfl⟩
   ·rw[<- hG2];exact (pa.off hr).off hq'
   ·rw[<- hG2,aj rq];exact av
   ·rw[<- hG2];exact av
  clear hG2 hq' hq1 hr of pa g1 hp;rw[af];refine A4 (b:=false) ?_ fun G3 e3=>iteF ?_
  ·intro K hK;have pa:=S0.pa;have g1:=pa.1;walk_at "s1";refine⟨_,d,s,g,pa,?_⟩;rw[bc];refine iteF ⟨_,d,s,g,⟨pa,Mg _⟩,Mg _,(fun _ h=>by cases h),(fun _ h=>by cases h),?_⟩
   rw[N3,bc];refine iteF ⟨_,d,s,g,[],⟨pa,rfl,by decide⟩,Mg _,?_⟩
   rw[EW,N3,bc];refine⟨(fun _ h=>by cases h),(fun _ h=>by cases h),iteF ⟨_,d,s,g,pa,?_⟩⟩
   rw[bc];exact hK _ fP.refl
  ·have S1:=S0.ext e3;clear S0 e3;simp only[cW];rw[af];walk_at "s1";refine⟨fun i σ' G'=>∃ (a b e f u:Option D) (P:Pp),σ'=[some (.lst (ns.map D.int)),some (.int c),some (.str x),some (.lst (pens.map D.str)),some (.ref p),some (.ref r),some (.ref q),a,b,e,f,u]/\Std Q5 hw G' p d s g r q P i,⟨none,none,none,none,none,_,rfl,S1⟩,?_,?_⟩
   ·rintro i dd σ' G' hd ⟨a,b,e,f,u,P,rfl,S⟩
    obtain⟨z,rfl,hi⟩:=F6 hd;clear hd S1;have U4:P.ok 49:=S.ok.le (by walk_at "o")
    have pa:=S.pa;have g1:=pa.1;have ls:=S.ok.ls;have lg:=S.ok.lg;walk_at "s1";rw[af];walk_at "s1";refine⟨by decide,fun xs hx hb=>?_⟩
    have six:=GW hx hb;generalize xs.map D.int=ys at six ⊢;clear hx hb;obtain⟨x0,x1,x2,x3,x4,x5,⟨a0,a1,a2,a3,a4,a5⟩,⟨b0,b1,b2,b3,b4,b5⟩,⟨c0,c1,c2,c3,c4,c5⟩⟩:=wt six;obtain⟨pen,at1⟩:∃ pen:Str,jJ (pens.map D.str) (x0 % ((pens.map D.str).length:Int))=some (.str pen):=by
     have m1:=Int.emod_nonneg x0 (b:=((pens.map D.str).length:Int)) (by rw[LG];omega)
     have m2:=Int.emod_lt_of_pos x0 (b:=((pens.map D.str).length:Int)) (by rw[LG];omega)
     have:=pI (ds:=pens.map D.str) m1 (by walk_at "o")
     rw[Oq]at this;exact⟨_,this⟩
    rw[af];walk_at "s1";refine⟨by rw[LG];omega,by decide,?_⟩
    clear at1 a1 a2 a3 a4;split
    ·rw[af];walk_at "s1";refine⟨P,d,s,g,⟨pa,U4⟩,fun k G4 nx wd of pt=>?_⟩;have okA:(P.add k).ok (i+1):=HB S.ok nx wd;have r4:=of r _ nr S.rr;have q4:=of q _ nq S.qq;have tmA:(P.add k).time=(P.add k).sks.length:=by
      show k.time=((P.sks ++ [k]).length:Int)
      rw[nx.2.2,S.tm,Mz];rfl
     have enA:∃ ps,(P.add k).gr=zq ps:=by
      obtain⟨ps,hps⟩:=S.en;obtain⟨qs,hqs⟩:=FY ps k.pen k.num;exact⟨qs,by rw[<- hqs,<- hps];rfl⟩
     have gk:bF P.gr (.inr pen) (.int (P.num pen))=(P.add k).gr:=by rw[<- nx.2.1,<- nx.1];rfl
     have atk:dy (P.add k).gr (.inr pen)=some (.int (P.num pen)):=by rw[<- gk,hV,if_pos rfl]
     have stk:dy (P.add k).st [.inr pen,.inl (P.num pen)]=some (.str (LI "waits")):=by
      show dy (bF P.st k.nm.key _) _=_
      rw[hV,if_pos (by rw[<- nx.2.1,<- nx.1];rfl)]
     have rk:(P.add k).sks.map Sk.d=P.sks.map Sk.d ++ [.tup [.tup [.str pen,.int (P.num pen)],.int ((P.sks.map Sk.d).length+1),k.act.d]]:=by
      show (P.sks ++ [k]).map Sk.d=_
      rw[MB,LG,<- S.tm,<- nx.2.2,<- nx.2.1,<- nx.1];rfl
     obtain⟨l,hl⟩:∃ l,k.act.d=.tup l:=by cases k.act<;>exact⟨_,rfl⟩
     rw[hl]at rk ⊢;have gi:=S.ok.gi;generalize P.add k=P' at *
     clear S wd hl;rw[af];refine FB rfl rfl q4 gi (by walk_at "o") ?_
     rw[gk];have pa5:hX Q5 hw (gset G4 q (.dK P'.gr)) p d s g P':=by
      simp only[L_,L8,or_false,not_or]at nq;exact⟨(aj (Ne.symm nq.1)).trans pt.1,(aj (Ne.symm nq.2.1)).trans pt.2.1,(aj (Ne.symm nq.2.2.1)).trans pt.2.2.1,(aj (Ne.symm nq.2.2.2)).trans pt.2.2.2⟩
     have r5:gset G4 q (.dK P'.gr) r=_:=(aj rq).trans r4;have q5:gset G4 q (.dK P'.gr) q=_:=av;generalize gset G4 q (.dK P'.gr)=G5 at *
     clear r4 q4 pt of gk gi;dsimp only;rw[af];walk_at "s1";refine⟨by walk_at "o",by walk_at "o",by rw[LG];omega,?_⟩
     rw[<- rk];have S6:Std Q5 hw (gset G5 r (.lst (P'.sks.map Sk.d))) p d s g r q P' (i+1):=by
      simp only[L_,L8,or_false,not_or]at nr;exact⟨⟨(aj (Ne.symm nr.1)).trans pa5.1,(aj (Ne.symm nr.2.1)).trans pa5.2.1,(aj (Ne.symm nr.2.2.1)).trans pa5.2.2.1,(aj (Ne.symm nr.2.2.2)).trans pa5.2.2.2⟩,okA,av,(aj rq.symm).trans q5,tmA,enA⟩
     generalize gset G5 r (.lst (P'.sks.map Sk.d))=G6 at *
     clear pa5 r5 q5 rk okA tmA enA g1 pa;have pa6:=S6.pa;have g6:=pa6.1;have r6:=S6.rr;have q6:=S6.qq;have l6:=S6.ok.ls;have qs:∀ e∈P'.sks.map Sk.d,pl 7 e:=C1 P'.sks 2;have hl6:P'.sks.length<=50:=by walk_at "o"
     rw[af];refine cB false (fun K hK=>?_) (iteF ?_)
     ·have plp:∀ e∈[D.str pen,D.int (P.num pen)],pl 7 e:=fun e he=>by
       simp only[L_,L8,or_false]at he;rcases he with rfl|rfl<;>exact trivial
      walk_at "s1";exact⟨by walk_at "o",plp,plp,P',d,s,g,⟨pa6,hl6⟩,_,⟨rfl,rfl,qs⟩,P',d,s,g,_,⟨pa6,stk⟩,by rw[bc];exact hK⟩
     ·simp only[cW];walk_at "s1";exact⟨P',d,s,g,⟨pa6,S6.ok.le (by walk_at "o"),rfl⟩,fun G7 e7=>⟨_,_,_,_,_,P',⟨rfl,rfl,rfl,rfl,rfl⟩,S6.ext e7⟩⟩
    ·exact⟨P,d,s,g,⟨pa,S.ok.le (by walk_at "o")⟩,fun G4 P' dc of pt=>⟨_,_,_,_,_,P',⟨rfl,rfl,rfl,rfl,rfl⟩,⟨pt,(dc.2.2.2.2 _ S.ok).le (Qg _),(of r _ nr S.rr).trans (by rw[dc.2.1]),(of q _ nq S.qq).trans (by rw[dc.2.2.1]),by rw[dc.2.2.2.1,dc.2.1];exact S.tm,by rw[dc.2.2.1];exact S.en⟩⟩⟩
   ·rintro σ' G' ⟨a,b,e,f,u,P,rfl,S⟩
    dsimp only;have li:(L3.cutD (ns.map D.int) (some 1) (some 23)).length<=22:=by
     rw[pH (by decide) (by decide),Mm]
     exact Nat.min_le_left _ _
    have ok22:=S.ok.le li;have ls:=ok22.ls;have lg:=ok22.lg;have pa:=S.pa;have g1:=pa.1;have r1:=S.rr;have q1:=S.qq;have tm:=S.tm;obtain⟨ps,en⟩:=S.en;have lp:ps.length < 64:=by rw[en,FZ]at lg;omega
    have pls:=Hg (uy ps);have dp:hX Q5 hw (fu G' r) p d s g P:=by
     simp only[L_,L8,or_false,not_or]at nr;exact⟨(cF (Ne.symm nr.1)).trans pa.1,(cF (Ne.symm nr.2.1)).trans pa.2.1,(cF (Ne.symm nr.2.2.1)).trans pa.2.2.1,(cF (Ne.symm nr.2.2.2)).trans pa.2.2.2⟩
    have d1:=dp.1;have dq:fu G' r q=some (.dK P.gr):=(cF rq.symm).trans q1;clear S li lg S1;rw[af];walk_at "s1";refine⟨P,d,s,g,ps,⟨dp,en,lp⟩,ps,rfl,lp,pls,pls,?_⟩;rw[bc];refine iteF ⟨P,d,s,g,dp,?_⟩;rw[LG,<- tm,bc];refine iteF ?_;generalize fu G' r=G2' at *
    have lsr:(uy ps).length < 64:=by rw[(BH ps).length_eq];exact lp
    rw[af];walk_at "s1";refine⟨P,d,s,g,ps,⟨dp,en,lp⟩,fun w hw0=>⟨by walk_at "o",by rw[LG];omega,P,d,s,g,⟨dp.off hw0,ok22.le (by decide),rfl⟩,fun G9 e9=>?_⟩⟩
    have e0:=(fP.refl.gset hw0).trans e9;rw[e0 _ _ d1];refine⟨⟨rfl,rfl⟩,P,d,s,g,ps,⟨dp.ext e0,en,lp⟩,?_⟩;rw[e0 _ _ dq];refine⟨ps,en,lp,pls,pls,?_⟩;rw[bc];exact hq _
 ·exact h.elim
section
variable{Z1 Z2 Z3 Z4 Z5 Q5:LB}{hw:List aH->Int}
theorem qx:bJ (ce Z1 Z2 Z3 Z4 Z5 Q5 hw) 2:=fun _ _ _ h=>by unfold ce at h;split at h<;>first|rfl|exact h.elim
theorem rS:bJ (bK Z1 Z2 Z3 Z4 Z5 Q5 hw) 2:=fun _ _ _ h=>by unfold bK at h;split at h<;>first|rfl|exact h.elim
theorem vh:bJ (c9 Z1 Z2 Z3 Z4 Z5 Q5 hw) 2:=fun _ _ _ h=>by unfold c9 at h;split at h<;>first|rfl|exact h.elim
theorem rU:bJ (bw Z1 Z2 Z3 Z4 Z5 Q5 hw) 2:=fun _ _ _ h=>by unfold bw at h;split at h<;>first|rfl|exact h.elim
theorem vf:bJ (cv Z1 Z2 Z3 Z4 Z5 Q5 hw) 2:=fun _ _ _ h=>by unfold cv at h;split at h<;>first|rfl|exact h.elim
theorem vg:bJ (cw Z1 Z2 Z3 Z4 Z5 Q5 hw) 2:=fun _ _ _ h=>by unfold cw at h;split at h<;>first|rfl|exact h.elim
theorem tP:bJ (cu Z1 Z2 Z3 Z4 Z5 Q5 hw) 3:=fun _ _ _ h=>by unfold cu at h;split at h<;>first|rfl|exact h.elim
theorem tO:bJ (bA Z1 Z2 Z3 Z4 Z5 Q5 hw) 2:=fun _ _ _ h=>by unfold bA at h;split at h<;>first|rfl|exact h.elim
theorem vc:bJ (cr Z1 Z2 Z3 Z4 Z5 Q5 hw) 1:=fun _ _ _ h=>by unfold cr at h;split at h<;>first|rfl|exact h.elim
theorem nU:bJ (bd Z1 Z2 Z3 Z4 Z5 Q5 hw) 1:=fun _ _ _ h=>by unfold bd at h;split at h<;>first|rfl|exact h.elim
theorem xt:bJ (cL Z1 Z2 Z3 Z4 Z5 Q5 hw) 1:=fun _ _ _ h=>by unfold cL at h;split at h<;>first|rfl|exact h.elim
theorem mV:bJ (aI Z1 Z2 Z3 Z4 Z5 Q5 hw) 3:=fun _ _ _ h=>by unfold aI at h;split at h<;>first|rfl|exact h.elim
theorem qz:bJ (bB Z1 Z2 Z3 Z4 Z5 Q5 hw) 5:=fun _ _ _ h=>by unfold bB at h;split at h<;>first|rfl|exact h.elim
theorem mW:bJ (aX Z1 Z2 Z3 Z4 Z5 Q5 hw) 4:=fun _ _ _ h=>by unfold aX at h;split at h<;>first|rfl|exact h.elim
theorem nY:bJ (bf Z1 Z2 Z3 Z4 Z5 Q5 hw) 5:=fun _ _ _ h=>by unfold bf at h;split at h<;>first|rfl|exact h.elim
theorem ph:bJ (bp Z1 Z2 Z3 Z4 Z5 Q5 hw) 5:=fun _ _ _ h=>by unfold bp at h;split at h<;>first|rfl|exact h.elim
theorem va:bJ (cq Z1 Z2 Z3 Z4 Z5 Q5 hw) 1:=fun _ _ _ h=>by unfold cq at h;split at h<;>first|rfl|exact h.elim
theorem y9:bJ (et Z1 Z2 Z3 Z4 Z5 Q5 hw) 1:=fun _ _ _ h=>by unfold et at h;split at h<;>first|rfl|exact h.elim
theorem qy:bJ (ar Z1 Z2 Z3 Z4 Z5 Q5 hw) 1:=fun _ _ _ h=>by unfold ar at h;split at h<;>first|rfl|exact h.elim
theorem vj:bJ (aZ Z1 Z2 Z3 Z4 Z5 Q5 hw) 1:=fun _ _ _ h=>by unfold aZ at h;split at h<;>first|rfl|exact h.elim
theorem tW:bJ (aQ Z1 Z2 Z3 Z4 Z5 Q5 hw) 1:=fun _ _ _ h=>by unfold aQ at h;split at h<;>first|rfl|exact h.elim
theorem xr:bJ (dL Z1 Z2 Z3 Z4 Z5 Q5 hw) 2:=fun _ _ _ h=>by unfold dL at h;split at h<;>first|rfl|exact h.elim
theorem At:bJ (dY Z1 Z2 Z3 Z4 Z5 Q5 hw) 1:=fun _ _ _ h=>by unfold dY at h;split at h<;>first|rfl|exact h.elim
theorem vd:bJ (c7 Z1 Z2 Z3 Z4 Z5 Q5 hw) 2:=fun _ _ _ h=>by unfold c7 at h;split at h<;>first|rfl|exact h.elim
theorem ve:bJ (c8 Z1 Z2 Z3 Z4 Z5 Q5 hw) 3:=fun _ _ _ h=>by unfold c8 at h;split at h<;>first|rfl|exact h.elim
theorem o7:bJ (bP Z1 Z2 Z3 Z4 Z5 Q5 hw) 2:=fun _ _ _ h=>by unfold bP at h;split at h<;>first|rfl|exact h.elim
theorem nV:bJ (ag Z1 Z2 Z3 Z4 Z5 Q5 hw) 1:=fun _ _ _ h=>by unfold ag at h;split at h<;>first|rfl|exact h.elim
theorem qw:bJ (cb Z1 Z2 Z3 Z4 Z5 Q5 hw) 1:=fun _ _ _ h=>by unfold cb at h;split at h<;>first|rfl|exact h.elim
theorem rR:bJ (cz Z1 Z2 Z3 Z4 Z5 Q5 hw) 1:=fun _ _ _ h=>by unfold cz at h;split at h<;>first|rfl|exact h.elim
theorem tN:bJ (cK Z1 Z2 Z3 Z4 Z5 Q5 hw) 1:=fun _ _ _ h=>by unfold cK at h;split at h<;>first|rfl|exact h.elim
theorem As:bJ (dX Z1 Z2 Z3 Z4 Z5 Q5 hw) 3:=fun _ _ _ h=>by unfold dX at h;split at h<;>first|rfl|exact h.elim
theorem pc:bJ (bo Z1 Z2 Z3 Z4 Z5 Q5 hw) 1:=fun _ _ _ h=>by unfold bo at h;split at h<;>first|rfl|exact h.elim
theorem rW:bJ (aF Z1 Z2 Z3 Z4 Z5 Q5 hw) 1:=fun _ _ _ h=>by unfold aF at h;split at h<;>first|rfl|exact h.elim
theorem y_:bJ (dB Z1 Z2 Z3 Z4 Z5 Q5 hw) 1:=fun _ _ _ h=>by unfold dB at h;split at h<;>first|rfl|exact h.elim
theorem tQ:bJ (bT Z1 Z2 Z3 Z4 Z5 Q5 hw) 1:=fun _ _ _ h=>by unfold bT at h;split at h<;>first|rfl|exact h.elim
theorem vm:bJ (cy Z1 Z2 Z3 Z4 Z5 Q5 hw) 1:=fun _ _ _ h=>by unfold cy at h;split at h<;>first|rfl|exact h.elim
theorem xw:bJ (cP Z1 Z2 Z3 Z4 Z5 Q5 hw) 1:=fun _ _ _ h=>by unfold cP at h;split at h<;>first|rfl|exact h.elim
theorem tV:bJ (be Z1 Z2 Z3 Z4 Z5 Q5 hw) 2:=fun _ _ _ h=>by unfold be at h;split at h<;>first|rfl|exact h.elim
theorem kY:bJ (aD Z1 Z2 Z3 Z4 Z5 Q5 hw) 2:=fun _ _ _ h=>by unfold aD at h;split at h<;>first|rfl|exact h.elim
theorem kX:bJ (aB Z1 Z2 Z3 Z4 Z5 Q5 hw) 1:=fun _ _ _ h=>by unfold aB at h;split at h<;>first|rfl|exact h.elim
theorem vk:bJ (cx Z1 Z2 Z3 Z4 Z5 Q5 hw) 4:=fun _ _ _ h=>by unfold cx at h;split at h<;>first|rfl|exact h.elim
theorem tT:bJ (cN Z1 Z2 Z3 Z4 Z5 Q5 hw) 3:=fun _ _ _ h=>by unfold cN at h;split at h<;>first|rfl|exact h.elim
theorem xu:bJ (dM Z1 Z2 Z3 Z4 Z5 Q5 hw) 4:=fun _ _ _ h=>by unfold dM at h;split at h<;>first|rfl|exact h.elim
theorem o9:bJ (aT Z1 Z2 Z3 Z4 Z5 Q5 hw) 3:=fun _ _ _ h=>by unfold aT at h;split at h<;>first|rfl|exact h.elim
theorem o8:bJ (aS Z1 Z2 Z3 Z4 Z5 Q5 hw) 3:=fun _ _ _ h=>by unfold aS at h;split at h<;>first|rfl|exact h.elim
theorem qA:bJ (cf Z1 Z2 Z3 Z4 Z5 Q5 hw) 4:=fun _ _ _ h=>by unfold cf at h;split at h<;>first|rfl|exact h.elim
theorem rX:bJ (bM Z1 Z2 Z3 Z4 Z5 Q5 hw) 5:=fun _ _ _ h=>by unfold bM at h;split at h<;>first|rfl|exact h.elim
theorem tU:bJ (cO Z1 Z2 Z3 Z4 Z5 Q5 hw) 5:=fun _ _ _ h=>by unfold cO at h;split at h<;>first|rfl|exact h.elim
theorem vi:bJ (da Z1 Z2 Z3 Z4 Z5 Q5 hw) 3:=fun _ _ _ h=>by unfold da at h;split at h<;>first|rfl|exact h.elim
theorem y8:bJ (eh Z1 Z2 Z3 Z4 Z5 Q5 hw) 3:=fun _ _ _ h=>by unfold eh at h;split at h<;>first|rfl|exact h.elim
theorem tS:bJ (bU Z1 Z2 Z3 Z4 Z5 Q5 hw) 1:=fun _ _ _ h=>by unfold bU at h;split at h<;>first|rfl|exact h.elim
theorem mi:bJ (bq Z1 Z2 Z3 Z4 Z5 Q5 hw) 2:=fun _ _ _ h=>by unfold bq at h;split at h<;>first|rfl|exact h.elim
theorem o_:bJ (aU Z1 Z2 Z3 Z4 Z5 Q5 hw) 1:=fun _ _ _ h=>by unfold aU at h;split at h<;>first|rfl|exact h.elim
theorem pd:bJ (aV Z1 Z2 Z3 Z4 Z5 Q5 hw) 1:=fun _ _ _ h=>by unfold aV at h;split at h<;>first|rfl|exact h.elim
theorem xv:bJ (c_ Z1 Z2 Z3 Z4 Z5 Q5 hw) 2:=fun _ _ _ h=>by unfold c_ at h;split at h<;>first|rfl|exact h.elim
theorem k_:bJ (bh Z1 Z2 Z3 Z4 Z5 Q5 hw) 2:=fun _ _ _ h=>by unfold bh at h;split at h<;>first|rfl|exact h.elim
theorem rV:bJ (bL Z1 Z2 Z3 Z4 Z5 Q5 hw) 2:=fun _ _ _ h=>by unfold bL at h;split at h<;>first|rfl|exact h.elim
theorem kZ:bJ (aN Z1 Z2 Z3 Z4 Z5 Q5 hw) 2:=fun _ _ _ h=>by unfold aN at h;split at h<;>first|rfl|exact h.elim
theorem mX:bJ (bx Z1 Z2 Z3 Z4 Z5 Q5 hw) 2:=fun _ _ _ h=>by unfold bx at h;split at h<;>first|rfl|exact h.elim
theorem tR:bJ (cM Z1 Z2 Z3 Z4 Z5 Q5 hw) 2:=fun _ _ _ h=>by unfold cM at h;split at h<;>first|rfl|exact h.elim
theorem rT:bJ (cA Z1 Z2 Z3 Z4 Z5 Q5 hw) 2:=fun _ _ _ h=>by unfold cA at h;split at h<;>first|rfl|exact h.elim
theorem mY:bJ (bj Z1 Z2 Z3 Z4 Z5 Q5 hw) 1:=fun _ _ _ h=>by unfold bj at h;split at h<;>first|rfl|exact h.elim
theorem pf:bJ (bb Z1 Z2 Z3 Z4 Z5 Q5 hw) 1:=fun _ _ _ h=>by unfold bb at h;split at h<;>first|rfl|exact h.elim
theorem nW:bJ (bC Z1 Z2 Z3 Z4 Z5 Q5 hw) 1:=fun _ _ _ h=>by unfold bC at h;split at h<;>first|rfl|exact h.elim
theorem nX:bJ (bD Z1 Z2 Z3 Z4 Z5 Q5 hw) 2:=fun _ _ _ h=>by unfold bD at h;split at h<;>first|rfl|exact h.elim
theorem FI:bJ (sy Z1 Z2 Z3 Z4 Z5 Q5 hw) 1:=fun _ _ _ h=>by unfold sy at h;split at h<;>first|rfl|exact h.elim
end
structure Tx(K:PySem.W.Frag)(mg:Str->Option LC)(Z1 Z2 Z3 Z4 Z5:LB)(Q5:LB):Prop where
 fa_anchor:∀ C∈[Z1,Z2,Z3,Z4,Z5],Cls K C/\cZ K C "anchor"
 fa_name:∀ C∈[Z1,Z2,Z3,Z4,Z5],Cls K C/\cZ K C "name"
 fa_names:∀ C∈[Z1,Z2,Z3,Z4,Z5],Cls K C/\cZ K C "names"
 fa_signs:∀ C∈[Z1,Z2,Z3,Z4,Z5],Cls K C/\cZ K C "signs"
 fa_time:∀ C∈[Z1,Z2,Z3,Z4,Z5],Cls K C/\cZ K C "time"
 fa_word:∀ C∈[Z1,Z2,Z3,Z4,Z5],Cls K C/\cZ K C "word"
 cl_Stroke:Cls K Z1
 cl_Put:Cls K Z2
 cl_Strike:Cls K Z3
 cl_Dress:Cls K Z4
 cl_Move:Cls K Z5
 cl_Paper:Cls K Q5
 na_Paper_old:cZ K Q5 "old"
 na_Paper_drawn:cZ K Q5 "drawn"
 na_Paper_states:cZ K Q5 "states"
 na_Paper_greatest:cZ K Q5 "greatest"
 na_Paper_time:cZ K Q5 "time"
 b_all:mg "all"=none
 b_dict:mg "dict"=none
 b_isinstance:mg "isinstance"=none
 b_len:mg "len"=none
 b_list:mg "list"=none
 b_min:mg "min"=none
 b_range:mg "range"=none
 b_sorted:mg "sorted"=none
 b_tuple:mg "tuple"=none
 b_zip:mg "zip"=none
 k_STANDS:kJ K mg "STANDS" k_STANDS
 k_START:kJ K mg "START" k_START
 k_WAITS:kJ K mg "WAITS" k_WAITS
 k_WIPED:kJ K mg "WIPED" k_WIPED
 xm_Dress:mg "Dress"=some (.ref Z4)
 ik_Dress:∀ p∈([(Z1,false),(Z2,false),(Z3,false),(Z4,true),(Z5,false)]:List (LB×Bool)),InsAsk K p.1/\MU K (.ref p.1) (.ref Z4)=some p.2
 xm_Move:mg "Move"=some (.ref Z5)
 ik_Move:∀ p∈([(Z1,false),(Z2,false),(Z3,false),(Z4,false),(Z5,true)]:List (LB×Bool)),InsAsk K p.1/\MU K (.ref p.1) (.ref Z5)=some p.2
 xm_Put:mg "Put"=some (.ref Z2)
 ik_Put:∀ p∈([(Z1,false),(Z2,true),(Z3,false),(Z4,false),(Z5,false)]:List (LB×Bool)),InsAsk K p.1/\MU K (.ref p.1) (.ref Z2)=some p.2
 xm_Strike:mg "Strike"=some (.ref Z3)
 ik_Strike:∀ p∈([(Z1,false),(Z2,false),(Z3,true),(Z4,false),(Z5,false)]:List (LB×Bool)),InsAsk K p.1/\MU K (.ref p.1) (.ref Z3)=some p.2
section
variable{P:LS}{w:L6}{K:PySem.W.Frag}{mg:Str->Option LC}{base:L5}{Z1 Z2 Z3 Z4 Z5 Q5:LB}
theorem rM{f:LB}{fd:LO}(F:Fun3 K "_law_cell_at" "_law_cell_at" iY f fd)(T:Tx K mg Z1 Z2 Z3 Z4 Z5 Q5) 
  : FnOk P w K mg base dz 1 f fd ["_law_script","_law_k"] (ax K (ce Z1 Z2 Z3 Z4 Z5 Q5 (ah P w))):=by
 refine Fun3.ok3 F rA qx (fun cdv A outer s H E hr=>⟨fA Z1 Z2 Z3 Z4 Z5 Q5 (ah P w),?_,p8 _ _ _ _ _ _ _⟩);have hu8:=u8 hr;have hu4:=u4 hr;unfold fA;exact (aq (fJ (qf zM (ao 1) (bN b_len (by rfl) T.b_len PySem.boot_len (aa (ao 0) al)) (bz _)) (az (aL (b_ (ao 0) (ao 1)))) dj)
   (az (aL ay)))
theorem tj{f:LB}{fd:LO}(F:Fun3 K "_law_stream" "_law_stream" jz f fd)(T:Tx K mg Z1 Z2 Z3 Z4 Z5 Q5) 
  : FnOk P w K mg base dz 1 f fd ["_law_cell","_law_many"] (ax K (bK Z1 Z2 Z3 Z4 Z5 Q5 (ah P w))):=by
 refine Fun3.ok3 F eA rS (fun cdv A outer s H E hr=>⟨fY Z1 Z2 Z3 Z4 Z5 Q5 (ah P w),?_,rE _ _ _ _ _ _ _⟩);have hu8:=u8 hr;have hu4:=u4 hr;unfold fY;exact (aq (Do (i:=2) eA.nd rfl (by walk_at "i") (kM al))
   (aq (bm (i:=3) eA.nd rfl (by walk_at "i") (bX dJ (bX AT (bX eZ (ao 0) ay) ay) ay))
   (aq (kL Ml rfl (uc (by rfl) T.b_range (aa (ao 1) al)) (bu (i:=4) eA.nd rfl (by walk_at "i")) (aq (bm (i:=3) eA.nd rfl (by walk_at "i") (bX dJ (bX AT (bX eZ (bX eZ (ao 3) (bX AT ay (ao 4))) ay) (bX eZ (bX AU (ao 3) ay) ay)) ay))
   (az (cC (i_ (ao 2) (aa (ao 3) al))))))
   (az (yG (i:=2) rfl (by first|exact Or.inl rfl|exact Or.inr (Or.inl rfl)))))))
theorem xa{f:LB}{fd:LO}(F:Fun3 K "_law_pens" "_law_pens" lO f fd)(T:Tx K mg Z1 Z2 Z3 Z4 Z5 Q5)(Rx:Fn3 P w K mg base 1 "_law_stream" [] (bK Z1 Z2 Z3 Z4 Z5 Q5 (ah P w)))
  : FnOk P w K mg base dz 2 f fd ["_law_cell","_law_many"] (ax K (c9 Z1 Z2 Z3 Z4 Z5 Q5 (ah P w))):=by
 refine Fun3.ok3 F eK vh (fun cdv A outer s H E hr=>⟨iQ Z1 Z2 Z3 Z4 Z5 Q5 (ah P w),?_,uN _ _ _ _ _ _ _⟩);have hu8:=u8 hr;have hu4:=u4 hr;unfold iQ;exact (aq (bm (i:=2) eK.nd rfl (by walk_at "i") dD)
   (aq (bm (i:=3) eK.nd rfl (by walk_at "i") (aP Rx (hr.mono (by decide)) (by rfl) (aa (ao 0) (aa ay al))))
   (aq (bm (i:=4) eK.nd rfl (by walk_at "i") (Hu dD (aa (gK (T:=["_law_x"]) (M:=["_law_cell","_law_many","_law_letters","_law_xs","_law_stem","_law_at"]) (bR rfl (by kernel_rfl)) (fun cl C s₀ H₀ fp=>⟨(bu (i:=0) tI rfl (by walk_at "i")),im,(b_ (ao 3) (bX dJ (ao 0) ay))⟩) (ft (gd sr (ao 3) l8 (gf ay)))) al)))
   (aq (fJ (bE (pO hu8) (bX dJ (b_ (ao 3) ay) ay) ay (bz _)) (az (aL (gK (T:=["_law_k"]) (M:=["_law_cell","_law_many","_law_letters","_law_xs","_law_stem","_law_at"]) (bR rfl (by kernel_rfl)) (fun cl C s₀ H₀ fp=>⟨(bu (i:=0) tH rfl (by walk_at "i")),im,(gd sr (ao 5) l8 (gf (bX eZ ay (bX dJ (bX eZ (ao 0) (b_ (ao 4) ay)) ay))))⟩) (uc (by rfl) T.b_range (aa (ao 1) al))))) dj)
   (aq (bm (i:=4) eK.nd rfl (by walk_at "i") (gd sr (ao 4) l8 (gf (bX eZ ay (bX dJ (b_ (ao 3) ay) ay)))))
   (aq (bm (i:=5) eK.nd rfl (by walk_at "i") (bX dJ (bX AU (b_ (ao 3) ay) ay) (bN b_len (by rfl) T.b_len PySem.boot_len (aa (ao 4) al))))
   (az (aL (gK (T:=["_law_k"]) (M:=["_law_cell","_law_many","_law_letters","_law_xs","_law_stem","_law_at"]) (bR rfl (by kernel_rfl)) (fun cl C s₀ H₀ fp=>⟨(bu (i:=0) tG rfl (by walk_at "i")),im,(bX eZ (bX eZ (gd sr (ao 5) l8 (gf (ao 6))) (b_ (ao 3) (bX dJ (bX eZ (bX AU (b_ (ao 4) ay) ay) (bX AT ay (ao 0))) ay))) (gd sr (ao 5) (gf (bX eZ (ao 6) ay)) l8))⟩) (uc (by rfl) T.b_range (aa (ao 1) al)))))))))))
theorem tu{f:LB}{fd:LO}(F:Fun3 K "_law_anchor" "_law_anchor" jB f fd)(T:Tx K mg Z1 Z2 Z3 Z4 Z5 Q5) 
  : FnOk P w K mg base dz 1 f fd ["_law_seats","_law_at"] (ax K (bw Z1 Z2 Z3 Z4 Z5 Q5 (ah P w))):=by
 refine Fun3.ok3 F sD rU (fun cdv A outer s H E hr=>⟨i6 Z1 Z2 Z3 Z4 Z5 Q5 (ah P w),?_,rG _ _ _ _ _ _ _⟩);have hu8:=u8 hr;have hu4:=u4 hr;unfold i6;exact (aq (fJ (bE (pO hu8) (ao 1) ay (bz _)) (az (aL (dG (by rfl) T.k_START))) dj)
   (az (aL (b_ (b_ (ao 0) (bX CL (ao 1) ay)) ay))))
theorem w8{f:LB}{fd:LO}(F:Fun3 K "check_gap" "check_gap" lM f fd)(T:Tx K mg Z1 Z2 Z3 Z4 Z5 Q5) 
  : FnOk P w K mg base dz 1 f fd ["at","length"] (ax K (cv Z1 Z2 Z3 Z4 Z5 Q5 (ah P w))):=by
 refine Fun3.ok3 F wy vf (fun cdv A outer s H E hr=>⟨iP Z1 Z2 Z3 Z4 Z5 Q5 (ah P w),?_,uL _ _ _ _ _ _ _⟩);have hu8:=u8 hr;have hu4:=u4 hr;unfold iP;exact (az (fJ (wT (s_ ER ER ay (ao 0) (ao 1))) (az oP) dj))
theorem w_{f:LB}{fd:LO}(F:Fun3 K "anchor_at" "anchor_at" lN f fd)(T:Tx K mg Z1 Z2 Z3 Z4 Z5 Q5) 
  : FnOk P w K mg base dz 1 f fd ["seats","at"] (ax K (cw Z1 Z2 Z3 Z4 Z5 Q5 (ah P w))):=by
 refine Fun3.ok3 F wz vg (fun cdv A outer s H E hr=>⟨fX Z1 Z2 Z3 Z4 Z5 Q5 (ah P w),?_,uM _ _ _ _ _ _ _⟩);have hu8:=u8 hr;have hu4:=u4 hr;unfold fX;exact (aq (fJ (bE (pO hu8) (ao 1) ay (bz _)) (az (aL (dG (by rfl) T.k_START))) dj)
   (az (aL (b_ (b_ (ao 0) (bX CL (ao 1) ay)) ay))))
theorem uU{f:LB}{fd:LO}(F:Fun3 K "lay_behind" "lay_behind" j5 f fd)(T:Tx K mg Z1 Z2 Z3 Z4 Z5 Q5) 
  : FnOk P w K mg base dz 1 f fd ["following","anchor","slots"] (ax K (cu Z1 Z2 Z3 Z4 Z5 Q5 (ah P w))):=by
 refine Fun3.ok3 F gP tP (fun cdv A outer s H E hr=>⟨gT Z1 Z2 Z3 Z4 Z5 Q5 (ah P w),?_,sO _ _ _ _ _ _ _⟩);have hu8:=u8 hr;have hu4:=u4 hr;unfold gT;exact (aq (bm (i:=3) gP.nd rfl (by walk_at "i") (ao 1))
   (az (kL Ml rfl (ft (ao 2)) (bu (i:=4) gP.nd rfl (by walk_at "i")) (aq (gJ hu8 (ao 0) (ao 4) (m5 hu8 (ao 0) (ao 3)))
   (aq (gJ hu8 (ao 0) (ao 3) (ao 4))
   (az (bm (i:=3) gP.nd rfl (by walk_at "i") (ao 4))))))))
theorem uT{f:LB}{fd:LO}(F:Fun3 K "slots_made" "slots_made" j0 f fd)(T:Tx K mg Z1 Z2 Z3 Z4 Z5 Q5) 
  : FnOk P w K mg base dz 1 f fd ["name","how_many"] (ax K (bA Z1 Z2 Z3 Z4 Z5 Q5 (ah P w))):=by
 refine Fun3.ok3 F uA tO (fun cdv A outer s H E hr=>⟨gR Z1 Z2 Z3 Z4 Z5 Q5 (ah P w),?_,sN _ _ _ _ _ _ _⟩);have hu8:=u8 hr;have hu4:=u4 hr;unfold gR;exact (az (aL (gK (T:=["k"]) (M:=["name","how_many"]) (bR rfl (by kernel_rfl)) (fun cl C s₀ H₀ fp=>⟨(bu (i:=0) rQ rfl (by walk_at "i")),im,(bX eZ (ao 1) (cS (aa (ao 0) al)))⟩) (Ef (by rfl) T.b_range (aa ay (aa (bX eZ (ao 1) ay) al))))))
theorem wX{f:LB}{fd:LO}(F:Fun3 K "old_slots" "old_slots" lJ f fd)(T:Tx K mg Z1 Z2 Z3 Z4 Z5 Q5)(Rq:Fn3 P w K mg base 1 "slots_made" [] (bA Z1 Z2 Z3 Z4 Z5 Q5 (ah P w)))
  : FnOk P w K mg base dz 2 f fd ["old"] (ax K (cr Z1 Z2 Z3 Z4 Z5 Q5 (ah P w))):=by
 refine Fun3.ok3 F ww vc (fun cdv A outer s H E hr=>⟨iM Z1 Z2 Z3 Z4 Z5 Q5 (ah P w),?_,uI _ _ _ _ _ _ _⟩);have hu8:=u8 hr;have hu4:=u4 hr;unfold iM;exact (az (aL (aP Rq (hr.mono (by decide)) (by rfl) (aa (gd sr (dG (by rfl) T.k_START) l8 (gf ay)) (aa (bN b_len (by rfl) T.b_len PySem.boot_len (aa (ao 0) al)) al)))))
theorem oR{f:LB}{fd:LO}(F:Fun3 K "place_in_order" "place_in_order" gC f fd)(T:Tx K mg Z1 Z2 Z3 Z4 Z5 Q5) 
  : FnOk P w K mg base dz 1 f fd ["row"] (ax K (bd Z1 Z2 Z3 Z4 Z5 Q5 (ah P w))):=by
 refine Fun3.ok3 F ou nU (fun cdv A outer s H E hr=>⟨d8 Z1 Z2 Z3 Z4 Z5 Q5 (ah P w),?_,nB _ _ _ _ _ _ _⟩);have hu8:=u8 hr;have hu4:=u4 hr;unfold d8;exact (az (aL (cS (aa (b_ (ao 0) ay) (aa (b_ (ao 0) ay) al)))))
theorem yO{f:LB}{fd:LO}(F:Fun3 K "in_order" "in_order" nl f fd)(T:Tx K mg Z1 Z2 Z3 Z4 Z5 Q5)(RP:Fn3 P w K mg base 1 "place_in_order" [] (bd Z1 Z2 Z3 Z4 Z5 Q5 (ah P w)))
  : FnOk P w K mg base dz 4 f fd ["rows"] (ax K (cL Z1 Z2 Z3 Z4 Z5 Q5 (ah P w))):=by
 refine Fun3.ok3 F lu xt (fun cdv A outer s H E hr=>⟨jn Z1 Z2 Z3 Z4 Z5 Q5 (ah P w),?_,wD _ _ _ _ _ _ _⟩);have hu8:=u8 hr;have hu4:=u4 hr;unfold jn;exact (aq (bm (i:=1) lu.nd rfl (by walk_at "i") qh)
   (aq (Ha Ml rfl (ao 0) (bu (i:=2) lu.nd rfl (by walk_at "i")) (az (gJ hu8 (ao 1) (b_ (ao 2) ay) (ao 2))))
   (az (aL (Fs RP (hr.mono (by decide)) rfl (by rfl) (by rfl) T.b_sorted (ao 1))))))
theorem nL{f:LB}{fd:LO}(F:Fun3 K "__init__" "Stroke.__init__" d6 f fd)(T:Tx K mg Z1 Z2 Z3 Z4 Z5 Q5) 
  : FnOk P w K mg base dz 1 f fd ["self","name","time"] (ax K (aI Z1 Z2 Z3 Z4 Z5 Q5 (ah P w))):=by
 refine Fun3.ok3 F ng mV (fun cdv A outer s H E hr=>⟨dQ Z1 Z2 Z3 Z4 Z5 Q5 (ah P w),?_,mN _ _ _ _ _ _ _⟩);have hu8:=u8 hr;have hu4:=u4 hr;unfold dQ;exact (aq (i7 T.fa_name (ao 0) (ao 1))
   (aq (i7 T.fa_time (ao 0) (ao 2))
   (aq (i7 T.fa_anchor (ao 0) (dG (by rfl) T.k_START))
   (az (i7 T.fa_names (ao 0) (cS al))))))
theorem rN{f:LB}{fd:LO}(F:Fun3 K "__init__" "Put.__init__" iZ f fd)(T:Tx K mg Z1 Z2 Z3 Z4 Z5 Q5)(Q9:Cf3 P w K mg base 1 "Stroke" "__init__" [] (aI Z1 Z2 Z3 Z4 Z5 Q5 (ah P w)))
  : FnOk P w K mg base dz 2 f fd ["self","name","time","anchor","signs"] (ax K (bB Z1 Z2 Z3 Z4 Z5 Q5 (ah P w))):=by
 refine Fun3.ok3 F rC qz (fun cdv A outer s H E hr=>⟨fC Z1 Z2 Z3 Z4 Z5 Q5 (ah P w),?_,p_ _ _ _ _ _ _ _⟩);have hu8:=u8 hr;have hu4:=u4 hr;unfold fC;exact (aq (cC (mF Q9 (hr.mono (by decide)) (by rfl) (aa (ao 0) (aa (ao 1) (aa (ao 2) al)))))
   (aq (i7 T.fa_anchor (ao 0) (ao 3))
   (az (i7 T.fa_signs (ao 0) (ao 4)))))
theorem nM{f:LB}{fd:LO}(F:Fun3 K "__init__" "Strike.__init__" fT f fd)(T:Tx K mg Z1 Z2 Z3 Z4 Z5 Q5)(Q9:Cf3 P w K mg base 1 "Stroke" "__init__" [] (aI Z1 Z2 Z3 Z4 Z5 Q5 (ah P w)))
  : FnOk P w K mg base dz 2 f fd ["self","name","time","names"] (ax K (aX Z1 Z2 Z3 Z4 Z5 Q5 (ah P w))):=by
 refine Fun3.ok3 F nh mW (fun cdv A outer s H E hr=>⟨dR Z1 Z2 Z3 Z4 Z5 Q5 (ah P w),?_,mO _ _ _ _ _ _ _⟩);have hu8:=u8 hr;have hu4:=u4 hr;unfold dR;exact (aq (cC (mF Q9 (hr.mono (by decide)) (by rfl) (aa (ao 0) (aa (ao 1) (aa (ao 2) al)))))
   (az (i7 T.fa_names (ao 0) (ao 3))))
theorem oW{f:LB}{fd:LO}(F:Fun3 K "__init__" "Dress.__init__" gH f fd)(T:Tx K mg Z1 Z2 Z3 Z4 Z5 Q5)(Q9:Cf3 P w K mg base 1 "Stroke" "__init__" [] (aI Z1 Z2 Z3 Z4 Z5 Q5 (ah P w)))
  : FnOk P w K mg base dz 2 f fd ["self","name","time","names","word"] (ax K (bf Z1 Z2 Z3 Z4 Z5 Q5 (ah P w))):=by
 refine Fun3.ok3 F oC nY (fun cdv A outer s H E hr=>⟨ef Z1 Z2 Z3 Z4 Z5 Q5 (ah P w),?_,nG _ _ _ _ _ _ _⟩);have hu8:=u8 hr;have hu4:=u4 hr;unfold ef;exact (aq (cC (mF Q9 (hr.mono (by decide)) (by rfl) (aa (ao 0) (aa (ao 1) (aa (ao 2) al)))))
   (aq (i7 T.fa_names (ao 0) (ao 3))
   (az (i7 T.fa_word (ao 0) (ao 4)))))
theorem qr{f:LB}{fd:LO}(F:Fun3 K "__init__" "Move.__init__" iB f fd)(T:Tx K mg Z1 Z2 Z3 Z4 Z5 Q5)(Q9:Cf3 P w K mg base 1 "Stroke" "__init__" [] (aI Z1 Z2 Z3 Z4 Z5 Q5 (ah P w)))
  : FnOk P w K mg base dz 2 f fd ["self","name","time","names","anchor"] (ax K (bp Z1 Z2 Z3 Z4 Z5 Q5 (ah P w))):=by
 refine Fun3.ok3 F pZ ph (fun cdv A outer s H E hr=>⟨eT Z1 Z2 Z3 Z4 Z5 Q5 (ah P w),?_,oO _ _ _ _ _ _ _⟩);have hu8:=u8 hr;have hu4:=u4 hr;unfold eT;exact (aq (cC (mF Q9 (hr.mono (by decide)) (by rfl) (aa (ao 0) (aa (ao 1) (aa (ao 2) al)))))
   (aq (i7 T.fa_names (ao 0) (ao 3))
   (az (i7 T.fa_anchor (ao 0) (ao 4)))))
theorem wW{f:LB}{fd:LO}(F:Fun3 K "stroke_of" "stroke_of" lH f fd)(T:Tx K mg Z1 Z2 Z3 Z4 Z5 Q5)(Sn:Mk3 P w K mg base 2 "Dress" Z4 [] (bf Z1 Z2 Z3 Z4 Z5 Q5 (ah P w)))(SY:Mk3 P w K mg base 2 "Move" Z5 [] (bp Z1 Z2 Z3 Z4 Z5 Q5 (ah P w)))(TN:Mk3 P w K mg base 2 "Put" Z2 [] (bB Z1 Z2 Z3 Z4 Z5 Q5 (ah P w)))(Sf:Mk3 P w K mg base 2 "Strike" Z3 [] (aX Z1 Z2 Z3 Z4 Z5 Q5 (ah P w)))
  : FnOk P w K mg base dz 4 f fd ["row"] (ax K (cq Z1 Z2 Z3 Z4 Z5 Q5 (ah P w))):=by
 refine Fun3.ok3 F iJ va (fun cdv A outer s H E hr=>⟨iL Z1 Z2 Z3 Z4 Z5 Q5 (ah P w),?_,uH _ _ _ _ _ _ _⟩);have hu8:=u8 hr;have hu4:=u4 hr;unfold iL;exact (aq (bm (i:=1) iJ.nd rfl (by walk_at "i") (b_ (ao 0) ay))
   (aq (bm (i:=2) iJ.nd rfl (by walk_at "i") (b_ (ao 0) ay))
   (aq (bm (i:=3) iJ.nd rfl (by walk_at "i") (b_ (ao 0) ay))
   (aq (fJ (bE (pO hu8) (b_ (ao 3) ay) dD (bz _)) (az (aL (kq TN (hr.mono (by decide)) (by rfl) (aa (ao 1) (aa (ao 2) (aa (b_ (ao 3) ay) (aa (b_ (ao 3) ay) al))))))) dj)
   (aq (fJ (bE (pO hu8) (b_ (ao 3) ay) dD (bz _)) (az (aL (kq Sf (hr.mono (by decide)) (by rfl) (aa (ao 1) (aa (ao 2) (aa (b_ (ao 3) ay) al)))))) dj)
   (aq (fJ (bE (pO hu8) (b_ (ao 3) ay) dD (bz _)) (az (aL (kq Sn (hr.mono (by decide)) (by rfl) (aa (ao 1) (aa (ao 2) (aa (b_ (ao 3) ay) (aa (b_ (ao 3) ay) al))))))) dj)
   (az (aL (kq SY (hr.mono (by decide)) (by rfl) (aa (ao 1) (aa (ao 2) (aa (b_ (ao 3) ay) (aa (b_ (ao 3) ay) al)))))))))))))
theorem Al{f:LB}{fd:LO}(F:Fun3 K "chained" "chained" p4 f fd)(T:Tx K mg Z1 Z2 Z3 Z4 Z5 Q5) 
  : FnOk P w K mg base dz 1 f fd ["following"] (ax K (et Z1 Z2 Z3 Z4 Z5 Q5 (ah P w))):=by
 refine Fun3.ok3 F jY y9 (fun cdv A outer s H E hr=>⟨kj Z1 Z2 Z3 Z4 Z5 Q5 (ah P w),?_,yC _ _ _ _ _ _ _⟩);have hu8:=u8 hr;have hu4:=u4 hr;unfold kj;exact (aq (Do (i:=1) jY.nd rfl (by walk_at "i") (kM al))
   (aq (bm (i:=2) jY.nd rfl (by walk_at "i") (m5 hu8 (ao 0) (dG (by rfl) T.k_START)))
   (aq (E9 Ml (qf GG (ao 2) Gt (bz _)) (aq (cC (i_ (ao 1) (aa (ao 2) al)))
   (az (bm (i:=2) jY.nd rfl (by walk_at "i") (m5 hu8 (ao 0) (ao 2))))))
   (az (yG (i:=1) rfl (by first|exact Or.inl rfl|exact Or.inr (Or.inl rfl)))))))
theorem iE{f:LB}{fd:LO}(F:Fun3 K "slots" "Stroke.slots" eE f fd)(T:Tx K mg Z1 Z2 Z3 Z4 Z5 Q5) 
  : FnOk P w K mg base dz 1 f fd ["self"] (ax K (ar Z1 Z2 Z3 Z4 Z5 Q5 (ah P w))):=by
 refine Fun3.ok3 F rB qy (fun cdv A outer s H E hr=>⟨fB Z1 Z2 Z3 Z4 Z5 Q5 (ah P w),?_,p9 _ _ _ _ _ _ _⟩);have hu8:=u8 hr;have hu4:=u4 hr;unfold fB;exact (az (aL (kM al)))
theorem xc{f:LB}{fd:LO}(F:Fun3 K "slots" "Put.slots" lQ f fd)(T:Tx K mg Z1 Z2 Z3 Z4 Z5 Q5)(Rq:Fn3 P w K mg base 1 "slots_made" [] (bA Z1 Z2 Z3 Z4 Z5 Q5 (ah P w)))
  : FnOk P w K mg base dz 2 f fd ["self"] (ax K (aZ Z1 Z2 Z3 Z4 Z5 Q5 (ah P w))):=by
 refine Fun3.ok3 F wA vj (fun cdv A outer s H E hr=>⟨iS Z1 Z2 Z3 Z4 Z5 Q5 (ah P w),?_,uP _ _ _ _ _ _ _⟩);have hu8:=u8 hr;have hu4:=u4 hr;unfold iS;exact (az (aL (aP Rq (hr.mono (by decide)) (by rfl) (aa (bY T.fa_name (ao 0)) (aa (bN b_len (by rfl) T.b_len PySem.boot_len (aa (bY T.fa_signs (ao 0)) al)) al)))))
theorem u5{f:LB}{fd:LO}(F:Fun3 K "slots" "Move.slots" kg f fd)(T:Tx K mg Z1 Z2 Z3 Z4 Z5 Q5)(Rq:Fn3 P w K mg base 1 "slots_made" [] (bA Z1 Z2 Z3 Z4 Z5 Q5 (ah P w)))
  : FnOk P w K mg base dz 2 f fd ["self"] (ax K (aQ Z1 Z2 Z3 Z4 Z5 Q5 (ah P w))):=by
 refine Fun3.ok3 F uG tW (fun cdv A outer s H E hr=>⟨g_ Z1 Z2 Z3 Z4 Z5 Q5 (ah P w),?_,sV _ _ _ _ _ _ _⟩);have hu8:=u8 hr;have hu4:=u4 hr;unfold g_;exact (az (aL (aP Rq (hr.mono (by decide)) (by rfl) (aa (bY T.fa_name (ao 0)) (aa (bN b_len (by rfl) T.b_len PySem.boot_len (aa (bY T.fa_names (ao 0)) al)) al)))))
theorem yN{f:LB}{fd:LO}(F:Fun3 K "slots_of" "slots_of" nk f fd)(T:Tx K mg Z1 Z2 Z3 Z4 Z5 Q5)(S2:Fn3 P w K mg base 1 "chained" [] (et Z1 Z2 Z3 Z4 Z5 Q5 (ah P w)))(RT:Fn3 P w K mg base 4 "in_order" [] (cL Z1 Z2 Z3 Z4 Z5 Q5 (ah P w)))(R0:Fn3 P w K mg base 1 "lay_behind" [] (cu Z1 Z2 Z3 Z4 Z5 Q5 (ah P w)))(RJ:Fn3 P w K mg base 2 "old_slots" [] (cr Z1 Z2 Z3 Z4 Z5 Q5 (ah P w)))(RI:Fn3 P w K mg base 4 "stroke_of" [] (cq Z1 Z2 Z3 Z4 Z5 Q5 (ah P w)))(Q_:Mt3 P w K mg base 1 Z1 "slots" [] (ar Z1 Z2 Z3 Z4 Z5 Q5 (ah P w)))(Rk:Mt3 P w K mg base 2 Z2 "slots" [] (aZ Z1 Z2 Z3 Z4 Z5 Q5 (ah P w)))(Ra:Mt3 P w K mg base 1 Z3 "slots" [] (ar Z1 Z2 Z3 Z4 Z5 Q5 (ah P w)))(Rb:Mt3 P w K mg base 1 Z4 "slots" [] (ar Z1 Z2 Z3 Z4 Z5 Q5 (ah P w)))(Rg:Mt3 P w K mg base 2 Z5 "slots" [] (aQ Z1 Z2 Z3 Z4 Z5 Q5 (ah P w)))
  : FnOk P w K mg base dz 5 f fd ["old","strokes"] (ax K (dL Z1 Z2 Z3 Z4 Z5 Q5 (ah P w))):=by
 refine Fun3.ok3 F lr xr (fun cdv A outer s H E hr=>⟨jm Z1 Z2 Z3 Z4 Z5 Q5 (ah P w),?_,wC _ _ _ _ _ _ _⟩);have hu8:=u8 hr;have hu4:=u4 hr;unfold jm;exact (aq (bm (i:=2) lr.nd rfl (by walk_at "i") (Fv hu8 (dG (by rfl) T.k_START) Gt))
   (aq (cC (aP R0 (hr.mono (by decide)) (by rfl) (aa (ao 2) (aa (dG (by rfl) T.k_START) (aa (aP RJ (hr.mono (by decide)) (by rfl) (aa (ao 0) al)) al)))))
   (aq (kL Ml rfl (ft (gK (T:=["row"]) (M:=["old","strokes","following","stroke"]) (bR rfl (by kernel_rfl)) (fun cl C s₀ H₀ fp=>⟨(bu (i:=0) u_ rfl (by walk_at "i")),im,(aP RI (hr.mono (by decide)) (by rfl) (aa (ao 0) al))⟩) (ft (aP RT (hr.mono (by decide)) (by rfl) (aa (ao 1) al))))) (bu (i:=3) lr.nd rfl (by walk_at "i")) (az (fJ (Af hu8 (bY T.fa_anchor (ao 3)) (ao 2)) (az (cC (aP R0 (hr.mono (by decide)) (by rfl) (aa (ao 2) (aa (bY T.fa_anchor (ao 3)) (aa (h_ (k:=2) (all_cons ⟨_,(by decide),Q_⟩ (all_cons ⟨_,(by decide),Rk⟩ (all_cons ⟨_,(by decide),Ra⟩ (all_cons ⟨_,(by decide),Rb⟩ (all_cons ⟨_,(by decide),Rg⟩ (fun _ h=>nomatch h)))))) (hr.mono (by decide)) (ao 3)) al)))))) dj)))
   (az (aL (aP S2 (hr.mono (by decide)) (by rfl) (aa (ao 2) al)))))))
theorem B1{f:LB}{fd:LO}(F:Fun3 K "marked" "marked" sI f fd)(T:Tx K mg Z1 Z2 Z3 Z4 Z5 Q5) 
  : FnOk P w K mg base dz 1 f fd ["keys"] (ax K (dY Z1 Z2 Z3 Z4 Z5 Q5 (ah P w))):=by
 refine Fun3.ok3 F BN At (fun cdv A outer s H E hr=>⟨mE Z1 Z2 Z3 Z4 Z5 Q5 (ah P w),?_,zZ _ _ _ _ _ _ _⟩);have hu8:=u8 hr;have hu4:=u4 hr;unfold mE;exact (az (aL (Fu hu8 rfl (by rfl) T.b_dict (gK (T:=["key"]) (M:=["keys"]) (bR rfl (by kernel_rfl)) (fun cl C s₀ H₀ fp=>⟨(bu (i:=0) yX rfl (by walk_at "i")),im,(cS (aa (ao 0) (aa Ah al)))⟩) (ft (ao 0))))))
theorem wY{f:LB}{fd:LO}(F:Fun3 K "is_placed" "is_placed" lK f fd)(T:Tx K mg Z1 Z2 Z3 Z4 Z5 Q5)(Q_:Mt3 P w K mg base 1 Z1 "slots" [] (ar Z1 Z2 Z3 Z4 Z5 Q5 (ah P w)))(Rk:Mt3 P w K mg base 2 Z2 "slots" [] (aZ Z1 Z2 Z3 Z4 Z5 Q5 (ah P w)))(Ra:Mt3 P w K mg base 1 Z3 "slots" [] (ar Z1 Z2 Z3 Z4 Z5 Q5 (ah P w)))(Rb:Mt3 P w K mg base 1 Z4 "slots" [] (ar Z1 Z2 Z3 Z4 Z5 Q5 (ah P w)))(Rg:Mt3 P w K mg base 2 Z5 "slots" [] (aQ Z1 Z2 Z3 Z4 Z5 Q5 (ah P w)))
  : FnOk P w K mg base dz 3 f fd ["stroke","in_row"] (ax K (c7 Z1 Z2 Z3 Z4 Z5 Q5 (ah P w))):=by
 refine Fun3.ok3 F wx vd (fun cdv A outer s H E hr=>⟨iN Z1 Z2 Z3 Z4 Z5 Q5 (ah P w),?_,uJ _ _ _ _ _ _ _⟩);have hu8:=u8 hr;have hu4:=u4 hr;unfold iN;exact (az (aL (bN (Iu rfl) (by rfl) T.b_all PyProof.Rows.boot_all (aa (gK (T:=["slot"]) (M:=["stroke","in_row"]) (bR rfl (by kernel_rfl)) (fun cl C s₀ H₀ fp=>⟨(bu (i:=0) tD rfl (by walk_at "i")),im,(Jk hu8 (ao 0) (ao 2))⟩) (ft (h_ (k:=2) (all_cons ⟨_,(by decide),Q_⟩ (all_cons ⟨_,(by decide),Rk⟩ (all_cons ⟨_,(by decide),Ra⟩ (all_cons ⟨_,(by decide),Rb⟩ (all_cons ⟨_,(by decide),Rg⟩ (fun _ h=>nomatch h)))))) (hr.mono (by decide)) (ao 0)))) al))))
theorem wZ{f:LB}{fd:LO}(F:Fun3 K "effective" "effective" lL f fd)(T:Tx K mg Z1 Z2 Z3 Z4 Z5 Q5)(RT:Fn3 P w K mg base 4 "in_order" [] (cL Z1 Z2 Z3 Z4 Z5 Q5 (ah P w)))(Su:Fn3 P w K mg base 3 "is_placed" [] (c7 Z1 Z2 Z3 Z4 Z5 Q5 (ah P w)))(Sh:Fn3 P w K mg base 1 "marked" [] (dY Z1 Z2 Z3 Z4 Z5 Q5 (ah P w)))(RI:Fn3 P w K mg base 4 "stroke_of" [] (cq Z1 Z2 Z3 Z4 Z5 Q5 (ah P w)))
  : FnOk P w K mg base dz 5 f fd ["strokes","standing","in_row"] (ax K (c8 Z1 Z2 Z3 Z4 Z5 Q5 (ah P w))):=by
 refine Fun3.ok3 F jX ve (fun cdv A outer s H E hr=>⟨iO Z1 Z2 Z3 Z4 Z5 Q5 (ah P w),?_,uK _ _ _ _ _ _ _⟩);have hu8:=u8 hr;have hu4:=u4 hr;unfold iO;exact (aq (bm (i:=3) jX.nd rfl (by walk_at "i") (aP Sh (hr.mono (by decide)) (by rfl) (aa (ao 1) al)))
   (aq (Dp (T:=["row"]) (M:=["strokes","standing","in_row","stands","chosen"]) (i:=4) (bR rfl (by kernel_rfl)) jX.nd rfl rfl (fun cl C s₀ H₀ fp=>⟨(bu (i:=0) tF rfl (by walk_at "i")),(sx (Af hu8 (b_ (ao 0) ay) (ao 4))),(aP RI (hr.mono (by decide)) (by rfl) (aa (ao 0) al))⟩) (ft (aP RT (hr.mono (by decide)) (by rfl) (aa (ao 0) al))))
   (az (aL (gK (T:=["stroke"]) (M:=["strokes","standing","in_row","stands","chosen"]) (bR rfl (by kernel_rfl)) (fun cl C s₀ H₀ fp=>⟨(bu (i:=0) tE rfl (by walk_at "i")),(sx (jO (aP Su (hr.mono (by decide)) (by rfl) (aa (ao 0) (aa (ao 3) al))))),(ao 0)⟩) (ft (ao 4)))))))
theorem qi{f:LB}{fd:LO}(F:Fun3 K "signs_brought" "signs_brought" iq f fd)(T:Tx K mg Z1 Z2 Z3 Z4 Z5 Q5)(RJ:Fn3 P w K mg base 2 "old_slots" [] (cr Z1 Z2 Z3 Z4 Z5 Q5 (ah P w)))(Q_:Mt3 P w K mg base 1 Z1 "slots" [] (ar Z1 Z2 Z3 Z4 Z5 Q5 (ah P w)))(Rk:Mt3 P w K mg base 2 Z2 "slots" [] (aZ Z1 Z2 Z3 Z4 Z5 Q5 (ah P w)))(Ra:Mt3 P w K mg base 1 Z3 "slots" [] (ar Z1 Z2 Z3 Z4 Z5 Q5 (ah P w)))(Rb:Mt3 P w K mg base 1 Z4 "slots" [] (ar Z1 Z2 Z3 Z4 Z5 Q5 (ah P w)))(Rg:Mt3 P w K mg base 2 Z5 "slots" [] (aQ Z1 Z2 Z3 Z4 Z5 Q5 (ah P w)))
  : FnOk P w K mg base dz 3 f fd ["old","strokes"] (ax K (bP Z1 Z2 Z3 Z4 Z5 Q5 (ah P w))):=by
 refine Fun3.ok3 F dF o7 (fun cdv A outer s H E hr=>⟨eL Z1 Z2 Z3 Z4 Z5 Q5 (ah P w),?_,oF _ _ _ _ _ _ _⟩);have hu8:=u8 hr;have hu4:=u4 hr;unfold eL;exact (aq (bm (i:=2) dF.nd rfl (by walk_at "i") (Ft hu8 rfl (by rfl) T.b_dict (by rfl) T.b_zip (aa (aP RJ (hr.mono (by decide)) (by rfl) (aa (ao 0) al)) (aa (ao 0) al))))
   (aq (kL Ml rfl (ft (ao 1)) (bu (i:=3) dF.nd rfl (by walk_at "i")) (az (fJ (jO (bN (Bu T.ik_Put) (by rfl) T.b_isinstance OF (aa (ao 3) (aa (wV (by rfl) T.xm_Put) al)))) (az (kL Ml rfl (Gz (by rfl) T.b_zip (aa (h_ (k:=2) (all_cons ⟨_,(by decide),Q_⟩ (all_cons ⟨_,(by decide),Rk⟩ (all_cons ⟨_,(by decide),Ra⟩ (all_cons ⟨_,(by decide),Rb⟩ (all_cons ⟨_,(by decide),Rg⟩ (fun _ h=>nomatch h)))))) (hr.mono (by decide)) (ao 3)) (aa (bY T.fa_signs (ao 3)) al))) (Bk (n:=2) rfl (mn (bu (i:=4) dF.nd rfl (by walk_at "i")) (mn (bu (i:=5) dF.nd rfl (by walk_at "i")) Bl))) (az (gJ hu8 (ao 2) (ao 4) (ao 5))))) dj)))
   (az (aL (ao 2)))))
theorem dk{f:LB}{fd:LO}(F:Fun3 K "touched" "Stroke.touched" cm f fd)(T:Tx K mg Z1 Z2 Z3 Z4 Z5 Q5) 
  : FnOk P w K mg base dz 1 f fd ["self"] (ax K (ag Z1 Z2 Z3 Z4 Z5 Q5 (ah P w))):=by
 refine Fun3.ok3 F ow nV (fun cdv A outer s H E hr=>⟨d9 Z1 Z2 Z3 Z4 Z5 Q5 (ah P w),?_,nC _ _ _ _ _ _ _⟩);have hu8:=u8 hr;have hu4:=u4 hr;unfold d9;exact (az (aL (i9 b_list (by rfl) T.b_list PyProof.Rows.boot_list (aa (bY T.fa_names (ao 0)) al))))
theorem rL{f:LB}{fd:LO}(F:Fun3 K "signs_struck" "signs_struck" iX f fd)(T:Tx K mg Z1 Z2 Z3 Z4 Z5 Q5)(Re:Mt3 P w K mg base 1 Z1 "touched" [] (ag Z1 Z2 Z3 Z4 Z5 Q5 (ah P w)))(Rp:Mt3 P w K mg base 1 Z2 "touched" [] (ag Z1 Z2 Z3 Z4 Z5 Q5 (ah P w)))(Rf:Mt3 P w K mg base 1 Z3 "touched" [] (ag Z1 Z2 Z3 Z4 Z5 Q5 (ah P w)))(Rj:Mt3 P w K mg base 1 Z4 "touched" [] (ag Z1 Z2 Z3 Z4 Z5 Q5 (ah P w)))(Rl:Mt3 P w K mg base 1 Z5 "touched" [] (ag Z1 Z2 Z3 Z4 Z5 Q5 (ah P w)))
  : FnOk P w K mg base dz 2 f fd ["strokes"] (ax K (cb Z1 Z2 Z3 Z4 Z5 Q5 (ah P w))):=by
 refine Fun3.ok3 F fx qw (fun cdv A outer s H E hr=>⟨fy Z1 Z2 Z3 Z4 Z5 Q5 (ah P w),?_,p7 _ _ _ _ _ _ _⟩);have hu8:=u8 hr;have hu4:=u4 hr;unfold fy;exact (aq (bm (i:=1) fx.nd rfl (by walk_at "i") qh)
   (aq (kL Ml rfl (ft (ao 0)) (bu (i:=2) fx.nd rfl (by walk_at "i")) (az (fJ (jO (bN (Bu T.ik_Strike) (by rfl) T.b_isinstance OF (aa (ao 2) (aa (wV (by rfl) T.xm_Strike) al)))) (az (kL Ml rfl (ft (h_ (k:=1) (all_cons ⟨_,(by decide),Re⟩ (all_cons ⟨_,(by decide),Rp⟩ (all_cons ⟨_,(by decide),Rf⟩ (all_cons ⟨_,(by decide),Rj⟩ (all_cons ⟨_,(by decide),Rl⟩ (fun _ h=>nomatch h)))))) (hr.mono (by decide)) (ao 2))) (bu (i:=3) fx.nd rfl (by walk_at "i")) (az (gJ hu8 (ao 1) (ao 3) Ah)))) dj)))
   (az (aL (ao 1)))))
theorem tf{f:LB}{fd:LO}(F:Fun3 K "slots_taken" "slots_taken" jy f fd)(T:Tx K mg Z1 Z2 Z3 Z4 Z5 Q5)(Q_:Mt3 P w K mg base 1 Z1 "slots" [] (ar Z1 Z2 Z3 Z4 Z5 Q5 (ah P w)))(Rk:Mt3 P w K mg base 2 Z2 "slots" [] (aZ Z1 Z2 Z3 Z4 Z5 Q5 (ah P w)))(Ra:Mt3 P w K mg base 1 Z3 "slots" [] (ar Z1 Z2 Z3 Z4 Z5 Q5 (ah P w)))(Rb:Mt3 P w K mg base 1 Z4 "slots" [] (ar Z1 Z2 Z3 Z4 Z5 Q5 (ah P w)))(Rg:Mt3 P w K mg base 2 Z5 "slots" [] (aQ Z1 Z2 Z3 Z4 Z5 Q5 (ah P w)))(Re:Mt3 P w K mg base 1 Z1 "touched" [] (ag Z1 Z2 Z3 Z4 Z5 Q5 (ah P w)))(Rp:Mt3 P w K mg base 1 Z2 "touched" [] (ag Z1 Z2 Z3 Z4 Z5 Q5 (ah P w)))(Rf:Mt3 P w K mg base 1 Z3 "touched" [] (ag Z1 Z2 Z3 Z4 Z5 Q5 (ah P w)))(Rj:Mt3 P w K mg base 1 Z4 "touched" [] (ag Z1 Z2 Z3 Z4 Z5 Q5 (ah P w)))(Rl:Mt3 P w K mg base 1 Z5 "touched" [] (ag Z1 Z2 Z3 Z4 Z5 Q5 (ah P w)))
  : FnOk P w K mg base dz 3 f fd ["strokes"] (ax K (cz Z1 Z2 Z3 Z4 Z5 Q5 (ah P w))):=by
 refine Fun3.ok3 F eu rR (fun cdv A outer s H E hr=>⟨fW Z1 Z2 Z3 Z4 Z5 Q5 (ah P w),?_,rD _ _ _ _ _ _ _⟩);have hu8:=u8 hr;have hu4:=u4 hr;unfold fW;exact (aq (bm (i:=1) eu.nd rfl (by walk_at "i") qh)
   (aq (kL Ml rfl (ft (ao 0)) (bu (i:=2) eu.nd rfl (by walk_at "i")) (az (fJ (jO (bN (Bu T.ik_Move) (by rfl) T.b_isinstance OF (aa (ao 2) (aa (wV (by rfl) T.xm_Move) al)))) (az (kL Ml rfl (Gz (by rfl) T.b_zip (aa (h_ (k:=1) (all_cons ⟨_,(by decide),Re⟩ (all_cons ⟨_,(by decide),Rp⟩ (all_cons ⟨_,(by decide),Rf⟩ (all_cons ⟨_,(by decide),Rj⟩ (all_cons ⟨_,(by decide),Rl⟩ (fun _ h=>nomatch h)))))) (hr.mono (by decide)) (ao 2)) (aa (h_ (k:=2) (all_cons ⟨_,(by decide),Q_⟩ (all_cons ⟨_,(by decide),Rk⟩ (all_cons ⟨_,(by decide),Ra⟩ (all_cons ⟨_,(by decide),Rb⟩ (all_cons ⟨_,(by decide),Rg⟩ (fun _ h=>nomatch h)))))) (hr.mono (by decide)) (ao 2)) al))) (Bk (n:=2) rfl (mn (bu (i:=3) eu.nd rfl (by walk_at "i")) (mn (bu (i:=4) eu.nd rfl (by walk_at "i")) Bl))) (az (gJ hu8 (ao 1) (ao 3) (ao 4))))) dj)))
   (az (aL (ao 1)))))
theorem uS{f:LB}{fd:LO}(F:Fun3 K "words_worn" "words_worn" jZ f fd)(T:Tx K mg Z1 Z2 Z3 Z4 Z5 Q5)(Re:Mt3 P w K mg base 1 Z1 "touched" [] (ag Z1 Z2 Z3 Z4 Z5 Q5 (ah P w)))(Rp:Mt3 P w K mg base 1 Z2 "touched" [] (ag Z1 Z2 Z3 Z4 Z5 Q5 (ah P w)))(Rf:Mt3 P w K mg base 1 Z3 "touched" [] (ag Z1 Z2 Z3 Z4 Z5 Q5 (ah P w)))(Rj:Mt3 P w K mg base 1 Z4 "touched" [] (ag Z1 Z2 Z3 Z4 Z5 Q5 (ah P w)))(Rl:Mt3 P w K mg base 1 Z5 "touched" [] (ag Z1 Z2 Z3 Z4 Z5 Q5 (ah P w)))
  : FnOk P w K mg base dz 2 f fd ["strokes"] (ax K (cK Z1 Z2 Z3 Z4 Z5 Q5 (ah P w))):=by
 refine Fun3.ok3 F gO tN (fun cdv A outer s H E hr=>⟨gQ Z1 Z2 Z3 Z4 Z5 Q5 (ah P w),?_,sM _ _ _ _ _ _ _⟩);have hu8:=u8 hr;have hu4:=u4 hr;unfold gQ;exact (aq (bm (i:=1) gO.nd rfl (by walk_at "i") qh)
   (aq (kL Ml rfl (ft (ao 0)) (bu (i:=2) gO.nd rfl (by walk_at "i")) (az (fJ (jO (bN (Bu T.ik_Dress) (by rfl) T.b_isinstance OF (aa (ao 2) (aa (wV (by rfl) T.xm_Dress) al)))) (az (kL Ml rfl (ft (h_ (k:=1) (all_cons ⟨_,(by decide),Re⟩ (all_cons ⟨_,(by decide),Rp⟩ (all_cons ⟨_,(by decide),Rf⟩ (all_cons ⟨_,(by decide),Rj⟩ (all_cons ⟨_,(by decide),Rl⟩ (fun _ h=>nomatch h)))))) (hr.mono (by decide)) (ao 2))) (bu (i:=3) gO.nd rfl (by walk_at "i")) (az (gJ hu8 (ao 1) (ao 3) (bY T.fa_word (ao 2)))))) dj)))
   (az (aL (ao 1)))))
theorem B0{f:LB}{fd:LO}(F:Fun3 K "seated" "seated" sH f fd)(T:Tx K mg Z1 Z2 Z3 Z4 Z5 Q5)(Sv:Fn3 P w K mg base 5 "effective" [] (c8 Z1 Z2 Z3 Z4 Z5 Q5 (ah P w)))(Sh:Fn3 P w K mg base 1 "marked" [] (dY Z1 Z2 Z3 Z4 Z5 Q5 (ah P w)))(RV:Fn3 P w K mg base 3 "signs_brought" [] (bP Z1 Z2 Z3 Z4 Z5 Q5 (ah P w)))(R4:Fn3 P w K mg base 2 "signs_struck" [] (cb Z1 Z2 Z3 Z4 Z5 Q5 (ah P w)))(SI:Fn3 P w K mg base 5 "slots_of" [] (dL Z1 Z2 Z3 Z4 Z5 Q5 (ah P w)))(Sb:Fn3 P w K mg base 3 "slots_taken" [] (cz Z1 Z2 Z3 Z4 Z5 Q5 (ah P w)))(So:Fn3 P w K mg base 2 "words_worn" [] (cK Z1 Z2 Z3 Z4 Z5 Q5 (ah P w)))
  : FnOk P w K mg base dz 6 f fd ["old","strokes","standing"] (ax K (dX Z1 Z2 Z3 Z4 Z5 Q5 (ah P w))):=by
 refine Fun3.ok3 F dZ As (fun cdv A outer s H E hr=>⟨mD Z1 Z2 Z3 Z4 Z5 Q5 (ah P w),?_,zY _ _ _ _ _ _ _⟩);have hu8:=u8 hr;have hu4:=u4 hr;unfold mD;exact (aq (bm (i:=3) dZ.nd rfl (by walk_at "i") (aP SI (hr.mono (by decide)) (by rfl) (aa (ao 0) (aa (ao 1) al))))
   (aq (bm (i:=4) dZ.nd rfl (by walk_at "i") (aP Sv (hr.mono (by decide)) (by rfl) (aa (ao 1) (aa (ao 2) (aa (aP Sh (hr.mono (by decide)) (by rfl) (aa (ao 3) al)) al)))))
   (aq (bm (i:=5) dZ.nd rfl (by walk_at "i") (aP RV (hr.mono (by decide)) (by rfl) (aa (ao 0) (aa (ao 4) al))))
   (aq (bm (i:=6) dZ.nd rfl (by walk_at "i") (aP R4 (hr.mono (by decide)) (by rfl) (aa (ao 4) al)))
   (aq (bm (i:=7) dZ.nd rfl (by walk_at "i") (aP Sb (hr.mono (by decide)) (by rfl) (aa (ao 4) al)))
   (aq (bm (i:=8) dZ.nd rfl (by walk_at "i") (aP So (hr.mono (by decide)) (by rfl) (aa (ao 4) al)))
   (aq (bm (i:=9) dZ.nd rfl (by walk_at "i") qh)
   (aq (Hb Ml rfl (ao 5) (bu (i:=10) dZ.nd rfl (by walk_at "i")) (az (fJ (vS hu8 (ao 10) (ao 6)) (az (gJ hu8 (ao 9) (sd hu8 (ao 7) (ao 10) (ao 10)) (ao 10))) dj)))
   (aq (Dp (T:=["slot"]) (M:=["old","strokes","standing","row","working","brought","struck","taken","worn","sitting","name","seats"]) (i:=11) (bR rfl (by kernel_rfl)) dZ.nd rfl rfl (fun cl C s₀ H₀ fp=>⟨(bu (i:=0) yW rfl (by walk_at "i")),(sx (Af hu8 (ao 0) (ao 10))),(cS (aa (ao 0) (aa (m5 hu8 (ao 10) (ao 0)) al)))⟩) (ft (ao 3)))
   (az (aL (gK (T:=["slot","name"]) (M:=["old","strokes","standing","row","working","brought","struck","taken","worn","sitting","-name","seats"]) (bR rfl (by kernel_rfl)) (fun cl C s₀ H₀ fp=>⟨(Bk (n:=2) rfl (mn (bu (i:=0) qR rfl (by walk_at "i")) (mn (bu (i:=1) qR rfl (by walk_at "i")) Bl))),im,(cS (aa (ao 0) (aa (ao 1) (aa (m5 hu8 (ao 7) (ao 1)) (aa (sd hu8 (ao 10) (ao 1) dD) al)))))⟩) (ft (ao 11))))))))))))))
theorem qm{f:LB}{fd:LO}(F:Fun3 K "unwiped" "Paper.unwiped" ix f fd)(T:Tx K mg Z1 Z2 Z3 Z4 Z5 Q5) 
  : FnOk P w K mg base dz 1 f fd ["self"] (ax K (bo Z1 Z2 Z3 Z4 Z5 Q5 (ah P w))):=by
 refine Fun3.ok3 F pW pc (fun cdv A outer s H E hr=>⟨eP Z1 Z2 Z3 Z4 Z5 Q5 (ah P w),?_,oK _ _ _ _ _ _ _⟩);have hu8:=u8 hr;have hu4:=u4 hr;unfold eP;exact (az (aL (Ba (T:=["row"]) (M:=["self"]) (bR rfl (by kernel_rfl)) (fun cl C s₀ H₀ fp=>⟨(bu (i:=0) nT rfl (by walk_at "i")),(sx (bE (on hu8) (m5 hu8 (fo T.cl_Paper T.na_Paper_states cH (ao 1)) (b_ (ao 0) ay)) (dG (by rfl) T.k_WIPED) (bz _))),(b_ (ao 0) ay)⟩) (fo T.cl_Paper T.na_Paper_drawn dI (ao 0)))))
theorem tx{f:LB}{fd:LO}(F:Fun3 K "seats" "Paper.seats" jD f fd)(T:Tx K mg Z1 Z2 Z3 Z4 Z5 Q5)(Sg:Fn3 P w K mg base 6 "seated" [] (dX Z1 Z2 Z3 Z4 Z5 Q5 (ah P w)))(Rr:Mt3 P w K mg base 1 Q5 "unwiped" [] (bo Z1 Z2 Z3 Z4 Z5 Q5 (ah P w)))
  : FnOk P w K mg base dz 7 f fd ["self"] (ax K (aF Z1 Z2 Z3 Z4 Z5 Q5 (ah P w))):=by
 refine Fun3.ok3 F sF rW (fun cdv A outer s H E hr=>⟨f7 Z1 Z2 Z3 Z4 Z5 Q5 (ah P w),?_,rJ _ _ _ _ _ _ _⟩);have hu8:=u8 hr;have hu4:=u4 hr;unfold f7;exact (az (aL (aP Sg (hr.mono (by decide)) (by rfl) (aa (fo T.cl_Paper T.na_Paper_old kH (ao 0)) (aa (fo T.cl_Paper T.na_Paper_drawn dI (ao 0)) (aa (bg Rr jP (hr.mono (by decide)) (ao 0)) al))))))
theorem Am{f:LB}{fd:LO}(F:Fun3 K "row" "Put.row" p5 f fd)(T:Tx K mg Z1 Z2 Z3 Z4 Z5 Q5) 
  : FnOk P w K mg base dz 1 f fd ["self"] (ax K (dB Z1 Z2 Z3 Z4 Z5 Q5 (ah P w))):=by
 refine Fun3.ok3 F zV y_ (fun cdv A outer s H E hr=>⟨km Z1 Z2 Z3 Z4 Z5 Q5 (ah P w),?_,yD _ _ _ _ _ _ _⟩);have hu8:=u8 hr;have hu4:=u4 hr;unfold km;exact (az (aL (cS (aa (bY T.fa_name (ao 0)) (aa (bY T.fa_time (ao 0)) (aa (cS (aa dD (aa (bY T.fa_anchor (ao 0)) (aa (bY T.fa_signs (ao 0)) al)))) al))))))
theorem uV{f:LB}{fd:LO}(F:Fun3 K "row" "Strike.row" j6 f fd)(T:Tx K mg Z1 Z2 Z3 Z4 Z5 Q5) 
  : FnOk P w K mg base dz 1 f fd ["self"] (ax K (bT Z1 Z2 Z3 Z4 Z5 Q5 (ah P w))):=by
 refine Fun3.ok3 F uB tQ (fun cdv A outer s H E hr=>⟨gU Z1 Z2 Z3 Z4 Z5 Q5 (ah P w),?_,sP _ _ _ _ _ _ _⟩);have hu8:=u8 hr;have hu4:=u4 hr;unfold gU;exact (az (aL (cS (aa (bY T.fa_name (ao 0)) (aa (bY T.fa_time (ao 0)) (aa (cS (aa dD (aa (bY T.fa_names (ao 0)) al))) al))))))
theorem xg{f:LB}{fd:LO}(F:Fun3 K "row" "Dress.row" lU f fd)(T:Tx K mg Z1 Z2 Z3 Z4 Z5 Q5) 
  : FnOk P w K mg base dz 1 f fd ["self"] (ax K (cy Z1 Z2 Z3 Z4 Z5 Q5 (ah P w))):=by
 refine Fun3.ok3 F wB vm (fun cdv A outer s H E hr=>⟨iU Z1 Z2 Z3 Z4 Z5 Q5 (ah P w),?_,uR _ _ _ _ _ _ _⟩);have hu8:=u8 hr;have hu4:=u4 hr;unfold iU;exact (az (aL (cS (aa (bY T.fa_name (ao 0)) (aa (bY T.fa_time (ao 0)) (aa (cS (aa dD (aa (bY T.fa_names (ao 0)) (aa (bY T.fa_word (ao 0)) al)))) al))))))
theorem yR{f:LB}{fd:LO}(F:Fun3 K "row" "Move.row" nv f fd)(T:Tx K mg Z1 Z2 Z3 Z4 Z5 Q5) 
  : FnOk P w K mg base dz 1 f fd ["self"] (ax K (cP Z1 Z2 Z3 Z4 Z5 Q5 (ah P w))):=by
 refine Fun3.ok3 F yz xw (fun cdv A outer s H E hr=>⟨jr Z1 Z2 Z3 Z4 Z5 Q5 (ah P w),?_,wG _ _ _ _ _ _ _⟩);have hu8:=u8 hr;have hu4:=u4 hr;unfold jr;exact (az (aL (cS (aa (bY T.fa_name (ao 0)) (aa (bY T.fa_time (ao 0)) (aa (cS (aa dD (aa (bY T.fa_names (ao 0)) (aa (bY T.fa_anchor (ao 0)) al)))) al))))))
theorem u0{f:LB}{fd:LO}(F:Fun3 K "draw" "Paper.draw" ke f fd)(T:Tx K mg Z1 Z2 Z3 Z4 Z5 Q5)(SH:Mt3 P w K mg base 1 Z2 "row" [] (dB Z1 Z2 Z3 Z4 Z5 Q5 (ah P w)))(R8:Mt3 P w K mg base 1 Z3 "row" [] (bT Z1 Z2 Z3 Z4 Z5 Q5 (ah P w)))(Sm:Mt3 P w K mg base 1 Z4 "row" [] (cy Z1 Z2 Z3 Z4 Z5 Q5 (ah P w)))(Ss:Mt3 P w K mg base 1 Z5 "row" [] (cP Z1 Z2 Z3 Z4 Z5 Q5 (ah P w)))
  : FnOk P w K mg base dz 2 f fd ["self","stroke"] (ax K (be Z1 Z2 Z3 Z4 Z5 Q5 (ah P w))):=by
 refine Fun3.ok3 F uF tV (fun cdv A outer s H E hr=>⟨gZ Z1 Z2 Z3 Z4 Z5 Q5 (ah P w),?_,sU _ _ _ _ _ _ _⟩);have hu8:=u8 hr;have hu4:=u4 hr;unfold gZ;exact (aq (cC (i_ (fo T.cl_Paper T.na_Paper_drawn dI (ao 0)) (aa (h_ (k:=1) (all_cons ⟨_,(by decide),SH⟩ (all_cons ⟨_,(by decide),R8⟩ (all_cons ⟨_,(by decide),Sm⟩ (all_cons ⟨_,(by decide),Ss⟩ (fun _ h=>nomatch h))))) (hr.mono (by decide)) (ao 1)) al)))
   (aq (gJ hu8 (fo T.cl_Paper T.na_Paper_states cH (ao 0)) (bY T.fa_name (ao 1)) (dG (by rfl) T.k_WAITS))
   (aq (gJ hu8 (fo T.cl_Paper T.na_Paper_greatest gv (ao 0)) (b_ (bY T.fa_name (ao 1)) ay) (b_ (bY T.fa_name (ao 1)) ay))
   (aq (IY T.cl_Paper T.na_Paper_time jH (by decide) (ao 0) (bY T.fa_time (ao 1)))
   (az (aL (bY T.fa_name (ao 1))))))))
theorem lZ{f:LB}{fd:LO}(F:Fun3 K "coming_name" "Paper.coming_name" fe f fd)(T:Tx K mg Z1 Z2 Z3 Z4 Z5 Q5) 
  : FnOk P w K mg base dz 1 f fd ["self","pen"] (ax K (aD Z1 Z2 Z3 Z4 Z5 Q5 (ah P w))):=by
 refine Fun3.ok3 F lE kY (fun cdv A outer s H E hr=>⟨df Z1 Z2 Z3 Z4 Z5 Q5 (ah P w),?_,kS _ _ _ _ _ _ _⟩);have hu8:=u8 hr;have hu4:=u4 hr;unfold df;exact (az (aL (cS (aa (ao 1) (aa (bX eZ (sd hu8 (fo T.cl_Paper T.na_Paper_greatest gv (ao 0)) (ao 1) ay) ay) al)))))
theorem lY{f:LB}{fd:LO}(F:Fun3 K "coming_time" "Paper.coming_time" fc f fd)(T:Tx K mg Z1 Z2 Z3 Z4 Z5 Q5) 
  : FnOk P w K mg base dz 1 f fd ["self"] (ax K (aB Z1 Z2 Z3 Z4 Z5 Q5 (ah P w))):=by
 refine Fun3.ok3 F lD kX (fun cdv A outer s H E hr=>⟨de Z1 Z2 Z3 Z4 Z5 Q5 (ah P w),?_,kR _ _ _ _ _ _ _⟩);have hu8:=u8 hr;have hu4:=u4 hr;unfold de;exact (az (aL (bX eZ (fo T.cl_Paper T.na_Paper_time jH (ao 0)) ay)))
theorem xf{f:LB}{fd:LO}(F:Fun3 K "put" "Paper.put" lR f fd)(T:Tx K mg Z1 Z2 Z3 Z4 Z5 Q5)(RL:Fn3 P w K mg base 1 "anchor_at" [] (cw Z1 Z2 Z3 Z4 Z5 Q5 (ah P w)))(RK:Fn3 P w K mg base 1 "check_gap" [] (cv Z1 Z2 Z3 Z4 Z5 Q5 (ah P w)))(Q8:Mt3 P w K mg base 1 Q5 "coming_name" [] (aD Z1 Z2 Z3 Z4 Z5 Q5 (ah P w)))(Q7:Mt3 P w K mg base 1 Q5 "coming_time" [] (aB Z1 Z2 Z3 Z4 Z5 Q5 (ah P w)))(Rc:Mt3 P w K mg base 2 Q5 "draw" [] (be Z1 Z2 Z3 Z4 Z5 Q5 (ah P w)))(Q6:Mt3 P w K mg base 7 Q5 "seats" [] (aF Z1 Z2 Z3 Z4 Z5 Q5 (ah P w)))(TN:Mk3 P w K mg base 2 "Put" Z2 [] (bB Z1 Z2 Z3 Z4 Z5 Q5 (ah P w)))
  : FnOk P w K mg base dz 8 f fd ["self","pen","at","signs"] (ax K (cx Z1 Z2 Z3 Z4 Z5 Q5 (ah P w))):=by
 refine Fun3.ok3 F oz vk (fun cdv A outer s H E hr=>⟨iT Z1 Z2 Z3 Z4 Z5 Q5 (ah P w),?_,uQ _ _ _ _ _ _ _⟩);have hu8:=u8 hr;have hu4:=u4 hr;unfold iT;exact (aq (bm (i:=4) oz.nd rfl (by walk_at "i") (bg Q6 cD (hr.mono (by decide)) (ao 0)))
   (aq (cC (aP RK (hr.mono (by decide)) (by rfl) (aa (ao 2) (aa (bN b_len (by rfl) T.b_len PySem.boot_len (aa (ao 4) al)) al))))
   (az (aL (cT Rc hU (hr.mono (by decide)) (ao 0) (aa (kq TN (hr.mono (by decide)) (by rfl) (aa (cT Q8 dw (hr.mono (by decide)) (ao 0) (aa (ao 1) al)) (aa (bg Q7 du (hr.mono (by decide)) (ao 0)) (aa (aP RL (hr.mono (by decide)) (by rfl) (aa (ao 4) (aa (ao 2) al))) (aa (ao 3) al))))) al))))))
theorem uY{f:LB}{fd:LO}(F:Fun3 K "part" "Paper.part" j9 f fd)(T:Tx K mg Z1 Z2 Z3 Z4 Z5 Q5)(Rz:Mt3 P w K mg base 8 Q5 "put" [] (cx Z1 Z2 Z3 Z4 Z5 Q5 (ah P w)))
  : FnOk P w K mg base dz 9 f fd ["self","pen","at"] (ax K (cN Z1 Z2 Z3 Z4 Z5 Q5 (ah P w))):=by
 refine Fun3.ok3 F uE tT (fun cdv A outer s H E hr=>⟨gX Z1 Z2 Z3 Z4 Z5 Q5 (ah P w),?_,sS _ _ _ _ _ _ _⟩);have hu8:=u8 hr;have hu4:=u4 hr;unfold gX;exact (az (aL (cT Rz oX (hr.mono (by decide)) (ao 0) (aa (ao 1) (aa (ao 2) (aa dD al))))))
theorem yP{f:LB}{fd:LO}(F:Fun3 K "_law_put" "_law_put" no f fd)(T:Tx K mg Z1 Z2 Z3 Z4 Z5 Q5)(Rt:Fn3 P w K mg base 1 "_law_anchor" [] (bw Z1 Z2 Z3 Z4 Z5 Q5 (ah P w)))(R_:Mt3 P w K mg base 9 Q5 "part" [] (cN Z1 Z2 Z3 Z4 Z5 Q5 (ah P w)))(Rz:Mt3 P w K mg base 8 Q5 "put" [] (cx Z1 Z2 Z3 Z4 Z5 Q5 (ah P w)))
  : FnOk P w K mg base dz 10 f fd ["_law_paper","_law_pen","_law_xs","_law_seats"] (ax K (dM Z1 Z2 Z3 Z4 Z5 Q5 (ah P w))):=by
 refine Fun3.ok3 F lA xu (fun cdv A outer s H E hr=>⟨jp Z1 Z2 Z3 Z4 Z5 Q5 (ah P w),?_,wE _ _ _ _ _ _ _⟩);have hu8:=u8 hr;have hu4:=u4 hr;unfold jp;exact (aq (bm (i:=4) lA.nd rfl (by walk_at "i") (bX dJ (b_ (ao 2) ay) (bX eZ (bN b_len (by rfl) T.b_len PySem.boot_len (aa (ao 3) al)) ay)))
   (aq (fJ (bE (pO hu8) (bX dJ (b_ (ao 2) ay) ay) ay (bz _)) (az (aL (cS (aa (cT R_ u7 (hr.mono (by decide)) (ao 0) (aa (ao 1) (aa (ao 4) al))) (aa (cS (aa dD (aa (aP Rt (hr.mono (by decide)) (by rfl) (aa (ao 3) (aa (ao 4) al))) (aa dD al)))) al))))) dj)
   (aq (bm (i:=5) lA.nd rfl (by walk_at "i") (b_ (kM (aa dD (aa dD (aa dD (aa dD al))))) (bX dJ (b_ (ao 2) ay) ay)))
   (az (aL (cS (aa (cT Rz oX (hr.mono (by decide)) (ao 0) (aa (ao 1) (aa (ao 4) (aa (ao 5) al)))) (aa (cS (aa dD (aa (aP Rt (hr.mono (by decide)) (by rfl) (aa (ao 3) (aa (ao 4) al))) (aa (ao 5) al)))) al))))))))
theorem qk{f:LB}{fd:LO}(F:Fun3 K "check_stretch" "check_stretch" iu f fd)(T:Tx K mg Z1 Z2 Z3 Z4 Z5 Q5) 
  : FnOk P w K mg base dz 1 f fd ["at","to","length"] (ax K (aT Z1 Z2 Z3 Z4 Z5 Q5 (ah P w))):=by
 refine Fun3.ok3 F pU o9 (fun cdv A outer s H E hr=>⟨eN Z1 Z2 Z3 Z4 Z5 Q5 (ah P w),?_,oH _ _ _ _ _ _ _⟩);have hu8:=u8 hr;have hu4:=u4 hr;unfold eN;exact (aq (fJ (wT (s_ ER zM ay (ao 0) (ao 2))) (az oP) dj)
   (az (fJ (wT (s_ zM ER (ao 0) (ao 1) (ao 2))) (az oP) dj)))
theorem qj{f:LB}{fd:LO}(F:Fun3 K "names_between" "names_between" ir f fd)(T:Tx K mg Z1 Z2 Z3 Z4 Z5 Q5) 
  : FnOk P w K mg base dz 1 f fd ["seats","at","to"] (ax K (aS Z1 Z2 Z3 Z4 Z5 Q5 (ah P w))):=by
 refine Fun3.ok3 F pT o8 (fun cdv A outer s H E hr=>⟨eM Z1 Z2 Z3 Z4 Z5 Q5 (ah P w),?_,oG _ _ _ _ _ _ _⟩);have hu8:=u8 hr;have hu4:=u4 hr;unfold eM;exact (az (aL (i9 b_tuple (by rfl) T.b_tuple PyProof.Rows.boot_tuple (aa (gK (T:=["seat"]) (M:=["seats","at","to"]) (bR rfl (by kernel_rfl)) (fun cl C s₀ H₀ fp=>⟨(bu (i:=0) nQ rfl (by walk_at "i")),im,(b_ (ao 0) ay)⟩) (ft (gd sr (ao 0) (gf (ao 1)) (gf (ao 2))))) al))))
theorem rO{f:LB}{fd:LO}(F:Fun3 K "strike" "Paper.strike" i0 f fd)(T:Tx K mg Z1 Z2 Z3 Z4 Z5 Q5)(Ri:Fn3 P w K mg base 1 "check_stretch" [] (aT Z1 Z2 Z3 Z4 Z5 Q5 (ah P w)))(Rh:Fn3 P w K mg base 1 "names_between" [] (aS Z1 Z2 Z3 Z4 Z5 Q5 (ah P w)))(Q8:Mt3 P w K mg base 1 Q5 "coming_name" [] (aD Z1 Z2 Z3 Z4 Z5 Q5 (ah P w)))(Q7:Mt3 P w K mg base 1 Q5 "coming_time" [] (aB Z1 Z2 Z3 Z4 Z5 Q5 (ah P w)))(Rc:Mt3 P w K mg base 2 Q5 "draw" [] (be Z1 Z2 Z3 Z4 Z5 Q5 (ah P w)))(Q6:Mt3 P w K mg base 7 Q5 "seats" [] (aF Z1 Z2 Z3 Z4 Z5 Q5 (ah P w)))(Sf:Mk3 P w K mg base 2 "Strike" Z3 [] (aX Z1 Z2 Z3 Z4 Z5 Q5 (ah P w)))
  : FnOk P w K mg base dz 8 f fd ["self","pen","at","to"] (ax K (cf Z1 Z2 Z3 Z4 Z5 Q5 (ah P w))):=by
 refine Fun3.ok3 F kK qA (fun cdv A outer s H E hr=>⟨fE Z1 Z2 Z3 Z4 Z5 Q5 (ah P w),?_,qa _ _ _ _ _ _ _⟩);have hu8:=u8 hr;have hu4:=u4 hr;unfold fE;exact (aq (bm (i:=4) kK.nd rfl (by walk_at "i") (bg Q6 cD (hr.mono (by decide)) (ao 0)))
   (aq (cC (aP Ri (hr.mono (by decide)) (by rfl) (aa (ao 2) (aa (ao 3) (aa (bN b_len (by rfl) T.b_len PySem.boot_len (aa (ao 4) al)) al)))))
   (az (aL (cT Rc hU (hr.mono (by decide)) (ao 0) (aa (kq Sf (hr.mono (by decide)) (by rfl) (aa (cT Q8 dw (hr.mono (by decide)) (ao 0) (aa (ao 1) al)) (aa (bg Q7 du (hr.mono (by decide)) (ao 0)) (aa (aP Rh (hr.mono (by decide)) (by rfl) (aa (ao 4) (aa (ao 2) (aa (ao 3) al)))) al)))) al))))))
theorem lX{f:LB}{fd:LO}(F:Fun3 K "dress" "Paper.dress" jE f fd)(T:Tx K mg Z1 Z2 Z3 Z4 Z5 Q5)(Ri:Fn3 P w K mg base 1 "check_stretch" [] (aT Z1 Z2 Z3 Z4 Z5 Q5 (ah P w)))(Rh:Fn3 P w K mg base 1 "names_between" [] (aS Z1 Z2 Z3 Z4 Z5 Q5 (ah P w)))(Q8:Mt3 P w K mg base 1 Q5 "coming_name" [] (aD Z1 Z2 Z3 Z4 Z5 Q5 (ah P w)))(Q7:Mt3 P w K mg base 1 Q5 "coming_time" [] (aB Z1 Z2 Z3 Z4 Z5 Q5 (ah P w)))(Rc:Mt3 P w K mg base 2 Q5 "draw" [] (be Z1 Z2 Z3 Z4 Z5 Q5 (ah P w)))(Q6:Mt3 P w K mg base 7 Q5 "seats" [] (aF Z1 Z2 Z3 Z4 Z5 Q5 (ah P w)))(Sn:Mk3 P w K mg base 2 "Dress" Z4 [] (bf Z1 Z2 Z3 Z4 Z5 Q5 (ah P w)))
  : FnOk P w K mg base dz 8 f fd ["self","pen","at","to","word"] (ax K (bM Z1 Z2 Z3 Z4 Z5 Q5 (ah P w))):=by
 refine Fun3.ok3 F lC rX (fun cdv A outer s H E hr=>⟨f8 Z1 Z2 Z3 Z4 Z5 Q5 (ah P w),?_,rK _ _ _ _ _ _ _⟩);have hu8:=u8 hr;have hu4:=u4 hr;unfold f8;exact (aq (bm (i:=5) lC.nd rfl (by walk_at "i") (bg Q6 cD (hr.mono (by decide)) (ao 0)))
   (aq (cC (aP Ri (hr.mono (by decide)) (by rfl) (aa (ao 2) (aa (ao 3) (aa (bN b_len (by rfl) T.b_len PySem.boot_len (aa (ao 5) al)) al)))))
   (az (aL (cT Rc hU (hr.mono (by decide)) (ao 0) (aa (kq Sn (hr.mono (by decide)) (by rfl) (aa (cT Q8 dw (hr.mono (by decide)) (ao 0) (aa (ao 1) al)) (aa (bg Q7 du (hr.mono (by decide)) (ao 0)) (aa (aP Rh (hr.mono (by decide)) (by rfl) (aa (ao 5) (aa (ao 2) (aa (ao 3) al)))) (aa (ao 4) al))))) al))))))
theorem uZ{f:LB}{fd:LO}(F:Fun3 K "move" "Paper.move" j_ f fd)(T:Tx K mg Z1 Z2 Z3 Z4 Z5 Q5)(RL:Fn3 P w K mg base 1 "anchor_at" [] (cw Z1 Z2 Z3 Z4 Z5 Q5 (ah P w)))(RK:Fn3 P w K mg base 1 "check_gap" [] (cv Z1 Z2 Z3 Z4 Z5 Q5 (ah P w)))(Ri:Fn3 P w K mg base 1 "check_stretch" [] (aT Z1 Z2 Z3 Z4 Z5 Q5 (ah P w)))(Rh:Fn3 P w K mg base 1 "names_between" [] (aS Z1 Z2 Z3 Z4 Z5 Q5 (ah P w)))(Q8:Mt3 P w K mg base 1 Q5 "coming_name" [] (aD Z1 Z2 Z3 Z4 Z5 Q5 (ah P w)))(Q7:Mt3 P w K mg base 1 Q5 "coming_time" [] (aB Z1 Z2 Z3 Z4 Z5 Q5 (ah P w)))(Rc:Mt3 P w K mg base 2 Q5 "draw" [] (be Z1 Z2 Z3 Z4 Z5 Q5 (ah P w)))(Q6:Mt3 P w K mg base 7 Q5 "seats" [] (aF Z1 Z2 Z3 Z4 Z5 Q5 (ah P w)))(SY:Mk3 P w K mg base 2 "Move" Z5 [] (bp Z1 Z2 Z3 Z4 Z5 Q5 (ah P w)))
  : FnOk P w K mg base dz 8 f fd ["self","pen","at","to","goal"] (ax K (cO Z1 Z2 Z3 Z4 Z5 Q5 (ah P w))):=by
 refine Fun3.ok3 F jx tU (fun cdv A outer s H E hr=>⟨gY Z1 Z2 Z3 Z4 Z5 Q5 (ah P w),?_,sT _ _ _ _ _ _ _⟩);have hu8:=u8 hr;have hu4:=u4 hr;unfold gY;exact (aq (bm (i:=5) jx.nd rfl (by walk_at "i") (bg Q6 cD (hr.mono (by decide)) (ao 0)))
   (aq (cC (aP Ri (hr.mono (by decide)) (by rfl) (aa (ao 2) (aa (ao 3) (aa (bN b_len (by rfl) T.b_len PySem.boot_len (aa (ao 5) al)) al)))))
   (aq (cC (aP RK (hr.mono (by decide)) (by rfl) (aa (ao 4) (aa (bN b_len (by rfl) T.b_len PySem.boot_len (aa (ao 5) al)) al))))
   (aq (bm (i:=6) jx.nd rfl (by walk_at "i") (aP Rh (hr.mono (by decide)) (by rfl) (aa (ao 5) (aa (ao 2) (aa (ao 3) al)))))
   (az (aL (cT Rc hU (hr.mono (by decide)) (ao 0) (aa (kq SY (hr.mono (by decide)) (by rfl) (aa (cT Q8 dw (hr.mono (by decide)) (ao 0) (aa (ao 1) al)) (aa (bg Q7 du (hr.mono (by decide)) (ao 0)) (aa (ao 6) (aa (aP RL (hr.mono (by decide)) (by rfl) (aa (ao 5) (aa (ao 4) al))) al))))) al))))))))
theorem xb{f:LB}{fd:LO}(F:Fun3 K "_law_deed" "_law_deed" lP f fd)(T:Tx K mg Z1 Z2 Z3 Z4 Z5 Q5)(Rt:Fn3 P w K mg base 1 "_law_anchor" [] (bw Z1 Z2 Z3 Z4 Z5 Q5 (ah P w)))(SJ:Fn3 P w K mg base 10 "_law_put" [] (dM Z1 Z2 Z3 Z4 Z5 Q5 (ah P w)))(R1:Mt3 P w K mg base 8 Q5 "dress" [] (bM Z1 Z2 Z3 Z4 Z5 Q5 (ah P w)))(RN:Mt3 P w K mg base 8 Q5 "dress" [.str ""] (bM Z1 Z2 Z3 Z4 Z5 Q5 (ah P w)))(Sa:Mt3 P w K mg base 8 Q5 "move" [] (cO Z1 Z2 Z3 Z4 Z5 Q5 (ah P w)))(Q6:Mt3 P w K mg base 7 Q5 "seats" [] (aF Z1 Z2 Z3 Z4 Z5 Q5 (ah P w)))(RU:Mt3 P w K mg base 8 Q5 "strike" [] (cf Z1 Z2 Z3 Z4 Z5 Q5 (ah P w)))
  : FnOk P w K mg base dz 11 f fd ["_law_paper","_law_pen","_law_xs"] (ax K (da Z1 Z2 Z3 Z4 Z5 Q5 (ah P w))):=by
 refine Fun3.ok3 F dP vi (fun cdv A outer s H E hr=>⟨iR Z1 Z2 Z3 Z4 Z5 Q5 (ah P w),?_,uO _ _ _ _ _ _ _⟩);have hu8:=u8 hr;have hu4:=u4 hr;unfold iR;exact (aq (bm (i:=3) dP.nd rfl (by walk_at "i") (bg Q6 cD (hr.mono (by decide)) (ao 0)))
   (aq (fJ (PW.pt (ym (bE (pO hu8) (ao 3) (kM al) (bz _)) (yl (qf zM (bX dJ (b_ (ao 2) ay) ay) ay (bz _))))) (az (aL (aP SJ (hr.mono (by decide)) (by rfl) (aa (ao 0) (aa (ao 1) (aa (ao 2) (aa (ao 3) al))))))) dj)
   (aq (bm (i:=4) dP.nd rfl (by walk_at "i") (bX dJ (b_ (ao 2) ay) (bN b_len (by rfl) T.b_len PySem.boot_len (aa (ao 3) al))))
   (aq (bm (i:=5) dP.nd rfl (by walk_at "i") (bX eZ (bX eZ (ao 4) ay) (bX dJ (b_ (ao 2) ay) (bN (b_min rfl) (by rfl) T.b_min boot_min (aa ay (aa (bX CL (bN b_len (by rfl) T.b_len PySem.boot_len (aa (ao 3) al)) (ao 4)) al))))))
   (aq (bm (i:=6) dP.nd rfl (by walk_at "i") (i9 b_tuple (by rfl) T.b_tuple PyProof.Rows.boot_tuple (aa (gK (T:=["_law_row"]) (M:=["_law_paper","_law_pen","_law_xs","_law_seats","_law_at","_law_to","_law_names","_law_word","_law_goal"]) (bR rfl (by kernel_rfl)) (fun cl C s₀ H₀ fp=>⟨(bu (i:=0) tJ rfl (by walk_at "i")),im,(b_ (ao 0) ay)⟩) (ft (gd sr (ao 3) (gf (ao 4)) (gf (ao 5))))) al)))
   (aq (fJ (qf zM (bX dJ (b_ (ao 2) ay) ay) ay (bz _)) (az (aL (cS (aa (cT RU rP (hr.mono (by decide)) (ao 0) (aa (ao 1) (aa (ao 4) (aa (ao 5) al)))) (aa (cS (aa dD (aa (ao 6) al))) al))))) dj)
   (aq (fJ (qf zM (bX dJ (b_ (ao 2) ay) ay) ay (bz _)) (aq (bm (i:=7) dP.nd rfl (by walk_at "i") (b_ (kM (aa dD (aa dD (aa dD al)))) (bX dJ (b_ (ao 2) ay) ay)))
   (aq (fJ (bE (pO hu8) (bX dJ (b_ (ao 2) ay) ay) ay (bz _)) (az (aL (cS (aa (cT RN ma (hr.mono (by decide)) (ao 0) (aa (ao 1) (aa (ao 4) (aa (ao 5) al)))) (aa (cS (aa dD (aa (ao 6) (aa (ao 7) al)))) al))))) dj)
   (az (aL (cS (aa (cT R1 ma (hr.mono (by decide)) (ao 0) (aa (ao 1) (aa (ao 4) (aa (ao 5) (aa (ao 7) al))))) (aa (cS (aa dD (aa (ao 6) (aa (ao 7) al)))) al))))))) dj)
   (aq (bm (i:=8) dP.nd rfl (by walk_at "i") (bX dJ (b_ (ao 2) ay) (bX eZ (bN b_len (by rfl) T.b_len PySem.boot_len (aa (ao 3) al)) ay)))
   (az (aL (cS (aa (cT Sa u9 (hr.mono (by decide)) (ao 0) (aa (ao 1) (aa (ao 4) (aa (ao 5) (aa (ao 8) al))))) (aa (cS (aa dD (aa (ao 6) (aa (aP Rt (hr.mono (by decide)) (by rfl) (aa (ao 3) (aa (ao 8) al))) al)))) al)))))))))))))
theorem Ak{f:LB}{fd:LO}(F:Fun3 K "reading" "reading" p3 f fd)(T:Tx K mg Z1 Z2 Z3 Z4 Z5 Q5)(Sg:Fn3 P w K mg base 6 "seated" [] (dX Z1 Z2 Z3 Z4 Z5 Q5 (ah P w)))
  : FnOk P w K mg base dz 7 f fd ["old","strokes","standing"] (ax K (eh Z1 Z2 Z3 Z4 Z5 Q5 (ah P w))):=by
 refine Fun3.ok3 F zU y8 (fun cdv A outer s H E hr=>⟨kh Z1 Z2 Z3 Z4 Z5 Q5 (ah P w),?_,yB _ _ _ _ _ _ _⟩);have hu8:=u8 hr;have hu4:=u4 hr;unfold kh;exact (az (aL (gK (T:=["seat"]) (M:=["old","strokes","standing"]) (bR rfl (by kernel_rfl)) (fun cl C s₀ H₀ fp=>⟨(bu (i:=0) xk rfl (by walk_at "i")),im,(gd sr (ao 0) (gf ay) l8)⟩) (ft (aP Sg (hr.mono (by decide)) (by rfl) (aa (ao 0) (aa (ao 1) (aa (ao 2) al))))))))
theorem uX{f:LB}{fd:LO}(F:Fun3 K "view" "Paper.view" j8 f fd)(T:Tx K mg Z1 Z2 Z3 Z4 Z5 Q5)(SZ:Fn3 P w K mg base 7 "reading" [] (eh Z1 Z2 Z3 Z4 Z5 Q5 (ah P w)))(Rr:Mt3 P w K mg base 1 Q5 "unwiped" [] (bo Z1 Z2 Z3 Z4 Z5 Q5 (ah P w)))
  : FnOk P w K mg base dz 8 f fd ["self"] (ax K (bU Z1 Z2 Z3 Z4 Z5 Q5 (ah P w))):=by
 refine Fun3.ok3 F uD tS (fun cdv A outer s H E hr=>⟨gW Z1 Z2 Z3 Z4 Z5 Q5 (ah P w),?_,sR _ _ _ _ _ _ _⟩);have hu8:=u8 hr;have hu4:=u4 hr;unfold gW;exact (az (aL (aP SZ (hr.mono (by decide)) (by rfl) (aa (fo T.cl_Paper T.na_Paper_old kH (ao 0)) (aa (fo T.cl_Paper T.na_Paper_drawn dI (ao 0)) (aa (bg Rr jP (hr.mono (by decide)) (ao 0)) al))))))
theorem mT{f:LB}{fd:LO}(F:Fun3 K "strokes_in" "Paper.strokes_in" fG f fd)(T:Tx K mg Z1 Z2 Z3 Z4 Z5 Q5) 
  : FnOk P w K mg base dz 1 f fd ["self","state"] (ax K (bq Z1 Z2 Z3 Z4 Z5 Q5 (ah P w))):=by
 refine Fun3.ok3 F mM mi (fun cdv A outer s H E hr=>⟨dE Z1 Z2 Z3 Z4 Z5 Q5 (ah P w),?_,lW _ _ _ _ _ _ _⟩);have hu8:=u8 hr;have hu4:=u4 hr;unfold dE;exact (az (aL (Ba (T:=["row"]) (M:=["self","state"]) (bR rfl (by kernel_rfl)) (fun cl C s₀ H₀ fp=>⟨(bu (i:=0) kW rfl (by walk_at "i")),(sx (bE (pO hu8) (m5 hu8 (fo T.cl_Paper T.na_Paper_states cH (ao 1)) (b_ (ao 0) ay)) (ao 2) (bz _))),(ao 0)⟩) (fo T.cl_Paper T.na_Paper_drawn dI (ao 0)))))
theorem ql{f:LB}{fd:LO}(F:Fun3 K "waiting" "Paper.waiting" iw f fd)(T:Tx K mg Z1 Z2 Z3 Z4 Z5 Q5)(RA:Mt3 P w K mg base 1 Q5 "strokes_in" [] (bq Z1 Z2 Z3 Z4 Z5 Q5 (ah P w)))
  : FnOk P w K mg base dz 2 f fd ["self"] (ax K (aU Z1 Z2 Z3 Z4 Z5 Q5 (ah P w))):=by
 refine Fun3.ok3 F pV o_ (fun cdv A outer s H E hr=>⟨eO Z1 Z2 Z3 Z4 Z5 Q5 (ah P w),?_,oJ _ _ _ _ _ _ _⟩);have hu8:=u8 hr;have hu4:=u4 hr;unfold eO;exact (az (aL (gK (T:=["row"]) (M:=["self"]) (bR rfl (by kernel_rfl)) (fun cl C s₀ H₀ fp=>⟨(bu (i:=0) nR rfl (by walk_at "i")),im,(b_ (ao 0) ay)⟩) (ft (cT RA mU (hr.mono (by decide)) (ao 0) (aa (dG (by rfl) T.k_WAITS) al))))))
theorem qo{f:LB}{fd:LO}(F:Fun3 K "strokes" "Paper.strokes" iz f fd)(T:Tx K mg Z1 Z2 Z3 Z4 Z5 Q5) 
  : FnOk P w K mg base dz 1 f fd ["self"] (ax K (aV Z1 Z2 Z3 Z4 Z5 Q5 (ah P w))):=by
 refine Fun3.ok3 F pX pd (fun cdv A outer s H E hr=>⟨eQ Z1 Z2 Z3 Z4 Z5 Q5 (ah P w),?_,oM _ _ _ _ _ _ _⟩);have hu8:=u8 hr;have hu4:=u4 hr;unfold eQ;exact (az (aL (i9 b_list (by rfl) T.b_list PyProof.Rows.boot_list (aa (fo T.cl_Paper T.na_Paper_drawn dI (ao 0)) al))))
theorem yQ{f:LB}{fd:LO}(F:Fun3 K "_law_own" "_law_own" nu f fd)(T:Tx K mg Z1 Z2 Z3 Z4 Z5 Q5)(Q6:Mt3 P w K mg base 7 Q5 "seats" [] (aF Z1 Z2 Z3 Z4 Z5 Q5 (ah P w)))(Rn:Mt3 P w K mg base 1 Q5 "strokes" [] (aV Z1 Z2 Z3 Z4 Z5 Q5 (ah P w)))(RB:Mt3 P w K mg base 8 Q5 "view" [] (bU Z1 Z2 Z3 Z4 Z5 Q5 (ah P w)))(Rm:Mt3 P w K mg base 2 Q5 "waiting" [] (aU Z1 Z2 Z3 Z4 Z5 Q5 (ah P w)))
  : FnOk P w K mg base dz 9 f fd ["_law_paper","_law_rows"] (ax K (c_ Z1 Z2 Z3 Z4 Z5 Q5 (ah P w))):=by
 refine Fun3.ok3 F jj xv (fun cdv A outer s H E hr=>⟨jq Z1 Z2 Z3 Z4 Z5 Q5 (ah P w),?_,wF _ _ _ _ _ _ _⟩);have hu8:=u8 hr;have hu4:=u4 hr;unfold jq;exact (aq (bm (i:=2) jj.nd rfl (by walk_at "i") (i9 b_list (by rfl) T.b_list PyProof.Rows.boot_list (aa (bg RB jF (hr.mono (by decide)) (ao 0)) al)))
   (aq (bm (i:=3) jj.nd rfl (by walk_at "i") (i9 b_list (by rfl) T.b_list PyProof.Rows.boot_list (aa (bg Q6 cD (hr.mono (by decide)) (ao 0)) al)))
   (aq (bm (i:=4) jj.nd rfl (by walk_at "i") (i9 b_list (by rfl) T.b_list PyProof.Rows.boot_list (aa (bg Rm eU (hr.mono (by decide)) (ao 0)) al)))
   (aq (cC (i_ (qg (bg RB jF (hr.mono (by decide)) (ao 0))) (aa ay al)))
   (aq (cC (Bb (qg (bg Q6 cD (hr.mono (by decide)) (ao 0)))))
   (aq (cC (i_ (qg (bg Rm eU (hr.mono (by decide)) (ao 0))) (aa ay al)))
   (aq (cC (Bb (qg (bg Rn eV (hr.mono (by decide)) (ao 0)))))
   (aq (fJ (PW.pt (ym (bE (on hu8) (bg RB jF (hr.mono (by decide)) (ao 0)) (ao 2) (bz _)) (yl (bE (on hu8) (bg Q6 cD (hr.mono (by decide)) (ao 0)) (ao 3) (bz _))))) (az (aL Ah)) dj)
   (az (aL (Gu (Ag (pO hu8) (bg Rm eU (hr.mono (by decide)) (ao 0)) (ao 4) (bz _)) (Gs (Ag (IE hu8) (bg Rn eV (hr.mono (by decide)) (ao 0)) (ao 1) (bz _))))))))))))))
theorem l7{f:LB}{fd:LO}(F:Fun3 K "check_known" "Paper.check_known" fg f fd)(T:Tx K mg Z1 Z2 Z3 Z4 Z5 Q5) 
  : FnOk P w K mg base dz 1 f fd ["self","name"] (ax K (bh Z1 Z2 Z3 Z4 Z5 Q5 (ah P w))):=by
 refine Fun3.ok3 F lG k_ (fun cdv A outer s H E hr=>⟨dh Z1 Z2 Z3 Z4 Z5 Q5 (ah P w),?_,kU _ _ _ _ _ _ _⟩);have hu8:=u8 hr;have hu4:=u4 hr;unfold dh;exact (az (fJ (vS hu8 (ao 1) (fo T.cl_Paper T.na_Paper_states cH (ao 0))) (az oP) dj))
theorem tw{f:LB}{fd:LO}(F:Fun3 K "state" "Paper.state" jC f fd)(T:Tx K mg Z1 Z2 Z3 Z4 Z5 Q5)(Ry:Mt3 P w K mg base 1 Q5 "check_known" [] (bh Z1 Z2 Z3 Z4 Z5 Q5 (ah P w)))
  : FnOk P w K mg base dz 2 f fd ["self","name"] (ax K (bL Z1 Z2 Z3 Z4 Z5 Q5 (ah P w))):=by
 refine Fun3.ok3 F sE rV (fun cdv A outer s H E hr=>⟨f6 Z1 Z2 Z3 Z4 Z5 Q5 (ah P w),?_,rH _ _ _ _ _ _ _⟩);have hu8:=u8 hr;have hu4:=u4 hr;unfold f6;exact (aq (cC (cT Ry md (hr.mono (by decide)) (ao 0) (aa (ao 1) al)))
   (az (aL (m5 hu8 (fo T.cl_Paper T.na_Paper_states cH (ao 0)) (ao 1)))))
theorem l5{f:LB}{fd:LO}(F:Fun3 K "check_waits" "Paper.check_waits" ff f fd)(T:Tx K mg Z1 Z2 Z3 Z4 Z5 Q5)(Ru:Mt3 P w K mg base 2 Q5 "state" [] (bL Z1 Z2 Z3 Z4 Z5 Q5 (ah P w)))
  : FnOk P w K mg base dz 3 f fd ["self","name"] (ax K (aN Z1 Z2 Z3 Z4 Z5 Q5 (ah P w))):=by
 refine Fun3.ok3 F lF kZ (fun cdv A outer s H E hr=>⟨dg Z1 Z2 Z3 Z4 Z5 Q5 (ah P w),?_,kT _ _ _ _ _ _ _⟩);have hu8:=u8 hr;have hu4:=u4 hr;unfold dg;exact (az (fJ (bE (on hu8) (cT Ru l_ (hr.mono (by decide)) (ao 0) (aa (ao 1) al)) (dG (by rfl) T.k_WAITS) (bz _)) (az oP) dj))
theorem nN{f:LB}{fd:LO}(F:Fun3 K "let_stand" "Paper.let_stand" fU f fd)(T:Tx K mg Z1 Z2 Z3 Z4 Z5 Q5)(Ro:Mt3 P w K mg base 3 Q5 "check_waits" [] (aN Z1 Z2 Z3 Z4 Z5 Q5 (ah P w)))
  : FnOk P w K mg base dz 4 f fd ["self","name"] (ax K (bx Z1 Z2 Z3 Z4 Z5 Q5 (ah P w))):=by
 refine Fun3.ok3 F ni mX (fun cdv A outer s H E hr=>⟨dS Z1 Z2 Z3 Z4 Z5 Q5 (ah P w),?_,mP _ _ _ _ _ _ _⟩);have hu8:=u8 hr;have hu4:=u4 hr;unfold dS;exact (aq (cC (cT Ro ie (hr.mono (by decide)) (ao 0) (aa (ao 1) al)))
   (az (gJ hu8 (fo T.cl_Paper T.na_Paper_states cH (ao 0)) (ao 1) (dG (by rfl) T.k_STANDS))))
theorem uW{f:LB}{fd:LO}(F:Fun3 K "wipe" "Paper.wipe" j7 f fd)(T:Tx K mg Z1 Z2 Z3 Z4 Z5 Q5)(Ro:Mt3 P w K mg base 3 Q5 "check_waits" [] (aN Z1 Z2 Z3 Z4 Z5 Q5 (ah P w)))
  : FnOk P w K mg base dz 4 f fd ["self","name"] (ax K (cM Z1 Z2 Z3 Z4 Z5 Q5 (ah P w))):=by
 refine Fun3.ok3 F uC tR (fun cdv A outer s H E hr=>⟨gV Z1 Z2 Z3 Z4 Z5 Q5 (ah P w),?_,sQ _ _ _ _ _ _ _⟩);have hu8:=u8 hr;have hu4:=u4 hr;unfold gV;exact (aq (cC (cT Ro ie (hr.mono (by decide)) (ao 0) (aa (ao 1) al)))
   (az (gJ hu8 (fo T.cl_Paper T.na_Paper_states cH (ao 0)) (ao 1) (dG (by rfl) T.k_WIPED))))
theorem tq{f:LB}{fd:LO}(F:Fun3 K "_law_decide" "_law_decide" jA f fd)(T:Tx K mg Z1 Z2 Z3 Z4 Z5 Q5)(RC:Mt3 P w K mg base 4 Q5 "let_stand" [] (bx Z1 Z2 Z3 Z4 Z5 Q5 (ah P w)))(Rm:Mt3 P w K mg base 2 Q5 "waiting" [] (aU Z1 Z2 Z3 Z4 Z5 Q5 (ah P w)))(R9:Mt3 P w K mg base 4 Q5 "wipe" [] (cM Z1 Z2 Z3 Z4 Z5 Q5 (ah P w)))
  : FnOk P w K mg base dz 5 f fd ["_law_paper","_law_xs"] (ax K (cA Z1 Z2 Z3 Z4 Z5 Q5 (ah P w))):=by
 refine Fun3.ok3 F lB rT (fun cdv A outer s H E hr=>⟨fZ Z1 Z2 Z3 Z4 Z5 Q5 (ah P w),?_,rF _ _ _ _ _ _ _⟩);have hu8:=u8 hr;have hu4:=u4 hr;unfold fZ;exact (aq (bm (i:=2) lB.nd rfl (by walk_at "i") (bg Rm eU (hr.mono (by decide)) (ao 0)))
   (az (fJ (PW.pt (IF (bE (on hu8) (ao 2) (kM al) (bz _)) (GK (bE (pO hu8) (bX dJ (b_ (ao 1) ay) ay) ay (bz _))))) (az (cC (cT RC nP (hr.mono (by decide)) (ao 0) (aa (b_ (ao 2) (bX dJ (b_ (ao 1) ay) (bN b_len (by rfl) T.b_len PySem.boot_len (aa (ao 2) al)))) al)))) (az (fJ (bE (on hu8) (ao 2) (kM al) (bz _)) (az (cC (cT R9 u6 (hr.mono (by decide)) (ao 0) (aa (b_ (ao 2) (bX dJ (b_ (ao 1) ay) (bN b_len (by rfl) T.b_len PySem.boot_len (aa (ao 2) al)))) al)))) dj)))))
theorem nO{f:LB}{fd:LO}(F:Fun3 K "last_time" "Paper.last_time" fV f fd)(T:Tx K mg Z1 Z2 Z3 Z4 Z5 Q5) 
  : FnOk P w K mg base dz 1 f fd ["self"] (ax K (bj Z1 Z2 Z3 Z4 Z5 Q5 (ah P w))):=by
 refine Fun3.ok3 F nj mY (fun cdv A outer s H E hr=>⟨dU Z1 Z2 Z3 Z4 Z5 Q5 (ah P w),?_,mQ _ _ _ _ _ _ _⟩);have hu8:=u8 hr;have hu4:=u4 hr;unfold dU;exact (az (aL (fo T.cl_Paper T.na_Paper_time jH (ao 0))))
theorem qp{f:LB}{fd:LO}(F:Fun3 K "numbers" "Paper.numbers" iA f fd)(T:Tx K mg Z1 Z2 Z3 Z4 Z5 Q5) 
  : FnOk P w K mg base dz 1 f fd ["self"] (ax K (bb Z1 Z2 Z3 Z4 Z5 Q5 (ah P w))):=by
 refine Fun3.ok3 F pY pf (fun cdv A outer s H E hr=>⟨eR Z1 Z2 Z3 Z4 Z5 Q5 (ah P w),?_,oN _ _ _ _ _ _ _⟩);have hu8:=u8 hr;have hu4:=u4 hr;unfold eR;exact (az (aL (wU hu8 rfl (by rfl) T.b_sorted (fo T.cl_Paper T.na_Paper_greatest gv (ao 0)))))
theorem oU{f:LB}{fd:LO}(F:Fun3 K "old_text" "Paper.old_text" gF f fd)(T:Tx K mg Z1 Z2 Z3 Z4 Z5 Q5) 
  : FnOk P w K mg base dz 1 f fd ["self"] (ax K (bC Z1 Z2 Z3 Z4 Z5 Q5 (ah P w))):=by
 refine Fun3.ok3 F oA nW (fun cdv A outer s H E hr=>⟨d_ Z1 Z2 Z3 Z4 Z5 Q5 (ah P w),?_,nE _ _ _ _ _ _ _⟩);have hu8:=u8 hr;have hu4:=u4 hr;unfold d_;exact (az (aL (fo T.cl_Paper T.na_Paper_old kH (ao 0))))
theorem oV{f:LB}{fd:LO}(F:Fun3 K "__init__" "Paper.__init__" gG f fd)(T:Tx K mg Z1 Z2 Z3 Z4 Z5 Q5) 
  : FnOk P w K mg base dz 1 f fd ["self","old"] (ax K (bD Z1 Z2 Z3 Z4 Z5 Q5 (ah P w))):=by
 refine Fun3.ok3 F oB nX (fun cdv A outer s H E hr=>⟨ee Z1 Z2 Z3 Z4 Z5 Q5 (ah P w),?_,nF _ _ _ _ _ _ _⟩);have hu8:=u8 hr;have hu4:=u4 hr;unfold ee;exact (aq (sW (L:=[]) T.cl_Paper T.na_Paper_old (by decide +kernel) (by decide) (ao 0) (ao 1))
   (aq (sW (L:=["old"]) T.cl_Paper T.na_Paper_drawn (by decide +kernel) (by decide) (ao 0) (qg (kM al)))
   (aq (sW (L:=["old","drawn"]) T.cl_Paper T.na_Paper_states (by decide +kernel) (by decide) (ao 0) qh)
   (aq (sW (L:=["old","drawn","states"]) T.cl_Paper T.na_Paper_greatest (by decide +kernel) (by decide) (ao 0) DN)
   (az (sW (L:=["old","drawn","states","greatest"]) T.cl_Paper T.na_Paper_time (by decide +kernel) (by decide) (ao 0) ay))))))
theorem HA{f:LB}{fd:LO}(F:Fun3 K "law" "law" sJ f fd)(T:Tx K mg Z1 Z2 Z3 Z4 Z5 Q5)(R5:Fn3 P w K mg base 1 "_law_cell_at" [] (ce Z1 Z2 Z3 Z4 Z5 Q5 (ah P w)))(Sc:Fn3 P w K mg base 5 "_law_decide" [] (cA Z1 Z2 Z3 Z4 Z5 Q5 (ah P w)))(Sx:Fn3 P w K mg base 11 "_law_deed" [] (da Z1 Z2 Z3 Z4 Z5 Q5 (ah P w)))(Sq:Fn3 P w K mg base 9 "_law_own" [] (c_ Z1 Z2 Z3 Z4 Z5 Q5 (ah P w)))(Sw:Fn3 P w K mg base 2 "_law_pens" [] (c9 Z1 Z2 Z3 Z4 Z5 Q5 (ah P w)))(Rx:Fn3 P w K mg base 1 "_law_stream" [] (bK Z1 Z2 Z3 Z4 Z5 Q5 (ah P w)))(Rv:Mt3 P w K mg base 1 Q5 "last_time" [] (bj Z1 Z2 Z3 Z4 Z5 Q5 (ah P w)))(Rs:Mt3 P w K mg base 1 Q5 "numbers" [] (bb Z1 Z2 Z3 Z4 Z5 Q5 (ah P w)))(RM:Mt3 P w K mg base 1 Q5 "old_text" [] (bC Z1 Z2 Z3 Z4 Z5 Q5 (ah P w)))(Ru:Mt3 P w K mg base 2 Q5 "state" [] (bL Z1 Z2 Z3 Z4 Z5 Q5 (ah P w)))(Rn:Mt3 P w K mg base 1 Q5 "strokes" [] (aV Z1 Z2 Z3 Z4 Z5 Q5 (ah P w)))(T6:Mk3 P w K mg base 1 "Paper" Q5 [] (bD Z1 Z2 Z3 Z4 Z5 Q5 (ah P w)))
  : FnOk P w K mg base dz 12 f fd ["_law_script"] (ax K (sy Z1 Z2 Z3 Z4 Z5 Q5 (ah P w))):=by
 refine Fun3.ok3 F ip FI (fun cdv A outer s H E hr=>⟨wI Z1 Z2 Z3 Z4 Z5 Q5 (ah P w),?_,E5 _ _ _ _ _ _ _⟩);have hu8:=u8 hr;have hu4:=u4 hr;unfold wI;exact (aq (bm (i:=1) ip.nd rfl (by walk_at "i") (aP R5 (hr.mono (by decide)) (by rfl) (aa (ao 0) (aa ay al))))
   (aq (bm (i:=2) ip.nd rfl (by walk_at "i") (gd sr dD l8 (gf (bX dJ (ao 1) ay))))
   (aq (bm (i:=3) ip.nd rfl (by walk_at "i") (aP Sw (hr.mono (by decide)) (by rfl) (aa (ao 1) (aa (bX eZ ay (bX dJ (bX AU (ao 1) ay) ay)) al))))
   (aq (bm (i:=4) ip.nd rfl (by walk_at "i") (kq T6 (hr.mono (by decide)) (by rfl) (aa (ao 2) al)))
   (aq (Do (i:=5) ip.nd rfl (by walk_at "i") (kM al))
   (aq (bm (i:=6) ip.nd rfl (by walk_at "i") DN)
   (aq (fJ (PW.pt (ym (bE (on hu8) (bg Rv jd (hr.mono (by decide)) (ao 4)) ay (bz _)) (ym (bE (on hu8) (bg Rn eV (hr.mono (by decide)) (ao 4)) (kM al) (bz _)) (ym (bE (on hu8) (bg Rs eW (hr.mono (by decide)) (ao 4)) (kM al) (bz _)) (yl (bE (on hu8) (bg RM oY (hr.mono (by decide)) (ao 4)) (ao 2) (bz _))))))) (az (aL Ah)) dj)
   (aq (kL Ml rfl (ft (gd sr (ao 0) (gf ay) (gf ay))) (bu (i:=7) ip.nd rfl (by walk_at "i")) (aq (bm (i:=8) ip.nd rfl (by walk_at "i") (aP Rx (hr.mono (by decide)) (by rfl) (aa (ao 7) (aa ay al))))
   (aq (bm (i:=9) ip.nd rfl (by walk_at "i") (b_ (ao 3) (bX dJ (b_ (ao 8) ay) (bN b_len (by rfl) T.b_len PySem.boot_len (aa (ao 3) al)))))
   (az (fJ (qf zM (bX dJ (b_ (ao 8) ay) ay) ay (bz _)) (aq (IZ (aP Sx (hr.mono (by decide)) (by rfl) (aa (ao 4) (aa (ao 9) (aa (ao 8) al)))) (Bk (n:=2) rfl (mn (bu (i:=10) ip.nd rfl (by walk_at "i")) (mn (bu (i:=11) ip.nd rfl (by walk_at "i")) Bl))))
   (aq (gJ hu8 (ao 6) (ao 9) (bX eZ (sd hu8 (ao 6) (ao 9) ay) ay))
   (aq (cC (i_ (ao 5) (aa (cS (aa (cS (aa (ao 9) (aa (m5 hu8 (ao 6) (ao 9)) al))) (aa (bX eZ (bN b_len (by rfl) T.b_len PySem.boot_len (aa (ao 5) al)) ay) (aa (ao 11) al)))) al)))
   (aq (fJ (PW.pt (ym (bE (on hu8) (ao 10) (cS (aa (ao 9) (aa (m5 hu8 (ao 6) (ao 9)) al))) (bz _)) (ym (bE (ID hu8) (bg Rn eV (hr.mono (by decide)) (ao 4)) (ao 5) (bz _)) (yl (bE (on hu8) (cT Ru l_ (hr.mono (by decide)) (ao 4) (aa (ao 10) al)) dD (bz _)))))) (az (aL Ah)) dj)
   (az (fJ (wT (jO (aP Sq (hr.mono (by decide)) (by rfl) (aa (ao 4) (aa (ao 5) al))))) (az (aL Ah)) dj)))))) (az (cC (aP Sc (hr.mono (by decide)) (by rfl) (aa (ao 4) (aa (ao 8) al))))))))))
   (aq (Gq 5 (fJ (PW.pt (ym (bE (on hu8) (bg Rs eW (hr.mono (by decide)) (ao 4)) (wU hu8 rfl (by rfl) T.b_sorted (ao 6)) (bz _)) (yl (bE (on hu8) (bg Rv jd (hr.mono (by decide)) (ao 4)) (bN b_len (by rfl) T.b_len PySem.boot_len (aa (ao 5) al)) (bz _))))) (az (aL Ah)) dj))
   (aq (cC (i_ (qg (bg Rs eW (hr.mono (by decide)) (ao 4))) (aa (cS (aa dD (aa ay al))) al)))
   (az (Gq 5 (aL (Gu (aP Sq (hr.mono (by decide)) (by rfl) (aa (ao 4) (aa (ao 5) al))) (Gs (Ag (pO hu8) (bg Rs eW (hr.mono (by decide)) (ao 4)) (wU hu8 rfl (by rfl) T.b_sorted (ao 6)) (bz _)))))))))))))))))
end
theorem Kj{α:Type}:∀ {us:List α},us.length=1->∃ a0,us=[a0]
 | [a0],_=>⟨a0,rfl⟩
theorem Ki{α:Type}:∀ {us:List α},us.length=2->∃ a0 a1,us=[a0,a1]
 | [a0,a1],_=>⟨a0,a1,rfl⟩
theorem Kh{α:Type}:∀ {us:List α},us.length=3->∃ a0 a1 a2,us=[a0,a1,a2]
 | [a0,a1,a2],_=>⟨a0,a1,a2,rfl⟩
theorem Kg{α:Type}:∀ {us:List α},us.length=4->∃ a0 a1 a2 a3,us=[a0,a1,a2,a3]
 | [a0,a1,a2,a3],_=>⟨a0,a1,a2,a3,rfl⟩
theorem Kf{α:Type}:∀ {us:List α},us.length=5->∃ a0 a1 a2 a3 a4,us=[a0,a1,a2,a3,a4]
 | [a0,a1,a2,a3,a4],_=>⟨a0,a1,a2,a3,a4,rfl⟩
local macro_rules | `(tactic| walk_at "b") => `(tactic| (intro _ _ _ _ _ _ us hl; first | (obtain ⟨_, e⟩ := Kj hl; subst e; rfl) | (obtain ⟨_, _, e⟩ := Ki hl; subst e; rfl) | (obtain ⟨_, _, _, e⟩ := Kh hl; subst e; rfl) | (obtain ⟨_, _, _, _, e⟩ := Kg hl; subst e; rfl) | (obtain ⟨_, _, _, _, _, e⟩ := Kf hl; subst e; rfl)))
theorem all_mk{P:LS}{w:L6}{K:PySem.W.Frag}{h:L5}{mg:Str->Option LC}{fa:LB}{Z1 Z2 Z3 Z4 Z5 Q5 ka1:LB}{ks1:Array (Option LC)}{kt0:Tok}{UT:Tok}{US:Tok}{UR:Tok}{kt2:Tok}{kt3:Tok}{kz1:Nat}(X:K.In h)(G:h.Ns LX mg)(hfa:mg "law"=some (.ref fa))
  (c0a:PySem.W.nsIn K LX "Stroke"=some (some (.ref Z1)))
  (c1a:PySem.W.nsIn K LX "Put"=some (some (.ref Z2)))
  (c2a:PySem.W.nsIn K LX "Strike"=some (some (.ref Z3)))
  (c3a:PySem.W.nsIn K LX "Dress"=some (some (.ref Z4)))
  (c4a:PySem.W.nsIn K LX "Move"=some (some (.ref Z5)))
  (c5a:PySem.W.nsIn K LX "Paper"=some (some (.ref Q5)))
  (RH:PySem.W.specialIn K (.builtin "object.__class__") "__get__"=some (some (.builtin "getset_descriptor.__get__")))
  (RF:QV K (.builtin "object.__class__")=some true)
  (RX:PySem.W.findIn K (.ref Z1) "__class__"=some (some (.builtin "object.__class__")))
  (RW:P0 K Z1 (.type "object")=some true)
  (S3:MU K (.ref Z1) (.ref Z4)=some false)
  (Tg:MU K (.ref Z1) (.ref Z5)=some false)
  (Tu:MU K (.ref Z1) (.ref Z2)=some false)
  (SO:MU K (.ref Z1) (.ref Z3)=some false)
  (Sz:PySem.W.findIn K (.ref Z2) "__class__"=some (some (.builtin "object.__class__")))
  (Sy:P0 K Z2 (.type "object")=some true)
  (TQ:MU K (.ref Z2) (.ref Z4)=some false)
  (T7:MU K (.ref Z2) (.ref Z5)=some false)
  (Um:MU K (.ref Z2) (.ref Z2)=some true)
  (Tw:MU K (.ref Z2) (.ref Z3)=some false)
  (RZ:PySem.W.findIn K (.ref Z3) "__class__"=some (some (.builtin "object.__class__")))
  (RY:P0 K Z3 (.type "object")=some true)
  (S4:MU K (.ref Z3) (.ref Z4)=some false)
  (Th:MU K (.ref Z3) (.ref Z5)=some false)
  (Tv:MU K (.ref Z3) (.ref Z2)=some false)
  (SQ:MU K (.ref Z3) (.ref Z3)=some true)
  (R7:PySem.W.findIn K (.ref Z4) "__class__"=some (some (.builtin "object.__class__")))
  (R6:P0 K Z4 (.type "object")=some true)
  (Tj:MU K (.ref Z4) (.ref Z4)=some true)
  (TB:MU K (.ref Z4) (.ref Z5)=some false)
  (TU:MU K (.ref Z4) (.ref Z2)=some false)
  (S5:MU K (.ref Z4) (.ref Z3)=some false)
  (Sj:PySem.W.findIn K (.ref Z5) "__class__"=some (some (.builtin "object.__class__")))
  (Si:P0 K Z5 (.type "object")=some true)
  (Tz:MU K (.ref Z5) (.ref Z4)=some false)
  (TR:MU K (.ref Z5) (.ref Z5)=some true)
  (T8:MU K (.ref Z5) (.ref Z2)=some false)
  (Ti:MU K (.ref Z5) (.ref Z3)=some false)
  (k0:Cls K Z1)
  (c0mk:PySem.W.makesIn K Z1=true)
  (c0kc:PySem.W.keepIn K (.ref Z1)=true)
  (VV:PySem.W.findIn K (.ref Z1) "anchor"=some none)
  (VU:PySem.W.findIn K (.ref Z1) "name"=some none)
  (VT:PySem.W.findIn K (.ref Z1) "names"=some none)
  (VS:PySem.W.findIn K (.ref Z1) "signs"=some none)
  (VR:PySem.W.findIn K (.ref Z1) "time"=some none)
  (VQ:PySem.W.findIn K (.ref Z1) "word"=some none)
  (k1:Cls K Z2)
  (VO:PySem.W.makesIn K Z2=true)
  (VP:PySem.W.keepIn K (.ref Z2)=true)
  (VN:PySem.W.findIn K (.ref Z2) "anchor"=some none)
  (VM:PySem.W.findIn K (.ref Z2) "name"=some none)
  (VL:PySem.W.findIn K (.ref Z2) "names"=some none)
  (VJ:PySem.W.findIn K (.ref Z2) "signs"=some none)
  (VI:PySem.W.findIn K (.ref Z2) "time"=some none)
  (VH:PySem.W.findIn K (.ref Z2) "word"=some none)
  (k2:Cls K Z3)
  (VF:PySem.W.makesIn K Z3=true)
  (VG:PySem.W.keepIn K (.ref Z3)=true)
  (VE:PySem.W.findIn K (.ref Z3) "anchor"=some none)
  (VD:PySem.W.findIn K (.ref Z3) "name"=some none)
  (VC:PySem.W.findIn K (.ref Z3) "names"=some none)
  (VB:PySem.W.findIn K (.ref Z3) "signs"=some none)
  (VA:PySem.W.findIn K (.ref Z3) "time"=some none)
  (Vz:PySem.W.findIn K (.ref Z3) "word"=some none)
  (k3:Cls K Z4)
  (Vx:PySem.W.makesIn K Z4=true)
  (Vy:PySem.W.keepIn K (.ref Z4)=true)
  (Vw:PySem.W.findIn K (.ref Z4) "anchor"=some none)
  (Vv:PySem.W.findIn K (.ref Z4) "name"=some none)
  (Vu:PySem.W.findIn K (.ref Z4) "names"=some none)
  (Vt:PySem.W.findIn K (.ref Z4) "signs"=some none)
  (Vs:PySem.W.findIn K (.ref Z4) "time"=some none)
  (Vr:PySem.W.findIn K (.ref Z4) "word"=some none)
  (k4:Cls K Z5)
  (Vp:PySem.W.makesIn K Z5=true)
  (Vq:PySem.W.keepIn K (.ref Z5)=true)
  (Vo:PySem.W.findIn K (.ref Z5) "anchor"=some none)
  (Vn:PySem.W.findIn K (.ref Z5) "name"=some none)
  (Vm:PySem.W.findIn K (.ref Z5) "names"=some none)
  (Vl:PySem.W.findIn K (.ref Z5) "signs"=some none)
  (Vk:PySem.W.findIn K (.ref Z5) "time"=some none)
  (Vj:PySem.W.findIn K (.ref Z5) "word"=some none)
  (k5:Cls K Q5)
  (Vh:PySem.W.makesIn K Q5=true)
  (Vi:PySem.W.keepIn K (.ref Q5)=true)
  (Vg:PySem.W.findIn K (.ref Q5) "old"=some none)
  (Vf:PySem.W.findIn K (.ref Q5) "drawn"=some none)
  (Ve:PySem.W.findIn K (.ref Q5) "states"=some none)
  (Vd:PySem.W.findIn K (.ref Q5) "greatest"=some none)
  (Vc:PySem.W.findIn K (.ref Q5) "time"=some none)
  (b_all:PySem.W.nsIn K LX "all"=some none)
  (b_dict:PySem.W.nsIn K LX "dict"=some none)
  (b_isinstance:PySem.W.nsIn K LX "isinstance"=some none)
  (b_len:PySem.W.nsIn K LX "len"=some none)
  (b_list:PySem.W.nsIn K LX "list"=some none)
  (b_min:PySem.W.nsIn K LX "min"=some none)
  (b_range:PySem.W.nsIn K LX "range"=some none)
  (b_sorted:PySem.W.nsIn K LX "sorted"=some none)
  (b_tuple:PySem.W.nsIn K LX "tuple"=some none)
  (b_zip:PySem.W.nsIn K LX "zip"=some none)
  (kn0:PySem.W.nsIn K LX "STANDS"=some (some (.str "stands" kt0)))
  (kn1:PySem.W.nsIn K LX "START"=some (some (.ref ka1)))
  (kl1:K.lookup ka1=some ⟨.type "tuple",none,.seq #[.str "" UT,.int 0 US,.int 0 UR] kz1,ks1⟩)
  (kn2:PySem.W.nsIn K LX "WAITS"=some (some (.str "waits" kt2)))
  (kn3:PySem.W.nsIn K LX "WIPED"=some (some (.str "wiped" kt3)))
  (To:FnG K "_law_cell_at" iY)
  (TD:FnG K "_law_stream" jz)
  (Uh:FnG K "_law_pens" lO)
  (TH:FnG K "_law_anchor" jB)
  (Uf:FnG K "check_gap" lM)
  (Ug:FnG K "anchor_at" lN)
  (TY:FnG K "lay_behind" j5)
  (TX:FnG K "slots_made" j0)
  (Uc:FnG K "old_slots" lJ)
  (SR:FnG K "place_in_order" gC)
  (Uq:FnG K "in_order" nl)
  (h_Stroke___init__:MtG K Z1 "__init__" "Stroke.__init__" d6)
  (SF:CfG K Z1 "__init__" "Stroke.__init__" d6)
  (Tr:MtG K Z2 "__init__" "Put.__init__" iZ)
  (SL:MtG K Z3 "__init__" "Strike.__init__" fT)
  (SX:MtG K Z4 "__init__" "Dress.__init__" gH)
  (Te:MtG K Z5 "__init__" "Move.__init__" iB)
  (Ub:FnG K "stroke_of" lH)
  (Ux:FnG K "chained" p4)
  (TM:MtG K Z4 "slots" "Stroke.slots" eE)
  (Tq:MtG K Z3 "slots" "Stroke.slots" eE)
  (Tp:MtG K Z1 "slots" "Stroke.slots" eE)
  (Uj:MtG K Z2 "slots" "Put.slots" lQ)
  (T5:MtG K Z5 "slots" "Move.slots" kg)
  (Up:FnG K "slots_of" nk)
  (UF:FnG K "marked" sI)
  (Ud:FnG K "is_placed" lK)
  (Ue:FnG K "effective" lL)
  (S7:FnG K "signs_brought" iq)
  (Tf:MtG K Z4 "touched" "Stroke.touched" cm)
  (Tt:MtG K Z5 "touched" "Stroke.touched" cm)
  (TJ:MtG K Z2 "touched" "Stroke.touched" cm)
  (SU:MtG K Z3 "touched" "Stroke.touched" cm)
  (SS:MtG K Z1 "touched" "Stroke.touched" cm)
  (Tl:FnG K "signs_struck" iX)
  (TC:FnG K "slots_taken" jy)
  (TW:FnG K "words_worn" jZ)
  (UE:FnG K "seated" sH)
  (Ta:MtG K Q5 "unwiped" "Paper.unwiped" ix)
  (TL:MtG K Q5 "seats" "Paper.seats" jD)
  (Uy:MtG K Z2 "row" "Put.row" p5)
  (TZ:MtG K Z3 "row" "Strike.row" j6)
  (Ul:MtG K Z4 "row" "Dress.row" lU)
  (Ut:MtG K Z5 "row" "Move.row" nv)
  (T4:MtG K Q5 "draw" "Paper.draw" ke)
  (SB:MtG K Q5 "coming_name" "Paper.coming_name" fe)
  (SA:MtG K Q5 "coming_time" "Paper.coming_time" fc)
  (Uk:MtG K Q5 "put" "Paper.put" lR)
  (T2:MtG K Q5 "part" "Paper.part" j9)
  (Ur:FnG K "_law_put" no)
  (S9:FnG K "check_stretch" iu)
  (S8:FnG K "names_between" ir)
  (Ts:MtG K Q5 "strike" "Paper.strike" i0)
  (SE:MtD K Q5 "dress" "Paper.dress" jE "")
  (T3:MtG K Q5 "move" "Paper.move" j_)
  (Ui:FnG K "_law_deed" lP)
  (Uw:FnG K "reading" p3)
  (T1:MtG K Q5 "view" "Paper.view" j8)
  (SG:MtG K Q5 "strokes_in" "Paper.strokes_in" fG)
  (S_:MtG K Q5 "waiting" "Paper.waiting" iw)
  (Tc:MtG K Q5 "strokes" "Paper.strokes" iz)
  (Us:FnG K "_law_own" nu)
  (SD:MtG K Q5 "check_known" "Paper.check_known" fg)
  (TK:MtG K Q5 "state" "Paper.state" jC)
  (SC:MtG K Q5 "check_waits" "Paper.check_waits" ff)
  (SM:MtG K Q5 "let_stand" "Paper.let_stand" fU)
  (T0:MtG K Q5 "wipe" "Paper.wipe" j7)
  (TF:FnG K "_law_decide" jA)
  (SN:MtG K Q5 "last_time" "Paper.last_time" fV)
  (Td:MtG K Q5 "numbers" "Paper.numbers" iA)
  (SV:MtG K Q5 "old_text" "Paper.old_text" gF)
  (SW:MtG K Q5 "__init__" "Paper.__init__" gG)
  (h_law:FnG K "law" sJ):
  ∃ fd:LO,(∀ (s:LF) (v:LC),PB s fd ⟨[v],[]⟩ [("_law_script",v)])/\∀ base:L5,K.In base->base.Ns LX mg->FnOk P w K mg base dz 12 fa fd ["_law_script"] (ax K wp):=by
 obtain⟨f,a,⟨⟨_,_,an,_,kV,dc,pm,cd,ct,l,c⟩⟩,_⟩:=h_law.ex;have e:=hfa.symm.trans (PySem.W.mg_of X G a);cases e;have T:Tx K mg Z1 Z2 Z3 Z4 Z5 Q5:=⟨(all_cons ⟨k0,VV⟩ (all_cons ⟨k1,VN⟩ (all_cons ⟨k2,VE⟩ (all_cons ⟨k3,Vw⟩ (all_cons ⟨k4,Vo⟩ (fun _ h=>nomatch h)))))),(all_cons ⟨k0,VU⟩ (all_cons ⟨k1,VM⟩ (all_cons ⟨k2,VD⟩ (all_cons ⟨k3,Vv⟩ (all_cons ⟨k4,Vn⟩ (fun _ h=>nomatch h)))))),(all_cons ⟨k0,VT⟩ (all_cons ⟨k1,VL⟩ (all_cons ⟨k2,VC⟩ (all_cons ⟨k3,Vu⟩ (all_cons ⟨k4,Vm⟩ (fun _ h=>nomatch h)))))),(all_cons ⟨k0,VS⟩ (all_cons ⟨k1,VJ⟩ (all_cons ⟨k2,VB⟩ (all_cons ⟨k3,Vt⟩ (all_cons ⟨k4,Vl⟩ (fun _ h=>nomatch h)))))),(all_cons ⟨k0,VR⟩ (all_cons ⟨k1,VI⟩ (all_cons ⟨k2,VA⟩ (all_cons ⟨k3,Vs⟩ (all_cons ⟨k4,Vk⟩ (fun _ h=>nomatch h)))))),(all_cons ⟨k0,VQ⟩ (all_cons ⟨k1,VH⟩ (all_cons ⟨k2,Vz⟩ (all_cons ⟨k3,Vr⟩ (all_cons ⟨k4,Vj⟩ (fun _ h=>nomatch h)))))),k0,k1,k2,k3,k4,k5,Vg,Vf,Ve,Vd,Vc,Nj X G b_all,Nj X G b_dict,Nj X G b_isinstance,Nj X G b_len,Nj X G b_list,Nj X G b_min,Nj X G b_range,Nj X G b_sorted,Nj X G b_tuple,Nj X G b_zip,qL (PySem.W.mg_of X G kn0),Cv (vs:=[.str "",.int 0,.int 0]) (PySem.W.mg_of X G kn1) kl1 (by show 3<=LL;decide) (.cons ⟨_,rfl⟩ (.cons ⟨_,rfl⟩ (.cons ⟨_,rfl⟩ .nil))) fun _=>(RDs.cons iC (RDs.cons fH (RDs.cons fH RDs.nil))),qL (PySem.W.mg_of X G kn2),qL (PySem.W.mg_of X G kn3),PySem.W.mg_of X G c3a,(all_cons ⟨⟨k0,RX,RH,RF,RW⟩,S3⟩ (all_cons ⟨⟨k1,Sz,RH,RF,Sy⟩,TQ⟩ (all_cons ⟨⟨k2,RZ,RH,RF,RY⟩,S4⟩ (all_cons ⟨⟨k3,R7,RH,RF,R6⟩,Tj⟩ (all_cons ⟨⟨k4,Sj,RH,RF,Si⟩,Tz⟩ (fun _ h=>nomatch h)))))),PySem.W.mg_of X G c4a,(all_cons ⟨⟨k0,RX,RH,RF,RW⟩,Tg⟩ (all_cons ⟨⟨k1,Sz,RH,RF,Sy⟩,T7⟩ (all_cons ⟨⟨k2,RZ,RH,RF,RY⟩,Th⟩ (all_cons ⟨⟨k3,R7,RH,RF,R6⟩,TB⟩ (all_cons ⟨⟨k4,Sj,RH,RF,Si⟩,TR⟩ (fun _ h=>nomatch h)))))),PySem.W.mg_of X G c1a,(all_cons ⟨⟨k0,RX,RH,RF,RW⟩,Tu⟩ (all_cons ⟨⟨k1,Sz,RH,RF,Sy⟩,Um⟩ (all_cons ⟨⟨k2,RZ,RH,RF,RY⟩,Tv⟩ (all_cons ⟨⟨k3,R7,RH,RF,R6⟩,TU⟩ (all_cons ⟨⟨k4,Sj,RH,RF,Si⟩,T8⟩ (fun _ h=>nomatch h)))))),PySem.W.mg_of X G c2a,(all_cons ⟨⟨k0,RX,RH,RF,RW⟩,SO⟩ (all_cons ⟨⟨k1,Sz,RH,RF,Sy⟩,Tw⟩ (all_cons ⟨⟨k2,RZ,RH,RF,RY⟩,SQ⟩ (all_cons ⟨⟨k3,R7,RH,RF,R6⟩,S5⟩ (all_cons ⟨⟨k4,Sj,RH,RF,Si⟩,Ti⟩ (fun _ h=>nomatch h))))))⟩
 have F:=kE (st:=sJ) l c;refine⟨PySem.W.fnOf "law" "law" (eY sJ) (eg sJ) (am sJ) .none kV dc pm an cd ct,fun s v=>.of_eq rfl,fun base _ _=>?_⟩;have R5:=pD P w base X G To fun F=>rM F T ;have Rx:=pD P w base X G TD fun F=>tj F T ;have Sw:=pD P w base X G Uh fun F=>xa F T Rx;have Rt:=pD P w base X G TH fun F=>tu F T ;have RK:=pD P w base X G Uf fun F=>w8 F T ;have RL:=pD P w base X G Ug fun F=>w_ F T ;have R0:=pD P w base X G TY fun F=>uU F T ;have Rq:=pD P w base X G TX fun F=>uT F T ;have RJ:=pD P w base X G Uc fun F=>wX F T Rq;have RP:=pD P w base X G SR fun F=>oR F T ;have RT:=pD P w base X G Uq fun F=>yO F T RP;have Q9:=Ls P w base X G c0a SF fun F=>nL F T ;have TN:=Js P w base X G c1a VO VP Tr fun F=>rN F T Q9;have Sf:=Js P w base X G c2a VF VG SL fun F=>nM F T Q9;have Sn:=Js P w base X G c3a Vx Vy SX fun F=>oW F T Q9;have SY:=Js P w base X G c4a Vp Vq Te fun F=>qr F T Q9;have RI:=pD P w base X G Ub fun F=>wW F T Sn SY TN Sf;have S2:=pD P w base X G Ux fun F=>Al F T ;have Rb:=me P w base T.cl_Dress TM fun F=>iE F T ;have Ra:=me P w base T.cl_Strike Tq fun F=>iE F T ;have Q_:=me P w base T.cl_Stroke Tp fun F=>iE F T ;have Rk:=me P w base T.cl_Put Uj fun F=>xc F T Rq;have Rg:=me P w base T.cl_Move T5 fun F=>u5 F T Rq;have SI:=pD P w base X G Up fun F=>yN F T S2 RT R0 RJ RI Q_ Rk Ra Rb Rg;have Sh:=pD P w base X G UF fun F=>B1 F T ;have Su:=pD P w base X G Ud fun F=>wY F T Q_ Rk Ra Rb Rg;have Sv:=pD P w base X G Ue fun F=>wZ F T RT Su Sh RI;have RV:=pD P w base X G S7 fun F=>qi F T RJ Q_ Rk Ra Rb Rg;have Rj:=me P w base T.cl_Dress Tf fun F=>dk F T ;have Rl:=me P w base T.cl_Move Tt fun F=>dk F T ;have Rp:=me P w base T.cl_Put TJ fun F=>dk F T ;have Rf:=me P w base T.cl_Strike SU fun F=>dk F T ;have Re:=me P w base T.cl_Stroke SS fun F=>dk F T ;have R4:=pD P w base X G Tl fun F=>rL F T Re Rp Rf Rj Rl;have Sb:=pD P w base X G TC fun F=>tf F T Q_ Rk Ra Rb Rg Re Rp Rf Rj Rl;have So:=pD P w base X G TW fun F=>uS F T Re Rp Rf Rj Rl;have Sg:=pD P w base X G UE fun F=>B0 F T Sv Sh RV R4 SI Sb So;have Rr:=me P w base T.cl_Paper Ta fun F=>qm F T ;have Q6:=me P w base T.cl_Paper TL fun F=>tx F T Sg Rr;have SH:=me P w base T.cl_Put Uy fun F=>Am F T ;have R8:=me P w base T.cl_Strike TZ fun F=>uV F T ;have Sm:=me P w base T.cl_Dress Ul fun F=>xg F T ;have Ss:=me P w base T.cl_Move Ut fun F=>yR F T ;have Rc:=me P w base T.cl_Paper T4 fun F=>u0 F T SH R8 Sm Ss;have Q8:=me P w base T.cl_Paper SB fun F=>lZ F T ;have Q7:=me P w base T.cl_Paper SA fun F=>lY F T ;have Rz:=me P w base T.cl_Paper Uk fun F=>xf F T RL RK Q8 Q7 Rc Q6 TN;have R_:=me P w base T.cl_Paper T2 fun F=>uY F T Rz;have SJ:=pD P w base X G Ur fun F=>yP F T Rt R_ Rz;have Ri:=pD P w base X G S9 fun F=>qk F T ;have Rh:=pD P w base X G S8 fun F=>qj F T ;have RU:=me P w base T.cl_Paper Ts fun F=>rO F T Ri Rh Q8 Q7 Rc Q6 Sf;have R1:=KI P w base T.cl_Paper SE (fun d s us X hl=>(fun (hl':us.length=5)=>match us,hl' with|[_,_,_,_,_],_=>binds_K X rfl d rfl rfl rfl) (by simpa using hl)) fun F=>lX F T Ri Rh Q8 Q7 Rc Q6 Sn
 have RN:=KH P w base T.cl_Paper SE (fun d s us X hl=>(fun (hl':us.length=4)=>match us,hl' with|[_,_,_,_],_=>binds_K X rfl d rfl rfl rfl) (by simpa using hl)) fun F=>lX F T Ri Rh Q8 Q7 Rc Q6 Sn
 have Sa:=me P w base T.cl_Paper T3 fun F=>uZ F T RL RK Ri Rh Q8 Q7 Rc Q6 SY;have Sx:=pD P w base X G Ui fun F=>xb F T Rt SJ R1 RN Sa Q6 RU;have SZ:=pD P w base X G Uw fun F=>Ak F T Sg;have RB:=me P w base T.cl_Paper T1 fun F=>uX F T SZ Rr;have RA:=me P w base T.cl_Paper SG fun F=>mT F T ;have Rm:=me P w base T.cl_Paper S_ fun F=>ql F T RA;have Rn:=me P w base T.cl_Paper Tc fun F=>qo F T ;have Sq:=pD P w base X G Us fun F=>yQ F T Q6 Rn RB Rm;have Ry:=me P w base T.cl_Paper SD fun F=>l7 F T ;have Ru:=me P w base T.cl_Paper TK fun F=>tw F T Ry;have Ro:=me P w base T.cl_Paper SC fun F=>l5 F T Ru;have RC:=me P w base T.cl_Paper SM fun F=>nN F T Ro;have R9:=me P w base T.cl_Paper T0 fun F=>uW F T Ro;have Sc:=pD P w base X G TF fun F=>tq F T RC Rm R9;have Rv:=me P w base T.cl_Paper SN fun F=>nO F T ;have Rs:=me P w base T.cl_Paper Td fun F=>qp F T ;have RM:=me P w base T.cl_Paper SV fun F=>oU F T ;have T6:=Js P w base X G c5a Vh Vi SW fun F=>oV F T ;exact HA F T R5 Sc Sx Sq Sw Rx Rv Rs RM Ru Rn T6
end RQ
open PySem PySem.W PyProof.Rows
local macro_rules | `(tactic| walk_at "gq") => `(tactic| first | k_is | kernel_rfl | (refine' L3.fnG_mk ?a ?l ?c ?k; (case a => k_is); (case l => k_is); (case c => k_is); (case k => k_is)) | (refine' L3.mtG_mk ?a ?i ?l ?c ?k; (case a => k_is); (case i => k_is); (case l => k_is); (case c => k_is); (case k => k_is)) | (refine' L2.Cls.mk ?a ?b ?c ?d; (case a => k_is); (case b => k_is); (case c => k_is); (case d => k_is)) | (refine' L3.mtD_mk ?a ?i ?l ?c ?k ?d; (case a => k_is); (case i => k_is); (case l => k_is); (case c => k_is); (case k => k_is); (case d => k_is)) | (refine' L3.cfG_mk ?g ?r ?a ?l ?c ?k; (case g => k_is); (case r => k_is); (case a => k_is); (case l => k_is); (case c => k_is); (case k => k_is)) | skip)
def PySem.W.Fast.tw17619795722364362748 : Nat := 0
def PySem.W.Fast.tw16615736654475926887 : Nat := 0
def PySem.W.Fast.tw12136703609751590404 : Nat := 0
def PySem.W.Fast.tw11872798483922220744 : Nat := 0
def PySem.W.Fast.tw12020201808373286121 : Nat := 0
def PySem.W.Fast.tw17790444700266478348 : Nat := 0
def PySem.W.Fast.tw5928654061975450065 : Nat := 0
def PySem.W.Fast.tw12901696993833061058 : Nat := 0
def PySem.W.Fast.tw2116792133541940508 : Nat := 0
def PySem.W.Fast.tw12196199938244340079 : Nat := 0
def PySem.W.Fast.tw10723348823695074361 : Nat := 0
def PySem.W.Fast.tw16914604522225410673 : Nat := 0
def PySem.W.Fast.tw6319357235120667876 : Nat := 0
def PySem.W.Fast.tw5058829719587435844 : Nat := 0
def PySem.W.Fast.tw10554681526852279648 : Nat := 0
def PySem.W.Fast.tw15165252339811432559 : Nat := 0
def PySem.W.Fast.tw5621187424576675897 : Nat := 0
def PySem.W.Fast.tw15908547910214875446 : Nat := 0
def PySem.W.Fast.tw5128777690630917434 : Nat := 0
def PySem.W.Fast.tw5743929073354352485 : Nat := 0
def PySem.W.Fast.tw3592433531584848183 : Nat := 0
def PySem.W.Fast.tw5515772109028255393 : Nat := 0
def PySem.W.Fast.tw3978490037882305974 : Nat := 0
def PySem.W.Fast.tw1165818247990032996 : Nat := 0
def PySem.W.Fast.tw15106651089844716406 : Nat := 0
def PySem.W.Fast.tw14841573516660358222 : Nat := 0
def PySem.W.Fast.tw1390325784241927325 : Nat := 0
def PySem.W.Fast.tw5399934778066275801 : Nat := 0
def PySem.W.Fast.tw13110697884402479481 : Nat := 0
def PySem.W.Fast.tw656791787825933040 : Nat := 0
def PySem.W.Fast.tw6990258683132922289 : Nat := 0
def PySem.W.Fast.tw7509648508272570342 : Nat := 0
def PySem.W.Fast.tw9267607621209216915 : Nat := 0
def PySem.W.Fast.tw17668629680934088036 : Nat := 0
def PySem.W.Fast.tw12125104003829236060 : Nat := 0
def PySem.W.Fast.tw14916747863573642087 : Nat := 0
def PySem.W.Fast.tw11784138458642883878 : Nat := 0
def PySem.W.Fast.tw13294512975292086261 : Nat := 0
def PySem.W.Fast.tw11844769843426172380 : Nat := 0
def PySem.W.Fast.tw11505663692567783190 : Nat := 0
def PySem.W.Fast.tw11574163925887778846 : Nat := 0
def PySem.W.Fast.tw15925009084523568850 : Nat := 0
def PySem.W.Fast.tw6821269787393738592 : Nat := 0
def PySem.W.Fast.tw13430732501589246738 : Nat := 0
def PySem.W.Fast.tw16905090480168559934 : Nat := 0
def PySem.W.Fast.tw1590434584559038508 : Nat := 0
def PySem.W.Fast.tw4437796923380160409 : Nat := 0
def PySem.W.Fast.tw65179344879713773 : Nat := 0
def PySem.W.Fast.tw16642609233217633378 : Nat := 0
def PySem.W.Fast.tw14742631345633826973 : Nat := 0
def PySem.W.Fast.tw5465396980649602195 : Nat := 0
def PySem.W.Fast.tw6811558731314931090 : Nat := 0
def PySem.W.Fast.tw11234015391381576821 : Nat := 0
def PySem.W.Fast.tw18027882583734109231 : Nat := 0
def PySem.W.Fast.tw2094866760965009795 : Nat := 0
def PySem.W.Fast.tw7681921245083272716 : Nat := 0
def PySem.W.Fast.tw1489150299657955258 : Nat := 0
def PySem.W.Fast.tw15995697883545587687 : Nat := 0
def PySem.W.Fast.tw2402308833552420941 : Nat := 0
def PySem.W.Fast.tw14223247972964415876 : Nat := 0
def PySem.W.Fast.tw14642970534966201963 : Nat := 0
def PySem.W.Fast.tw17016786366576190754 : Nat := 0
def PySem.W.Fast.tw18168884536534768564 : Nat := 0
def PySem.W.Fast.tw792112485177577660 : Nat := 0
def PySem.W.Fast.tw9524640642489330772 : Nat := 0
def PySem.W.Fast.tw8642112959550656006 : Nat := 0
def PySem.W.Fast.tw18195738664204149963 : Nat := 0
def PySem.W.Fast.tw15317302697621874840 : Nat := 0
def PySem.W.Fast.tw14419312547873806974 : Nat := 0
def PySem.W.Fast.tw9061449019470158709 : Nat := 0
def PySem.W.Fast.tw11085688393304262174 : Nat := 0
def PySem.W.Fast.tw15850143994544473516 : Nat := 0
def PySem.W.Fast.tw14042073044164460503 : Nat := 0
def PySem.W.Fast.tw15199623013152732436 : Nat := 0
def PySem.W.Fast.tw13162401677880367895 : Nat := 0
def PySem.W.Fast.tw13651886981304281920 : Nat := 0
def PySem.W.Fast.tw16462776526359805180 : Nat := 0
def PySem.W.Fast.tw16313317031767822317 : Nat := 0
def PySem.W.Fast.tw766134730360906325 : Nat := 0
def PySem.W.Fast.tw17431469935839001115 : Nat := 0
def PySem.W.Fast.tw4004471942089107602 : Nat := 0
def PySem.W.Fast.tw8930897493153445897 : Nat := 0
def PySem.W.Fast.tw15592212802241448412 : Nat := 0
def PySem.W.Fast.tw5393489239593907935 : Nat := 0
def PySem.W.Fast.tw10780720085010893446 : Nat := 0
def PySem.W.Fast.tw1254044223738093058 : Nat := 0
def PySem.W.Fast.tw15412596165873224146 : Nat := 0
def PySem.W.Fast.tw17969747494563897813 : Nat := 0
def PySem.W.Fast.tw8944667097097030286 : Nat := 0
def PySem.W.Fast.tw13642439762633485723 : Nat := 0
def PySem.W.Fast.tw2539576557481603706 : Nat := 0
def PySem.W.Fast.tw1347480109178570309 : Nat := 0
def PySem.W.Fast.tw12475303702244768819 : Nat := 0
def PySem.W.Fast.tw1498883227274566302 : Nat := 0
def PySem.W.Fast.tw14264892473385333970 : Nat := 0
def PySem.W.Fast.tw5145625052649606971 : Nat := 0
def PySem.W.Fast.tw16677088327414622815 : Nat := 0
def PySem.W.Fast.tw4040037570656080072 : Nat := 0
def PySem.W.Fast.tw2269081710193969179 : Nat := 0
def PySem.W.Fast.tw1255362996299356789 : Nat := 0
def PySem.W.Fast.tw5948470368757656789 : Nat := 0
def PySem.W.Fast.tw5907353068593808836 : Nat := 0
def PySem.W.Fast.tw4619378919792506594 : Nat := 0
def PySem.W.Fast.tw7512722663313843184 : Nat := 0
def PySem.W.Fast.tw300913006498417279 : Nat := 0
def PySem.W.Fast.tw3664412216298076299 : Nat := 0
def PySem.W.Fast.tw12255257310352795169 : Nat := 0
def PySem.W.Fast.tw11752016322515807930 : Nat := 0
def PySem.W.Fast.tw7343440724314110746 : Nat := 0
def PySem.W.Fast.tw7863919269670687706 : Nat := 0
def PySem.W.Fast.tw18432489480099487413 : Nat := 0
def PySem.W.Fast.tw11727262229253319913 : Nat := 0
def PySem.W.Fast.tw10381894484872772066 : Nat := 0
def PySem.W.Fast.tw5723692329479932267 : Nat := 0
def PySem.W.Fast.tw5590319590884592040 : Nat := 0
def PySem.W.Fast.tw8949376526697467134 : Nat := 0
def PySem.W.Fast.tw9066656446593325544 : Nat := 0
def PySem.W.Fast.tw17939839303247528970 : Nat := 0
def PySem.W.Fast.tw5442154581930724498 : Nat := 0
def PySem.W.Fast.tw17800040124250851466 : Nat := 0
def PySem.W.Fast.tw4809234562743162068 : Nat := 0
def PySem.W.Fast.tw6123159792045133576 : Nat := 0
def PySem.W.Fast.tw3313944395432692267 : Nat := 0
def PySem.W.Fast.tw1140112962242382258 : Nat := 0
def PySem.W.Fast.tw12140766883460558683 : Nat := 0
def PySem.W.Fast.tw10943088634548294652 : Nat := 0
def PySem.W.Fast.tw9940885154094785840 : Nat := 0
def PySem.W.Fast.tw2841306387880786853 : Nat := 0
def PySem.W.Fast.tw3359572943427080626 : Nat := 0
def PySem.W.Fast.tw16062795646253206169 : Nat := 0
def PySem.W.Fast.tw3862159250043077254 : Nat := 0
def PySem.W.Fast.tw11270649064391404707 : Nat := 0
def PySem.W.Fast.tw17132306069787136999 : Nat := 0
def PySem.W.Fast.tw193278399091091480 : Nat := 0
def PySem.W.Fast.tw7823356785247537436 : Nat := 0
def PySem.W.Fast.tw5202396236490760038 : Nat := 0
def PySem.W.Fast.tw3452734929409499000 : Nat := 0
def PySem.W.Fast.tw15322296838607633877 : Nat := 0
def PySem.W.Fast.tw13598725052086675333 : Nat := 0
def PySem.W.Fast.tw5667189652357035972 : Nat := 0
def PySem.W.Fast.tw6920662561305675402 : Nat := 0
def PySem.W.Fast.tw12504286803043847391 : Nat := 0
def PySem.W.Fast.tw4516605262317536239 : Nat := 0
def PySem.W.Fast.tw10031817718984290280 : Nat := 0
def PySem.W.Fast.tw16641148167927500670 : Nat := 0
def PySem.W.Fast.tw13977038153157672386 : Nat := 0
def PySem.W.Fast.tw4935152135055409589 : Nat := 0
def PySem.W.Fast.tw4038818290484265213 : Nat := 0
def PySem.W.Fast.tw16498876583911897805 : Nat := 0
def PySem.W.Fast.tw1293408744729553825 : Nat := 0
def PySem.W.Fast.tw6918841951734467382 : Nat := 0
def PySem.W.Fast.tw488367248294932435 : Nat := 0
def PySem.W.Fast.tw11945886570263679232 : Nat := 0
def PySem.W.Fast.tw11684739823347776881 : Nat := 0
set_option maxRecDepth 100000 in
set_option maxHeartbeats 0 in
theorem PySem.Challenge.cw_redquill_k51_deeds_by_numbers_holds : PySem.Challenge.rw_redquill_k51_deeds_by_numbers.Holds := by
 w_on;o_law;k_head;(case hw=>w_witness2)
 k_fill
 refine L3.walk3 (l:=PySem.Challenge.rw_redquill_k51_deeds_by_numbers) (k:=12) (x:="_law_script") rfl rfl ⟨rfl,by decide,by decide⟩ (fun w h Y=>PySem.W.kIn_of Y) ?F
 case F=>
  intro w mg fa h KX G hmg;refine' RQ.all_mk KX G hmg ?_ ?_ ?_ ?_ ?_ ?_ ?_ ?_ ?_ ?_ ?_ ?_ ?_ ?_ ?_ ?_ ?_ ?_ ?_ ?_ ?_ ?_ ?_ ?_ ?_ ?_ ?_ ?_ ?_ ?_ ?_ ?_ ?_ ?_ ?_ ?_ ?_ ?_ ?_ ?_ ?_ ?_ ?_ ?_ ?_ ?_ ?_ ?_ ?_ ?_ ?_ ?_ ?_ ?_ ?_ ?_ ?_ ?_ ?_ ?_ ?_ ?_ ?_ ?_ ?_ ?_ ?_ ?_ ?_ ?_ ?_ ?_ ?_ ?_ ?_ ?_ ?_ ?_ ?_ ?_ ?_ ?_ ?_ ?_ ?_ ?_ ?_ ?_ ?_ ?_ ?_ ?_ ?_ ?_ ?_ ?_ ?_ ?_ ?_ ?_ ?_ ?_ ?_ ?_ ?_ ?_ ?_ ?_ ?_ ?_ ?_ ?_ ?_ ?_ ?_ ?_ ?_ ?_ ?_ ?_ ?_ ?_ ?_ ?_ ?_ ?_ ?_ ?_ ?_ ?_ ?_ ?_ ?_ ?_ ?_ ?_ ?_ ?_ ?_ ?_ ?_ ?_ ?_ ?_ ?_ ?_ ?_ ?_ ?_ ?_ ?_ ?_ ?_ ?_ ?_ ?_ ?_ ?_ ?_ ?_ ?_ ?_ ?_ ?_ ?_ ?_ ?_ ?_ ?_ ?_ ?_ ?_ ?_ ?_ ?_ ?_ ?_ ?_ ?_
  all_goals walk_at "gq"
