import PyProof.Rows.All
import Wide.All
import OpenK.AllK
import Wide.FinOn
import Lean
import PyProof.EqAt
import PyProof.EqKinds
import PyProof.TupleCall
import PySem.Challenge.RW_redquill_k54_out_of_place
set_option Elab.async false
set_option linter.all false
set_option maxRecDepth 100000
set_option maxHeartbeats 4000000
open PySem renaming wpAny_bind->MH,Value->MI,wpAny_pure->MJ,Shared->MK,Addr->ML,wpAny->MP,model->MR,sizeLine->MT,starEach->MU,Program->MY,mainGlobals->M0,Around->M3,Heap->M5,World->M7,Expr->M9,wpAny_newObj_type->Nd,wpAny_holding->Nf,Stmt->Ng,wpAny_mono->Nh,wpAny_setField_rec->Ni,sizeLine_eq->Nk,compareOp->Nv,wpAny_field->Nw,wpAny_call_entry->Ny,wpAny_callSpecial?_slot->Nz,cLine->ND,tupleKind_room_in1->NL,sysModules->NM,wpAny_passesOwn->NQ,FuncData->NR,backTo->NS,foldedSetIterable->NW,wpAny_Call_Name_kw->NY,tupleKind->NZ,wpAny_attempt->N0,bootBuiltins->N3,rawInt->N4,binaryOp->N6,wpAny_truthy_bool->N7,wpAny_dictEntries->N8,swapsWith->N9,codeAny->Oa,pyNext->Ob,codeAny_mono->Od,behindInMarks->Oh,attributeBase->Oi,wpAny_dictEpoch->Op,wpAny_typeNameOfWhole_itemiter->Ot,wpAny_setField->Ou,wpAny_typeNameOfWhole_valiter->Ox,wpAny_typeNameOfWhole_keyiter->Oy,sliceBounds->Oz,keywordEach->OA,assignEach->OF,wpAny_execs_nil->OG,wpAny_seqItems->OL,IsPair->OP,wpAny_typeNameOf_itemiter->OQ,wpAny_typeNameOf_valiter->OV,wpAny_typeNameOf_keyiter->OW,letOwnedTupleGo->OZ,codeAny_builtin->O1,wpAny_fieldsOf->O5,firstArgMember->O7,Scope->O9,wpAny_isInstance->Pc,wpAny_call->Pd,getMethod->Pf,wpAny_standAt->Pg,standAt->Ph,plainId_quiet->Pi,backToKw->Pq,atKey->Pr,wpAny_newTuple->Pu,pyIter->Pw,getattributeRaised->Px,Result->Pz,Paired->PB,NameKind->PD,wpAny_pyIter_list->PH,wpAny_loadPart_at->PJ,strIterType->PK,wpAny_onRaise->PN,getAttr?->PR,wpAny_typeOf->PV,wpAny_rule->PX,wpAny_isOneOf_itemiter->PY,typeLookup->PZ,getItem->P4,call_meetsIn->P6,wpAny_notOrdered_dict->P8,wpAny_isOneOf_valiter->P9,builtinLookup_eq_fast->P_,wpAny_updateSeq_pair->Qa,wpAny_letGo->Qb,unbindBehindTheSuite->Qc,setField->Qd,isSubtype_stop->Qe,codeAny_call_builtin->Qh,callWith->Qi,storedH->Ql,callerA->Qp,PassesOwn->Qq,wpAny_newList->Qs,CmpOp->Qu,isInstance->Qx,IsPart->Qz,wpAny_pyIter_slot->QA,valueAt->QB,plainObj_wpAny_Assign_Attribute->QI,wpAny_execs_cons->QL,subscripted->QR,loadIfAlive->QV,wpAny_updateSeq->QY,wpAny_ite_split->QZ,typeLookup_type->Q4,relabel->Q5,Keyword->Q7,BindsTo->Q_,wpAny_loadPart->Ra,wpAny_handled->Rg,wpAny_comprehension_free->Rh,wpAny_Call_method0_late->Rl,setFlight->Rm,meetsH_dict_get_default->Ro,bindL->Rq,bindC->Rr,wpAny_pyNext_list_item->Rx,newExc->RA,leaving->RC,isTrue->RF,getAttr->RH,concat_meets->RI,wpAny_pyNext_list_end->RP,wpAny_isTrue_Compare1->RT,wpAny_isOneOf_keyiter->RU,wpAny_throw->RV,wpAny_of_eq->RW,seqIndex_of->RX,excClassObj->R0,Model->R4,wpAny_isSubtype_exc->R7,codeAny_forLoop_any->R8,wpAny_setItem_heap->Sb,wpAny_load->Sc,wpAny_getItem_heap->Se,wpAny_dictSet_heap->Sf,wpAny_Name->Sg,typeIs_str->Sh,sub_AttributeError->Si,sliceRange->Sj,getAttrBy?->Sn,closureFor->Sq,call_meets->Ss,builtinsNs->Su,wpAny_assign_Name->Sy,setItem->SB,setAttr->SC,field->SE,Draws->SJ
open PySem.Heap renaming get?_push_of_some->MM,get?_push_size->MQ,lt_size->MS,get?_update_other->M_,get?_update_self->Nx,size_push->NT,SameBut->Oe,get?_push_ne->QE,ExtBut->R5,get?_update_ne->R9
open PySem.Str renaming ofString->MN,length->Qy
open List renaming length_map->MO,size_toArray->MV,mem_cons_of_mem->MW,getElem?_eq_getElem->MX,mem_cons_self->MZ,length_cons->M1,getD_eq_getElem?_getD->M4,mem_of_getElem?->M6,map_cons->M8,getElem?_map->Nc,length_nil->Nj,length_append->Nl,getElem?_cons_zero->Nn,find?_cons->No,not_mem_nil->Nq,mem_cons->Nr,set_cons_zero->Nt,getElem?_cons_succ->Nu,mem_append_right->NA,take_length->NF,map_map->NH,set_cons_succ->NJ,map_append->NN,filterMap_cons->NO,take_add_one->NU,length_take->NV,map_congr_left->N5,getElem?_set_self->N_,append_nil->Oc,lookup_cons->Og,length_filter_le->Ol,nodup_cons->Om,getElem?_set_ne->Oq,getElem?_eq_none->Ov,cons_append->OB,nil_append->OM,zip_cons_cons->OU,mem_of_mem_take->OY,forIn_cons->O2,length_zip->Pe,map_nil->Pj,filter_append->Pl,length_drop->Pn,getElem_mem->Po,pairwise_map->Pt,forIn_nil->PU,foldl_cons->P5,countP_cons->Qg,any_cons->Qj,mem_singleton->Qt,nodup_nil->QN,drop_zero->QO,set_set->Rz,mem_append->Sm
open Nat renaming ne_of_lt->Na,lt_of_lt_of_le->Nb,zero_le->NC,lt_succ_self->OE,ne_of_gt->ON,lt_or_ge->OO,le_of_eq->PQ,reduceSub->Qm,reduceAdd->Qn,le_succ->QD
open PySem.PassesOwn renaming never->Np
open PySem.Obj renaming mapSeq->NB,mapFields->NE,data_mapFields->NP,isFreed_of_fields->Oo,cls_mapFields->PL
open PySem.Builtin.SmallTypes renaming nextOf->NG,ownedTupleIsFree->Oj,ownedTupleHandOut->Qr
open PySem.Builtin.Dict_items renaming ownsTuple->NI,ownedTupleIsFree->Qv,pairFromOwner->QH
open PyProof.Rows renaming seqObj->NK,boot_isinstance->OH,get?_update_seq->O0,envOfC->O8,listUpdate_at->Pk,AllBare->PM,seqEpoch_at->QS,mirror_perm->QU,failedOf->Rc,subscriptTail->Ri,subscriptTail_builtinR->Ry,listItems_at->RB,IntsAre->RK,bubble_size->R1,Subscript_->Sv,tuples'->Sz,Call_->SK
open PySem.Builtin.Str renaming strSliceIndices->Of
open PySem.Calls renaming spliced_cons->On,spliced_nil->OK,callWith_builtin->O_,Name_function_global->Re,evalArgs_plain->R6
open PySem.Around renaming under_plainId->Os,under->RN
open PySem.F renaming slot_dict_valueiterator_next->Ow,slot_dict_itemiterator_next->OC,slot_dict_keyiterator_next->OI,plain_extend_loop->OT,slot_zip_next->P7,args_dict_valueiterator_next_1->QG,entry_dict_valueiterator_next->QJ,args_dict_itemiterator_next_1->QK,entry_dict_itemiterator_next->QP,args_dict_keyiterator_next_1->QQ,entry_dict_keyiterator_next->QX,slot_dict_values_iter->Rt,entry_extend_loop->R_,plain_list_iadd->SH,args_zip_next_1->SI
open PySem.W renaming mg_none_of->OD,kas_rev->OJ,kas_tail3->O3,emptyDict->O4,kas_desc->O6,Frag->Ps,callWith_K->Py,methodCall_KW->PP,kas_descPart->P0,instObj->P3,findIn->Qf,kas_place->Qo,keepIn->Qw,looks_findIn->QC,specialIn->QM,plainGet_of->QT,Looks->QW,kas_bin->Q6,plainGet->Rb,methodObj->Rn,kas_count->Rp,codeIn->RJ,looks_mroIn->RY,kas_sort->RZ,fnOf->So,check_slot->Sr,KasT->Sw,findObj->SD,kitOne->ST,nsIn->Tm,mg_of->Ty,kia_one->Ut,mroIn->Uu,makesIn->Uv,takerIn->Uw,lookIn->Ux,hasDictIn->Uy,takesIn->Uz,exmOne->UA,InstAt->UB,isFn->UC,typeIn->UD
open PySem.Builtin.Slice renaming slicePlaces->OR,sliceAdjust->PF,sliceApplied->Rf
open PySem.Heap.SameBut renaming update->OS,refl->QF
open PySem.Builtin.Tuple renaming tupleExact->OX
open PySem.Builtin.Dict renaming showsAll->Pa,updateFrom->Rv,pairItems->RM
open PySem.Paired renaming length->Pm,snoc->Qk
open PySem.Builtin.List renaming listLengthHint->Q8,listExtendWith->Q9,listSameRef->Rk,listUpdate->Ru
open PySem.Shared renaming TypeIs->Rj
open PySem.Heap.IsItemsView renaming typeIs->Rs
open PySem.Code renaming isFrame->RL,quiet_builtin->Sx
open PySem.EntryCells renaming newEntry->Sa
open PySem.Heap.Ns1 renaming of_empty->SG
noncomputable section
open PySem.W (tailIn binds_K)
open List (mem_filter mem_range mem_map)
open Nat (le_trans le_of_lt le_refl not_lt)
local macro_rules | `(tactic| walk_at "j") => `(tactic| exact ⟨rfl, rfl, rfl, by decide +kernel, rfl, by decide +kernel, by decide +kernel⟩)
local macro_rules | `(tactic| walk_at "o") => `(tactic| first | assumption | exact le_trans (by decide) $(Lean.mkIdent `hs) | exact le_of_lt (by assumption) | exact le_trans (by assumption) (by assumption) | exact Nb (by assumption) (by assumption) | exact Nat.lt_of_le_of_lt (by assumption) (by assumption) | exact le_trans (by assumption) (le_trans (by decide) $(Lean.mkIdent `hs)) | omega)
namespace L2
open PySem PySem.Spec PyProof.Rows
abbrev aE:=Sum Int Str
def tu:aE->MI->Bool
 | .inl k,v=>Value.isInt k v
 | .inr x,v=>Value.isStrOf x v
def LR(w:M7):aE->Int
 | .inl k=>hashInt k
 | .inr x=>hashStr w x
theorem cr:∀ {k:aE} {v:MI},tu k v=true->(∃ i t,k=Sum.inl i/\v=Value.int i t)\/(∃ x t,k=Sum.inr x/\v=Value.str x t)
 | .inl i,v,h=>by
  obtain⟨t,e⟩:=Value.isInt_shape (k:=i) (v:=v) h;exact .inl ⟨i,t,rfl,e⟩
 | .inr x,v,h=>by
  obtain⟨t,e⟩:=Value.isStrOf_shape (x:=x) (v:=v) h;exact .inr ⟨x,t,rfl,e⟩
theorem CA(i:Int)(t:Tok):tu (.inl i) (.int i t)=true:=by simp[tu,Value.isInt]
theorem Cz(x:Str)(t:Tok):tu (.inr x) (.str x t)=true:=by simp[tu,Value.isStrOf]
theorem IV(a b:Int):decide ((Sum.inl a:aE)=Sum.inl b)=(a == b):=by
 by_cases e:a=b
 ·subst e;simp
 ·have h:¬ (Sum.inl a:aE)=Sum.inl b:=fun q=>e (Sum.inl.inj q);rw[decide_eq_false h];exact (beq_eq_false_iff_ne.mpr e).symm
theorem IR(a b:Str):decide ((Sum.inr a:aE)=Sum.inr b)=decide (a=b):=by
 by_cases e:a=b
 ·subst e;simp
 ·have h:¬ (Sum.inr a:aE)=Sum.inr b:=fun q=>e (Sum.inr.inj q);rw[decide_eq_false h,decide_eq_false e]
theorem IU(a:Int)(b:Str):decide ((Sum.inl a:aE)=Sum.inr b)=false:=decide_eq_false (fun q=>nomatch q)
theorem IS(a:Str)(b:Int):decide ((Sum.inr a:aE)=Sum.inl b)=false:=decide_eq_false (fun q=>nomatch q)
def aI(prog:MY)(w:M7):PySem.KeyKind prog w aE where
 is:=tu
 hash:=LR w
 inj:=fun v a b ha hb=>by
  rcases cr ha with ⟨i,t,rfl,rfl⟩|⟨x,t,rfl,rfl⟩
  ·rcases cr hb with ⟨j,u,rfl,e⟩|⟨y,u,rfl,e⟩
   ·injection e with e1 _;rw[e1]
   ·exact nomatch e
  ·rcases cr hb with ⟨j,u,rfl,e⟩|⟨y,u,rfl,e⟩
   ·exact nomatch e
   ·injection e with e1 _;rw[e1]
 byValue:=fun k v h=>by
  rcases cr h with ⟨i,t,rfl,rfl⟩|⟨x,t,rfl,rfl⟩<;>rfl
 pyHash:=fun hv h=>by
  rcases cr hv with ⟨i,t,rfl,rfl⟩|⟨x,t,rfl,rfl⟩
  ·exact wpAny_pyHash_int h
  ·exact wpAny_pyHash_str h
 eqBool:=fun hu hv h=>by
  rcases cr hu with ⟨i,t,rfl,rfl⟩|⟨x,t,rfl,rfl⟩
  ·rcases cr hv with ⟨j,u,rfl,rfl⟩|⟨y,u,rfl,rfl⟩
   ·rw[IV]at h;exact wpAny_eqBool_int h
   ·rw[IU]at h;exact SeqAt.EqAt.int_str i t y u _ _ _ _ h
  ·rcases cr hv with ⟨j,u,rfl,rfl⟩|⟨y,u,rfl,rfl⟩
   ·rw[IS]at h;exact SeqAt.EqAt.str_int x t j u _ _ _ _ h
   ·rw[IR]at h;exact wpAny_eqBool_str h
 «strs»:=fun k x t v h=>by
  rcases cr h with ⟨i,u,rfl,e⟩|⟨y,u,rfl,e⟩
  ·exact nomatch e
  ·injection e with e1 _
   subst e1;cases v<;>rfl
theorem y_(prog:MY)(w:M7)(i:Int)(t:Tok):(aI prog w).is (.inl i) (.int i t)=true:=CA i t
theorem yZ(prog:MY)(w:M7)(x:Str)(t:Tok):(aI prog w).is (.inr x) (.str x t)=true:=Cz x t
set_option genInjectivity false in
inductive V where
 | non|bl (b:Bool)|int (i:Int)|str (x:Str)|byt (b:Array UInt8)|flt (b:UInt64)|ref (a:ML)|ty (n:String)
def aD:V->MI->Prop
 | .non,u=>u=Value.none
 | .bl b,u=>u=Value.bool b
 | .int i,u=>∃ t,u=Value.int i t
 | .str x,u=>∃ t,u=Value.str x t
 | .byt b,u=>∃ t,u=Value.bytes b t
 | .flt b,u=>∃ t,u=Value.float b t
 | .ref a,u=>u=Value.ref a
 | .ty n,u=>u=Value.type n
abbrev Vals:List V->List MI->Prop:=PB aD
theorem Vals.length(r:Vals xs us):xs.length=us.length:=Pm r
theorem Vals.get:∀ {xs:List V} {us:List MI} {i:Nat} {x:V},Vals xs us->xs[i]?=some x->∃ u,us[i]?=some u/\aD x u
 | _,_,_,_,.nil,e=>by simp at e
 | _,_,0,_,.cons r _,e=>by simp at e;subst e;exact⟨_,rfl,r⟩
 | _,_,i+1,x,.cons _ t,e=>by
  obtain⟨u,h1,h2⟩:=Vals.get (i:=i) (x:=x) t (by simpa using e)
  exact⟨u,by simpa using h1,h2⟩
theorem Vals.set(r:aD x u):∀ {xs:List V} {us:List MI} (i:Nat),Vals xs us->Vals (xs.set i x) (us.set i u)
 | _,_,_,.nil=>.nil
 | _,_,0,.cons _ t=>.cons r t
 | _,_,i+1,.cons q t=>.cons q (Vals.set r i t)
theorem Vals.append:∀ {xs ys:List V} {us ws:List MI},Vals xs us->Vals ys ws->Vals (xs ++ ys) (us ++ ws)
 | _,_,_,_,.nil,s=>s
 | _,_,_,_,.cons r t,s=>.cons r (Vals.append t s)
theorem Vals.take:∀ {xs:List V} {us:List MI} (n:Nat),Vals xs us->Vals (xs.take n) (us.take n)
 | _,_,0,_=>.nil
 | _,_,_+1,.nil=>.nil
 | _,_,n+1,.cons r t=>.cons r (Vals.take n t)
theorem Vals.drop:∀ {xs:List V} {us:List MI} (n:Nat),Vals xs us->Vals (xs.drop n) (us.drop n)
 | _,_,0,r=>r
 | _,_,_+1,.nil=>.nil
 | _,_,n+1,.cons _ t=>Vals.drop n t
def j0:Option V->Option MI->Prop
 | some v,some u=>aD v u
 | none,none=>True
 | _,_=>False
def KV{κ:Type}:List (κ×V)->List (κ×MI)->Prop:=PB fun (p:κ×V) (q:κ×MI)=>p.1=q.1/\aD p.2 q.2
def kV:aE->V
 | .inl i=>.int i
 | .inr x=>.str x
set_option genInjectivity false in
inductive HO where
 | lst (xs:List V)
 | tup (xs:List V)
 | dK (kvs:List (aE×V))|dT (kvs:List (List aE×V))
 | set (S:Int->Bool) (n:Nat)
 | ins (C dx:ML) (fs:List (Str×V))
 | own (x:ML)
 | xd (fs:List (Str×V))
 | met (f x:ML)
 | rng (lo hi:Int)
 | frz (o:Obj) (u:HO)
 | tbl (ps:Array MI)
 | ext (φ:M5->Prop)
abbrev Hp:=ML->Option HO
def aS(H:Hp)(a:ML)(o:HO):Hp:=fun b=>if b=a then some o else H b
theorem aB:aS H a o a=some o:=by unfold aS;rw[if_pos rfl]
theorem aq(h:b≠a):aS H a o b=H b:=by unfold aS;rw[if_neg h]
theorem Kq{H:Hp}(h:H a=some o)(h':H b=some u)(d:o≠u):a≠b:=by
 intro e;subst e;rw[h]at h';exact d (Option.some.inj h')
theorem bA{H:Hp}(h:H a=some o)(h':H b=none):a≠b:=by
 intro e;subst e;rw[h]at h';cases h'
section
variable(P:MY)(w:M7)
def tZ(h:M5)(a:ML)(items:Array MI):Prop:=∃ o,h.get? a=some o/\(o.cls=.type "tuple"/\o.dict=none)/\∃ n,o.data=.seq items n
def bC(H:Hp)(h:M5)(a:ML):HO->Prop
 | .lst xs=>xs.length<=MT/\∃ (its:List MI) (n:Nat),Vals xs its/\h.get? a=some { cls:=.type "list",data:=.seq its.toArray n }
 | .tup xs=>xs.length<=MT/\∃ its:List MI,Vals xs its/\tZ h a its.toArray
 | .dK kvs=>kvs.length<=MT/\(a == NM)=false/\∃ vs,KV kvs vs/\h.DictOf (aI P w) a vs
 | .dT kvs=>kvs.length<=MT/\(a == NM)=false/\∃ xs:List (List aE×ML×MI),
   PB (fun (p:List aE×V) (q:List aE×ML×MI)=>p.1=q.1/\H q.2.1=some (.tup (p.1.map kV))/\aD p.2 q.2.2) kvs xs/\
   ∃ o es ep,h.get? a=some o/\o.ExactDict/\o.data=.dict es ep/\es.toList=xs.map (entryOfKey (NZ (aI P w)))/\(xs.map (·.1)).Nodup
 | .set S n=>h.SetOf (intKind P w) a S n
 | .ins C dx fs=>H dx=some (.own a)/\fs.length<=1000/\dx≠a/\h.get? a=some (P3 C dx)/\
   ∃ mA,h.Ns1 dx mA/\(∀ f,j0 (fs.lookup f) (mA f))/\PySem.Within mA (fs.map (·.1))
 | .own _=>∃ o,h.get? a=some o
 | .xd fs=>∃ mA,h.Ns1 a mA/\∀ f,j0 (fs.lookup f) (mA f)
 | .rng lo hi=>∃ t u v,h.get? a=some { cls:=.type "range",data:=.fields #[.int lo t,.int hi u,.int 1 v] }
 | .frz o u=>h.get? a=some o/\bC H h a u
 | .tbl ps=>h.get? a=some { cls:=.none,data:=.fields ps }
 | .met f x=>h.get? a=some (Rn (.ref f) (.ref x))
 | .ext φ=>φ h/\(∃ o,h.get? a=some o)/\∀ h1 h2:M5,φ h1->(∀ o,h1.get? a=some o->h2.get? a=some o)->φ h2
theorem tZ.new(h:M5)(items:Array MI):tZ (h.push { cls:=.type "tuple",data:=.seq items }) h.objs.size items:=⟨_,MQ _ rfl,⟨rfl,rfl⟩,_,rfl⟩
theorem tZ.tup(x:tZ h a items):IsTup h a items:=let ⟨o,e,c,d⟩:=x;⟨o,e,c.1,d⟩
def lE(H:Hp)(h:M5):Prop:=∀ a o,H a=some o->bC P w H h a o
end
section
variable{P:MY}{w:M7}{H H':Hp}{h h':M5}{a:ML}{o:HO}
theorem bC.lt(x:bC P w H h a o):a < h.objs.size:=by
 cases o with
 | lst xs=>obtain⟨_,_,_,_,e⟩:=x;exact MS e
 | tup xs=>obtain⟨_,_,_,p⟩:=x;exact p.tup.lt
 | dK kvs=>obtain⟨_,_,_,_,o,_,_,e,_⟩:=x;exact MS e
 | dT kvs=>obtain⟨_,_,_,_,o,_,_,e,_⟩:=x;exact MS e
 | set S n=>obtain⟨o,_,_,_,e,_⟩:=x;exact MS e
 | ins C dx fs=>obtain⟨_,_,_,e,_⟩:=x;exact MS e
 | own y=>obtain⟨_,e⟩:=x;exact MS e
 | xd fs=>obtain⟨_,⟨_,_,_,e,_⟩,_⟩:=x;exact MS e
 | rng lo hi=>obtain⟨_,_,_,e⟩:=x;exact MS e
 | frz ob u=>obtain⟨e,_⟩:=x;exact MS e
 | tbl ps=>exact MS (show h.get? a=some _ from x)
 | met f y=>exact MS (show h.get? a=some _ from x)
 | ext φ=>obtain⟨_,⟨_,e⟩,_⟩:=x;exact MS e
theorem Paired.mapP{α β:Type}{F G:α->β->Prop}:∀ {l₁:List α} {l₂:List β},PB F l₁ l₂->(∀ a b,F a b->G a b)->PB G l₁ l₂
 | _,_,.nil,_=>.nil
 | _,_,.cons r t,f=>.cons (f _ _ r) (Paired.mapP t f)
theorem bC.stay(x:bC P w H h a o)(k:∀ b u,(b=a\/H b=some (.own a))->h.get? b=some u->h'.get? b=some u)(ho:∀ b,H b=some (.own a)->H' b=some (.own a))(ht:∀ b xs,H b=some (.tup xs)->H' b=some (.tup xs)):bC P w H' h' a o:=by
 induction o with
 | lst xs=>obtain⟨z,its,n,r,e⟩:=x;exact⟨z,its,n,r,k _ _ (.inl rfl) e⟩
 | tup xs=>obtain⟨z,its,r,ob,e,c⟩:=x;exact⟨z,its,r,ob,k _ _ (.inl rfl) e,c⟩
 | dK kvs=>obtain⟨z,y,vs,r,ob,es,ep,e,c⟩:=x;exact⟨z,y,vs,r,ob,es,ep,k _ _ (.inl rfl) e,c⟩
 | dT kvs=>
  obtain⟨z,y,xs,r,ob,es,ep,e,c⟩:=x;exact⟨z,y,xs,Paired.mapP r fun p q z=>⟨z.1,ht _ _ z.2.1,z.2.2⟩,ob,es,ep,k _ _ (.inl rfl) e,c⟩
 | set S n=>obtain⟨ob,es,ep,t,e,c⟩:=x;exact⟨ob,es,ep,t,k _ _ (.inl rfl) e,c⟩
 | ins C dx fs=>
  obtain⟨d,z,ne,e,mA,⟨od,es,ep,e2,c⟩,r⟩:=x;exact⟨ho _ d,z,ne,k _ _ (.inl rfl) e,mA,⟨od,es,ep,k _ _ (.inr d) e2,c⟩,r⟩
 | own y=>obtain⟨ob,e⟩:=x;exact⟨ob,k _ _ (.inl rfl) e⟩
 | xd fs=>obtain⟨mA,⟨od,es,ep,e,c⟩,r⟩:=x;exact⟨mA,⟨od,es,ep,k _ _ (.inl rfl) e,c⟩,r⟩
 | rng lo hi=>obtain⟨t,u,v,e⟩:=x;exact⟨t,u,v,k _ _ (.inl rfl) e⟩
 | frz ob u ih=>obtain⟨e,q⟩:=x;exact⟨k _ _ (.inl rfl) e,ih q⟩
 | tbl ps=>
  have e:h.get? a=some { cls:=.none,data:=.fields ps }:=x;show h'.get? a=some { cls:=.none,data:=.fields ps }
  exact k a _ (.inl rfl) e
 | met f y=>
  have e:h.get? a=some (Rn (.ref f) (.ref y)):=x;show h'.get? a=some (Rn (.ref f) (.ref y))
  exact k a _ (.inl rfl) e
 | ext φ=>obtain⟨p,⟨o,e⟩,st⟩:=x;exact⟨st _ _ p fun o q=>k _ _ (.inl rfl) q,⟨o,k _ _ (.inl rfl) e⟩,st⟩
theorem lE.lt(x:lE P w H h)(e:H a=some o):a < h.objs.size:=(x a o e).lt
theorem lE.fresh(x:lE P w H h)(e:h.objs.size<=a):H a=none:=by
 cases q:H a with
 | none=>rfl
 | some u=>exact absurd (Nb (x.lt q) e) (Nat.lt_irrefl _)
theorem lE.kept(x:lE P w H h)(k:∀ b u,h.get? b=some u->h'.get? b=some u):lE P w H h':=fun a o e=>
 (x a o e).stay (fun b u _ q=>k b u q) (fun _ q=>q) fun _ _ q=>q
theorem lE.laid(x:lE P w H h)(k:∀ b u,h.get? b=some u->h'.get? b=some u)(hp:h.objs.size<=a)(new:bC P w (aS H a o) h' a o):lE P w (aS H a o) h':=fun b u e=>by
 have hn:=x.fresh hp
 by_cases hb:b=a
 ·subst hb;rw[aB]at e;cases e;exact new
 ·rw[aq hb]at e;exact (x b u e).stay (fun c v _ q=>k c v q) (fun c q=>by rw[aq (bA q hn)];exact q) fun c xs q=>by rw[aq (bA q hn)];exact q
end
def Rd(H:Hp)(a:ML)(u:HO):Prop:=H a=some u\/∃ o,H a=some (.frz o u)
theorem Rd.ok(r:Rd H a u)(x:lE P w H h):bC P w H h a u:=by
 rcases r with r|⟨o,r⟩
 ·exact x a u r
 ·obtain⟨_,q⟩:=x a _ r;exact q
def C8:Option HO->Prop
 | some (.lst _)=>True
 | some (.dK _)=>True
 | some (.dT _)=>True
 | some (.set _ _)=>True
 | some (.ins _ _ _)=>True
 | some (.ext _)=>True
 | _=>False
section
variable{P:MY}{w:M7}{H:Hp}{h h':M5}{x e:ML}{o':HO}
theorem lE.write(ok:lE P w H h)(mu:C8 (H x))(he:e=x\/H e=some (.own x))(k:∀ b u,b≠e->h.get? b=some u->h'.get? b=some u)(heo:∃ u,h'.get? e=some u)(new:bC P w (aS H x o') h' x o'):lE P w (aS H x o') h':=fun b u q=>by
 have T4:∀ c y,H c=some (.own y)->c≠x:=fun c y r z=>by subst z;rw[r]at mu;exact mu
 have Uh:∀ c xs,H c=some (.tup xs)->c≠x:=fun c xs r z=>by subst z;rw[r]at mu;exact mu
 by_cases hb:b=x
 ·subst hb;rw[aB]at q;cases q;exact new
 ·rw[aq hb]at q
  by_cases hbe:b=e
  ·have q':H b=some (.own x):=by
    rcases he with z|z
    ·exact absurd (hbe.trans z) hb
    ·rw[hbe];exact z
   rw[q]at q';cases q';obtain⟨v,hv⟩:=heo;exact⟨v,by rw[hbe];exact hv⟩
  ·refine (ok b u q).stay (fun c v hc r=>k c v ?_ r) (fun c r=>by rw[aq (T4 c b r)];exact r) fun c xs r=>by rw[aq (Uh c xs r)];exact r
   rcases hc with rfl|hc
   ·exact hbe
   ·rintro rfl
    rcases he with z|z
    ·exact T4 c b hc z
    ·rw[hc]at z;cases z;exact hb rfl
end
structure Un(fs ex:List ML)(H H':Hp)(h h':M5):Prop where
 keep:∀ b o,h.get? b=some o->H b=none->b∉fs->b∉ex->h'.get? b=some o
 slot:∀ b o,h.get? b=some o->H b=none->b∈fs->b∉ex->∃ sl,h'.get? b=some { o with slots:=sl }
 free:∀ b o,h.get? b=some o->H b=none->b∉ex->H' b=none
 there:∀ b o,h.get? b=some o->b∉ex->∃ o',h'.get? b=some o'
 tups:∀ b xs,H b=some (.tup xs)->H' b=some (.tup xs)
 frzs:∀ b o u,H b=some (.frz o u)->H' b=some (.frz o u)
 tbls:∀ b ps,H b=some (.tbl ps)->∃ more,H' b=some (.tbl (ps ++ more))
section
variable{fs fs' ex ex':List ML}{H H1 H2:Hp}{h h1 h2 h':M5}{a x e:ML}{o:HO}
theorem Un.any(u:Un fs ex H H1 h h1)(q:h.get? b=some ob)(n:H b=none)(hx:b∉ex):∃ sl,h1.get? b=some { ob with slots:=sl }:=by
 by_cases hb:b∈fs
 ·exact u.slot b ob q n hb hx
 ·exact⟨ob.slots,u.keep b ob q n hb hx⟩
theorem Un.kept(k:∀ b u,h.get? b=some u->h'.get? b=some u):Un fs ex H H h h':=
 ⟨fun b ob q _ _ _=>k b ob q,fun b ob q _ _ _=>⟨ob.slots,k b ob q⟩,fun _ _ _ n _=>n,fun b ob q _=>⟨ob,k b ob q⟩,fun _ _ q=>q,fun _ _ _ q=>q,fun _ ps q=>⟨#[],by rw[q];simp⟩⟩
theorem Un.refl:Un fs ex H H h h:=Un.kept fun _ _ q=>q
theorem Un.laid(k:∀ b u,h.get? b=some u->h'.get? b=some u)(hp:h.objs.size<=a)(hn:H a=none):Un fs ex H (aS H a o) h h' where
 keep:=fun b u q _ _ _=>k b u q
 slot:=fun b u q _ _ _=>⟨u.slots,k b u q⟩
 free:=fun b u q n _=>by rw[aq (Na (Nb (MS q) hp))];exact n
 there:=fun b u q _=>⟨u,k b u q⟩
 tups:=fun b xs q=>by rw[aq (bA q hn)];exact q
 frzs:=fun b u xs q=>by rw[aq (bA q hn)];exact q
 tbls:=fun b ps q=>⟨#[],by rw[aq (bA q hn),q];simp⟩
theorem Un.write(mu:C8 (H x))(he:e=x\/H e=some (.own x))(k:∀ b u,b≠e->h.get? b=some u->h'.get? b=some u)(heo:∃ u,h'.get? e=some u):Un fs ex H (aS H x o) h h':=by
 have hx:∀ b,H b=none->b≠x:=fun b n z=>by subst z;rw[n]at mu;exact mu
 have hb:∀ b,H b=none->b≠e:=fun b n z=>by
  subst z;rcases he with r|r
  ·exact hx b n r
  ·rw[n]at r;cases r
 have hm:∀ b u,H b=some u->¬ C8 (some u)->b≠x:=fun b u q nm z=>by subst z;rw[q]at mu;exact nm mu
 refine⟨fun b u q n _ _=>k b u (hb b n) q,fun b u q n _ _=>⟨u.slots,k b u (hb b n) q⟩,fun b u q n _=>by rw[aq (hx b n)];exact n,fun b u q _=>?_,
  fun b xs q=>by rw[aq (hm b _ q fun z=>z)];exact q,fun b u xs q=>by rw[aq (hm b _ q fun z=>z)];exact q,fun b ps q=>⟨#[],by rw[aq (hm b _ q fun z=>z),q];simp⟩⟩
 by_cases hbe:b=e
 ·subst hbe;exact heo
 ·exact⟨u,k b u hbe q⟩
end
def Ld(h:M5)(H:Hp):List ML:=(List.range h.objs.size).filter fun a=>(H a).isSome
def xb(h:M5)(H:Hp):M5:=PySem.W.hideAll h (Ld h H)
theorem CJ(h:M5)(H:Hp):(xb h H).objs.size=h.objs.size:=PySem.W.hideAll_size _ _
theorem EJ(e:h.get? b=some o)(n:H b=none):(xb h H).get? b=some o:=
 PySem.W.hideAll_get _ e fun hm=>by
  have q:(H b).isSome=true:=(mem_filter.mp hm).2;rw[n]at q;simp at q
theorem Ge(e:(xb h H).get? b=some o):h.get? b=some o/\H b=none:=by
 have e':h.get? b=some o:=PySem.W.of_hideAll (Ld h H) e;refine⟨e',?_⟩;cases q:H b with
 | none=>rfl
 | some x=>
  have hm:b∈Ld h H:=mem_filter.mpr ⟨mem_range.mpr (MS e'),by simp[q]⟩
  have z:(xb h H).get? b=none:=PySem.W.hideAll_none (Ld h H) hm;rw[z]at e;cases e
def GW(g h:M5)(L:ML):List (ML×Obj):=(List.range h.objs.size).filterMap fun a=>if a=L\/(g.get? a).isSome=true then none else (h.get? a).map fun o=>(a,o)
def c7(g h:M5)(L d:ML):List (ML×Obj):=(GW g h L).filter fun p=>decide (p.1≠d)
structure Mod(K:Ps)(mg:Str->Option MI)(base:M5):Prop where
 kin:K.In base
 glob:base.Ns M0 mg
 blt:∃ mb,base.Ns Su mb/\∀ x:Str,x≠"__name__"->mb x=N3 x
 nolimit:base.NoLimit
set_option genInjectivity false in
structure Cx where
 prog:MY
 w:M7
 K:Ps
 mg:Str->Option MI
 base:M5
 A:M3
 N:List Str
 s₀:MK
 H₀:Hp
 env:Env
 outer:List Env
 stack:List Env
 ex:List ML
 fn:Str->Bool
 calm:Bool
 pn:List (ML×Obj)
 xe:MI->MK->Prop
def xf(l:List Env):List ML:=l.filterMap (·.frame)
abbrev Cx.fs(X:Cx):List ML:=xf X.outer
def JB(sc:O9)(x:Str):Prop:=sc.names.lookup x=some .local\/sc.names.lookup x=some .cell\/sc.names.lookup x=some .free
def JF(sc:O9)(x:Str):Prop:=sc.names.lookup x=some .local\/sc.names.lookup x=some .cell
def Md(env:Env)(h:M5)(m:Str->Option MI)(x:Str)(u:MI):Prop:=
 (env.kindOf x=some .local/\m x=some u)\/((env.kindOf x=some .cell\/env.kindOf x=some .free)/\∃ c,env.cells.lookup x=some c/\h.IsCell c (some u))
structure Cx.Ok(X:Cx):Prop where
 mod:Mod X.K X.mg X.base
 kind:X.env.scope.kind=.function
 glob:X.env.globals=M0
 blt:X.env.builtins=Su
 above:X.s₀.heap.objs.size<=X.env.locals
 inj:∀ x y c,X.env.cells.lookup x=some c->X.env.cells.lookup y=some c->x=y
 has:∀ x,(X.env.kindOf x=some .cell\/X.env.kindOf x=some .free)->∃ c,X.env.cells.lookup x=some c
 cab:∀ x c,X.fn x=true->X.env.cells.lookup x=some c->X.s₀.heap.objs.size<=c
 hd:X.calm=true->X.A.handled=none
 frames:X.A.frames=some X.stack
 stk:X.stack=X.outer\/(X.stack=X.env::X.outer/\X.env.frame=some X.env.locals)
 exf:∀ b∈X.ex,b≠X.env.locals/\∀ x c,X.env.cells.lookup x=some c->c≠b
 bs:∀ b o,X.base.get? b=some o->X.s₀.heap.get? b=some o/\X.H₀ b=none
 bsz:X.base.objs.size<=X.s₀.heap.objs.size
 noex:∀ b o,X.base.get? b=some o->b∉X.ex
 exfs:∀ b∈X.ex,b∉X.fs
 funs:X.s₀.heap.FunFrames X.base X.outer
 frf:∀ b∈X.fs,X.H₀ b=none
structure Inv(X:Cx)(pins:List (ML×Obj))(σ:List (Option V))(H:Hp)(s:MK):Prop where
 ok:X.Ok
 os:s.os=X.s₀.os
 bare:PM s.gens
 base:Un X.fs X.ex X.H₀ H X.s₀.heap s.heap
 loc:∃ m,s.heap.Ns X.env.locals m/\∀ (i:Nat) (x:Str) (v:V),X.N[i]?=some x->σ[i]?=some (some v)->JB X.env.scope x->∃ u,aD v u/\Md X.env s.heap m x u
 cell:∀ x c,X.env.cells.lookup x=some c->∃ v,s.heap.IsCell c v
 free:H X.env.locals=none
 freeC:∀ x c,X.env.cells.lookup x=some c->H c=none
 pin:∀ p∈X.pn ++ pins,s.heap.get? p.1=some p.2/\H p.1=none/\p.1≠X.env.locals/\p.1∉X.fs/\∀ v,p.2.data≠.cell v
 hok:lE X.prog X.w H s.heap
 len:σ.length=X.N.length
section
variable{X:Cx}{pins:List (ML×Obj)}{σ:List (Option V)}{H H':Hp}{s:MK}{h':M5}
theorem Cx.Ok.nofr(ok:X.Ok)(e:X.base.get? b=some o):b∉X.fs:=fun hb=>by
 have:=(ok.funs.mem hb).1;rw[e]at this;cases this
theorem Inv.bs(I:Inv X pins σ H s):∀ b o,X.base.get? b=some o->s.heap.get? b=some o/\H b=none:=fun b o e=>
 ⟨I.base.keep b o (I.ok.bs b o e).1 (I.ok.bs b o e).2 (I.ok.nofr e) (I.ok.noex b o e),I.base.free b o (I.ok.bs b o e).1 (I.ok.bs b o e).2 (I.ok.noex b o e)⟩
theorem Inv.bk(I:Inv X pins σ H s):∀ b o,X.base.get? b=some o->s.heap.get? b=some o:=fun b o e=>(I.bs b o e).1
theorem Inv.mod(I:Inv X pins σ H s):Mod X.K X.mg X.base:=I.ok.mod
theorem Inv.kIn(I:Inv X pins σ H s):X.K.In s.heap:=I.ok.mod.kin.keeps I.bk
theorem Inv.lt(I:Inv X pins σ H s):X.env.locals < s.heap.objs.size:=let ⟨_,hn,_⟩:=I.loc;hn.lt
theorem Inv.sz(I:Inv X pins σ H s):X.s₀.heap.objs.size<=s.heap.objs.size:=le_trans I.ok.above (le_of_lt I.lt)
theorem Inv.nofs(I:Inv X pins σ H s)(h:s.heap.objs.size<=a):a∉X.fs:=fun hb=>by
 obtain⟨_,o,ho,_⟩:=I.ok.funs.mem hb;exact absurd (Nb (MS ho) (le_trans I.sz h)) (Nat.lt_irrefl _)
theorem Inv.cne(I:Inv X pins σ H s):∀ x c,X.env.cells.lookup x=some c->c≠X.env.locals:=fun x c e z=>by
 obtain⟨v,o,ho,hd⟩:=I.cell x c e;obtain⟨m,⟨o',es,ep,ho',hd',_⟩,_⟩:=I.loc;rw[z,ho']at ho;cases ho;rw[hd']at hd;cases hd
theorem Inv.funs(I:Inv X pins σ H s):s.heap.FunFrames X.base X.outer:=by
 have all:∀ (l:List Env),(∀ b∈xf l,b∈X.fs)->X.s₀.heap.FunFrames X.base l->s.heap.FunFrames X.base l:=by
  intro l
  induction l with
  | nil=>intro _ _;trivial
  | cons env r ih=>
   intro hs hl;obtain⟨hk,⟨L,o,hf,hn,ho,hd⟩,hr⟩:=hl;have hL:L∈X.fs:=hs L (by unfold xf;rw[NO,hf];exact MZ)
   obtain⟨sl,e⟩:=I.base.slot L o ho (I.ok.frf L hL) hL fun z=>I.ok.exfs L z hL;exact⟨hk,⟨L,_,hf,hn,e,hd⟩,ih (fun b hb=>hs b (by unfold xf;rw[NO,hf];exact MW _ hb)) hr⟩
 exact all X.outer (fun _ hb=>hb) I.ok.funs
theorem Inv.stack(I:Inv X pins σ H s):s.heap.FunFrames X.base X.stack:=by
 rcases I.ok.stk with e|⟨e,hf⟩
 ·rw[e];exact I.funs
 ·rw[e];obtain⟨m,hn,_⟩:=I.loc;refine .cons (by rw[I.ok.kind];decide) hf hn ?_ I.funs
  exact Heap.get?_none_of_le (le_trans I.ok.bsz I.ok.above)
theorem Inv.stkSub(I:Inv X pins σ H s):∀ b∈xf X.stack,b∈X.env.locals::X.fs:=fun b hb=>by
 rcases I.ok.stk with e|⟨e,hf⟩
 ·rw[e]at hb;exact MW _ hb
 ·rw[e]at hb;unfold xf at hb;rw[NO,hf]at hb;exact hb
theorem Inv.stkFree(I:Inv X pins σ H s):∀ b∈xf X.stack,H b=none:=fun b hb=>by
 rcases Nr.mp (I.stkSub b hb)with e|hb
 ·rw[e];exact I.free
 ·obtain⟨_,o,ho,_⟩:=I.ok.funs.mem hb;exact I.base.free b o ho (I.ok.frf b hb) fun z=>I.ok.exfs b z hb
theorem Inv.step{g':Array GenState}{t':Nat}{d':Drawn}{ch:List ML}(I:Inv X pins σ H s)
  (hch:∀ b∈ch,(b∈X.ex\/X.s₀.heap.objs.size<=b)/\b≠X.env.locals/\(∀ x c,X.env.cells.lookup x=some c->c≠b)/\∀ p∈X.pn ++ pins,p.1≠b)
  (keep:∀ b o,b≠X.env.locals->b∉X.fs->b∉ch->s.heap.get? b=some o->H b=none->h'.get? b=some o)
  (slot:∀ b o,b≠X.env.locals->b∈X.fs->b∉ch->s.heap.get? b=some o->H b=none->∃ sl,h'.get? b=some { o with slots:=sl }) (free:∀ b o,b∉ch->s.heap.get? b=some o->H b=none->H' b=none)
  (there:∀ b o,b∉ch->s.heap.get? b=some o->∃ o',h'.get? b=some o')
  (tups:∀ b xs,H b=some (.tup xs)->H' b=some (.tup xs)) (frzs:∀ b o u,H b=some (.frz o u)->H' b=some (.frz o u)) (tbls:∀ b ps,H b=some (.tbl ps)->∃ more,H' b=some (.tbl (ps ++ more)))
  (ns:∀ m,s.heap.Ns X.env.locals m->h'.Ns X.env.locals m) (hok:lE X.prog X.w H' h') (hg:PM g'):
  Inv X pins σ H' { s with heap:=h',gens:=g',drawn:=d',toks:=t' }:=by
 have neL:∀ b o,X.s₀.heap.get? b=some o->b≠X.env.locals:=fun b o e=>Na (Nb (MS e) I.ok.above);have neC:∀ b o,X.s₀.heap.get? b=some o->b∉X.ex->b∉ch:=fun b o e hx hb=>by
  rcases (hch b hb).1 with z|z
  ·exact hx z
  ·exact absurd (Nb (MS e) z) (Nat.lt_irrefl _)
 have cellK:∀ x c,X.env.cells.lookup x=some c->∀ v,s.heap.IsCell c v->h'.IsCell c v:=fun x c e v zz=>by
  obtain⟨o,ho,hd⟩:=zz;have nch:c∉ch:=fun z=>(hch c z).2.2.1 x c e rfl
  by_cases hc:c∈X.fs
  ·obtain⟨sl,q⟩:=slot c o (I.cne x c e) hc nch ho (I.freeC x c e);exact⟨_,q,hd⟩
  ·exact⟨o,keep c o (I.cne x c e) hc nch ho (I.freeC x c e),hd⟩
 refine⟨I.ok,I.os,hg,⟨fun b o e n hb hx=>?_,fun b o e n hb hx=>?_,fun b o e n hx=>?_,fun b o e hx=>?_,fun b xs e=>tups b xs (I.base.tups b xs e),fun b o xs e=>frzs b o xs (I.base.frzs b o xs e),fun b ps e=>?_⟩,?_,fun x c e=>?_,?_,fun x c e=>?_,fun p hp=>?_,hok,I.len⟩
 ·exact keep b o (neL b o e) hb (neC b o e hx) (I.base.keep b o e n hb hx) (I.base.free b o e n hx)
 ·obtain⟨sl,e1⟩:=I.base.slot b o e n hb hx;obtain⟨sl',e2⟩:=slot b _ (neL b o e) hb (neC b o e hx) e1 (I.base.free b o e n hx);exact⟨sl',e2⟩
 ·obtain⟨o',e1⟩:=I.base.there b o e hx;exact free b o' (neC b o e hx) e1 (I.base.free b o e n hx)
 ·obtain⟨o',e1⟩:=I.base.there b o e hx;exact there b o' (neC b o e hx) e1
 ·obtain⟨m1,e1⟩:=I.base.tbls b ps e;obtain⟨m2,e2⟩:=tbls b _ e1;exact⟨m1 ++ m2,by rw[e2,Array.append_assoc]⟩
 ·obtain⟨m,hn,hl⟩:=I.loc;refine⟨m,ns m hn,fun i x v e1 e2 e3=>?_⟩;obtain⟨u,r,l⟩:=hl i x v e1 e2 e3;refine⟨u,r,?_⟩;rcases l with l|⟨k,c,e,z⟩
  ·exact .inl l
  ·exact .inr ⟨k,c,e,cellK x c e _ z⟩
 ·obtain⟨v,z⟩:=I.cell x c e;exact⟨v,cellK x c e v z⟩
 ·obtain⟨m,⟨o,_,_,ho,_⟩,_⟩:=I.loc;exact free _ o (fun z=>(hch _ z).2.1 rfl) ho I.free
 ·obtain⟨v,o,ho,hd⟩:=I.cell x c e;exact free c o (fun z=>(hch c z).2.2.1 x c e rfl) ho (I.freeC x c e)
 ·obtain⟨e,n,ne,nf,d⟩:=I.pin p hp;have nch:p.1∉ch:=fun z=>(hch p.1 z).2.2.2 p hp rfl;exact⟨keep p.1 p.2 ne nf nch e n,free p.1 p.2 nch e n,ne,nf,d⟩
theorem Inv.un(I:Inv X pins σ H s)(u:Un X.fs [] H H' s.heap h')(hok:lE X.prog X.w H' h'):Inv X pins σ H' { s with heap:=h',toks:=t' }:=by
 obtain⟨m,⟨o,es,ep,ho,r⟩,_⟩:=id I.loc;obtain⟨sl,hL⟩:=u.any ho I.free (by simp)
 exact I.step (g':=s.gens) (d':=s.drawn) (ch:=[]) (fun _ z=>nomatch z) (fun b o _ hb _ e n=>u.keep b o e n hb (by simp)) (fun b o _ hb _ e n=>u.slot b o e n hb (by simp)) (fun b o _ e n=>u.free b o e n (by simp)) (fun b o _ e=>u.there b o e (by simp)) u.tups u.frzs u.tbls (fun m' hm=>by
  obtain⟨o',es',ep',ho',r'⟩:=hm;rw[ho]at ho';cases ho';exact⟨_,es',ep',hL,r'⟩) hok I.bare
theorem Inv.call(I:Inv X pins σ H s)(u:Un (xf X.stack) ch H H' s.heap h')(hok:lE X.prog X.w H' h')(hg:PM g')(hch:∀ b∈ch,(b∈X.ex\/X.s₀.heap.objs.size<=b)/\b≠X.env.locals/\(∀ x c,X.env.cells.lookup x=some c->c≠b)/\∀ p∈X.pn ++ pins,p.1≠b):
  Inv X pins σ H' { s with heap:=h',gens:=g',drawn:=d',toks:=t' }:=by
 obtain⟨m,⟨o,es,ep,ho,r⟩,_⟩:=id I.loc;obtain⟨sl,hL⟩:=u.any ho I.free fun z=>(hch _ z).2.1 rfl;exact I.step (ch:=ch) hch (fun b o hL hb hc e n=>u.keep b o e n (fun z=>(Nr.mp (I.stkSub b z)).elim hL hb) hc) (fun b o _ _ hc e n=>u.any e n hc) (fun b o hc e n=>u.free b o e n hc) (fun b o hc e=>u.there b o e hc) u.tups u.frzs u.tbls (fun m' hm=>by
  obtain⟨o',es',ep',ho',r'⟩:=hm;rw[ho]at ho';cases ho';exact⟨_,es',ep',hL,r'⟩) hok hg
theorem Inv.turned(I:Inv X pins σ H s)(k:∀ b o,b≠it->s.heap.get? b=some o->h'.get? b=some o)(hn:H it=none)(hL:it≠X.env.locals)(h1:it∈X.ex\/X.s₀.heap.objs.size<=it)(h2:∀ x c,X.env.cells.lookup x=some c->c≠it)(h3:∀ p∈X.pn ++ pins,p.1≠it):Inv X pins σ H { s with heap:=h',toks:=t' }:=by
 have nit:∀ b u,H b=some u->b≠it:=fun b u e z=>by rw[z,hn]at e;cases e
 refine I.step (g':=s.gens) (d':=s.drawn) (ch:=[it]) (fun b hb=>?_) (fun b o _ _ hc e _=>k b o (fun z=>hc (by simp[z])) e) (fun b o _ _ hc e _=>⟨o.slots,k b o (fun z=>hc (by simp[z])) e⟩) (fun _ _ _ _ n=>n)
  (fun b o hc e=>⟨o,k b o (fun z=>hc (by simp[z])) e⟩) (fun _ _ e=>e) (fun _ _ _ e=>e) (fun b ps e=>⟨#[],by rw[e];simp⟩) (fun m hm=>?_) (fun b u e=>?_) I.bare
 ·have e:b=it:=by simpa using hb
  subst e;exact⟨h1,hL,h2,h3⟩
 ·obtain⟨o,es,ep,ho,r⟩:=hm;exact⟨o,es,ep,k _ o (Ne.symm hL) ho,r⟩
 ·refine (I.hok b u e).stay (fun c v hc q=>k c v ?_ q) (fun _ q=>q) fun _ _ q=>q;rcases hc with z|z
  ·rw[z];exact nit b u e
  ·exact nit c _ z
theorem Inv.tok(I:Inv X pins σ H s)(t:Nat):Inv X pins σ H { s with toks:=t }:=I.un (h':=s.heap) (t':=t) Un.refl I.hok
theorem Inv.kept(I:Inv X pins σ H s)(k:∀ b u,s.heap.get? b=some u->h'.get? b=some u):Inv X pins σ H { s with heap:=h',toks:=t' }:=I.un (Un.kept k) (I.hok.kept k)
theorem Inv.laid(I:Inv X pins σ H s)(k:∀ b u,s.heap.get? b=some u->h'.get? b=some u)(hp:s.heap.objs.size<=a)(new:bC X.prog X.w (aS H a o) h' a o):
  Inv X pins σ (aS H a o) { s with heap:=h',toks:=t' }:=I.un (Un.laid k hp (I.hok.fresh hp)) (I.hok.laid k hp new)
theorem Inv.write(I:Inv X pins σ H s)(mu:C8 (H x))(he:e=x\/H e=some (.own x))(k:∀ b u,b≠e->s.heap.get? b=some u->h'.get? b=some u)(heo:∃ u,h'.get? e=some u)(new:bC X.prog X.w (aS H x o) h' x o):Inv X pins σ (aS H x o) { s with heap:=h',toks:=t' }:=I.un (Un.write mu he k heo) (I.hok.write mu he k heo new)
theorem Inv.pins_of(I:Inv X pins σ H s)(h:∀ p∈SS,s.heap.get? p.1=some p.2/\H p.1=none/\p.1≠X.env.locals/\p.1∉X.fs/\∀ v,p.2.data≠.cell v):Inv X SS σ H s:=
 ⟨I.ok,I.os,I.bare,I.base,I.loc,I.cell,I.free,I.freeC,fun p hp=>(Sm.mp hp).elim (fun z=>I.pin p (List.mem_append_left _ z)) (h p),I.hok,I.len⟩
theorem sJ{N:List Str}(hN:N.Nodup){i j:Nat}{x:Str}(a:N[i]?=some x)(b:N[j]?=some x):i=j:=by
 obtain⟨h1,e1⟩:=List.getElem?_eq_some_iff.mp a;obtain⟨h2,e2⟩:=List.getElem?_eq_some_iff.mp b;exact (List.getElem_inj hN).mp (e1.trans e2.symm)
theorem u7(I:Inv X pins σ H s)(hN:X.N.Nodup)(hi:X.N[i]?=some x)(hx:JF X.env.scope x)(r:aD v u)(h:∀ s',Inv X pins (σ.set i (some v)) H s'->(∃ a,Oe a s.heap s'.heap/\(a=X.env.locals\/X.env.cells.lookup x=some a))->Q () s')(hf:X.fn x=true\/X.env.scope.names.lookup x=some .local:=by first|exact .inl rfl|exact .inr rfl|assumption):MP M A (storeName X.env x u) Q E s:=by
 obtain⟨m,hn,hl⟩:=id I.loc;have T0:(X.env.scope.kind == .class || (X.env.scope.kind == .module && X.env.locals != X.env.globals))=false:=by rw[I.ok.kind];rfl
 have hiσ:i < σ.length:=by rw[I.len];exact (List.getElem?_eq_some_iff.mp hi).1
 have cne:=I.cne;have tracked:∀ {a:ML} {h':M5},(∃ o,s.heap.get? a=some o/\H a=none)->Oe a s.heap h'->lE X.prog X.w H h':=fun {a h'} ha hs b ob e=>by
  obtain⟨_,_,SZ⟩:=ha;refine (I.hok b ob e).stay (fun c w' hc q=>(hs.2 c ?_).trans q) (fun _ q=>q) fun _ _ q=>q
  rintro rfl
  rcases hc with rfl|hc
  ·rw[SZ]at e;cases e
  ·rw[SZ]at hc;cases hc
 rcases hx with hk|hk
 ·refine wpAny_storeName_local hk hn (fun h' hn' hs=>?_) T0;obtain⟨oL,_,_,hoL,_⟩:=id hn;refine h _ ⟨I.ok,I.os,I.bare,⟨fun b o e n hb hx=>?_,fun b o e n hb hx=>?_,I.base.free,fun b o e hx=>?_,I.base.tups,I.base.frzs,I.base.tbls⟩,⟨_,hn',fun j y v' e1 e2 e3=>?_⟩,fun y c e=>?_,I.free,I.freeC,fun p hp=>?_,tracked ⟨oL,hoL,I.free⟩ hs,by simpa using I.len⟩ ⟨_,hs,.inl rfl⟩
  ·exact (hs.2 b (Na (Nb (MS e) I.ok.above))).trans (I.base.keep b o e n hb hx)
  ·obtain⟨sl,e1⟩:=I.base.slot b o e n hb hx;exact⟨sl,(hs.2 b (Na (Nb (MS e) I.ok.above))).trans e1⟩
  ·obtain⟨o',e1⟩:=I.base.there b o e hx;exact⟨o',(hs.2 b (Na (Nb (MS e) I.ok.above))).trans e1⟩
  ·by_cases hj:j=i
   ·subst hj;rw[hi]at e1;cases e1;rw[N_ hiσ]at e2;cases e2;exact⟨u,r,.inl ⟨hk,by simp⟩⟩
   ·rw[Oq (Ne.symm hj)]at e2;obtain⟨u',r',q⟩:=hl j y v' e1 e2 e3;refine⟨u',r',?_⟩;rcases q with ⟨k,e⟩|⟨k,c,e,z⟩
    ·refine .inl ⟨k,?_⟩;have:y≠x:=fun e=>hj (sJ hN e1 (e ▸ hi));simp[this,e]
    ·exact .inr ⟨k,c,e,z.sameBut hs (cne y c e)⟩
  ·obtain⟨w',z⟩:=I.cell y c e;exact⟨w',z.sameBut hs (cne y c e)⟩
  ·obtain⟨e,n,ne,nf,d⟩:=I.pin p hp;exact⟨(hs.2 p.1 ne).trans e,n,ne,nf,d⟩
 ·have hfn:X.fn x=true:=by
   rcases hf with z|z
   ·exact z
   ·rw[z]at hk;cases hk
  obtain⟨c,hc⟩:=I.ok.has x (.inl hk);obtain⟨w',z⟩:=I.cell x c hc;refine wpAny_storeName_cell I.ok.kind hk hc z (fun h' hc' hs=>?_);obtain⟨oc,hoc,hocd⟩:=id z;refine h { s with heap:=h' } ⟨I.ok,I.os,I.bare,⟨fun b o e n hb hx=>?_,fun b o e n hb hx=>?_,I.base.free,fun b o e hx=>?_,I.base.tups,I.base.frzs,I.base.tbls⟩,⟨m,hn.sameBut hs (Ne.symm (cne x c hc)),fun j y v' e1 e2 e3=>?_⟩,fun y c' e=>?_,I.free,I.freeC,fun p hp=>?_,tracked ⟨oc,hoc,I.freeC x c hc⟩ hs,by simpa using I.len⟩ ⟨c,hs,.inr hc⟩
  ·exact (hs.2 b (Na (Nb (MS e) (I.ok.cab x c hfn hc)))).trans (I.base.keep b o e n hb hx)
  ·obtain⟨sl,e1⟩:=I.base.slot b o e n hb hx;exact⟨sl,(hs.2 b (Na (Nb (MS e) (I.ok.cab x c hfn hc)))).trans e1⟩
  ·obtain⟨o',e1⟩:=I.base.there b o e hx;exact⟨o',(hs.2 b (Na (Nb (MS e) (I.ok.cab x c hfn hc)))).trans e1⟩
  ·by_cases hj:j=i
   ·subst hj;rw[hi]at e1;cases e1;rw[N_ hiσ]at e2;cases e2;exact⟨u,r,.inr ⟨.inl hk,c,hc,hc'⟩⟩
   ·rw[Oq (Ne.symm hj)]at e2;obtain⟨u',r',q⟩:=hl j y v' e1 e2 e3;refine⟨u',r',?_⟩;rcases q with q|⟨k,c',e,z'⟩
    ·exact .inl q
    ·refine .inr ⟨k,c',e,z'.sameBut hs ?_⟩
     rintro rfl
     exact hj (sJ hN e1 (I.ok.inj _ _ _ e hc ▸ hi))
  ·by_cases hcc:c'=c
   ·subst hcc;exact⟨_,hc'⟩
   ·obtain⟨w2,z2⟩:=I.cell y c' e;exact⟨w2,z2.sameBut hs hcc⟩
  ·obtain⟨e,n,ne,nf,d⟩:=I.pin p hp;refine⟨(hs.2 p.1 ?_).trans e,n,ne,nf,d⟩;intro q;rw[q,hoc]at e;have q':oc=p.2:=Option.some.inj e;exact d w' (by rw[<- q'];exact hocd)
theorem m8(I:Inv X pins σ H s)(hN:X.N.Nodup)(hi:X.N[i]?=some x)(hx:JF X.env.scope x)(r:aD v u)(h:∀ s',Inv X pins (σ.set i (some v)) H s'->Q () s')(hf:X.fn x=true\/X.env.scope.names.lookup x=some .local:=by first|exact .inl rfl|exact .inr rfl|assumption):MP M A (storeName X.env x u) Q E s:=
 u7 I hN hi hx r (fun s' I' _=>h s' I') hf
theorem Inv.call'(I:Inv X pins σ H s)(ho:s'.os=s.os)(u:Un (xf X.stack) ch H H' s.heap s'.heap)(hok:lE X.prog X.w H' s'.heap)(hg:PM s'.gens)(hch:∀ b∈ch,(b∈X.ex\/X.s₀.heap.objs.size<=b)/\b≠X.env.locals/\(∀ x c,X.env.cells.lookup x=some c->c≠b)/\∀ p∈X.pn ++ pins,p.1≠b):Inv X pins σ H' s':=by
 obtain⟨h',g',d',t',o'⟩:=s';have e:o'=s.os:=ho;subst e;exact I.call (g':=g') (t':=t') (d':=d') u hok hg hch
end
abbrev XK:=MI->Option ML->Hp->Prop
abbrev St:=List (Option V)
abbrev VK:=V->Hp->Prop
abbrev TE:=St->Hp->VK->Prop
abbrev TT:=St->Hp->(Bool->Hp->Prop)->Prop
abbrev TA:=St->Hp->(List V->Hp->Prop)->Prop
set_option genInjectivity false in
structure Ends where
 nx:St->Hp->Prop
 rt:VK
 bk:St->Hp->Prop:=fun _ _=>False
 ct:St->Hp->Prop:=fun _ _=>False
abbrev TS:=Ends->St->Hp->Prop
def EP(X:Cx)(pins:List (ML×Obj))(σ:St)(Q:VK)(u:MI)(s':MK):Prop:=∃ v H',Inv X pins σ H' s'/\aD v u/\Q v H'
def TP(X:Cx)(pins:List (ML×Obj))(σ:St)(Q:Bool->Hp->Prop)(b:Bool)(s':MK):Prop:=∃ H',Inv X pins σ H' s'/\Q b H'
def AP(X:Cx)(pins:List (ML×Obj))(σ:St)(Q:List V->Hp->Prop)(us:List MI)(s':MK):Prop:=∃ vs H',Inv X pins σ H' s'/\Vals vs us/\Q vs H'
def SP(X:Cx)(pins:List (ML×Obj))(D:Ends)(f:Flow)(s':MK):Prop:=
 match f with
 | .next=>∃ σ' H',Inv X pins σ' H' s'/\D.nx σ' H'
 | .brk=>∃ σ' H',Inv X pins σ' H' s'/\D.bk σ' H'
 | .cont=>∃ σ' H',Inv X pins σ' H' s'/\D.ct σ' H'
 | .ret u=>∃ v σ' H',Inv X pins σ' H' s'/\aD v u/\D.rt v H'
def PE(X:Cx)(e:M9)(t:TE):Prop:=
 ∀ (pins:List (ML×Obj)) (s:MK) (σ:St) (H:Hp) (Q:VK),Inv X pins σ H s->t σ H Q->MP (MR X.prog X.w) X.A (eval e X.env) (EP X pins σ Q) X.xe s
def PT(X:Cx)(e:M9)(t:TT):Prop:=
 ∀ (pins:List (ML×Obj)) (s:MK) (σ:St) (H:Hp) (Q:Bool->Hp->Prop),Inv X pins σ H s->t σ H Q->MP (MR X.prog X.w) X.A (RF e X.env (eval e X.env)) (TP X pins σ Q) X.xe s
def PW(X:Cx)(e:M9)(t:TT):Prop:=
 ∀ (whole:Sem MI) (pins:List (ML×Obj)) (s:MK) (σ:St) (H:Hp) (Q:Bool->Hp->Prop),Inv X pins σ H s->t σ H Q->MP (MR X.prog X.w) X.A (RF e X.env whole) (TP X pins σ Q) X.xe s
theorem PW.pt(h:PW X e t):PT X e t:=h _
def PA(X:Cx)(es:List M9)(t:TA):Prop:=
 ∀ (pos:Pos) (pins:List (ML×Obj)) (s:MK) (σ:St) (H:Hp) (Q:List V->Hp->Prop),Inv X pins σ H s->t σ H Q->MP (MR X.prog X.w) X.A (spliced (NS pos (MU es X.env))) (AP X pins σ Q) X.xe s
def PS(X:Cx)(st:Ng)(t:TS):Prop:=
 ∀ (pins:List (ML×Obj)) (s:MK) (σ:St) (H:Hp) (D:Ends),Inv X pins σ H s->t D σ H->MP (MR X.prog X.w) X.A (exec st X.env) (SP X pins D) X.xe s
def je(X:Cx)(st:List Ng)(t:TS):Prop:=
 ∀ (pins:List (ML×Obj)) (s:MK) (σ:St) (H:Hp) (D:Ends),Inv X pins σ H s->t D σ H->MP (MR X.prog X.w) X.A (execs st X.env) (SP X pins D) X.xe s
theorem bZ{α:Type}{t:Sem α}{Q Q':α->MK->Prop}{M:R4}{A:M3}{E:MI->MK->Prop}{s:MK}(h:MP M A t Q E s)(hQ:∀ a s,Q a s->Q' a s):MP M A t Q' E s:=Nh h hQ fun _ _ x=>x
section
variable{X:Cx}
def Lq(i:Nat):TE:=fun σ H Q=>∃ v,σ[i]?=some (some v)/\Q v H
def tC(v:V):TE:=fun _ H Q=>Q v H
theorem wG{i:Nat}{x:Str}{pos:Pos}(hN:X.N[i]?=some x)(hv:JB X.env.scope x)(hd:(x == ("__debug__":Str))=false:=by decide)(hcd:(x == ("__classdict__":Str))=false:=by decide):PE X (.Name x pos) (Lq i):=by
 intro pins s σ H Q I h;obtain⟨v,e,h⟩:=h;obtain⟨m,hn,hl⟩:=I.loc;obtain⟨u,r,l⟩:=hl i x v hN e hv;have fin:EP X pins σ Q u s:=⟨v,H,I,r,h⟩;rcases l with ⟨hk,hm⟩|⟨hk,c,hc,S1⟩
 ·exact Sg (wpAny_loadName_local I.ok.kind hk hn hm fin) hd
 ·rcases hk with hk|hk
  ·exact Sg (wpAny_loadName_cell I.ok.kind hk hc S1 fin) hd
  ·exact Sg (wpAny_loadName_free I.ok.kind hk hc S1 fin hcd) hd
theorem Ix{i j pos}:PE X (.Constant (.int i) j pos) (tC (.int i)):=fun _ _ _ H _ I h=>wpAny_Constant_int ⟨.int i,H,I.tok _,⟨_,rfl⟩,h⟩
theorem Ke{b j pos}:PE X (.Constant (.bool b) j pos) (tC (.bl b)):=fun _ _ _ H _ I h=>Constant_bool ⟨.bl b,H,I,rfl,h⟩
theorem Iv{j pos}:PE X (.Constant .none j pos) (tC .non):=fun _ _ _ H _ I h=>Constant_none ⟨.non,H,I,rfl,h⟩
theorem Iq{x j pos}:PE X (.Constant (.str x) j pos) (tC (.str x)):=fun _ _ _ H _ I h=>Calls.Constant_str ⟨.str x,H,I.tok _,⟨_,rfl⟩,h⟩
def Gl(X:Cx)(x:Str):Prop:=X.env.kindOf x=some .globalImplicit
theorem jr{E:MI->MK->Prop}{pins:List (ML×Obj)}{s:MK}{σ:St}{H:Hp}{x:Str}{u:MI}{pos:Pos}{Q:MI->MK->Prop}(I:Inv X pins σ H s)(hg:Gl X x)(hm:X.mg x=some u)(h:Q u s)
  (hd:(x == ("__debug__":Str))=false:=by decide):MP (MR X.prog X.w) X.A (eval (.Name x pos) X.env) Q E s:=
 Re I.ok.kind hg (Calls.loadGlobal_global (by rw[I.ok.glob];exact I.mod.glob.keeps I.bk) hm h) hd
theorem g_{E:MI->MK->Prop}{pins:List (ML×Obj)}{s:MK}{σ:St}{H:Hp}{x:Str}{u:MI}{pos:Pos}{Q:MI->MK->Prop}(I:Inv X pins σ H s)(hg:Gl X x)(hm:X.mg x=none)(hv:N3 x=some u)(h:Q u s)
  (hn:x≠"__name__":=by decide) (hd:(x == ("__debug__":Str))=false:=by decide):MP (MR X.prog X.w) X.A (eval (.Name x pos) X.env) Q E s:=by
 obtain⟨mb,h1,h2⟩:=I.mod.blt;exact Re I.ok.kind hg (Calls.loadGlobal_builtin (by rw[I.ok.glob];exact I.mod.glob.keeps I.bk) hm (by rw[I.ok.blt];exact h1.keeps I.bk) ((h2 x hn).trans hv) h) hd
theorem Bz(hg:Gl X x)(hm:X.mg x=some u)(r:aD v u)(hd:(x == ("__debug__":Str))=false:=by decide):PE X (.Name x pos) (tC v):=
 fun _ _ _ H _ I h=>jr I hg hm ⟨v,H,I,r,h⟩ hd
theorem F3{x:Str}{v:V}{u:MI}{pos:Pos}(hg:Gl X x)(hm:X.mg x=none)(hv:N3 x=some u)(r:aD v u)(hn:x≠"__name__":=by decide)(hd:(x == ("__debug__":Str))=false:=by decide):PE X (.Name x pos) (tC v):=
 fun _ _ _ H _ I h=>g_ I hg hm hv ⟨v,H,I,r,h⟩ hn hd
variable{a b:M9}{ta tb:TE}{pos:Pos}
def PC(X:Cx)(op:Qu)(a b:M9)(t:TE):Prop:=
 ∀ (pins:List (ML×Obj)) (s:MK) (σ:St) (H:Hp) (Q:VK),Inv X pins σ H s->t σ H Q->
  MP (MR X.prog X.w) X.A (eval a X.env) (fun v s₁=>MP (MR X.prog X.w) X.A (eval b X.env) (fun u s₂=>MP (MR X.prog X.w) X.A (Nv op v u) (EP X pins σ Q) X.xe s₂) X.xe s₁) X.xe s
def tB(t:TE):TT:=fun σ H Q=>t σ H fun x H1=>∃ c,x=.bl c/\Q c H1
theorem Iy(h:PC X op a b t)(h1:Oh op b=false:=by first|exact nobehind _ (by decide) (by decide)|rfl):PE X (.Compare a [op] [b] pos) t:=fun pins s σ H Q I hw=>wpAny_Compare1 (h pins s σ H Q I hw) h1
theorem DY(h:PC X op a b t)(h1:Oh op b=false:=by first|exact nobehind _ (by decide) (by decide)|rfl):PT X (.Compare a [op] [b] pos) (tB t):=by
 intro pins s σ H Q I hw;refine RT (bZ (h pins s σ H _ I hw) fun v s1 h1=>bZ h1 fun u s2 h2=>bZ h2 fun c s3 zz=>?_) h1;obtain⟨x,H1,I1,r1,q1⟩:=zz;obtain⟨d,rfl,q⟩:=q1;cases r1;exact N7 ⟨H1,I1,q⟩
variable{tA tB':TT}{c7:List M9}
def LB(t u:TT):TT:=fun σ H Q=>t σ H fun c H1=>if c=true then u σ H1 Q else Q false H1
def Mo(t u:TT):TT:=fun σ H Q=>t σ H fun c H1=>if c=true then Q true H1 else u σ H1 Q
def Lv(t:TT):TT:=fun σ H Q=>t σ H fun c H1=>Q (!c) H1
theorem FO(ha:PT X a tA):PW X (.BoolOp .And [a] pos) tA:=by
 intro wh pins s σ H Q I h;refine isTrue_and (bZ (ha pins s σ H Q I h) fun c s1 e=>?_);cases c with
 | true=>exact isTrue_and_nil e
 | false=>exact e
theorem Ih(ha:PT X a tA):PW X (.BoolOp .Or [a] pos) tA:=by
 intro wh pins s σ H Q I h;refine isTrue_or (bZ (ha pins s σ H Q I h) fun c s1 e=>?_);cases c with
 | false=>exact isTrue_or_nil e
 | true=>exact e
theorem Ii(ha:PT X a tA)(hb:PW X (.BoolOp .And (b::c7) pos) tB'):PW X (.BoolOp .And (a::b::c7) pos) (LB tA tB'):=by
 intro wh pins s σ H Q I h;refine isTrue_and (bZ (ha pins s σ H _ I h) fun c s1 zz=>?_);obtain⟨H1,I1,q1⟩:=zz;cases c with
 | true=>exact hb wh pins s1 σ H1 Q I1 q1
 | false=>exact⟨H1,I1,q1⟩
theorem J7(ha:PT X a tA)(hb:PW X (.BoolOp .Or (b::c7) pos) tB'):PW X (.BoolOp .Or (a::b::c7) pos) (Mo tA tB'):=by
 intro wh pins s σ H Q I h;refine isTrue_or (bZ (ha pins s σ H _ I h) fun c s1 zz=>?_);obtain⟨H1,I1,q1⟩:=zz;cases c with
 | true=>exact⟨H1,I1,q1⟩
 | false=>exact hb wh pins s1 σ H1 Q I1 q1
theorem Ik(ha:PT X a tA):PT X (.UnaryOp .Not a pos) (Lv tA):=by
 intro pins s σ H Q I h;exact isTrue_not (ha pins s σ H (fun c H1=>Q (!c) H1) I h)
def JV(ta tb:TE):TE:=fun σ H Q=>ta σ H fun x H1=>∃ c,x=.bl c/\if c=true then tb σ H1 Q else Q (.bl false) H1
def JQ(ta:TE):TE:=fun σ H Q=>ta σ H fun x H1=>∃ c,x=.bl c/\Q (.bl (!c)) H1
theorem Ir{op}(h:PE X a t):PE X (.BoolOp op [a] pos) t:=fun pins s σ H Q I hw=>BoolOp_one (h pins s σ H Q I hw)
theorem Iz(ha:PE X a ta)(hb:PE X (.BoolOp .And (b::c7) pos) tb):PE X (.BoolOp .And (a::b::c7) pos) (JV ta tb):=by
 intro pins s σ H Q I h;refine BoolOp_and (bZ (ha pins s σ H _ I h) fun v s1 zz=>?_);obtain⟨x,H1,I1,r1,q1⟩:=zz;obtain⟨c,rfl,q1⟩:=q1;cases r1;refine N7 ?_;cases c with
 | true=>exact hb pins s1 σ H1 Q I1 q1
 | false=>exact⟨.bl false,H1,I1,rfl,q1⟩
theorem Iu(ha:PE X a ta):PE X (.UnaryOp .Not a pos) (JQ ta):=by
 intro pins s σ H Q I h;refine UnaryOp_ (bZ (ha pins s σ H _ I h) fun v s1 zz=>?_);obtain⟨x,H1,I1,r1,q1⟩:=zz;obtain⟨c,rfl,q1⟩:=q1;cases r1;exact not_of (N7 ⟨.bl (!c),H1,I1,rfl,q1⟩)
end
def jP(K:Ps)(H:Hp)(a:ML)(xs:List V):Prop:=
 Rd H a (.lst xs)\/
  ∃ (o:Obj) (its:Array MI) (n:Nat),K.lookup a=some o/\o.cls=.type "list"/\o.dict=none/\o.data=.seq its n/\its.size<=MT/\Vals xs its.toList
def jO(K:Ps)(H:Hp)(a:ML)(xs:List V):Prop:=
 Rd H a (.tup xs)\/
  ∃ (o:Obj) (its:Array MI) (n:Nat),K.lookup a=some o/\(o.cls=.type "tuple"/\o.dict=none)/\o.data=.seq its n/\its.size<=MT/\Vals xs its.toList
def Mb:MI->Option V
 | .none=>some .non
 | .bool b=>some (.bl b)
 | .int i _=>some (.int i)
 | .str x _=>some (.str x)
 | .bytes b _=>some (.byt b)
 | .float b _=>some (.flt b)
 | .ref a=>some (.ref a)
 | .type n=>some (.ty n)
 | _=>none
theorem aD.abs(r:aD x u):Mb u=some x:=by
 cases x with
 | non=>cases r;rfl
 | bl _=>cases r;rfl
 | int _=>obtain⟨t,rfl⟩:=r;rfl
 | str _=>obtain⟨t,rfl⟩:=r;rfl
 | byt _=>obtain⟨t,rfl⟩:=r;rfl
 | flt _=>obtain⟨t,rfl⟩:=r;rfl
 | ref _=>cases r;rfl
 | ty _=>cases r;rfl
theorem aD.inj(r:aD x u)(q:aD y u):x=y:=Option.some.inj (r.abs.symm.trans q.abs)
theorem Vals.inj:∀ {xs ys:List V} {us:List MI},Vals xs us->Vals ys us->xs=ys
 | _,_,_,.nil,.nil=>rfl
 | _,_,_,.cons r t,.cons r' t'=>by rw[r.inj r',Vals.inj t t']
section
variable{X:Cx}{pins:List (ML×Obj)}{σ:St}{H:Hp}{s:MK}{a:ML}{xs ys:List V}
theorem jP.of{K:Ps}(h:H a=some (.lst xs)):jP K H a xs:=.inl (.inl h)
theorem jO.of{K:Ps}(h:H a=some (.tup xs)):jO K H a xs:=.inl (.inl h)
theorem Inv.list(I:Inv X pins σ H s)(h:jP X.K H a xs):∃ its:List MI,Vals xs its/\PlainL s.heap a its.toArray/\xs.length<=MT:=by
 rcases h with h|⟨o,its,n,hk,hc,hd,hs,hz,r⟩
 ·obtain⟨z,its,n,r,e⟩:=h.ok I.hok;exact⟨its,r,⟨_,n,e,rfl,rfl,rfl⟩,z⟩
 ·refine⟨its.toList,r,⟨o,n,I.kIn a o hk,hc,hd,by simpa using hs⟩,?_⟩
  have e:=r.length;simp only[Array.length_toList]at e;omega
theorem Inv.tuple(I:Inv X pins σ H s)(h:jO X.K H a xs):∃ its:List MI,Vals xs its/\IsTup s.heap a its.toArray/\xs.length<=MT:=by
 rcases h with h|⟨o,its,n,hk,hc,hs,hz,r⟩
 ·obtain⟨z,its,r,p⟩:=h.ok I.hok;exact⟨its,r,p.tup,z⟩
 ·refine⟨its.toList,r,⟨o,I.kIn a o hk,hc.1,n,by simpa using hs⟩,?_⟩
  have e:=r.length;simp only[Array.length_toList]at e;omega
theorem Inv.list_inj(I:Inv X pins σ H s)(h:jP X.K H a xs)(h':jP X.K H a ys):xs=ys:=by
 obtain⟨its,r,⟨o,n,e,_,_,d⟩,_⟩:=I.list h;obtain⟨its',r',⟨o',n',e',_,_,d'⟩,_⟩:=I.list h';rw[e]at e';cases e';rw[d]at d';injection d' with d1 _
 have:its=its':=by simpa using congrArg Array.toList d1
 subst this;exact r.inj r'
theorem Inv.tuple_inj(I:Inv X pins σ H s)(h:jO X.K H a xs)(h':jO X.K H a ys):xs=ys:=by
 obtain⟨its,r,⟨o,e,_,n,d⟩,_⟩:=I.tuple h;obtain⟨its',r',⟨o',e',_,n',d'⟩,_⟩:=I.tuple h';rw[e]at e';cases e';rw[d]at d';injection d' with d1 _
 have:its=its':=by simpa using congrArg Array.toList d1
 subst this;exact r.inj r'
end
abbrev Cx.wish(X:Cx)(E:MI->MK->Prop):Cx:={ X with xe:=E }
abbrev Cx.nox(X:Cx):Cx:=X.wish fun _ _=>False
theorem Cx.Ok.wish{X:Cx}(ok:X.Ok)(E:MI->MK->Prop):(X.wish E).Ok:=
 ⟨ok.mod,ok.kind,ok.glob,ok.blt,ok.above,ok.inj,ok.has,ok.cab,ok.hd,ok.frames,ok.stk,ok.exf,ok.bs,ok.bsz,ok.noex,ok.exfs,ok.funs,ok.frf⟩
theorem Cx.Ok.unwish{X:Cx}{E:MI->MK->Prop}(ok:(X.wish E).Ok):X.Ok:=
 ⟨ok.mod,ok.kind,ok.glob,ok.blt,ok.above,ok.inj,ok.has,ok.cab,ok.hd,ok.frames,ok.stk,ok.exf,ok.bs,ok.bsz,ok.noex,ok.exfs,ok.funs,ok.frf⟩
section
variable{X:Cx}{pins:List (ML×Obj)}{σ:St}{H:Hp}{s:MK}{E:MI->MK->Prop}
theorem Inv.wish(I:Inv X pins σ H s)(E:MI->MK->Prop):Inv (X.wish E) pins σ H s:=⟨I.ok.wish E,I.os,I.bare,I.base,I.loc,I.cell,I.free,I.freeC,I.pin,I.hok,I.len⟩
theorem Inv.unwish(I:Inv (X.wish E) pins σ H s):Inv X pins σ H s:=⟨I.ok.unwish,I.os,I.bare,I.base,I.loc,I.cell,I.free,I.freeC,I.pin,I.hok,I.len⟩
theorem SP.unwish(h:SP (X.wish E) pins D f s'):SP X pins D f s':=by
 cases f with
 | next=>obtain⟨σ',H',I,q⟩:=h;exact⟨σ',H',I.unwish,q⟩
 | brk=>obtain⟨σ',H',I,q⟩:=h;exact⟨σ',H',I.unwish,q⟩
 | cont=>obtain⟨σ',H',I,q⟩:=h;exact⟨σ',H',I.unwish,q⟩
 | ret u=>obtain⟨v,σ',H',I,r,q⟩:=h;exact⟨v,σ',H',I.unwish,r,q⟩
theorem je.nox{st:List Ng}{t:TS}(h:je X.nox st t):je X st t:=fun pins s σ H D I hw=>
 Nh (h pins s σ H D (I.wish _) hw) (fun _ _ q=>q.unwish) fun _ _ z=>False.elim z
end
section
variable{X:Cx}{st:Ng}{c7:List Ng}{t u:TS}{e:M9}{te:TE}{pos:Pos}
def JS:TS:=fun D σ H=>D.nx σ H
def Ls(t u:TS):TS:=fun D σ H=>t { D with nx:=u D } σ H
theorem FS:je X [] JS:=fun _ _ σ H _ I h=>OG ⟨σ,H,I,h⟩
theorem yO(h1:PS X st t)(h2:je X c7 u):je X (st::c7) (Ls t u):=by
 intro pins s σ H D I h;refine QL (bZ (h1 pins s σ H { D with nx:=u D } I h) fun f s1 q=>?_)
 cases f with
 | next=>
  obtain⟨σ',H',I',q⟩:=q;exact h2 pins s1 σ' H' D I' q
 | ret v=>exact q
 | brk=>exact q
 | cont=>exact q
theorem wu(h1:PS X st t):je X [st] t:=by
 intro pins s σ H D I h;refine QL (bZ (h1 pins s σ H D I h) fun f s1 q=>?_);cases f with
 | next=>exact OG q
 | ret v=>exact q
 | brk=>exact q
 | cont=>exact q
theorem Inv.quiet{pins:List (ML×Obj)}{σ:St}{H:Hp}{s:MK}(I:Inv X pins σ H s):interactive X.env=false:=by simp[interactive,I.ok.kind]
def JT(te:TE):TS:=fun D σ H=>te σ H fun _ H1=>D.nx σ H1
theorem Bw(he:PE X e te)(hs:N9 e none pos.line X.env=pure false:=by rfl):PS X (.Expr e pos) (JT te):=by
 intro pins s σ H D I h;exact wpAny_Expr_any (bZ (he pins s σ H _ I h) fun v s1 ⟨x,H1,I1,r1,q1⟩=>⟨σ,H1,I1,q1⟩) I.quiet hs
def Lu(te:TE):TS:=fun D σ H=>te σ H D.rt
theorem Ay(he:PE X e te):PS X (.Return (some e) pos) (Lu te):=by
 intro pins s σ H D I h;exact wpAny_Return_some (bZ (he pins s σ H _ I h) fun v s1 ⟨x,H1,I1,r1,q1⟩=>⟨x,σ,H1,I1,r1,q1⟩)
def Lx(c:TT)(t u:TS):TS:=fun D σ H=>c σ H fun b H1=>if b=true then t D σ H1 else u D σ H1
theorem Hq(hc:PT X c tc)(ha:je X a t)(hb:je X b u):PS X (.If c a b pos) (Lx tc t u):=by
 intro pins s σ H D I h;refine wpAny_If (bZ (hc pins s σ H _ I h) fun d s1 zz=>?_);obtain⟨H1,I1,q1⟩:=zz;cases d with
 | true=>exact ha pins s1 σ H1 D I1 q1
 | false=>exact hb pins s1 σ H1 D I1 q1
def Dw:TS:=fun _ _ _=>False
theorem D8:PS X st Dw:=fun _ _ _ _ _ _ h=>h.elim
theorem Ce:je X sts Dw:=fun _ _ _ _ _ _ h=>h.elim
end
abbrev TG:=V->St->Hp->(St->Hp->Prop)->Prop
abbrev GY:=List V->St->Hp->(St->Hp->Prop)->Prop
def PG(X:Cx)(target:M9)(t:TG):Prop:=
 ∀ (pins:List (ML×Obj)) (s:MK) (σ:St) (H:Hp) (v:V) (u:MI) (Q:St->Hp->Prop),Inv X pins σ H s->aD v u->t v σ H Q->
  MP (MR X.prog X.w) X.A (assign target X.env u) (fun _ s'=>∃ σ' H',Inv X pins σ' H' s'/\Q σ' H') X.xe s
def Fe(X:Cx)(ts:List M9)(t:GY):Prop:=
 ∀ (pins:List (ML×Obj)) (s:MK) (σ:St) (H:Hp) (vs:List V) (us:List MI) (Q:St->Hp->Prop),Inv X pins σ H s->Vals vs us->t vs σ H Q->
  MP (MR X.prog X.w) X.A (assignInOrder ((OF ts X.env).map (·.2)) us) (fun _ s'=>∃ σ' H',Inv X pins σ' H' s'/\Q σ' H') X.xe s
abbrev GX:=V->V->V->Hp->(Hp->Prop)->Prop
def JE(X:Cx)(t:GX):Prop:=
 ∀ (pins:List (ML×Obj)) (s:MK) (σ:St) (H:Hp) (o i v:V) (ov iv u:MI) (Q:Hp->Prop),Inv X pins σ H s->aD o ov->aD i iv->aD v u->t o i v H Q->
  MP (MR X.prog X.w) X.A (SB ov iv u) (fun _ s'=>∃ H',Inv X pins σ H' s'/\Q H') X.xe s
section
variable{X:Cx}{pos:Pos}
def zp(i:Nat):TG:=fun v σ H Q=>Q (σ.set i (some v)) H
theorem FZ(hN:X.N.Nodup)(hi:X.N[i]?=some x)(hx:JF X.env.scope x)(hf:X.fn x=true\/X.env.scope.names.lookup x=some .local:=by first|exact .inl rfl|exact .inr rfl|assumption):PG X (.Name x pos) (zp i):=by
 intro pins s σ H v u Q I r h;exact Sy (m8 I hN hi hx r (fun s' I'=>⟨_,H,I',h⟩) hf)
def LZ:GY:=fun vs σ H Q=>vs=[]/\Q σ H
def Kw(t:TG)(u:GY):GY:=fun vs σ H Q=>∃ v r,vs=v::r/\t v σ H fun σ' H'=>u r σ' H' Q
theorem FY:Fe X [] LZ:=by
 intro pins s σ H vs us Q I r h;obtain⟨e,h⟩:=h;subst e;cases r;exact assignInOrder_nil ⟨σ,H,I,h⟩
theorem Ec(h1:PG X e t)(h2:Fe X es u)(hs:(OF (e::es) X.env).map (·.2)=assign e X.env::(OF es X.env).map (·.2):=by rfl):Fe X (e::es) (Kw t u):=by
 intro pins s σ H vs us Q I r h;obtain⟨v,vr,e1,h⟩:=h;subst e1;cases r with
 | cons r rr=>
  rw[hs];refine assignInOrder_cons (bZ (h1 pins s σ H _ _ _ I r h) fun _ s1 zz=>?_);obtain⟨σ1,H1,I1,q1⟩:=zz;exact h2 pins s1 σ1 H1 _ _ Q I1 rr q1
def LX(K:Ps)(n:Nat)(t:GY):TG:=fun v σ H Q=>∃ a xs,v=.ref a/\jO K H a xs/\xs.length=n/\t xs σ H Q
theorem Im{es:List M9}{k:Nat}{t:GY}{n:Nat}(hc:X.calm=true)(h:Fe X es t)
  (hn:(OF es X.env).length=n:=by rfl) (hst:(OF es X.env).findIdx? (·.1)=none:=by rfl):PG X (.Tuple es k pos) (LX X.K n t):=by
 intro pins s σ H v u Q I r hw;obtain⟨a,xs,e1,hq,hl,hw⟩:=hw;subst e1;cases r;obtain⟨its,rv,ht,hz⟩:=I.tuple hq;refine assign_Tuple_tuple (I.ok.hd hc) ht (by simp[hn,<- hl,rv.length]) hst fun h' hx=>?_
 have I1:Inv X pins σ H { s with heap:=h' }:=I.kept (t':=s.toks) fun b o e=>hx b o (Na (MS e)) e
 exact h pins _ σ H xs _ Q I1 (by simpa using rv) hw
def LY(to ti:TE)(t:GX):TG:=fun v σ H Q=>to σ H fun o H1=>ti σ H1 fun i H2=>t o i v H2 fun H3=>Q σ H3
theorem Io(ho:PE X o to)(hi:PE X i ti)(hs:JE X t)(ha:∀ v,assign (.Subscript o i pos) X.env v=(do
   let ov <- holding [v] (eval o X.env)
   let iv <- holding [v,ov] (eval i X.env)
   Ph pos
   holding [v,ov,iv] (SB ov iv v)
   release [v,ov,iv] []):=by intro _;rfl):PG X (.Subscript o i pos) (LY to ti t):=by
 intro pins s σ H v u Q I r h;rw[ha];refine MH (Nf (bZ (ho pins s σ H _ I h) fun ov s1 zz=>?_));obtain⟨x,H1,I1,r1,q1⟩:=zz;refine MH (Nf (bZ (hi pins s1 σ H1 _ I1 q1) fun iv s2 zz=>?_));obtain⟨y,H2,I2,r2,q2⟩:=zz;refine MH (Pg (MH (Nf (bZ (hs pins s2 σ H2 x y v ov iv u _ I2 r1 r2 r q2) fun _ s3 zz=>?_))));obtain⟨H3,I3,q3⟩:=zz;exact wpAny_release ⟨σ,H3,I3,q3⟩
def HX(te:TE)(g:TG):TS:=fun D σ H=>te σ H fun x H1=>g x σ H1 D.nx
theorem Il(he:PE X e te)(hg:PG X tg g)(hs:swapsWithSole [tg] e pos.line X.env=pure false:=by rfl)(hw:swappedStores [tg] e X.env=pure none:=by rfl)(h1:(OF [tg] X.env).map (·.2)=[assign tg X.env]:=by rfl):PS X (.Assign [tg] e pos) (HX te g):=by
 intro pins s σ H D I h;refine wpAny_Assign_stores (bZ (he pins s σ H _ I h) fun v s1 zz=>?_) hs hw;obtain⟨x,H1,I1,r1,q1⟩:=zz;rw[h1];exact bZ (hg pins s1 σ H1 x v _ I1 r1 q1) fun _ s2 q=>q
theorem D6(hN:X.N.Nodup)(hi:X.N[i]?=some x)(hx:JF X.env.scope x)(he:PE X e te)(hs:N9 e (some (.Name x pos')) pos.line X.env=pure false:=by rfl)(hf:X.fn x=true\/X.env.scope.names.lookup x=some .local:=by first|exact .inl rfl|exact .inr rfl|assumption):
  PS X (.Assign [.Name x pos'] e pos) (HX te (zp i)):=by
 intro pins s σ H D I h;refine wpAny_Assign_Name (bZ (he pins s σ H _ I h) fun v s1 zz=>?_) hs;obtain⟨y,H1,I1,r1,q1⟩:=zz;exact m8 I1 hN hi hx r1 (fun s2 I2=>⟨_,H1,I2,q1⟩) hf
def HS(c:TT)(tb:TS):TS:=fun D σ H=>∃ W:Nat->St->Hp->Prop,(∃ m,W m σ H)/\∀ m σ H,W m σ H->
 c σ H fun b H1=>if b=true then ∃ N:St->Hp->Prop,(∀ σ' H',N σ' H'->∃ m',m' < m/\W m' σ' H')/\tb { D with nx:=N,ct:=N,bk:=D.nx } σ H1 else D.nx σ H1
theorem D5(hp:Qq (MR X.prog X.w) X.A X.env X.xe)(hc:PT X c tc)(hb:je X body tb):PS X (.While c body [] pos) (HS tc tb):=by
 intro pins s σ H D I h;obtain⟨W,⟨m0,w0⟩,turn⟩:=h;refine wpAny_While (codeAny_whileLoop (fun n s'=>∃ σ' H',Inv X pins σ' H' s'/\W n σ' H') ?_ m0 ⟨σ,H,I,w0⟩)
 rintro n s1 ⟨σ1,H1,I1,w1⟩
 refine NQ hp (bZ (hc pins s1 σ1 H1 _ I1 (turn n σ1 H1 w1)) fun b s2 zz=>?_);obtain⟨H2,I2,q2⟩:=zz;cases b with
 | true=>
  obtain⟨N,hN,q2⟩:=q2;rw[if_pos rfl];refine NQ hp (bZ (hb pins s2 σ1 H2 _ I2 q2) fun f s3 q3=>?_);cases f with
  | next=>
   obtain⟨σ3,H3,I3,n3⟩:=q3;obtain⟨m',hm,w3⟩:=hN σ3 H3 n3;exact⟨m',hm,σ3,H3,I3,w3⟩
  | cont=>
   obtain⟨σ3,H3,I3,n3⟩:=q3;obtain⟨m',hm,w3⟩:=hN σ3 H3 n3;exact⟨m',hm,σ3,H3,I3,w3⟩
  | brk=>exact q3
  | ret v=>exact q3
 | false=>
  rw[if_neg Bool.false_ne_true];exact OG ⟨σ1,H2,I2,q2⟩
end
set_option genInjectivity false in
structure It where
 go:Nat->Hp->Prop
 yld:Nat->Hp->V->Hp->Prop
 stop:Nat->Hp->Prop
def k9(X:Cx)(pins:List (ML×Obj))(H:Hp)(b:ML):Prop:=
 H b=none/\b≠X.env.locals/\b∉X.fs/\(b∈X.ex\/X.s₀.heap.objs.size<=b)/\(∀ x c,X.env.cells.lookup x=some c->c≠b)/\∀ p∈X.pn ++ pins,p.1≠b
theorem Inv.fpOk{X:Cx}{pins:List (ML×Obj)}{σ:St}{H H':Hp}{s:MK}{b:ML}(I:Inv X pins σ H s)(hb:s.heap.objs.size<=b)(hn:H' b=none):k9 X pins H' b:=by
 refine⟨hn,ON (Nb I.lt hb),I.nofs hb,.inr (le_trans I.sz hb),fun x c e z=>?_,fun p hp z=>?_⟩
 ·obtain⟨v,q⟩:=I.cell x c e;exact absurd (Nb q.lt (by rw[z];exact hb)) (Nat.lt_irrefl _)
 ·exact absurd (Nb (MS (I.pin p hp).1) (by rw[z];exact hb)) (Nat.lt_irrefl _)
structure Turn(P:MY)(w:M7)(K:Ps)(tg:M9)(J:It)(fp:List ML)(it:ML)(tn:Nat->M5->Prop):Prop where
 mem:it∈fp
 obj:∀ i h,tn i h->∀ b∈fp,∃ o,h.get? b=some o/\∀ v,o.data≠.cell v
 keep:∀ i h h',tn i h->(∀ b∈fp,∀ o,h.get? b=some o->h'.get? b=some o)->tn i h'
 item:∀ (X:Cx),X.prog=P->X.w=w->X.K=K->X.calm=true->∀ (i:Nat) (pins:List (ML×Obj)) (s:MK) (σ:St) (H:Hp) (E:MI->MK->Prop),Inv X pins σ H s->(∀ b∈fp,k9 X pins H b)->tn i s.heap->J.go i H->
  MP (MR P w) X.A (Ob (.ref it)) (fun r s1=>∃ u,r=some u/\
   MP (MR P w) X.A (OZ tg (.ref it) u) (fun _ s2=>∃ x H',Inv X pins σ H' s2/\aD x u/\J.yld i H x H'/\tn (i+1) s2.heap/\∀ b∈fp,H' b=none) E s1) E s
 done:∀ (X:Cx),X.prog=P->X.w=w->X.K=K->X.calm=true->∀ (i:Nat) (pins:List (ML×Obj)) (s:MK) (σ:St) (H:Hp) (E:MI->MK->Prop),Inv X pins σ H s->(∀ b∈fp,k9 X pins H b)->tn i s.heap->J.stop i H->
  MP (MR P w) X.A (Ob (.ref it)) (fun r s1=>r=none/\Inv X pins σ H s1) E s
 self:∀ (A:M3) (i:Nat) (s:MK) (Q:MI->MK->Prop) (E:MI->MK->Prop),tn i s.heap->Q (.ref it) s->MP (MR P w) A (Pw (.ref it)) Q E s
abbrev TI:=St->Hp->(It->Hp->Prop)->Prop
def HF(X:Cx)(pins:List (ML×Obj))(σ:St)(tg:M9)(R:It->Hp->Prop)(itv:MI)(s2:MK):Prop:=
 ∃ (it:ML) (fp:List ML) (tn:Nat->M5->Prop) (J:It) (H':Hp),itv=.ref it/\Inv X pins σ H' s2/\Turn X.prog X.w X.K tg J fp it tn/\tn 0 s2.heap/\(∀ b∈fp,k9 X pins H' b)/\R J H'
def PI(X:Cx)(tg iter:M9)(wi:TI):Prop:=
 ∀ (pins:List (ML×Obj)) (s:MK) (σ:St) (H:Hp) (R:It->Hp->Prop),Inv X pins σ H s->wi σ H R->
  MP (MR X.prog X.w) X.A (eval iter X.env) (fun v s1=>MP (MR X.prog X.w) X.A (Pw v) (HF X pins σ tg R) X.xe s1) X.xe s
theorem zo(ho:s.heap.get? it=some o)(hc:o.cls=.type n)(hd:o.data=.fields vs)(hn:["enumerate","zip","dict_itemiterator","dict_reverseitemiterator","odict_iterator","itertools.zip_longest","itertools.pairwise"].contains n=false)(hQ:Q () s):MP M A (OZ tg (.ref it) u) Q E s:=by
 unfold OZ;cases tg<;>first
  | exact MJ hQ
  | (cases u<;>first
    | exact MJ hQ
    | (refine MH (Sc ho ?_)
       rw[hc,hd];show MP M A (if (["enumerate","zip","dict_itemiterator","dict_reverseitemiterator","odict_iterator","itertools.zip_longest","itertools.pairwise"].contains n && vs[0]? == some (N4 _))=true then _ else _) Q E s
       rw[if_neg (by intro h;rw[hn,Bool.false_and]at h;cases h)]
       exact MJ hQ))
def K_(K:Ps)(a:ML):It:=
 ⟨fun i H=>∃ xs x,jP K H a xs/\xs[i]?=some x,fun i H x H'=>H'=H/\∀ xs,jP K H a xs->xs[i]?=some x,fun i H=>∃ xs,jP K H a xs/\xs.length<=i⟩
def Me(K:Ps)(a:ML):It:=
 ⟨fun i H=>∃ xs x,jO K H a xs/\xs[i]?=some x,fun i H x H'=>H'=H/\∀ xs,jO K H a xs->xs[i]?=some x,fun i H=>∃ xs,jO K H a xs/\xs.length<=i⟩
def K9(lo:Int)(n:Nat):It:=⟨fun i _=>i < n,fun i H x H'=>H'=H/\x=.int (lo+i),fun i _=>n<=i⟩
theorem B2{P:MY}{w:M7}{K:Ps}{tg:M9}(a it:ML):Turn P w K tg (K_ K a) [it] it (fun i h=>h.IsListIter it a i) where
 mem:=by simp
 obj:=fun i h st b hb=>by
  have e:b=it:=by simpa using hb
  subst e;obtain⟨o,e,c,d⟩:=st;exact⟨o,e,fun v z=>by rw[d]at z;cases z⟩
 keep:=fun i h h' st k=>st.at fun o e=>k it (by simp) o e
 item:=by
  intro X hP hw hK hc i pins s σ H E I hf st hg;subst hP hw hK;obtain⟨xs,x,hq,hx⟩:=hg;obtain⟨its,rv,p,hz⟩:=I.list hq;obtain⟨u,hu,ru⟩:=rv.get hx;obtain⟨f0,f1,f2,f3,f4,f5⟩:=hf it (by simp)
  refine Rx st p.isList (x:=u) (by simpa using hu) fun h' st' sb=>?_
  have I1:Inv X pins σ H { s with heap:=h' }:=I.turned (t':=s.toks) (fun b o hb e=>(sb.2 b hb).trans e) f0 f1 f3 f4 f5
  obtain⟨o,e,c,d⟩:=id st';exact⟨u,rfl,zo (s:={ s with heap:=h' }) e c d (by decide) ⟨x,H,I1,ru,⟨rfl,fun ys hy=>by rw[I.list_inj hy hq];exact hx⟩,st',fun b hb=>(hf b hb).1⟩⟩
 done:=by
  intro X hP hw hK hc i pins s σ H E I hf st hg;subst hP hw hK;obtain⟨xs,hq,hx⟩:=hg;obtain⟨its,rv,p,hz⟩:=I.list hq;obtain⟨f0,f1,f2,f3,f4,f5⟩:=hf it (by simp)
  have hl:=rv.length;exact RP (I.ok.hd hc) st p.isList (by simp;omega) fun h' eb=>⟨rfl,I.turned (t':=s.toks) (fun b o hb e=>eb b o hb e) f0 f1 f3 f4 f5⟩
 self:=fun _ _ _ _ _ st h=>wpAny_pyIter_listiter st h
theorem Ac{P:MY}{w:M7}{K:Ps}{tg:M9}(a it:ML):Turn P w K tg (Me K a) [it] it (fun i h=>h.IsTupleIter it a i) where
 mem:=by simp
 obj:=fun i h st b hb=>by
  have e:b=it:=by simpa using hb
  subst e;obtain⟨o,e,c,d⟩:=st;exact⟨o,e,fun v z=>by rw[d]at z;cases z⟩
 keep:=fun i h h' st k=>st.at fun o e=>k it (by simp) o e
 item:=by
  intro X hP hw hK hc i pins s σ H E I hf st hg;subst hP hw hK;obtain⟨xs,x,hq,hx⟩:=hg;obtain⟨its,rv,p,hz⟩:=I.tuple hq;obtain⟨u,hu,ru⟩:=rv.get hx;obtain⟨f0,f1,f2,f3,f4,f5⟩:=hf it (by simp)
  refine wpAny_pyNext_tuple_item st (show s.heap.IsTuple a its.toArray from p) (x:=u) (by simpa using hu) fun h' st' sb=>?_
  have I1:Inv X pins σ H { s with heap:=h' }:=I.turned (t':=s.toks) (fun b o hb e=>(sb.2 b hb).trans e) f0 f1 f3 f4 f5
  obtain⟨o,e,c,d⟩:=id st';exact⟨u,rfl,zo (s:={ s with heap:=h' }) e c d (by decide) ⟨x,H,I1,ru,⟨rfl,fun ys hy=>by rw[I.tuple_inj hy hq];exact hx⟩,st',fun b hb=>(hf b hb).1⟩⟩
 done:=by
  intro X hP hw hK hc i pins s σ H E I hf st hg;subst hP hw hK;obtain⟨xs,hq,hx⟩:=hg;obtain⟨its,rv,p,hz⟩:=I.tuple hq;obtain⟨f0,f1,f2,f3,f4,f5⟩:=hf it (by simp)
  have hl:=rv.length;exact wpAny_pyNext_tuple_end (I.ok.hd hc) st (show s.heap.IsTuple a its.toArray from p) (by simp;omega) fun h' eb=>⟨rfl,I.turned (t':=s.toks) (fun b o hb e=>eb b o hb e) f0 f1 f3 f4 f5⟩
 self:=fun _ _ _ _ _ st h=>wpAny_pyIter_tupleiter st h
theorem Ad{P:MY}{w:M7}{K:Ps}{tg:M9}(it:ML)(lo:Int)(n:Nat):Turn P w K tg (K9 lo n) [it] it (fun i h=>IsRangeIter h it (lo+(i:Nat)*1) ((n:Int) - (i:Nat)) 1) where
 mem:=by simp
 obj:=fun i h st b hb=>by
  have e:b=it:=by simpa using hb
  subst e;exact⟨_,st,fun v z=>by
   have z':Data.fields _=Data.cell v:=z;cases z'⟩
 keep:=fun i h h' st k=>k it (by simp) _ st
 item:=by
  intro X hP hw hK hc i pins s σ H E I hf st hg;subst hP hw hK;obtain⟨f0,f1,f2,f3,f4,f5⟩:=hf it (by simp)
  have W:=Walks.range (prog:=X.prog) (w:=X.w) (I.ok.hd hc) it lo 1 n;refine W.item i s _ _ hg st fun v h' tk hv st' kk=>?_;obtain⟨t,rfl⟩:=hv;have I1:Inv X pins σ H { s with heap:=h',toks:=tk }:=I.turned (fun b o hb e=>kk b o (by simpa using hb) e) f0 f1 f3 f4 f5
  refine⟨_,rfl,zo (s:={ s with heap:=h',toks:=tk }) (n:="range_iterator") st' rfl rfl (by decide) ⟨.int (lo+i),H,I1,⟨t,?_⟩,⟨rfl,rfl⟩,st',fun b hb=>(hf b hb).1⟩⟩
  rw[Int.mul_one]
 done:=by
  intro X hP hw hK hc i pins s σ H E I hf st hg;subst hP hw hK;obtain⟨f0,f1,f2,f3,f4,f5⟩:=hf it (by simp)
  exact wpAny_pyNext_range_end (I.ok.hd hc) st (by have:n<=i:=hg;omega) fun h' eb=>⟨rfl,I.turned (t':=s.toks) (fun b o hb e=>eb b o hb e) f0 f1 f3 f4 f5⟩
 self:=fun _ _ _ _ _ st h=>wpAny_pyIter_rangeiter st h
section
variable{X:Cx}{tg:M9}
theorem yI{pins:List (ML×Obj)}{σ:St}{H:Hp}{s:MK}{R:It->Hp->Prop}{E:MI->MK->Prop}{lo hi:Int}{t u v:Tok}{tk:Nat}(I:Inv X pins σ H s)(h1:-(2 ^ 62)<=lo)(h2:lo < 2 ^ 62)(h3:-(2 ^ 62)<=hi)(h4:hi < 2 ^ 62)
  (q:R (K9 lo (hi - lo).toNat) H):MP (MR X.prog X.w) X.A (Pw (.ref s.heap.objs.size)) (HF X pins σ tg R) E { s with heap:=s.heap.push { cls:=.type "range",data:=.fields #[.int lo t,.int hi u,.int 1 v] },toks:=tk }:=by
 refine wpAny_pyIter_range (IsRange.new ..) (small_one h1 h2 h3 h4) ?_;have I1:Inv X pins σ H { s with heap:=s.heap.push { cls:=.type "range",data:=.fields #[.int lo t,.int hi u,.int 1 v] },toks:=tk }:=I.kept fun b o e=>MM _ e
 refine⟨(s.heap.push { cls:=.type "range",data:=.fields #[.int lo t,.int hi u,.int 1 v] }).objs.size,[(s.heap.push { cls:=.type "range",data:=.fields #[.int lo t,.int hi u,.int 1 v] }).objs.size],_,_,H,rfl,
  I1.kept (t':=tk) fun b o e=>MM _ e,Ad _ lo (hi - lo).toNat,?_,fun b hb=>?_,q⟩
 ·have e1:lo+((0:Nat):Int)*1=lo:=by simp
  have e2:(((hi - lo).toNat:Nat):Int) - ((0:Nat):Int)=Builtin.Range.rangeSize lo hi 1:=by rw[rangeSize_one];split<;>omega
  show IsRangeIter _ _ (lo+((0:Nat):Int)*1) ((((hi - lo).toNat:Nat):Int) - ((0:Nat):Int)) 1
  rw[e1,e2];exact MQ _ rfl
 ·have e:b=(s.heap.push { cls:=.type "range",data:=.fields #[.int lo t,.int hi u,.int 1 v] }).objs.size:=by simpa using hb
  subst e;exact I1.fpOk (le_refl _) (I1.hok.fresh (le_refl _))
def Kv(ta:TA):TI:=fun σ H R=>ta σ H fun vs H1=>∃ j:Int,vs=[.int j]/\-(2 ^ 62)<=j/\j < 2 ^ 62/\R (K9 0 j.toNat) H1
def Ku(ta:TA):TI:=fun σ H R=>ta σ H fun vs H1=>∃ i j:Int,vs=[.int i,.int j]/\(-(2 ^ 62)<=i/\i < 2 ^ 62/\-(2 ^ 62)<=j/\j < 2 ^ 62)/\R (K9 i (j - i).toNat) H1
theorem Ch(hg:Gl X "range")(hm:X.mg "range"=none)(ha:PA X [a] ta)(hs:MU [a] X.env=[(false,eval a X.env)]:=by rfl):PI X tg (.Call (.Name "range" p) [a] [] pos) (Kv ta):=by
 intro pins s σ H R I h;refine SK (g_ I hg hm boot_range (PyProof.Rows.callWith_type1 (bZ (ha pos pins s σ H _ I h) fun us s1 ⟨vs,H1,I1,r1,q1⟩=>?_) hs rfl));obtain⟨j,e,q1,q2,q⟩:=q1;subst e;cases r1 with
 | cons r rr=>
  cases rr;obtain⟨t,rfl⟩:=r;exact call_range_1 (yI I1 (by walk_at "o") (by walk_at "o") q1 q2 (by simpa using q))
theorem Cg{a b:M9}{ta:TA}{p pos:Pos}(hg:Gl X "range")(hm:X.mg "range"=none)(ha:PA X [a,b] ta)(hs:MU [a,b] X.env=[(false,eval a X.env),(false,eval b X.env)]:=by rfl)(hs2:MU [b] X.env=[(false,eval b X.env)]:=by rfl):
  PI X tg (.Call (.Name "range" p) [a,b] [] pos) (Ku ta):=by
 intro pins s σ H R I h;refine SK (g_ I hg hm boot_range (PyProof.Rows.callWith_type1 (bZ (ha pos pins s σ H _ I h) fun us s1 ⟨vs,H1,I1,r1,q1⟩=>?_) (by rw[hs,hs2]) (by rw[hs2];rfl)))
 obtain⟨i,j,e,⟨q1,q2,q3,q4⟩,q⟩:=q1;subst e;cases r1 with
 | cons r rr=>
  cases rr with
  | cons r' rr=>
   cases rr;obtain⟨t,rfl⟩:=r;obtain⟨t',rfl⟩:=r';exact call_range_2 (yI I1 q1 q2 q3 q4 q)
def Ly(wi:TI)(g:TG)(tb:TS):TS:=fun D σ H=>wi σ H fun J H1=>∃ W:Nat->Nat->St->Hp->Prop,(∃ m,W 0 m σ H1)/\∀ i m σ H,W i m σ H->
 (J.stop i H/\D.nx σ H)\/(J.go i H/\∃ N:St->Hp->Prop,(∀ σ' H',N σ' H'->∃ m',m' < m/\W (i+1) m' σ' H')/\∀ x H',J.yld i H x H'->g x σ H' fun σ2 H2=>tb { D with nx:=N,ct:=N,bk:=D.nx } σ2 H2)
def pD(fp:List ML)(h:M5):List (ML×Obj):=fp.filterMap fun b=>(h.get? b).map fun o=>(b,o)
theorem gZ(hb:b∈fp)(e:h.get? b=some o):(b,o)∈pD fp h:=List.mem_filterMap.mpr ⟨b,hb,by rw[e];rfl⟩
theorem Cp(hp:p∈pD fp h):p.1∈fp/\h.get? p.1=some p.2:=by
 obtain⟨b,hb,e⟩:=List.mem_filterMap.mp hp;cases q:h.get? b with
 | none=>rw[q]at e;cases e
 | some o=>
  rw[q]at e;have e':(b,o)=p:=Option.some.inj e;subst e';exact⟨hb,q⟩
theorem Inv.pinned{pins:List (ML×Obj)}{σ:St}{H:Hp}{s:MK}{fp:List ML}(I:Inv X pins σ H s)(hf:∀ b∈fp,k9 X pins H b)(ho:∀ b∈fp,∃ o,s.heap.get? b=some o/\∀ v,o.data≠.cell v):Inv X (pins ++ pD fp s.heap) σ H s:=
 I.pins_of fun p hp=>(Sm.mp hp).elim (fun z=>I.pin p (NA _ z)) fun z=>by
  obtain⟨hb,e⟩:=Cp z;obtain⟨f0,f1,f2,_⟩:=hf p.1 hb;obtain⟨o,e',d⟩:=ho p.1 hb;rw[e]at e';cases e';exact⟨e,f0,f1,f2,d⟩
theorem Inv.unpinned{pins pl:List (ML×Obj)}{σ:St}{H:Hp}{s:MK}(I:Inv X (pins ++ pl) σ H s):Inv X pins σ H s:=I.pins_of fun p hp=>I.pin p (NA _ (List.mem_append_left _ hp))
theorem D9(hp:Qq (MR X.prog X.w) X.A X.env X.xe)(hc:X.calm=true)(hi:PI X tg iter wi)(hg:PG X tg g)(hb:je X body tb)(hs:∀ x,NW iter X.env x=pure x:=by intro _;rfl):PS X (.For tg iter body [] pos) (Ly wi g tb):=by
 intro pins s σ H D I h;refine wpAny_For (bZ (hi pins s σ H _ I h) fun v s1 h1=>bZ h1 fun itv s2 h2=>?_) hs;obtain⟨it,fp,tn,J,H2,e,I2,T,st2,f2,W,⟨m0,w0⟩,turn⟩:=h2;subst e;have TQ:∀ {H':Hp},(∀ b∈fp,H' b=none)->∀ b∈fp,k9 X pins H' b:=fun hn b hb=>⟨hn b hb,(f2 b hb).2⟩;refine R8 (fun n s'=>∃ i σ' H',Inv X pins σ' H' s'/\tn i s'.heap/\(∀ b∈fp,H' b=none)/\W i n σ' H') ?_ m0 ⟨0,σ,H2,I2,st2,fun b hb=>(f2 b hb).1,w0⟩
 rintro n s3 ⟨i,σ3,H3,I3,st3,fr3,w3⟩
 rcases turn i n σ3 H3 w3 with ⟨stop,qn⟩|⟨go,N,hN,step⟩
 ·refine NQ hp (bZ (T.done X rfl rfl rfl hc i pins s3 σ3 H3 X.xe I3 (TQ fr3) st3 stop) fun r s4 zz=>?_);obtain⟨hr,I4⟩:=zz;subst hr;exact OG ⟨σ3,H3,I4,qn⟩
 ·refine NQ hp (bZ (T.item X rfl rfl rfl hc i pins s3 σ3 H3 X.xe I3 (TQ fr3) st3 go) fun r s4 zz=>?_);obtain⟨u,hr,h4⟩:=zz;subst hr;refine NQ hp (bZ h4 fun _ s5 zz=>?_);obtain⟨x,H5,I5,r5,y5,st5,fr5⟩:=zz;have I5':=I5.pinned (TQ fr5) (T.obj _ _ st5);refine NQ hp (bZ (hg _ s5 σ3 H5 x u _ I5' r5 (step x H5 y5)) fun _ s6 zz=>?_);obtain⟨σ6,H6,I6,q6⟩:=zz;refine NQ hp (bZ (hb _ s6 σ6 H6 _ I6 q6) fun f s7 q7=>?_);have again:∀ {σ7:St} {H7:Hp},Inv X (pins ++ pD fp s5.heap) σ7 H7 s7->N σ7 H7->∃ m,m < n/\∃ i σ' H',Inv X pins σ' H' s7/\tn i s7.heap/\(∀ b∈fp,H' b=none)/\W i m σ' H':=fun {σ7 H7} I7 n7=>by
   obtain⟨m',hm,w7⟩:=hN σ7 H7 n7;refine⟨m',hm,i+1,σ7,H7,I7.unpinned,T.keep _ _ _ st5 fun b hb o e=>(I7.pin (b,o) (NA _ (NA _ (gZ hb e)))).1,fun b hb=>?_,w7⟩;obtain⟨o,e,d⟩:=T.obj _ _ st5 b hb;exact (I7.pin (b,o) (NA _ (NA _ (gZ hb e)))).2.1
  cases f with
  | next=>obtain⟨σ7,H7,I7,n7⟩:=q7;exact again I7 n7
  | cont=>obtain⟨σ7,H7,I7,n7⟩:=q7;exact again I7 n7
  | brk=>obtain⟨σ7,H7,I7,q7⟩:=q7;exact⟨σ7,H7,I7.unpinned,q7⟩
  | ret v=>obtain⟨x7,σ7,H7,I7,r7,q7⟩:=q7;exact⟨x7,σ7,H7,I7.unpinned,r7,q7⟩
end
abbrev R2:=V->V->Hp->VK->Prop
def gL(X:Cx)(f:MI->MI->Sem MI)(r:R2):Prop:=
 ∀ (pins:List (ML×Obj)) (s:MK) (σ:St) (H:Hp) (x y:V) (v u:MI) (Q:VK),Inv X pins σ H s->aD x v->aD y u->r x y H Q->
  MP (MR X.prog X.w) X.A (f v u) (EP X pins σ Q) X.xe s
def eF(X:Cx)(f:MI)(r:List V->Hp->VK->Prop):Prop:=
 ∀ (pins:List (ML×Obj)) (s:MK) (σ:St) (H:Hp) (xs:List V) (us:List MI) (Q:VK),Inv X pins σ H s->Vals xs us->r xs H Q->
  MP (MR X.prog X.w) X.A (call f us) (EP X pins σ Q) X.xe s
def Mc(X:Cx)(r:V->Hp->(Bool->Hp->Prop)->Prop):Prop:=
 ∀ (pins:List (ML×Obj)) (s:MK) (σ:St) (H:Hp) (x:V) (v:MI) (Q:Bool->Hp->Prop),Inv X pins σ H s->aD x v->r x H Q->
  MP (MR X.prog X.w) X.A (truthy v) (TP X pins σ Q) X.xe s
def JO(r:R2)(ta tb:TE):TE:=fun σ H Q=>ta σ H fun x H1=>tb σ H1 fun y H2=>r x y H2 Q
def rI(C:Int->Int->Prop)(g:Int->Int->V):R2:=fun x y H Q=>∃ i j,x=.int i/\y=.int j/\C i j/\Q (g i j) H
def Hm(g:Int->Int->V):R2:=fun x y H Q=>∃ i j,x=.int i/\y=.int j/\Q (g i j) H
section
variable{X:Cx}{a b c:M9}{ta tb tc:TE}{pos:Pos}
theorem KI(ha:PE X a ta)(hb:PE X b tb){pins:List (ML×Obj)}{s:MK}{σ:St}{H:Hp}{R:V->V->Hp->Prop}(I:Inv X pins σ H s)
  (h:ta σ H fun x H1=>tb σ H1 fun y H2=>R x y H2) {Q:MI->MK->Prop} {f:MI->MI->Sem MI}
  (hf:∀ v u s2 x y H2,Inv X pins σ H2 s2->aD x v->aD y u->R x y H2->MP (MR X.prog X.w) X.A (f v u) Q X.xe s2):
  MP (MR X.prog X.w) X.A (eval a X.env) (fun v s₁=>MP (MR X.prog X.w) X.A (eval b X.env) (fun u s₂=>MP (MR X.prog X.w) X.A (f v u) Q X.xe s₂) X.xe s₁) X.xe s:=by
 refine bZ (ha pins s σ H _ I h) fun v s1 zz=>?_;obtain⟨x,H1,I1,r1,q1⟩:=zz;refine bZ (hb pins s1 σ H1 _ I1 q1) fun u s2 zz=>?_;obtain⟨y,H2,I2,r2,q2⟩:=zz;exact hf v u s2 x y H2 I2 r1 r2 q2
theorem Ka(ho:gL X (N6 op) r)(ha:PE X a ta)(hb:PE X b tb):PE X (.BinOp a op b pos) (JO r ta tb):=by
 intro pins s σ H Q I h;exact wpAny_BinOp (KI ha hb I h fun v u s2 x y H2 I2 rx ry q=>ho pins s2 σ H2 x y v u Q I2 rx ry q)
theorem Le{f:MI->MI->Sem MI}{C:Int->Int->Prop}{g:Int->Int->Int}(rule:∀ (i j:Int) (t u:Tok) (s:MK) (Q:MI->MK->Prop) (E:MI->MK->Prop),C i j->Q (.int (g i j) s.toks) { s with toks:=s.toks+1 }->MP (MR X.prog X.w) X.A (f (.int i t) (.int j u)) Q E s):
  gL X f (rI C fun i j=>.int (g i j)):=by
 intro pins s σ H x y v u Q I rx ry h;obtain⟨i,j,rfl,rfl,hc,q⟩:=h;obtain⟨t,rfl⟩:=rx;obtain⟨t',rfl⟩:=ry;exact rule i j t t' s _ _ hc ⟨.int (g i j),H,I.tok _,⟨_,rfl⟩,q⟩
theorem Km{f:MI->MI->Sem MI}{g:Int->Int->Int}(rule:∀ (i j:Int) (t u:Tok) (s:MK) (Q:MI->MK->Prop) (E:MI->MK->Prop),Q (.int (g i j) s.toks) { s with toks:=s.toks+1 }->MP (MR X.prog X.w) X.A (f (.int i t) (.int j u)) Q E s):
  gL X f (Hm fun i j=>.int (g i j)):=by
 intro pins s σ H x y v u Q I rx ry h;obtain⟨i,j,rfl,rfl,q⟩:=h;obtain⟨t,rfl⟩:=rx;obtain⟨t',rfl⟩:=ry;exact rule i j t t' s _ _ ⟨.int (g i j),H,I.tok _,⟨_,rfl⟩,q⟩
theorem IJ{f:MI->MI->Sem MI}{g:Int->Int->Bool}(rule:∀ (i j:Int) (t u:Tok) (s:MK) (Q:MI->MK->Prop) (E:MI->MK->Prop),Q (.bool (g i j)) s->MP (MR X.prog X.w) X.A (f (.int i t) (.int j u)) Q E s):
  gL X f (Hm fun i j=>.bl (g i j)):=by
 intro pins s σ H x y v u Q I rx ry h;obtain⟨i,j,rfl,rfl,q⟩:=h;obtain⟨t,rfl⟩:=rx;obtain⟨t',rfl⟩:=ry;exact rule i j t t' s _ _ ⟨.bl (g i j),H,I,rfl,q⟩
def xK(i j:Int):Prop:=0 < j/\j < 1073741824
def Hc(i j:Int):Prop:=0<=j/\j<=1000000/\i.natAbs < 2 ^ 64
def Fj(i j:Int):Prop:=(-(2 ^ 64) < i/\i < 2 ^ 64)\/(-(2 ^ 64) < j/\j < 2 ^ 64)
theorem Fj.ok(h:Fj i j):IntMulOk i j:=by
 rcases h with ⟨h1,h2⟩|⟨h1,h2⟩
 ·exact .of_left (intBits_le_64 h1 h2)
 ·exact .of_right (intBits_le_64 h1 h2)
theorem II:gL X (N6 .Add) (Hm fun i j=>.int (i+j)):=Km fun _ _ _ _ _ _ _ q=>add_int q
theorem IE:gL X (N6 .Sub) (Hm fun i j=>.int (i - j)):=Km fun _ _ _ _ _ _ _ q=>sub_int q
theorem IG:gL X (N6 .Mult) (rI Fj fun i j=>.int (i*j)):=Le fun _ _ _ _ _ _ _ hc q=>mul_int q hc.ok
theorem Gb:gL X (N6 .FloorDiv) (rI xK fun i j=>.int (i / j)):=Le fun i j _ _ _ _ _ hc q=>by
 have h1:(0:Int) < j:=hc.1;have h2:j < 1073741824:=hc.2;exact floordiv_int (by walk_at "o") (by rw[Int.fdiv_eq_ediv_of_nonneg i (by walk_at "o")];exact q) (.inl (PyProof.noPylong_small (by walk_at "o")))
theorem IH:gL X (N6 .Mod) (rI (fun _ j=>0 < j) fun i j=>.int (i % j)):=Le fun i j _ _ _ _ _ hc q=>by
 have h1:(0:Int) < j:=hc;exact mod_int' (by walk_at "o") (by rw[Int.fmod_eq_emod_of_nonneg i (by walk_at "o")];exact q)
theorem IF:gL X (N6 .Pow) (rI Hc fun i j=>.int (i ^ j.toNat)):=Le fun _ _ _ _ _ _ _ hc q=>pow_int_small hc.1 hc.2.1 hc.2.2 q
theorem Kj:gL X (Nv .Lt) (Hm fun i j=>.bl (decide (i < j))):=IJ fun _ _ _ _ _ _ _ q=>lt_int q
theorem Kk:gL X (Nv .LtE) (Hm fun i j=>.bl (decide (i<=j))):=IJ fun _ _ _ _ _ _ _ q=>le_int q
theorem Kl:gL X (Nv .Gt) (Hm fun i j=>.bl (decide (j < i))):=IJ fun _ _ _ _ _ _ _ q=>gt_int q
theorem gL.or(h:gL X f r)(h':gL X f r'):gL X f (fun x y H Q=>r x y H Q\/r' x y H Q):=by
 intro pins s σ H x y v u Q I rx ry q;rcases q with q|q
 ·exact h pins s σ H x y v u Q I rx ry q
 ·exact h' pins s σ H x y v u Q I rx ry q
theorem bV(b:M9)(h:op≠.In:=by decide)(h2:op≠.NotIn:=by decide):Oh op b=false:=by
 have e1:(op == CmpOp.In)=false:=by cases op<;>first|rfl|exact absurd rfl h
 have e2:(op == CmpOp.NotIn)=false:=by cases op<;>first|rfl|exact absurd rfl h2
 cases b<;>simp[Oh,e1,e2]
def Dv(t:TE):TT:=fun σ H Q=>t σ H fun x H'=>∃ k,x=.bl k/\Q k H'
theorem Bv(ho:gL X (Nv op) r)(ha:PE X a ta)(hb:PE X b tb)(hm:Oh op b=false):PT X (.Compare a [op] [b] pos) (Dv (JO r ta tb)):=by
 intro pins s σ H Q I h;refine RT (bZ (ha pins s σ H _ I h) fun v s1 zz=>?_) hm;obtain⟨x,H1,I1,r1,q1⟩:=zz;refine bZ (hb pins s1 σ H1 _ I1 q1) fun u s2 zz=>?_;obtain⟨y,H2,I2,r2,q2⟩:=zz;refine bZ (ho pins s2 σ H2 x y v u _ I2 r1 r2 q2) fun c s3 zz=>?_;obtain⟨z,H3,I3,r3,k,e,q3⟩:=zz;subst e;cases r3;exact N7 ⟨H3,I3,q3⟩
def Dy(r r':R2)(ta tb tc:TE):TE:=fun σ H Q=>ta σ H fun x H1=>tb σ H1 fun y H2=>r x y H2 fun z H3=>∃ k,z=.bl k/\
 (if k=true then tc σ H3 fun w' H4=>r' y w' H4 Q else Q (.bl false) H3)
theorem D4(ho:gL X (Nv op) r)(ho':gL X (Nv op') r')(ha:PE X a ta)(hb:PE X b tb)(hc:PE X c tc)(hm:lastMarks [op,op'] [b,c]=false:=by with_unfolding_all rfl):PT X (.Compare a [op,op'] [b,c] pos) (Dv (Dy r r' ta tb tc)):=by
 intro pins s σ H Q I h;refine isTrue_chain (bZ (ha pins s σ H _ I h) fun v s1 ⟨x,H1,I1,r1,q1⟩=>test_link (bZ (hb pins s1 σ H1 _ I1 q1) fun u s2 zz=>?_)) hm;obtain⟨y,H2,I2,r2,q2⟩:=zz;refine bZ (ho pins s2 σ H2 x y v u _ I2 r1 r2 q2) fun d s3 zz=>?_;obtain⟨z,H3,I3,r3,k,e,q3⟩:=zz;subst e;cases r3;refine N7 ?_;cases k with
 | false=>
  obtain⟨k',e',q'⟩:=q3;cases e';exact ite_ff ⟨H3,I3,q'⟩
 | true=>
  refine ite_tt (test_last (bZ (hc pins s3 σ H3 _ I3 q3) fun w' s4 zz=>?_));obtain⟨z',H4,I4,r4,q4⟩:=zz;refine bZ (ho' pins s4 σ H4 y z' u w' _ I4 r2 r4 q4) fun d' s5 zz=>?_;obtain⟨z2,H5,I5,r5,k2,e2,q5⟩:=zz;subst e2;cases r5;exact N7 ⟨H5,I5,q5⟩
def K6(K:Ps)(x:V)(H:Hp)(k:Bool):Prop:=
 match x with
 | .non=>k=false
 | .bl b=>k=b
 | .int i=>k=(i != 0)
 | .str y=>y.length<=MT/\k=((y.length:Int) != 0)
 | .byt y=>y.size<=MT/\k=((y.size:Int) != 0)
 | .ref p=>(∃ xs,jP K H p xs/\k=!xs.isEmpty)\/(∃ xs,jO K H p xs/\k=!xs.isEmpty)\/∃ kvs,H p=some (.dK kvs)/\k=!kvs.isEmpty
 | _=>False
theorem AT{κ:Type}{kvs:List (κ×V)}{vs:List (κ×MI)}(r:KV kvs vs):(!vs.isEmpty)=!kvs.isEmpty:=by
 cases r<;>rfl
theorem tx(r:Vals xs its):(!its.toArray.isEmpty)=!xs.isEmpty:=by
 cases r<;>simp
theorem kQ:(MT:Nat) < 2 ^ 63:=by rw[Nk];decide
theorem HQ:Mc X (fun x H Q=>∃ k,K6 X.K x H k/\Q k H):=by
 intro pins s σ H x v Q I rx h;obtain⟨k,e,q⟩:=h;have hl:=kQ;have hs:MT=16777216:=Nk;cases x with
 | non=>
  cases rx;have e':k=false:=e;subst e';exact truthy_none ⟨H,I,q⟩
 | bl b=>
  cases rx;have e':k=b:=e;subst e';exact N7 ⟨H,I,q⟩
 | int i=>
  obtain⟨t,rfl⟩:=rx;have e':k=(i != 0):=e;subst e';exact PySem.P.truthy_int ⟨H,I,q⟩
 | str y=>
  obtain⟨t,rfl⟩:=rx;obtain⟨hy,e'⟩:y.length<=MT/\k=((y.length:Int) != 0):=e;subst e';exact PySem.P.truthy_str (by walk_at "o") ⟨H,I.tok _,q⟩
 | byt y=>
  obtain⟨t,rfl⟩:=rx;obtain⟨hy,e'⟩:y.size<=MT/\k=((y.size:Int) != 0):=e;subst e';exact PySem.W.truthy_bytes (by walk_at "o") ⟨H,I.tok _,q⟩
 | ref p=>
  cases rx;have e':(∃ xs,jP X.K H p xs/\k=!xs.isEmpty)\/(∃ xs,jO X.K H p xs/\k=!xs.isEmpty)\/∃ kvs,H p=some (.dK kvs)/\k=!kvs.isEmpty:=e;rcases e' with ⟨xs,hx,e'⟩|⟨xs,hx,e'⟩|⟨kvs,hx,e'⟩
  ·subst e';obtain⟨its,r,pl,hz⟩:=I.list hx;have hlen:=r.length;exact wpAny_truthy_list pl.isList (by simp only[MV];omega) ⟨H,I.tok _,by rw[tx r];exact q⟩
  ·subst e';obtain⟨its,r,pl,hz⟩:=I.tuple hx;have hlen:=r.length;exact truthy_tuple pl (by simp only[MV];omega) ⟨H,I.tok _,by rw[tx r];exact q⟩
  ·subst e';obtain⟨hz,hS,vs,r,m⟩:kvs.length<=MT/\(p == NM)=false/\∃ vs,KV kvs vs/\s.heap.DictOf (aI X.prog X.w) p vs:=I.hok p _ hx;have hlen:kvs.length=vs.length:=Pm r;exact wpAny_truthy_dict hS m (by walk_at "o") ⟨H,I.tok _,by rw[AT r];exact q⟩
 | _=>exact (show False from e).elim
theorem DX(ha:PE X a ta)(he:∀ whole,RF a X.env whole=(do let v <- whole;Ph a.pos;holding [v] (truthy v))):
  PT X a (fun σ H Q=>ta σ H fun x H'=>∃ k,K6 X.K x H' k/\Q k H'):=by
 intro pins s σ H Q I h;exact isTrue_plain (bZ (ha pins s σ H _ I h) fun v s1 ⟨x,H1,I1,r1,q1⟩=>HQ pins s1 σ H1 x v Q I1 r1 q1) (he _)
theorem AG:gL X (N6 .Add) (fun x y H Q=>∃ i j,x=.str i/\y=.str j/\i.length+j.length<=MT/\Q (.str (i ++ j)) H):=by
 intro pins s σ H x y v u Q I rx ry h;obtain⟨i,j,rfl,rfl,hz,q⟩:=h;obtain⟨t,rfl⟩:=rx;obtain⟨t',rfl⟩:=ry;exact add_str (fun t' tk=>⟨.str (i ++ j),H,I.tok _,⟨_,rfl⟩,q⟩) hz
theorem xR(r:Vals [x] us):∃ u,us=[u]/\aD x u:=by
 cases r with
 | cons r1 r2=>cases r2;exact⟨_,rfl,r1⟩
theorem Hf(r:Vals [x,y] us):∃ u w',us=[u,w']/\aD x u/\aD y w':=by
 cases r with
 | cons r1 r2=>
  cases r2 with
  | cons r3 r4=>cases r4;exact⟨_,_,rfl,r1,r3⟩
end
structure ObjM(h:M5)(x dx C:ML)(mA:Str->Option MI):Prop where
 obj:h.get? x=some (P3 C dx)
 ns:h.Ns1 dx mA
 ne:dx≠x
theorem vA{h:M5}{dx:ML}{mA:Str->Option MI}(n:h.Ns1 dx mA):∃ od,h.get? dx=some od/\∀ name,Ux name od=some (mA name):=by
 obtain⟨o,es,ep,ho,hd,hk,_,hm⟩:=n;refine⟨o,ho,fun name=>?_⟩;have e:=hm name;unfold nsFind findBy at e;rw[<- Array.find?_toList]at e;unfold Ux;rw[hd];dsimp only;split
 ·rename_i y q;rw[q]at e;exact congrArg some e
 ·rename_i q;rw[q]at e;have a:es.toList.any (·.refKey)=false:=by
   rw[List.any_eq_false];intro y hy;obtain⟨z,t,Th⟩:=hk y (Array.mem_toList_iff.mp hy);simp[DictEntry.refKey,Th]
  have a':¬ es.toList.any (·.refKey)=true:=by rw[a];exact Bool.false_ne_true
  rw[if_neg a'];exact congrArg some e
theorem ObjM.look(I:ObjM h x dx C mA):∃ od,UB h x (P3 C dx) C (some od)/\∀ name,Ux name od=some (mA name):=
 let ⟨od,ho,hl⟩:=vA I.ns
 ⟨od,⟨I.obj,rfl,rfl,ho⟩,hl⟩
section
variable{prog:MY}{w:M7}{A:M3}{E:MI->MK->Prop}{s:MK}{K:Ps}{x dx C f:ML}{mA:Str->Option MI}{name:Str}{v:MI}
theorem GC(X:K.In s.heap)(I:ObjM s.heap x dx C mA)(hg:Rb K C name=true)(hh:Uy K C=true)(ha:Qf K (.ref C) name=some none)(hv:mA name=some v)(hv':PySem.W.handedIn v=true)(h:Q v { s with toks:=s.toks+1 }):
  MP (MR prog w) A (RH (.ref x) name expr) Q E s:=by
 obtain⟨od,J,hl⟩:=I.look;exact PySem.W.get_value X J (QT hg).1 (PySem.W.findObj_own hh ha rfl (by rw[hl,hv])) hv' h
theorem EK(X:K.In s.heap)(I:ObjM s.heap x dx C mA)(hg:Rb K C name=true)(hf:Qf K (.ref C) name=some (some (.ref f)))(ht:UC K (.ref f)=true)(hv:mA name=none)(h:Q (.ref f,[.ref x]) s):
  MP (MR prog w) A (Pf (.ref x) name pl) Q E s:=by
 obtain⟨od,J,hl⟩:=I.look;exact PySem.W.method_fn X J (QT hg).1 (QT hg).2 hf (beq_iff_eq.mp ht) (by show (Ux name od).map (·.isSome)=some false;rw[hl,hv];rfl) h
theorem FF(X:K.In s.heap)(I:ObjM s.heap x dx C mA)(hs:Qf K (.ref C) "__setattr__"=some (some (.builtin "object.__setattr__")))(hp:PySem.W.plainOver K C=true)(ht:Uw K C name=some none)(hh:Uy K C=true)(hw:PySem.Within mA ns)(hsz:ns.length<=MT)(h:∀ h',ObjM h' x dx C (fun y=>if y=name then some v else mA y)->Oe dx s.heap h'->Q () { s with heap:=h',toks:=s.toks+2 }):
  MP (MR prog w) A (SC (.ref x) name v) Q E s:=by
 obtain⟨od,J,hl⟩:=I.look;refine PySem.W.set_plain X J hs (PySem.W.osa_open (s:={ s with toks:=s.toks+1 }) (r:=none) X J hp ht fun b=>?_)
 obtain⟨cd,hc,hd'⟩:=PySem.W.any_some hh;have hx:s.heap.get? x=some ⟨.ref C,some dx,.plain,#[]⟩:=I.obj;refine MH (MJ (MH (MH (Ra hx (MH (PySem.W.Looks.here (s:={ s with toks:=s.toks+1 }) (PySem.W.looks_clsIn X hc) ?_))))))
 rw[hd'];refine MJ (a:=some dx) (MH (MJ (MH ?_)));refine wpAny_nsSet1 (s:={ s with toks:=s.toks+1 }) I.ns fun h' hn2 hs2=>?_
 obtain⟨oD,esD,epD,hoD,hdD,hcD⟩:=hn2.count (PySem.Within.cons name v hw);refine MH (wpAny_lookBehind hoD (by rw[hdD];exact pastItsLine_dict (le_trans hcD (by rw[M1];omega))) ?_)
 exact MJ (h _ ⟨(hs2.2 _ (Ne.symm I.ne)).trans I.obj,hn2,I.ne⟩ hs2)
theorem Es(X:K.In s.heap)(hm:Uv K C=true)(hi:Qf K (.ref C) "__init__"=some (some (.ref f)))(hf:UD K (.ref f)=some (.type "function"))(h:Oa (MR prog w) (A.under (.builtin "type.__call__" ⟨.ref C::vs,kw⟩)) (.call (.ref f) ⟨.ref (s.heap.objs.size+1)::vs,kw⟩) (PySem.W.InitBack (s.heap.objs.size+1) R)
   { s with heap:=(s.heap.push O4).push (P3 C s.heap.objs.size) }):
  Oa (MR prog w) A (.call (.ref C) ⟨vs,kw⟩) R s:=by
 obtain⟨hh,g,d,t,os⟩:=s;exact PySem.W.make_core (PySem.W.makes_of X hm) (QC X hi) (fun self=>PySem.W.bind_fn X self hf) (.inl rfl) h
end
def fe(f:Str)(v:V):List (Str×V)->List (Str×V)
 | []=>[(f,v)]
 | (g,x)::r=>if g=f then (g,v)::r else (g,x)::fe f v r
theorem qv(f g:Str)(v:V):∀ fs:List (Str×V),(fe f v fs).lookup g=if g=f then some v else fs.lookup g
 | []=>by
  show List.lookup g [(f,v)]=_
  by_cases h:g=f
  ·have hb:(g == f)=true:=beq_iff_eq.mpr h;simp only[List.lookup,hb,if_pos h]
  ·have hb:(g == f)=false:=beq_eq_false_iff_ne.mpr h;simp only[List.lookup,hb,if_neg h]
 | (k,x)::r=>by
  have ih:=qv f g v r;rw[show fe f v ((k,x)::r)=(if k=f then (k,v)::r else (k,x)::fe f v r)from rfl]
  by_cases hk:k=f
  ·rw[if_pos hk]
   by_cases h:g=k
   ·have hb:(g == k)=true:=beq_iff_eq.mpr h;simp only[List.lookup,hb,if_pos (h.trans hk)]
   ·have hb:(g == k)=false:=beq_eq_false_iff_ne.mpr h;simp only[List.lookup,hb,if_neg (fun e:g=f=>h (e.trans hk.symm))]
  ·rw[if_neg hk]
   by_cases h:g=k
   ·have hb:(g == k)=true:=beq_iff_eq.mpr h;simp only[List.lookup,hb,if_neg (fun e:g=f=>hk (h.symm.trans e))]
   ·have hb:(g == k)=false:=beq_eq_false_iff_ne.mpr h;simp only[List.lookup,hb];exact ih
theorem pO(f:Str)(v:V):∀ fs:List (Str×V),f∈(fe f v fs).map (·.1)/\∀ g,g∈fs.map (·.1)->g∈(fe f v fs).map (·.1)
 | []=>⟨by simp[fe],fun g h=>by simp at h⟩
 | (k,x)::r=>by
  obtain⟨i1,i2⟩:=pO f v r;rw[show fe f v ((k,x)::r)=(if k=f then (k,v)::r else (k,x)::fe f v r)from rfl]
  by_cases hk:k=f
  ·rw[if_pos hk];subst hk;exact⟨by simp,fun g h=>by simpa using h⟩
  ·rw[if_neg hk];refine⟨?_,fun g h=>?_⟩
   ·rw[M8];exact MW _ i1
   ·rw[M8]at h ⊢;rcases Nr.mp h with e|e
    ·exact Nr.mpr (.inl e)
    ·exact MW _ (i2 g e)
theorem qy(f:Str)(v:V):∀ fs:List (Str×V),(fe f v fs).length<=fs.length+1
 | []=>by simp[fe]
 | (k,x)::r=>by
  have ih:=qy f v r;rw[show fe f v ((k,x)::r)=(if k=f then (k,v)::r else (k,x)::fe f v r)from rfl]
  by_cases hk:k=f
  ·rw[if_pos hk,M1,M1];omega
  ·rw[if_neg hk,M1,M1];omega
theorem j0.some_of(r:j0 (some v) o):∃ u,o=some u/\aD v u:=by
 cases o with
 | none=>exact (show False from r).elim
 | some u=>exact⟨u,rfl,r⟩
theorem j0.none_of(r:j0 none o):o=none:=by
 cases o with
 | none=>rfl
 | some u=>exact (show False from r).elim
theorem CL(r:aD v u):PySem.W.handedIn u=true:=by
 cases v with
 | non=>cases (show u=Value.none from r);rfl
 | bl b=>cases (show u=Value.bool b from r);rfl
 | int i=>obtain⟨t,e⟩:=(show ∃ t,u=Value.int i t from r);cases e;rfl
 | str x=>obtain⟨t,e⟩:=(show ∃ t,u=Value.str x t from r);cases e;rfl
 | byt b=>obtain⟨t,e⟩:=(show ∃ t,u=Value.bytes b t from r);cases e;rfl
 | flt b=>obtain⟨t,e⟩:=(show ∃ t,u=Value.float b t from r);cases e;rfl
 | ref a=>cases (show u=Value.ref a from r);rfl
 | ty n=>cases (show u=Value.type n from r);rfl
section
variable{P:MY}{w:M7}{H H':Hp}{h h':M5}{a C dx:ML}{fs fs':List (Str×V)}
theorem rF(hok:lE P w H h)(e:H a=some (.ins C dx fs)):∃ mA,ObjM h a dx C mA/\(∀ f,j0 (fs.lookup f) (mA f))/\PySem.Within mA (fs.map (·.1))/\fs.length<=1000/\H dx=some (.own a):=by
 obtain⟨d,z,ne,ob,mA,n,r,q⟩:=(show bC P w H h a (.ins C dx fs)from hok a _ e)
 exact⟨mA,⟨ob,n,ne⟩,r,q,z,d⟩
end
structure Cls(K:Ps)(C:ML):Prop where
 pg:Rb K C Str.empty=true
 hd:Uy K C=true
 po:PySem.W.plainOver K C=true
 sa:Qf K (.ref C) "__setattr__"=some (some (.builtin "object.__setattr__"))
theorem Cls.get{K:Ps}{C:ML}(c:Cls K C)(f:Str):Rb K C f=true:=c.pg
def cC(K:Ps)(C:ML)(f:Str):Prop:=Qf K (.ref C) f=some none
theorem cC.taker{K:Ps}{C:ML}{f:Str}(n:cC K C f):Uw K C f=some none:=by
 unfold Uw;rw[show Qf K (.ref C) f=some none from n]
 rfl
structure Meth(K:Ps)(C:ML)(m:Str)(f:ML):Prop where
 at_:Qf K (.ref C) m=some (some (.ref f))
 fn:UC K (.ref f)=true
 kp:Qw K (.ref f)=true
section
variable{X:Cx}{pins:List (ML×Obj)}{σ:St}{H:Hp}{s:MK}{a C dx:ML}{fs:List (Str×V)}{f:Str}{v:V}{A:M3}{E:MI->MK->Prop}
theorem AW(I:Inv X pins σ H s)(e:H a=some (.ins C dx fs))(c:Cls X.K C)(n:cC X.K C f)(l:fs.lookup f=some v)(h:∀ u s',Inv X pins σ H s'->aD v u->Q u s'):MP (MR X.prog X.w) A (RH (.ref a) f b) Q E s:=by
 obtain⟨mA,O,r,_,_,_⟩:=rF I.hok e;obtain⟨u,hu,ru⟩:=j0.some_of (v:=v) (o:=mA f) (by rw[<- l];exact r f)
 exact GC I.kIn O (c.get f) c.hd n hu (CL ru) (h u _ (I.tok _) ru)
theorem mU(I:Inv X pins σ H s)(e:H a=some (.ins C dx fs))(c:Cls X.K C)(k:Meth X.K C m g)(l:fs.lookup m=none)(h:Q (.ref g,[.ref a]) s):MP (MR X.prog X.w) A (Pf (.ref a) m pl) Q E s:=by
 obtain⟨mA,O,r,_,_,_⟩:=rF I.hok e;have hn:mA m=none:=j0.none_of (by rw[<- l];exact r m)
 exact EK I.kIn O (c.get m) k.at_ k.fn hn h
theorem Al(I:Inv X pins σ H s)(e:H a=some (.ins C dx fs))(c:Cls X.K C)(n:cC X.K C f)(hl:fs.length < 1000)(ry:aD y u)(h:∀ s',Inv X pins σ (aS H a (.ins C dx (fe f y fs))) s'->Q () s'):MP (MR X.prog X.w) A (SC (.ref a) f u) Q E s:=by
 obtain⟨mA,O,r,wi,_,ho⟩:=rF I.hok e;have hz:(fs.map (·.1)).length<=MT:=by rw[MO,Nk];omega
 refine FF I.kIn O c.sa c.po n.taker c.hd wi hz fun h' O' sb=>h _ ?_;have hd:∃ o,h'.get? dx=some o:=let ⟨o,_,_,e',_⟩:=O'.ns;⟨o,e'⟩;refine I.write (x:=a) (e:=dx) (by rw[e];exact True.intro) (.inr ho) (fun b q hb z=>(sb.2 b hb).trans z) hd ?_
 refine⟨by rw[aq O.ne];exact ho,?_,O.ne,O'.obj,_,O'.ns,fun g=>?_,fun g hg=>?_⟩
 ·have:=qy f y fs;omega
 ·show j0 ((fe f y fs).lookup g) (if g=f then some u else mA g)
  rw[qv]
  by_cases q:g=f
  ·rw[if_pos q,if_pos q];exact ry
  ·rw[if_neg q,if_neg q];exact r g
 ·by_cases q:g=f
  ·rw[q];exact (pO f y fs).1
  ·refine (pO f y fs).2 g (wi g fun z=>hg ?_);show (if g=f then some u else mA g)=none
   rw[if_neg q];exact z
theorem Inv.made(I:Inv X pins σ H s):Inv X pins σ (aS (aS H s.heap.objs.size (.own (s.heap.objs.size+1))) (s.heap.objs.size+1) (.ins C s.heap.objs.size []))
  { s with heap:=(s.heap.push O4).push (P3 C s.heap.objs.size) }:=by
 have e1:(s.heap.push O4).get? s.heap.objs.size=some O4:=MQ s.heap rfl;have e2:((s.heap.push O4).push (P3 C s.heap.objs.size)).get? (s.heap.objs.size+1)=some (P3 C s.heap.objs.size):=by
  have:=MQ (s.heap.push O4) (o:=P3 C s.heap.objs.size) rfl;rwa[NT]at this
 have e3:(s.heap.push O4).Ns s.heap.objs.size (fun _=>none):=⟨O4,#[],_,e1,rfl,(fun e he=>absurd he (by simp)),fun _=>rfl⟩
 have I1:=I.laid (a:=s.heap.objs.size) (o:=.own (s.heap.objs.size+1)) (h':=s.heap.push O4) (t':=s.toks) (fun b u q=>MM _ q) (le_refl _) ⟨_,e1⟩;refine I1.laid (a:=s.heap.objs.size+1) (o:=.ins C s.heap.objs.size []) (t':=s.toks) (fun b u q=>MM _ q) (PQ (NT _ _)) ?_;have ne:s.heap.objs.size≠s.heap.objs.size+1:=Na (OE _);refine⟨by rw[aq ne,aB],NC _,ne,e2,fun _=>none,(SG e3).at fun o q=>MM _ q,fun _=>True.intro,fun y hy=>absurd rfl hy⟩
theorem BR(hb:Oi e f env (eval e env)=eval e env)(h:MP (MR prog w) A (eval e env) (fun o s₁=>MP (MR prog w) A (RH o f true) Q E s₁) E s):MP (MR prog w) A (eval (.Attribute e f pos) env) Q E s:=
 Attribute_any_ h (by rw[arm_eval_Attribute,hb])
end
def Lz(K:Ps)(ta:TE)(f:Str):TE:=fun σ H Q=>ta σ H fun x H1=>∃ a C dx fs v,x=.ref a/\H1 a=some (.ins C dx fs)/\Cls K C/\cC K C f/\fs.lookup f=some v/\Q v H1
def LD(K:Ps)(ta tv:TE)(f:Str):TS:=fun D σ H=>tv σ H fun y H1=>ta σ H1 fun x H2=>∃ a C dx fs,x=.ref a/\H2 a=some (.ins C dx fs)/\Cls K C/\cC K C f/\fs.length < 1000/\
 D.nx σ (aS H2 a (.ins C dx (fe f y fs)))
section
variable{X:Cx}{o e value:M9}{f:Str}{pos pos' Tj:Pos}{ta tv:TE}
theorem Ef(he:PE X e ta)(hb:Oi e f X.env (eval e X.env)=eval e X.env):PE X (.Attribute e f pos) (Lz X.K ta f):=by
 intro pins s σ H Q I h;refine BR hb (bZ (he pins s σ H _ I h) fun u s1 zz=>?_);obtain⟨x,H1,I1,rx,a,C,dx,fs,v,ex,ea,c,n,l,q⟩:=zz;subst ex;obtain rfl:u=Value.ref a:=rx;exact AW I1 ea c n l fun u' s2 I2 ru=>⟨v,H1,I2,ru,q⟩
theorem Az(ha:PE X o ta)(hv:PE X value tv)(hs:N9 value (some (.Attribute o f pos')) pos.line X.env=pure false):PS X (.Assign [.Attribute o f pos'] value pos) (LD X.K ta tv f):=by
 intro pins s σ H D I h;refine QI (bZ (hv pins s σ H _ I h) fun u s1 zz=>?_) hs;obtain⟨y,H1,I1,ry,q⟩:=zz;refine bZ (ha pins s1 σ H1 _ I1 q) fun ov s2 zz=>?_;obtain⟨x,H2,I2,rx,a,C,dx,fs,ex,ea,c,n,l,q2⟩:=zz;subst ex;obtain rfl:ov=Value.ref a:=rx;exact Al I2 ea c n l ry fun s3 I3=>⟨σ,_,I3,q2⟩
end
section
variable{X:Cx}{pins:List (ML×Obj)}{σ:St}{H:Hp}{s:MK}{A:M3}{E:MI->MK->Prop}{Q:MI->MK->Prop}{c:MI}{b:Bool}
inductive TyOf(K:Ps)(H:Hp):V->MI->Prop where
 | non:TyOf K H .non (.type "NoneType")
 | bl (x:Bool):TyOf K H (.bl x) (.type "bool")
 | int (i:Int):TyOf K H (.int i) (.type "int")
 | str (x:Str):TyOf K H (.str x) (.type "str")
 | flt (x:UInt64):TyOf K H (.flt x) (.type "float")
 | lst {a:ML} {xs:List V} (e:H a=some (.lst xs)):TyOf K H (.ref a) (.type "list")
 | frz {a:ML} {o:Obj} {xs:List V} (e:H a=some (.frz o (.lst xs))):TyOf K H (.ref a) (.type "list")
 | tup {a:ML} {xs:List V} (e:H a=some (.tup xs)):TyOf K H (.ref a) (.type "tuple")
 | dK {a:ML} {kvs:List (aE×V)} (e:H a=some (.dK kvs)):TyOf K H (.ref a) (.type "dict")
 | dT {a:ML} {kvs:List (List aE×V)} (e:H a=some (.dT kvs)):TyOf K H (.ref a) (.type "dict")
 | ins {a C dx:ML} {fs:List (Str×V)} (e:H a=some (.ins C dx fs)) (cl:Cls K C) (ha:Qf K (.ref C) "__class__"=some (some (.builtin "object.__class__")))
   (hn:QM K (.builtin "object.__class__") "__get__"=some (some (.builtin "getset_descriptor.__get__"))) (htk:Uz K (.builtin "object.__class__")=some true)
   (hm:Uu K C (.type "object")=some true):TyOf K H (.ref a) (.ref C)
theorem CG(I:Inv X pins σ H s)(rx:aD x u)(ty:TyOf X.K H x t)(e:ST X.K t c=some b)(h:∀ tk,Q (.bool b) { s with toks:=tk }):
  MP (MR X.prog X.w) A (call (.builtin "isinstance") [u,c]) Q E s:=by
 cases ty with
 | non=>cases (show u=Value.none from rx);exact Ut PySem.W.kitx_none I.kIn True.intro e (fun z=>nomatch z) h
 | bl y=>cases (show u=Value.bool y from rx);exact Ut PySem.W.kitx_bool I.kIn True.intro e (fun z=>nomatch z) h
 | int i=>obtain⟨t,q⟩:=(show ∃ t,u=Value.int i t from rx);cases q;exact Ut PySem.W.kitx_int I.kIn True.intro e (fun z=>nomatch z) h
 | str y=>obtain⟨t,q⟩:=(show ∃ t,u=Value.str y t from rx);cases q;exact Ut PySem.W.kitx_str I.kIn True.intro e (fun z=>nomatch z) h
 | flt y=>obtain⟨t,q⟩:=(show ∃ t,u=Value.float y t from rx);cases q;exact Ut PySem.W.kitx_float I.kIn True.intro e (fun z=>nomatch z) h
 | @lst a xs ea=>
  cases (show u=Value.ref a from rx)
  obtain⟨_,_,n,_,h1⟩:=(show bC X.prog X.w H s.heap a (.lst xs)from I.hok a _ ea)
  exact Ut PySem.W.kitx_list I.kIn ⟨_,h1,rfl⟩ e (fun z=>nomatch z) h
 | @frz a ob xs ea=>
  cases (show u=Value.ref a from rx)
  obtain⟨_,_,_,n,_,h1⟩:=(show bC X.prog X.w H s.heap a (.frz ob (.lst xs))from I.hok a _ ea)
  exact Ut PySem.W.kitx_list I.kIn ⟨_,h1,rfl⟩ e (fun z=>nomatch z) h
 | @tup a xs ea=>
  cases (show u=Value.ref a from rx)
  obtain⟨_,_,_,p⟩:=(show bC X.prog X.w H s.heap a (.tup xs)from I.hok a _ ea)
  obtain⟨o,h1,h2,_⟩:=p;exact Ut PySem.W.kitx_tuple I.kIn ⟨o,h1,h2.1⟩ e (fun z=>nomatch z) h
 | @dK a kvs ea=>
  cases (show u=Value.ref a from rx)
  obtain⟨_,_,vs,_,p⟩:=(show bC X.prog X.w H s.heap a (.dK kvs)from I.hok a _ ea)
  obtain⟨o,es,ep,h1,h2,_⟩:=p;exact Ut PySem.W.kitx_dict I.kIn ⟨o,h1,h2.1⟩ e (fun z=>nomatch z) h
 | @dT a kvs ea=>
  cases (show u=Value.ref a from rx)
  obtain⟨_,_,xs,_,o,es,ep,h1,h2,_⟩:=(show bC X.prog X.w H s.heap a (.dT kvs)from I.hok a _ ea)
  exact Ut PySem.W.kitx_dict I.kIn ⟨o,h1,h2.1⟩ e (fun z=>nomatch z) h
 | @ins a C dx fs ea cl ha hn htk hm=>
  cases (show u=Value.ref a from rx)
  obtain⟨mA,O,_⟩:=rF I.hok ea;obtain⟨od,J,_⟩:=O.look;exact Ut (PySem.W.kitx_own (cl.get _) cl.hd ha hn htk hm) I.kIn J e (fun z=>nomatch z) h
end
structure Room(k:Nat)(A:M3):Prop where
 hd:A.handled=none
 dp:A.depth+3*k+5 < recursionLimit
 un:A.units+16*k+200 < ND
theorem Room.mono(r:Room k A)(h:j<=k):Room j A:=⟨r.hd,by have:=r.dp;omega,by have:=r.un;omega⟩
theorem Room.deeper(r:Room (k+1) A)(env:Env):Room k (A.deeper env):=
 ⟨r.hd,by have:=r.dp;show A.depth+1+3*k+5 < _;omega,by have:=r.un;show A.units+3+16*k+200 < _;omega⟩
theorem Room.in1(r:Room (k+1) A):Room k A.in1:=
 ⟨r.hd,by have:=r.dp;show A.depth+3*k+5 < _;omega,by have:=r.un;show A.units+1+16*k+200 < _;omega⟩
theorem AN{A:M3}{C:ML}{us:List MI}{kw:List (Str×MI)}:(A.under (.builtin "type.__call__" ⟨.ref C::us,kw⟩)).depth=A.depth+1:=by
 first|rfl|simp[RN,Code.weight,Code.isCreation,Code.isGuard,Code.isCaller,Code.frames,RL,guardIds]
theorem AM{A:M3}{C:ML}{us:List MI}{kw:List (Str×MI)}:(A.under (.builtin "type.__call__" ⟨.ref C::us,kw⟩)).units=A.units+1:=by
 first|rfl|simp[RN,Code.cUnits,Code.frames,RL]
theorem Room.make(r:Room (k+1) A)(C:ML)(us:List MI)(kw:List (Str×MI)):Room k (A.under (.builtin "type.__call__" ⟨.ref C::us,kw⟩)):=
 ⟨r.hd,by have:=r.dp;rw[AN];omega,by have:=r.un;rw[AM];omega⟩
theorem Room.depth(r:Room k A):A.depth < recursionLimit:=by have:=r.dp;omega
theorem Room.units(r:Room k A):A.units+64 < ND:=by have:=r.un;omega
def JR:TA:=fun _ H Q=>Q [] H
def JU(ta:TE)(tr:TA):TA:=fun σ H Q=>ta σ H fun x H1=>tr σ H1 fun xs H2=>Q (x::xs) H2
section
variable{X:Cx}{e:M9}{es:List M9}{te:TE}{t:TA}{pos:Pos}
theorem IA:PA X [] JR:=fun _ _ _ _ H Q I h=>OK ⟨[],H,I,.nil,h⟩
theorem F4(ha:PE X e te)(hr:PA X es t)(hs:MU (e::es) X.env=(false,eval e X.env)::MU es X.env:=by rfl):PA X (e::es) (JU te t):=by
 intro pos pins s σ H Q I h;rw[hs];show MP _ _ (spliced ((false,eval e X.env)::NS pos (MU es X.env))) _ _ s
 refine On (bZ (ha pins s σ H _ I h) fun u s1 zz=>?_);obtain⟨x,H1,I1,r1,q1⟩:=zz;exact bZ (hr pos pins s1 σ H1 _ I1 q1) fun us s2 ⟨xs,H2,I2,r2,q2⟩=>⟨x::xs,H2,I2,.cons r1 r2,q2⟩
def Lr(t:TA):TE:=fun σ H Q=>t σ H fun xs H1=>xs.length<=MT/\∀ p,H1 p=none->Q (.ref p) (aS H1 p (.tup xs))
def Lw(t:TA):TE:=fun σ H Q=>t σ H fun xs H1=>xs.length<=MT/\∀ p,H1 p=none->Q (.ref p) (aS H1 p (.lst xs))
theorem Ip{x1}(h:PA X es t):PE X (.Tuple es x1 pos) (Lr t):=by
 intro pins s σ H Q I hq;refine wpAny_Tuple_spliced (bZ (h pos pins s σ H _ I hq) fun us s1 ⟨xs,H1,I1,r,z,q⟩=>⟨by rw[<- r.length];exact z,?_⟩)
 have hf:H1 s1.heap.objs.size=none:=I1.hok.fresh (le_refl _);refine⟨.ref s1.heap.objs.size,aS H1 s1.heap.objs.size (.tup xs),I1.laid (t':=s1.toks) (fun b u e=>MM _ e) (le_refl _) ?_,rfl,q _ hf⟩;exact⟨z,us,r,tZ.new _ _⟩
theorem Iw(h:PA X es t):PE X (.List es pos) (Lw t):=by
 intro pins s σ H Q I hq;refine wpAny_List_spliced (bZ (h pos pins s σ H _ I hq) fun us s1 ⟨xs,H1,I1,r,z,q⟩=>⟨by rw[<- r.length];exact z,?_⟩)
 have hf:H1 s1.heap.objs.size=none:=I1.hok.fresh (le_refl _);refine⟨.ref s1.heap.objs.size,aS H1 s1.heap.objs.size (.lst xs),I1.laid (t':=s1.toks) (fun b u e=>MM _ e) (le_refl _) ?_,rfl,q _ hf⟩;exact⟨z,us,0,r,MQ _ rfl⟩
end
abbrev Sp:=List V->Hp->VK->XK->Prop
abbrev Dh:=List Env->Hp->MK->XK->MI->MK->Prop
structure Env0(P:MY)(w:M7)(K:Ps)(mg:Str->Option MI)(base:M5)(A:M3)(outer:List Env)(s:MK)(H:Hp):Prop where
 frames:A.frames=some outer
 mod:Mod K mg base
 bs:∀ b o,base.get? b=some o->s.heap.get? b=some o/\H b=none
 bsz:base.objs.size<=s.heap.objs.size
 funs:s.heap.FunFrames base outer
 frf:∀ b∈xf outer,H b=none
 hok:lE P w H s.heap
 bare:PM s.gens
def CE(outer:List Env)(P:MY)(w:M7)(H:Hp)(s:MK)(Q:VK)(u:MI)(s':MK):Prop:=
 ∃ v H',s'.os=s.os/\PM s'.gens/\Un (xf outer) [] H H' s.heap s'.heap/\lE P w H' s'.heap/\aD v u/\Q v H'
def CR(CX:Dh)(outer:List Env)(P:MY)(w:M7)(H:Hp)(s:MK)(Q:VK)(E:XK)(r:Pz)(s':MK):Prop:=
 match r with
 | .ok (.ret u)=>CE outer P w H s Q u s'
 | .ok _=>False
 | .error e=>CX outer H s E e s'
structure FnOk(P:MY)(w:M7)(K:Ps)(mg:Str->Option MI)(base:M5)(CX:Dh)(k:Nat)(f:ML)(fd:NR)(ps:List Str)(sp:Sp):Prop where
 len:∀ vs H Q E,sp vs H Q E->vs.length=ps.length
 run:∀ (A:M3) (outer:List Env) (s:MK) (H:Hp) (args:Args) (us:List MI) (vs:List V) (Q:VK) (E:XK),Room k A->Env0 P w K mg base A outer s H->Q_ s fd args (ps.zip us)->Vals vs us->sp vs H Q E->
  Oa (MR P w) A (.call (.ref f) args) (CR CX outer P w H s Q E) s
theorem FnOk.mono{P:MY}{w:M7}{K:Ps}{mg:Str->Option MI}{base:M5}{CX:Dh}{j k:Nat}{f:ML}{fd:NR}{ps:List Str}{sp:Sp}(F:FnOk P w K mg base CX j f fd ps sp)(h:j<=k):
  FnOk P w K mg base CX k f fd ps sp:=⟨F.len,fun A outer s H args us vs Q E hr=>F.run A outer s H args us vs Q E (hr.mono h)⟩
theorem Env0.make{P:MY}{w:M7}{K:Ps}{mg:Str->Option MI}{base:M5}{A:M3}{outer:List Env}{s:MK}{H:Hp}(e:Env0 P w K mg base A outer s H)(C:ML)(us:List MI)(kw:List (Str×MI)):
  Env0 P w K mg base (A.under (.builtin "type.__call__" ⟨.ref C::us,kw⟩)) outer s H:=⟨by first|exact e.frames|(simpa[RN,Code.envs,RL,pushEnvs]using e.frames),e.mod,e.bs,e.bsz,e.funs,e.frf,e.hok,e.bare⟩
theorem Env0.in1{P:MY}{w:M7}{K:Ps}{mg:Str->Option MI}{base:M5}{A:M3}{outer:List Env}{s:MK}{H:Hp}(e:Env0 P w K mg base A outer s H):
  Env0 P w K mg base A.in1 outer s H:=⟨e.frames,e.mod,e.bs,e.bsz,e.funs,e.frf,e.hok,e.bare⟩
section
variable{X:Cx}{pins:List (ML×Obj)}{σ:St}{H:Hp}{s s':MK}
theorem Inv.env0(I:Inv X pins σ H s):Env0 X.prog X.w X.K X.mg X.base X.A X.stack s H:=
 ⟨I.ok.frames,I.ok.mod,I.bs,le_trans I.ok.bsz I.sz,I.stack,I.stkFree,I.hok,I.bare⟩
theorem Inv.after(I:Inv X pins σ H s)(h:CE X.stack X.prog X.w H s Q u s'):EP X pins σ Q u s':=by
 obtain⟨v,H',os,bare,un,hok,r,q⟩:=h;obtain⟨hh,g,d,t,os'⟩:=s';obtain rfl:os'=s.os:=os;exact⟨v,H',I.call (h':=hh) (g':=g) (d':=d) (t':=t) (ch:=[]) un hok bare (fun b z=>absurd z (by simp)),r,q⟩
end
def Hi(sp:Sp)(dvs:List V)(E:XK)(t:TA):TE:=fun σ H Q=>t σ H fun vs H1=>sp (vs ++ dvs) H1 Q E
def Dx(C:ML)(m:Str)(sp:Sp)(dvs:List V)(E:XK)(ta:TE)(t:TA):TE:=fun σ H Q=>ta σ H fun x H1=>∃ a dx fs,x=.ref a/\H1 a=some (.ins C dx fs)/\fs.lookup m=none/\
 t σ H1 fun vs H2=>sp (x::(vs ++ dvs)) H2 Q E
def Hh(C:ML)(sp:Sp)(dvs:List V)(E:XK)(t:TA):TE:=fun σ H Q=>t σ H fun vs H1=>∀ x dx,H1 x=none->H1 dx=none->dx≠x->
 sp (.ref x::(vs ++ dvs)) (aS (aS H1 dx (.own x)) x (.ins C dx [])) (fun v H2=>v=.non/\Q (.ref x) H2) E
def dj(K:Ps)(fd:NR)(ps:List Str)(ds:List MI):Prop:=
 ∀ (s:MK) (us:List MI),K.In s.heap->(us ++ ds).length=ps.length->Q_ s fd ⟨us,[]⟩ (ps.zip (us ++ ds))
theorem dj.all{K:Ps}{fd:NR}{ps:List Str}(h:∀ us:List MI,us.length=ps.length->bindArgs fd ⟨us,[]⟩=pure (ps.zip us)):dj K fd ps []:=fun s us _ hl=>by
 rw[Oc]at hl ⊢;exact .of_eq (h us hl)
def kZ(CX:Dh)(X:Cx)(E:XK):Prop:=∀ (pins:List (ML×Obj)) (σ:St) (H:Hp) (s:MK) (e:MI) (s':MK),Inv X pins σ H s->CX X.stack H s E e s'->X.xe e s'
section
variable{X:Cx}{CX:Dh}{k:Nat}{f C:ML}{fd:NR}{ps:List Str}{sp:Sp}{dvs:List V}{ds:List MI}{E:XK}{x m:Str}{p pos apos:Pos}{e o:M9}{es:List M9}{ta:TE}{t:TA}
theorem r9{pins:List (ML×Obj)}{σ:St}{H:Hp}{s:MK}{Q:VK}{us:List MI}{vs:List V}(F:FnOk X.prog X.w X.K X.mg X.base CX k f fd ps sp)(hr:Room k X.A)(hb:dj X.K fd ps ds)(hd:Vals dvs ds)(hx:kZ CX X E)
  (I:Inv X pins σ H s) (r:Vals vs us) (h:sp (vs ++ dvs) H Q E):MP (MR X.prog X.w) X.A (call (.ref f) us) (EP X pins σ Q) X.xe s:=by
 have r2:Vals (vs ++ dvs) (us ++ ds):=r.append hd;have hl:(us ++ ds).length=ps.length:=by rw[<- r2.length];exact F.len _ _ _ _ h
 refine Pd (Od (F.run X.A X.stack s H ⟨us,[]⟩ (us ++ ds) (vs ++ dvs) Q E hr I.env0 (hb s us I.kIn hl) r2 h) fun r s' hq=>?_);cases r with
 | error e=>exact hx pins σ H s e s' I hq
 | ok fl=>
  cases fl with
  | ret u=>exact I.after hq
  | next=>exact False.elim hq
  | brk=>exact False.elim hq
  | cont=>exact False.elim hq
theorem BB(F:FnOk X.prog X.w X.K X.mg X.base CX k f fd ps sp)(hr:Room k X.A)(hg:Gl X x)(hm:X.mg x=some (.ref f))(hk:Qw X.K (.ref f)=true)(hb:dj X.K fd ps ds)(hd:Vals dvs ds)(hx:kZ CX X E)(ha:PA X (e::es) t)(hdb:(x == ("__debug__":Str))=false:=by decide)(he:MU (e::es) X.env=(false,eval e X.env)::MU es X.env:=by rfl)(hpl:(NS pos (MU es X.env)).any (·.1)=false:=by rfl):
  PE X (.Call (.Name x p) (e::es) [] pos) (Hi sp dvs E t):=by
 intro pins s σ H Q I h;refine NY (jr I hg hm ?_ hdb);refine Py (h₀:=X.base) I.ok.mod.kin hk (bZ (ha pos pins s σ H _ I h) fun us s1 ⟨vs,H1,I1,r,q⟩=>⟨I1.kIn,?_⟩) he hpl;exact r9 F hr hb hd hx I1 r q
theorem By{pl:Sem Bool}(he:PE X o ta)(c:Cls X.K C)(hm:Meth X.K C m f)(F:FnOk X.prog X.w X.K X.mg X.base CX k f fd ps sp)(hr:Room k X.A)(hb:dj X.K fd ps ds)(hd:Vals dvs ds)(hx:kZ CX X E)(ha:PA X (e::es) t)
  (hst:MU (e::es) X.env=(false,eval e X.env)::MU es X.env:=by rfl) (hpl:(NS pos (MU es X.env)).any (·.1)=false:=by rfl)
  (ht:eval (.Call (.Attribute o m apos) (e::es) [] pos) X.env=(do
   let ov <- eval o X.env
   Ph apos.atName
   let (f,first) <- holding [ov] (Pf ov m pl)
   Qi pos f first (NS pos (MU (e::es) X.env)) (Pq pos (OA [] X.env))):=by rfl):
  PE X (.Call (.Attribute o m apos) (e::es) [] pos) (Dx C m sp dvs E ta t):=by
 intro pins s σ H Q I h;refine PP (pl:=pl) (bZ (he pins s σ H _ I h) fun u s1 zz=>?_) ht;obtain⟨x,H1,I1,rx,a,dx,fs,ex,ea,l,q⟩:=zz;subst ex;obtain rfl:u=Value.ref a:=rx;refine mU I1 ea c hm l ?_;refine Py (first:=[.ref a]) (h₀:=X.base) I.ok.mod.kin hm.kp (bZ (ha pos pins s1 σ H1 _ I1 q) fun us s2 ⟨vs,H2,I2,r,q2⟩=>⟨I2.kIn,?_⟩) hst hpl
 exact r9 (us:=.ref a::us) (vs:=.ref a::vs) F hr hb hd hx I2 (.cons rfl r) q2
theorem Ee(he:PE X o ta)(c:Cls X.K C)(hm:Meth X.K C m f)(F:FnOk X.prog X.w X.K X.mg X.base CX k f fd ps sp)(hr:Room k X.A)(hb:dj X.K fd ps ds)(hd:Vals dvs ds)(hx:kZ CX X E)(ht:eval (.Call (.Attribute o m apos) [] [] pos) X.env=(do
   let ov <- eval o X.env
   Ph apos.atName
   let (f,first) <- holding [ov] (Pf ov m pl)
   Qi pos f first (NS pos (MU [] X.env)) (Pq pos (OA [] X.env))):=by rfl):
  PE X (.Call (.Attribute o m apos) [] [] pos) (Dx C m sp dvs E ta JR):=by
 intro pins s σ H Q I h;refine PP (pl:=pl) (bZ (he pins s σ H _ I h) fun u s1 zz=>?_) ht;obtain⟨x,H1,I1,rx,a,dx,fs,ex,ea,l,q⟩:=zz;subst ex;obtain rfl:u=Value.ref a:=rx;refine mU I1 ea c hm l ?_;exact PySem.W.callWith_K0 (first:=[.ref a]) I1.kIn hm.kp (r9 (us:=[.ref a]) (vs:=[.ref a]) F hr hb hd hx I1 (.cons rfl .nil) q)
structure Mk(K:Ps)(C f:ML):Prop where
 makes:Uv K C=true
 init:Qf K (.ref C) "__init__"=some (some (.ref f))
 fn:UC K (.ref f)=true
 kp:Qw K (.ref C)=true
theorem DH{pins:List (ML×Obj)}{σ:St}{H:Hp}{s:MK}{Q:VK}{us:List MI}{vs:List V}(M:Mk X.K C f)(F:FnOk X.prog X.w X.K X.mg X.base CX k f fd ps sp)(hr:Room (k+1) X.A)(hb:dj X.K fd ps ds)(hd:Vals dvs ds)
  (hx:kZ CX X E) (I:Inv X pins σ H s) (r:Vals vs us)
  (h:∀ x dx,H x=none->H dx=none->dx≠x->sp (.ref x::(vs ++ dvs)) (aS (aS H dx (.own x)) x (.ins C dx [])) (fun v H2=>v=.non/\Q (.ref x) H2) E):
  MP (MR X.prog X.w) X.A (call (.ref C) us) (EP X pins σ Q) X.xe s:=by
 have hq:=h (s.heap.objs.size+1) s.heap.objs.size (I.hok.fresh (QD _)) (I.hok.fresh (le_refl _)) (Na (OE _));have I2:=Inv.made (C:=C) I;have r2:Vals (V.ref (s.heap.objs.size+1)::(vs ++ dvs)) (Value.ref (s.heap.objs.size+1)::(us ++ ds)):=.cons rfl (r.append hd);have hl:(Value.ref (s.heap.objs.size+1)::us ++ ds).length=ps.length:=by
  have e:=r2.length;rw[F.len _ _ _ _ hq]at e;exact e.symm
 refine Pd (Es (f:=f) I.kIn M.makes M.init (beq_iff_eq.mp M.fn) (Od (F.run _ X.stack _ _ ⟨Value.ref (s.heap.objs.size+1)::us,[]⟩ (Value.ref (s.heap.objs.size+1)::(us ++ ds)) _ _ E (hr.make C us [])
  (I2.env0.make C us []) (hb _ (Value.ref (s.heap.objs.size+1)::us) I2.kIn hl) r2 hq) fun r s' hq'=>?_))
 cases r with
 | error e=>exact hx pins σ _ _ e s' I2 hq'
 | ok fl=>
  cases fl with
  | ret u=>
   obtain⟨v,H',I3,rv,ev,q3⟩:=I2.after hq';subst ev;exact⟨rv,⟨V.ref (s.heap.objs.size+1),H',I3,rfl,q3⟩⟩
  | next=>exact False.elim hq'
  | brk=>exact False.elim hq'
  | cont=>exact False.elim hq'
theorem F2(M:Mk X.K C f)(F:FnOk X.prog X.w X.K X.mg X.base CX k f fd ps sp)(hr:Room (k+1) X.A)(hg:Gl X x)(hm:X.mg x=some (.ref C))(hb:dj X.K fd ps ds)(hd:Vals dvs ds)(hx:kZ CX X E)(ha:PA X (e::es) t)(hdb:(x == ("__debug__":Str))=false:=by decide)(he:MU (e::es) X.env=(false,eval e X.env)::MU es X.env:=by rfl)(hpl:(NS pos (MU es X.env)).any (·.1)=false:=by rfl):
  PE X (.Call (.Name x p) (e::es) [] pos) (Hh C sp dvs E t):=by
 intro pins s σ H Q I h;refine NY (jr I hg hm ?_ hdb);refine Py (h₀:=X.base) I.ok.mod.kin M.kp (bZ (ha pos pins s σ H _ I h) fun us s1 ⟨vs,H1,I1,r,q⟩=>⟨I1.kIn,?_⟩) he hpl;exact DH M F hr hb hd hx I1 r q
end
structure FnScope(N P:List Str)(sc:O9):Prop where
 kind:sc.kind=.function
 co:sc.isCoroutine=false
 gen:sc.isGenerator=false
 nd:N.Nodup
 pre:N.take P.length=P
 par:∀ x∈P,sc.names.lookup x=some .local\/sc.names.lookup x=some .cell
 nofree:∀ y∈sc.names,y.2≠.free
theorem vO{kindOf:Str->Option PD}:∀ {binds:List (Str×MI)} {m:Str->Option MI},(∀ v,(x,v)∉binds)->Rq kindOf binds m x=m x
 | [],_,_=>rfl
 | (n,v)::r,m,h=>by
  unfold Rq;rw[vO fun w hw=>h w (MW _ hw)];split
  ·have:x≠n:=by rintro rfl;exact h v MZ
   simp[this]
  ·rfl
theorem vQ{kindOf:Str->Option PD}:∀ {binds:List (Str×MI)} {m:Str->Option MI},(∀ v,(x,v)∉binds)->Rr kindOf binds m x=m x
 | [],_,_=>rfl
 | (n,v)::r,m,h=>by
  unfold Rr;rw[vQ fun w hw=>h w (MW _ hw)];split
  ·rfl
  ·have:x≠n:=by rintro rfl;exact h v MZ
   simp[this]
theorem vP{kindOf:Str->Option PD}:∀ {P:List Str} {vs:List MI} {i:Nat} {m:Str->Option MI},P.Nodup->P[i]?=some x->vs[i]?=some v->kindOf x=some .local->
  Rq kindOf (P.zip vs) m x=some v
 | [],_,_,_,_,h,_,_=>by simp at h
 | _::_,[],_,_,_,_,h,_=>by simp at h
 | p::P,w::vs,0,m,nd,h1,h2,hk=>by
  simp at h1 h2;subst h1;subst h2;show Rq kindOf ((p,w)::P.zip vs) m p=_
  unfold Rq;rw[vO fun v hv=>(Om.mp nd).1 (List.of_mem_zip hv).1,if_pos hk];simp
 | p::P,w::vs,i+1,m,nd,h1,h2,hk=>by
  show Rq kindOf ((p,w)::P.zip vs) m x=_
  unfold Rq;exact vP (i:=i) (Om.mp nd).2 (by simpa using h1) (by simpa using h2) hk
theorem vR{kindOf:Str->Option PD}:∀ {P:List Str} {vs:List MI} {i:Nat} {m:Str->Option MI},P.Nodup->P[i]?=some x->vs[i]?=some v->kindOf x≠some .local->
  Rr kindOf (P.zip vs) m x=some v
 | [],_,_,_,_,h,_,_=>by simp at h
 | _::_,[],_,_,_,_,h,_=>by simp at h
 | p::P,w::vs,0,m,nd,h1,h2,hk=>by
  simp at h1 h2;subst h1;subst h2;show Rr kindOf ((p,w)::P.zip vs) m p=_
  unfold Rr;rw[vQ fun v hv=>(Om.mp nd).1 (List.of_mem_zip hv).1,if_neg hk];simp
 | p::P,w::vs,i+1,m,nd,h1,h2,hk=>by
  show Rr kindOf ((p,w)::P.zip vs) m x=_
  unfold Rr;exact vR (i:=i) (Om.mp nd).2 (by simpa using h1) (by simpa using h2) hk
def start(N:List Str)(vs:List V):St:=vs.map some ++ List.replicate (N.length - vs.length) none
def uS(CX:Dh)(P:MY)(w:M7)(K:Ps)(mg:Str->Option MI)(base:M5)(N:List Str)(qual:Str)(scope:O9)(f:ML)(cd:MI)(A:M3)(outer:List Env)(s:MK)(H:Hp)(E:XK):Cx where
 prog:=P
 w:=w
 K:=K
 mg:=mg
 base:=base
 A:=A.deeper (O8 qual scope s.heap.objs.size f cd)
 N:=N
 s₀:=s
 H₀:=H
 env:=O8 qual scope s.heap.objs.size f cd
 outer:=outer
 stack:=O8 qual scope s.heap.objs.size f cd::outer
 ex:=[]
 calm:=true
 fn:=fun _=>true
 pn:=[]
 xe:=fun e s'=>MP (MR P w) (A.deeper (O8 qual scope s.heap.objs.size f cd)) (RC (O8 qual scope s.heap.objs.size f cd) e) (fun _ s''=>CX outer H s E e s'') (fun e' s''=>CX outer H s E e' s'') s'
theorem zI{sc:O9}{n:Nat}{x:Str}(h:sc.names.lookup x=some .cell):∃ c,(cellsFrom n sc.names []).lookup x=some c:=by
 have q:=PySem.W.cellsFrom_some sc.names n [] (.inl h);exact Option.isSome_iff_exists.mp q
theorem CH{CX:Dh}{P:MY}{w:M7}{K:Ps}{mg:Str->Option MI}{base:M5}{N ps:List Str}{qual:Str}{scope:O9}{f:ML}{cd:MI}{A:M3}{outer:List Env}{s s1:MK}{H:Hp}{E:XK}{us:List MI}{vs:List V}
  (S:FnScope N ps scope) (hd:A.handled=none) (e0:Env0 P w K mg base A outer s H) (hl:vs.length=ps.length) (r:Vals vs us)
  (x:InCallC s s.heap.objs.size (Rq (O8 qual scope s.heap.objs.size f cd).kindOf (ps.zip us) fun _=>none) (cellsFrom (s.heap.objs.size+1) scope.names []) (Rr (O8 qual scope s.heap.objs.size f cd).kindOf (ps.zip us) fun _=>none) s1):
  Inv (uS CX P w K mg base N qual scope f cd A outer s H E) [] (start N vs) H s1:=by
 have hpl:ps.length<=N.length:=by have:=congrArg List.length S.pre;rw[NV]at this;omega
 obtain⟨h1,tk,rfl,hk⟩:=x.done;have noA:∀ b:ML,b∉(uS CX P w K mg base N qual scope f cd A outer s H E).ex:=fun b z=>absurd (show b∈([]:List ML)from z) (by simp)
 refine⟨⟨e0.mod,S.kind,rfl,rfl,le_refl _,fun y z c h1 h2=>?_,fun y hy=>?_,fun y c _ h=>?_,fun _=>hd,Around.frames_deeper e0.frames,.inr ⟨rfl,rfl⟩,fun b z=>absurd z (noA b),e0.bs,e0.bsz,fun b _ _=>noA b,fun b z=>absurd z (noA b),e0.funs,e0.frf⟩,
  rfl,e0.bare,Un.kept hk,⟨_,x.toInCall.ns,fun i y v h1 h2 h3=>?_⟩,fun y c h=>⟨_,x.cell y c h⟩,e0.hok.fresh (le_refl _),fun y c h=>?_,fun p hp=>absurd (show p∈([]:List (ML×Obj))from hp) (by simp),e0.hok.kept hk,?_⟩
 ·exact name_of_addr x.apart (PySem.mem_of_lookup h1) (PySem.mem_of_lookup h2)
 ·have hy:scope.names.lookup y=some .cell\/scope.names.lookup y=some .free:=hy;rcases hy with hy|hy
  ·exact zI hy
  ·exact absurd rfl (S.nofree _ (PySem.mem_of_lookup hy))
 ·exact le_of_lt (x.above y c (PySem.mem_of_lookup h))
 ·have hi:i < vs.length:=by
   unfold start at h2
   by_cases hi:i < vs.length
   ·exact hi
   ·rw[List.getElem?_append_right (by simpa using hi)]at h2
    rw[List.getElem?_replicate]at h2;split at h2<;>cases h2
  have ha:vs[i]?=some v:=by
   unfold start at h2;rw[List.getElem?_append_left (by simpa using hi),Nc]at h2
   cases e:vs[i]? with
   | none=>rw[e]at h2;cases h2
   | some a=>rw[e]at h2;cases h2;rfl
  obtain⟨u,hu,rv⟩:=r.get ha;have hp:ps[i]?=some y:=by
   rw[<- S.pre,List.getElem?_take_of_lt (by walk_at "o")];exact h1
  have ndP:ps.Nodup:=by rw[<- S.pre];exact S.nd.sublist (List.take_sublist _ _)
  refine⟨u,rv,?_⟩;rcases S.par y (M6 hp)with k|k
  ·exact .inl ⟨k,vP ndP hp hu k⟩
  ·obtain⟨c,e⟩:=zI (n:=s.heap.objs.size+1) k;refine .inr ⟨.inl k,c,e,?_⟩;have q:=x.cell y c e;rw[vR ndP hp hu (by show scope.names.lookup y≠_;rw[k];decide)]at q
   exact q
 ·exact e0.hok.fresh (le_of_lt (x.above y c (PySem.mem_of_lookup h)))
 ·unfold start;show _=N.length
  rw[Nl,MO,List.length_replicate];omega
theorem ET{CX:Dh}{P:MY}{w:M7}{K:Ps}{mg:Str->Option MI}{base:M5}{k:Nat}{f:ML}{name qual:Str}{params:Arguments}{body:List Ng}{scope:O9}{dV kV doc pm cdv ct oc:MI}{an od:Option ML}
  {osl:Array (Option MI)} {N ps:List Str} {sp:Sp} (lk:K.lookup f=some ⟨oc,od,.func (So name qual params body scope dV kV doc pm an cdv ct),osl⟩) (hcd:RJ K cdv qual=true) (S:FnScope N ps scope)
  (len:∀ vs H Q E,sp vs H Q E->vs.length=ps.length)
  (SU:∀ (A:M3) (outer:List Env) (s:MK) (H:Hp) (vs:List V) (Q:VK) (E:XK),Room k (A.deeper (O8 qual scope s.heap.objs.size f cdv))->sp vs H Q E->
   ∃ t,je (uS CX P w K mg base N qual scope f cdv A outer s H E) body t/\t { nx:=fun _ H'=>Q .non H',rt:=Q } (start N vs) H):
  FnOk P w K mg base CX (k+1) f (So name qual params body scope dV kV doc pm an cdv ct) ps sp:=by
 refine⟨len,fun A outer s H args us vs Q E hr e0 hb r hsp=>?_⟩;have hl:=len _ _ _ _ hsp;have KX:K.In s.heap:=e0.mod.kin.keeps fun b o e=>(e0.bs b o e).1;have lim:s.heap.NoLimit:=e0.mod.nolimit.keeps fun b o e=>(e0.bs b o e).1;have T8:∀ y∈ps.zip us,scope.names.lookup y.1=some .local\/(scope.names.lookup y.1=some .cell/\((cellsFrom (s.heap.objs.size+1) scope.names []).lookup y.1).isSome=true):=fun⟨n,v⟩ hy=>by
  rcases S.par n (List.of_mem_zip hy).1 with q|q
  ·exact .inl q
  ·exact .inr ⟨q,PySem.W.cellsFrom_some _ _ _ (.inl q)⟩
 refine codeAny_call_function hr.depth (KX _ _ lk) rfl S.co S.gen rfl (PySem.W.codeRec_of KX hcd) (hb _ _ _ _ ?_);refine wpAny_newFunctionEnv_cells S.kind T8 fun env he s1 x=>?_;subst he;refine⟨lim.keeps x.toInCall.keep,codeAny_func ?_⟩;obtain⟨t,ht,hq⟩:=SU A outer s H vs Q E (hr.deeper _) hsp;have I:Inv (uS CX P w K mg base N qual scope f cdv A outer s H E) [] (start N vs) H s1:=CH S hr.hd e0 hl r x;refine Nh (ht [] s1 (start N vs) H _ I hq) (fun fl s' hs=>?_) fun e s' hs=>hs;have fin:∀ {σ':St} {H':Hp} {v:V} {u:MI},Inv (uS CX P w K mg base N qual scope f cdv A outer s H E) [] σ' H' s'->aD v u->Q v H'->CE outer P w H s Q u s':=
  fun {σ' H' v u} J rv q=>⟨v,H',J.os,J.bare,J.base,J.hok,rv,q⟩
 cases fl with
 | ret u=>
  obtain⟨v,σ',H',J,rv,q⟩:=hs;exact fin J rv q
 | next=>
  obtain⟨σ',H',J,q⟩:=hs;exact fin (v:=V.non) (u:=Value.none) J rfl q
 | brk=>
  obtain⟨_,_,_,q⟩:=hs;exact False.elim q
 | cont=>
  obtain⟨_,_,_,q⟩:=hs;exact False.elim q
section
variable{X:Cx}{x:Str}{p pos:Pos}{e:M9}{es:List M9}{t:TA}{id T:String}{r:List V->Hp->VK->Prop}
def LA(r:List V->Hp->VK->Prop)(t:TA):TE:=fun σ H Q=>t σ H fun vs H1=>r vs H1 Q
theorem Eh(hc:eF X (.builtin id) r)(hg:Gl X x)(hm:X.mg x=none)(hv:N3 x=some (.builtin id))(ha:PA X (e::es) t)(hn:x≠"__name__":=by decide)(hdb:(x == ("__debug__":Str))=false:=by decide)(he:MU (e::es) X.env=(false,eval e X.env)::MU es X.env:=by rfl)(hpl:(NS pos (MU es X.env)).any (·.1)=false:=by rfl):PE X (.Call (.Name x p) (e::es) [] pos) (LA r t):=by
 intro pins s σ H Q I h;refine NY (g_ I hg hm hv ?_ hn hdb);exact PyProof.Rows.callWith_builtin1 (bZ (ha pos pins s σ H _ I h) fun us s1 ⟨vs,H1,I1,r1,q1⟩=>hc pins s1 σ H1 vs us Q I1 r1 q1) he hpl
theorem Cn(hc:eF X (.type T) r)(hg:Gl X x)(hm:X.mg x=none)(hv:N3 x=some (.type T))(ha:PA X (e::es) t)(hn:x≠"__name__":=by decide)(hdb:(x == ("__debug__":Str))=false:=by decide)(he:MU (e::es) X.env=(false,eval e X.env)::MU es X.env:=by rfl)(hpl:(NS pos (MU es X.env)).any (·.1)=false:=by rfl):PE X (.Call (.Name x p) (e::es) [] pos) (LA r t):=by
 intro pins s σ H Q I h;refine NY (g_ I hg hm hv ?_ hn hdb);exact PyProof.Rows.callWith_type1 (bZ (ha pos pins s σ H _ I h) fun us s1 ⟨vs,H1,I1,r1,q1⟩=>hc pins s1 σ H1 vs us Q I1 r1 q1) he hpl
end
end L2
namespace HT
open PySem PyProof.Rows
section
open PySem.SeqAt
open PySem.AutoSeq1 (wpAny_loadPart')
open PySem.MeetsSeq PySem.MeetsSeq2 PySem.MeetsSeq3
end
section
variable{prog:MY}{w:M7}{A:M3}{E:MI->MK->Prop}{s:MK}
theorem cat_tup(ht:IsTup s.heap t vs.toArray)(hb:IsTup s.heap b ws.toArray)(hv:vs≠[])(h1:ws=[]->Q (.ref t) s)(h2:ws≠[]->Q (.ref s.heap.objs.size) { s with heap:=s.heap.push { cls:=.type "tuple",data:=.seq (vs ++ ws).toArray } })(hsz:vs.length+ws.length<=MT):MP (MR prog w) A (N6 .Add (.ref t) (.ref b)) Q E s:=by
 obtain⟨⟨cls,dd,data,sl⟩,ho,hc,n,hd⟩:=id ht;obtain⟨⟨cls2,dd2,data2,sl2⟩,ho2,hc2,n2,hd2⟩:=id hb;simp only at hc hd hc2 hd2;subst hc hd hc2 hd2;have e:vs.toArray ++ ws.toArray=(vs ++ ws).toArray:=by simp
 by_cases hw:ws=[]
 ·exact RI ⟨_,ho,rfl⟩ ⟨_,ho2,rfl⟩ noFill_tuple_add seq_tuple_add PySem.F.slot_tuple_add PySem.F.entry_tuple_add (PySem.F.args_tuple_add_2 _ _)
   (tuple_addW1 t b vs.toArray ws.toArray n n2 dd dd2 sl sl2 (by simpa using hv) (by simp[hw])) ⟨ho,ho2,h1 hw⟩
 ·refine RI ⟨_,ho,rfl⟩ ⟨_,ho2,rfl⟩ noFill_tuple_add seq_tuple_add PySem.F.slot_tuple_add PySem.F.entry_tuple_add (PySem.F.args_tuple_add_2 _ _)
   (tuple_addW2 t b vs.toArray ws.toArray n n2 dd dd2 sl sl2 (by simpa using hv) (by simpa using hw) (by rw[MV,MV];exact hsz)) ⟨ho,ho2,?_⟩
  rw[e];exact h2 hw
def sIx(n d:Nat):Option Int->Nat
 | none=>d
 | some v=>if v < 0 then (v+(n:Int)).toNat else min v.toNat n
theorem sIx_le(n d:Nat)(hd:d<=n)(o:Option Int):sIx n d o<=n:=by
 cases o with
 | none=>exact hd
 | some v=>
  show (if v < 0 then (v+(n:Int)).toNat else min v.toNat n)<=n
  by_cases hv:v < 0
  ·rw[if_pos hv];omega
  ·rw[if_neg hv];exact Nat.min_le_right _ _
theorem BO(v:Int)(n d:Nat):(if v < 0 then max (v+(n:Int)) 0 else min v (n:Int))=((sIx n d (some v):Nat):Int):=by
 show (if v < 0 then max (v+(n:Int)) 0 else min v (n:Int))=(((if v < 0 then (v+(n:Int)).toNat else min v.toNat n):Nat):Int)
 by_cases hv:v < 0
 ·simp only[if_pos hv];omega
 ·simp only[if_neg hv];omega
theorem Ba(lo hi:Option Int)(n:Nat):PF lo hi 1 (n:Int)=(((sIx n 0 lo:Nat):Int),((sIx n n hi:Nat):Int)):=by
 have h1:¬ ((1:Int) < 0):=by walk_at "o"
 unfold PF;simp only[h1,if_false];refine Prod.ext ?_ ?_
 ·cases lo with
  | none=>rfl
  | some v=>exact BO v n 0
 ·cases hi with
  | none=>rfl
  | some v=>exact BO v n n
theorem AB(i j:Nat):OR (i:Int) (j:Int) 1=j - i:=by
 unfold OR;have h1:(1:Int) > 0:=by walk_at "o"
 simp only[h1,if_true,Int.ediv_one];split<;>omega
theorem rO(p:Qz v o)(h:Q o s):MP (MR prog w) A (Builtin.Slice.slicePartIndex v) Q E s:=by
 cases p with
 | none=>exact slicePart_none h
 | int i t=>exact slicePart_int h
theorem o6{sl:ML}{vl vu:MI}{lo hi:Option Int}{n:Nat}{Q:Int×Int×Nat->MK->Prop}(hs:s.heap.IsSliceOf sl vl vu .none)(pl:Qz vl lo)(pu:Qz vu hi)
  (h:Q (((sIx n 0 lo:Nat):Int),1,sIx n n hi - sIx n 0 lo) s):MP (MR prog w) A (Rf (.ref sl) (pure (n:Int))) Q E s:=by
 obtain⟨os,hos,hcs,hds⟩:=id hs;unfold Rf Builtin.Slice.sliceFields;refine MH (MH (Nw hos hds (x:=vl) rfl (MH (Nw hos hds (x:=vu) rfl (MH (Nw hos hds (x:=.none) rfl (MJ ?_)))))));refine MH (slicePart_none ?_);show MP _ _ (if ((1:Int) == 0)=true then _ else _) _ _ s
 rw[if_neg (by decide)]
 refine MH (rO pl (MH (rO pu (MH (MJ ?_)))));show MP _ _ (match PF lo hi 1 (n:Int) with|(lo,hi)=>pure (lo,(1:Int),OR lo hi 1)) _ _ s
 rw[Ba lo hi n];show MP _ _ (pure (((sIx n 0 lo:Nat):Int),(1:Int),OR ((sIx n 0 lo:Nat):Int) ((sIx n n hi:Nat):Int) 1)) _ _ s
 rw[AB];exact MJ h
theorem Ea(xs:Array MI)(i k:Nat):((List.range k).filterMap fun (m:Nat)=>xs[((i:Int)+(m:Int)*1).toNat]?).toArray=((xs.toList.drop i).take k).toArray:=by
 have e:(fun (m:Nat)=>xs[((i:Int)+(m:Int)*1).toNat]?)=fun m=>xs[i+m]?:=by
  funext m;have:((i:Int)+(m:Int)*1).toNat=i+m:=by walk_at "o"
  rw[this]
 rw[e];have:=pick_run xs i k;rw[List.filterMap_map]at this;have e2:((fun x=>xs[x]?) ∘ fun x=>i+x)=fun m=>xs[i+m]?:=rfl;rw[e2]at this;rw[this]
theorem getItem_tuple_cut{t sl:ML}{items:Array MI}{vl vu:MI}{lo hi:Option Int}{Q:MI->MK->Prop}(ht:IsTup s.heap t items)(hs:s.heap.IsSliceOf sl vl vu .none)(pl:Qz vl lo)(pu:Qz vu hi)
  (hw:¬ (sIx items.size 0 lo=0/\sIx items.size items.size hi=items.size))
  (h:Q (.ref s.heap.objs.size) { s with heap:=s.heap.push { cls:=.type "tuple",data:=.seq ((items.toList.drop (sIx items.size 0 lo)).take (sIx items.size items.size hi - sIx items.size 0 lo)).toArray } })
  (hsz:items.size<=MT):MP (MR prog w) A (P4 (.ref t) (.ref sl)) Q E s:=by
 have S9:sizeOk (.seq ((items.toList.drop (sIx items.size 0 lo)).take (sIx items.size items.size hi - sIx items.size 0 lo)).toArray):=by
  show ((items.toList.drop (sIx items.size 0 lo)).take (sIx items.size items.size hi - sIx items.size 0 lo)).toArray.size<=MT
  rw[MV,NV,Pn,Array.length_toList];omega
 have hj:sIx items.size items.size hi<=items.size:=sIx_le _ _ (le_refl _) hi;obtain⟨os,hos,hcs,hds⟩:=id hs;have hTs:s.TypeIs (.ref sl) "slice":=⟨os,hos,hcs⟩;unfold P4
 try with_reducible refine Nf ?_
 first|refine MH (MJ ?_)|skip
 refine MH (wpAny_sequenceKey ht.typeIs (by decide) ?_)
 refine MH (Nz (name:=MN "__getitem__") ht.typeIs PyProof.Rows.slot_tuple_getitem
  (Ny PyProof.Rows.slot_tuple_getitem ht.typeIs entry_tuple_getitem ?_ (args_tuple_getitem _ _)))
 show MP _ _ (Builtin.Tuple.tupleItemsOf (.ref t) >>= _) _ _ s
 refine MH (tupleItemsOf_ ht ?_);refine MH (PV hTs ?_);rw[if_pos (by decide)]
 refine MH (o6 hs pl pu ?_);have hno:¬ ((((sIx items.size 0 lo:Nat):Int) == 0 && (1:Int) == 1 && (sIx items.size items.size hi - sIx items.size 0 lo) == items.size)=true):=by
  intro q;rw[Bool.and_eq_true,Bool.and_eq_true]at q;have q1:((sIx items.size 0 lo:Nat):Int)=0:=eq_of_beq q.1.1;have q2:sIx items.size items.size hi - sIx items.size 0 lo=items.size:=eq_of_beq q.2;exact hw ⟨by walk_at "o",by walk_at "o"⟩
 show MP _ _ (if (((sIx items.size 0 lo:Nat):Int) == 0 && (1:Int) == 1 && (sIx items.size items.size hi - sIx items.size 0 lo) == items.size)=true then _ else _) _ _ s
 rw[if_neg hno,Ea]
 first
  | exact MH (m:=OX _) (Nd (MJ ⟨_,rfl,MJ h⟩) S9)
  | exact MH (m:=OX _) (Nd (MH (MJ (MJ ⟨_,rfl,MJ h⟩))) S9)
  | exact MH (MH (m:=OX _) (Nd (MJ (MJ ⟨_,rfl,MJ h⟩)) S9))
  | exact MH (MH (m:=OX _) (Nd (MJ ⟨_,rfl,MJ h⟩) S9))
end
end HT
namespace L2
open PySem PySem.Spec PyProof.Rows
abbrev TO:=St->Hp->(Option Int->Hp->Prop)->Prop
def PO(X:Cx)(e:Option M9)(t:TO):Prop:=
 ∀ (pins:List (ML×Obj)) (s:MK) (σ:St) (H:Hp) (Q:Option Int->Hp->Prop),Inv X pins σ H s->t σ H Q->
  MP (MR X.prog X.w) X.A (evalPart e X.env) (fun u s'=>∃ o H',Inv X pins σ H' s'/\Qz u o/\Q o H') X.xe s
def Fy:TO:=fun _ H Q=>Q none H
def JN(t:TE):TO:=fun σ H Q=>t σ H fun x H1=>∃ i,x=.int i/\Q (some i) H1
section
variable{X:Cx}{e:M9}{te:TE}{lo hi:Option M9}{tl th:TO}{pos p2:Pos}
theorem FW:PO X none Fy:=by
 intro pins s σ H Q I h;rw[evalPart_none];exact MJ ⟨none,H,I,.none,h⟩
theorem FV(h:PE X e te):PO X (some e) (JN te):=by
 intro pins s σ H Q I hw;rw[evalPart_some];refine bZ (h pins s σ H _ I hw) fun u s1 zz=>?_;obtain⟨x,H1,I1,r1,q1⟩:=zz;obtain⟨i,rfl,q⟩:=q1;obtain⟨t,rfl⟩:=r1;exact⟨some i,H1,I1,.int i t,q⟩
def C0(X:Cx)(r:V->Option Int->Option Int->Hp->VK->Prop):Prop:=
 ∀ (pins:List (ML×Obj)) (s:MK) (σ:St) (H:Hp) (x:V) (v vl vu:MI) (lo hi:Option Int) (sl:ML) (Q:VK),Inv X pins σ H s->aD x v->s.heap.IsSliceOf sl vl vu .none->Qz vl lo->Qz vu hi->r x lo hi H Q->
  ∃ T id,PZ (.type T) "__getitem__"=pure (some (.builtin id))/\s.TypeIs v T/\MP (MR X.prog X.w) X.A (P4 v (.ref sl)) (EP X pins σ Q) X.xe s
theorem C0.or(h:C0 X r)(h':C0 X r'):C0 X (fun x lo hi H Q=>r x lo hi H Q\/r' x lo hi H Q):=by
 intro pins s σ H x v vl vu lo hi sl Q I rx hs pl pu q;rcases q with q|q
 ·exact h pins s σ H x v vl vu lo hi sl Q I rx hs pl pu q
 ·exact h' pins s σ H x v vl vu lo hi sl Q I rx hs pl pu q
def Mn(r:V->Option Int->Option Int->Hp->VK->Prop)(te:TE)(tl th:TO):TE:=fun σ H Q=>te σ H fun x H1=>tl σ H1 fun l H2=>th σ H2 fun u H3=>r x l u H3 Q
theorem Ed(hr:C0 X r)(he:PE X e te)(hl:PO X lo tl)(hu:PO X hi th):PE X (.Subscript e (.Slice lo hi none p2) pos) (Mn r te tl th):=by
 intro pins s σ H Q I h;refine Sv (bZ (he pins s σ H _ I h) fun v s1 zz=>?_);obtain⟨x,H1,I1,r1,q1⟩:=zz;refine wpAny_Slice (bZ (hl pins s1 σ H1 _ I1 q1) fun vl s2 zz=>?_);obtain⟨l,H2,I2,pl,q2⟩:=zz;refine bZ (hu pins s2 σ H2 _ I2 q2) fun vu s3 zz=>?_;obtain⟨u,H3,I3,pu,q3⟩:=zz;rw[evalPart_none];refine MJ ?_;have I4:Inv X pins σ H3 { s3 with heap:=s3.heap.push { cls:=.type "slice",data:=.fields #[vl,vu,.none] } }:=I3.kept (t':=s3.toks) fun b ob q=>MM _ q
 obtain⟨T,id,hT,ht,hg⟩:=hr pins { s3 with heap:=s3.heap.push { cls:=.type "slice",data:=.fields #[vl,vu,.none] } } σ H3 x v vl vu l u s3.heap.objs.size Q I4 r1 (Heap.IsSliceOf.new ..) pl pu q3
 show MP (MR X.prog X.w) X.A (Ri e (.Slice lo hi none p2) v (.ref s3.heap.objs.size)) (EP X pins σ Q) X.xe { s3 with heap:=s3.heap.push { cls:=.type "slice",data:=.fields #[vl,vu,.none] } }
 exact tail_any (ops:=[.ref s3.heap.objs.size,v]) ht hT hg (by with_unfolding_all rfl)
def zC(xs:List V)(lo hi:Option Int):List V:=(xs.drop (HT.sIx xs.length 0 lo)).take (HT.sIx xs.length xs.length hi - HT.sIx xs.length 0 lo)
theorem qD(xs:List V)(lo hi:Option Int):(zC xs lo hi).length<=xs.length:=by
 unfold zC;rw[NV,Pn];omega
def LG(K:Ps):V->Option Int->Option Int->Hp->VK->Prop:=fun x lo hi H Q=>∃ a xs,x=.ref a/\jO K H a xs/\
 ¬ (HT.sIx xs.length 0 lo=0/\HT.sIx xs.length xs.length hi=xs.length)/\∀ p,H p=none->Q (.ref p) (aS H p (.tup (zC xs lo hi)))
theorem HY:C0 X (LG X.K):=by
 intro pins s σ H x v vl vu lo hi sl Q I rx hs pl pu h;obtain⟨a,xs,rfl,hx,hw,q⟩:=h;cases rx;obtain⟨its,r,ht,hz⟩:=I.tuple hx;have hlen:its.toArray.size=xs.length:=by rw[MV];exact r.length.symm
 refine⟨"tuple",_,PyProof.Rows.slot_tuple_getitem.lookup,ht.typeIs,?_⟩;refine HT.getItem_tuple_cut ht hs pl pu (by rw[hlen];exact hw) ?_ (by rw[hlen];exact hz)
 rw[hlen];refine⟨.ref s.heap.objs.size,_,I.laid (t':=s.toks) (o:=.tup (zC xs lo hi)) (fun b ob q=>MM _ q) (le_refl _) ?_,rfl,q _ (I.hok.fresh (le_refl _))⟩;exact⟨le_trans (qD xs lo hi) hz,_,(r.drop (HT.sIx xs.length 0 lo)).take (HT.sIx xs.length xs.length hi - HT.sIx xs.length 0 lo),tZ.new _ _⟩
def J4(K:Ps):R2:=fun x y H Q=>∃ a b xs ys,x=.ref a/\y=.ref b/\jO K H a xs/\jO K H b ys/\xs≠[]/\xs.length+ys.length<=MT/\
 (ys=[]->Q (.ref a) H)/\(ys≠[]->∀ p,H p=none->Q (.ref p) (aS H p (.tup (xs ++ ys))))
theorem Vals.nil_iff(r:Vals xs us):us=[]↔xs=[]:=by
 cases r with
 | nil=>simp
 | cons _ _=>simp
theorem Gc:gL X (N6 .Add) (J4 X.K):=by
 intro pins s σ H x y v u Q I rx ry h;obtain⟨a,b,xs,ys,rfl,rfl,ha,hb,hx,hz,q1,q2⟩:=h;cases rx;cases ry;obtain⟨its,r1,p1,_⟩:=I.tuple ha;obtain⟨its2,r2,p2,_⟩:=I.tuple hb;refine HT.cat_tup p1 p2 (fun z=>hx (r1.nil_iff.mp z)) (fun z=>⟨.ref a,H,I,rfl,q1 (r2.nil_iff.mp z)⟩) (fun z=>?_) (by rw[<- r1.length,<- r2.length];exact hz)
 refine⟨.ref s.heap.objs.size,_,I.laid (t':=s.toks) (o:=.tup (xs ++ ys)) (fun b ob q=>MM _ q) (le_refl _) ?_,rfl,q2 (fun w=>z (r2.nil_iff.mpr w)) _ (I.hok.fresh (le_refl _))⟩;exact⟨by rw[Nl];exact hz,_,r1.append r2,tZ.new _ _⟩
end
def HB(n:Nat)(i:Int):Option Nat:=if 0<=i then (if i < n then some i.toNat else none)else if -(n:Int)<=i then some (i+n).toNat else none
def mX{α:Type}(xs:List α)(i:Int):Option α:=(HB xs.length i).bind fun j=>xs[j]?
theorem BH(h:HB n i=some j):seqIndex? i n=some j/\j < n/\-(n:Int)<=i/\i < n:=by
 unfold HB at h
 by_cases h0:0<=i
 ·rw[if_pos h0]at h
  by_cases h1:i < n
  ·rw[if_pos h1]at h;have e:i.toNat=j:=Option.some.inj h;exact⟨by rw[RX h0 h1,e],by walk_at "o",by walk_at "o",h1⟩
  ·rw[if_neg h1]at h;cases h
 ·rw[if_neg h0]at h
  by_cases h1:-(n:Int)<=i
  ·rw[if_pos h1]at h;have e:(i+n).toNat=j:=Option.some.inj h;exact⟨by rw[seqIndex_neg (by walk_at "o") h1,e],by walk_at "o",h1,by walk_at "o"⟩
  ·rw[if_neg h1]at h;cases h
theorem xA{α:Type}{xs:List α}{i:Int}{v:α}(h:mX xs i=some v):∃ j,seqIndex? i xs.length=some j/\xs[j]?=some v/\j < xs.length/\-(xs.length:Int)<=i/\i < xs.length:=by
 unfold mX at h;cases e:HB xs.length i with
 | none=>rw[e]at h;cases h
 | some j=>
  rw[e]at h;obtain⟨h1,h2,h3,h4⟩:=BH e;exact⟨j,h1,h,h2,h3,h4⟩
def BX(b:M9):Prop:=∀ o i,QR b false o i=operate [o,i] (P4 o i)
def C_(X:Cx)(r:R2):Prop:=
 ∀ (value slice:M9) (pins:List (ML×Obj)) (s:MK) (σ:St) (H:Hp) (x y:V) (v u:MI) (Q:VK),Inv X pins σ H s->aD x v->aD y u->r x y H Q->
  QR slice false v u=operate [v,u] (P4 v u)->MP (MR X.prog X.w) X.A (Ri value slice v u) (EP X pins σ Q) X.xe s
def MC(X:Cx)(id:String)(r:V->List V->Hp->VK->Prop):Prop:=
 ∀ (pins:List (ML×Obj)) (s:MK) (σ:St) (H:Hp) (x:V) (xs:List V) (v:MI) (us:List MI) (Q:VK),Inv X pins σ H s->aD x v->Vals xs us->r x xs H Q->
  MP (MR X.prog X.w) X.A (call (.builtin id) (v::us)) (EP X pins σ Q) X.xe s
section
variable{X:Cx}{a b:M9}{ta tb:TE}{pos:Pos}
theorem C_.or(h:C_ X r)(h':C_ X r'):C_ X (fun x y H Q=>r x y H Q\/r' x y H Q):=by
 intro value slice pins s σ H x y v u Q I rx ry q hs;rcases q with q|q
 ·exact h value slice pins s σ H x y v u Q I rx ry q hs
 ·exact h' value slice pins s σ H x y v u Q I rx ry q hs
theorem Kb(hr:C_ X r)(ha:PE X a ta)(hb:PE X b tb)(hs:BX b):PE X (.Subscript a b pos) (JO r ta tb):=by
 intro pins s σ H Q I h;exact Sv (KI ha hb I h fun v u s2 x y H2 I2 rx ry q=>hr a b pins s2 σ H2 x y v u Q I2 rx ry q (hs _ _))
def J3(K:Ps):R2:=fun x y H Q=>∃ p xs i v,x=.ref p/\y=.int i/\jP K H p xs/\mX xs i=some v/\Q v H
def J0(K:Ps):R2:=fun x y H Q=>∃ p xs i v,x=.ref p/\y=.int i/\jO K H p xs/\mX xs i=some v/\Q v H
def J1:R2:=fun x y H Q=>∃ z i c,x=.str z/\y=.int i/\z.length<=MT/\mX z.cps.toList i=some c/\Q (.str ⟨#[c]⟩) H
theorem Gv:C_ X (J3 X.K):=by
 intro value slice pins s σ H x y v u Q I rx ry h hs;obtain⟨p,xs,i,z,rfl,rfl,hq,he,q⟩:=h;cases rx;obtain⟨t,rfl⟩:=ry;obtain⟨its,r,pl,hz⟩:=I.list hq;obtain⟨j,h1,h2,h3,h4,h5⟩:=xA he;obtain⟨w,ew,rw'⟩:=r.get h2;have hl:=r.length;have hn:=kQ;have fin:EP X pins σ Q w s:=⟨z,H,I,rw',q⟩
 by_cases h0:0<=i
 ·have hj:i.toNat=j:=by
   rw[RX h0 h5]at h1;exact Option.some.inj h1
  exact item_listR pl.isList h0 (by walk_at "o") (by rw[hj];simpa using ew) fin hs
 ·have hj:(i+(its.toArray.size:Int)).toNat=j:=by
   rw[seqIndex_neg (by walk_at "o") h4]at h1
   rw[MV,<- hl];exact Option.some.inj h1
  exact Ry (x:=w) pl.isList.typeIs slot_list_getitem.lookup
   (wpAny_getItem_list_neg (Q:=fun r s'=>r=w/\EP X pins σ Q r s') pl.isList (by walk_at "o") (by rw[MV]<;>omega) (by walk_at "o") (by rw[hj];simpa using ew) ⟨rfl,fin⟩) hs
theorem IY:C_ X (J0 X.K):=by
 intro value slice pins s σ H x y v u Q I rx ry h hs;obtain⟨p,xs,i,z,rfl,rfl,hq,he,q⟩:=h;cases rx;obtain⟨t,rfl⟩:=ry;obtain⟨its,r,pl,hz⟩:=I.tuple hq;obtain⟨j,h1,h2,h3,h4,h5⟩:=xA he;obtain⟨w,ew,rw'⟩:=r.get h2;have hl:=r.length;have hn:=kQ;have fin:EP X pins σ Q w s:=⟨z,H,I,rw',q⟩;exact Ry (x:=w) pl.typeIs slot_tuple_getitem.lookup
  (getItem_tuple (j:=j) (Q:=fun r s'=>r=w/\EP X pins σ Q r s') pl (by walk_at "o") (by walk_at "o") (by rw[MV,<- hl];exact h1) (by simpa using ew) ⟨rfl,fin⟩) hs
theorem IZ:C_ X J1:=by
 intro value slice pins s σ H x y v u Q I rx ry h hs;obtain⟨z,i,c,rfl,rfl,hz,he,q⟩:=h;obtain⟨t,rfl⟩:=rx;obtain⟨t',rfl⟩:=ry;obtain⟨j,h1,h2,h3,h4,h5⟩:=xA he;have hl:z.cps.toList.length=z.length:=by simp[Qy]
 rw[hl]at h1 h4 h5;have hn:=kQ;exact tail_any (Sh s z t) slot_str_getitem.lookup (getItem_str (c:=c) (by
  have e1:decide (i < -(2 ^ 63:Int))=false:=decide_eq_false (by walk_at "o")
  have e2:decide (i>=2 ^ 63)=false:=decide_eq_false (by walk_at "o")
  rw[e1,e2,Bool.or_false]) (by rw[h1];simpa using h2) ⟨.str ⟨#[c]⟩,H,I.tok _,⟨_,rfl⟩,q⟩) hs
def Ms(K:Ps):R2:=fun x y H Q=>J3 K x y H Q\/J0 K x y H Q\/J1 x y H Q
theorem I_:C_ X (Ms X.K):=Gv.or (IY.or IZ)
theorem AL(its:List MI)(n j:Nat)(u:MI):NB (·.setIfInBounds j u) { cls:=.type "list",data:=.seq its.toArray n }={ cls:=.type "list",data:=.seq (its.set j u).toArray n }:=by
 simp[NB]
theorem Inv.lst{pins:List (ML×Obj)}{σ:St}{H:Hp}{s:MK}{p:ML}{xs:List V}(I:Inv X pins σ H s)(h:H p=some (.lst xs)):
  ∃ (its:List MI) (n:Nat),Vals xs its/\s.heap.get? p=some { cls:=.type "list",data:=.seq its.toArray n }/\xs.length<=MT:=by
 obtain⟨z,its,n,r,e⟩:=I.hok p _ h;exact⟨its,n,r,e,z⟩
theorem Inv.lstUpd{pins:List (ML×Obj)}{σ:St}{H:Hp}{s:MK}{p:ML}{xs ys:List V}{its its':List MI}{n n':Nat}{f:Obj->Obj}(I:Inv X pins σ H s)(h:H p=some (.lst xs))
  (ho:s.heap.get? p=some { cls:=.type "list",data:=.seq its.toArray n }) (hf:f { cls:=.type "list",data:=.seq its.toArray n }={ cls:=.type "list",data:=.seq its'.toArray n' }) (r:Vals ys its') (hz:ys.length<=MT) (t:Nat):
  Inv X pins σ (aS H p (.lst ys)) { s with heap:=s.heap.update p f,toks:=t }:=by
 have e:(s.heap.update p f).get? p=some { cls:=.type "list",data:=.seq its'.toArray n' }:=by
  rw[Nx f ho (by rw[hf]<;>rfl),hf]
 refine I.write (x:=p) (e:=p) (by rw[h];trivial) (.inl rfl) (fun b u hb q=>(M_ _ _ (Ne.symm hb)).trans q) ⟨_,e⟩ ?_
 exact⟨hz,its',n',r,e⟩
def JZ:V->V->V->Hp->(Hp->Prop)->Prop:=fun o i v H Q=>∃ p xs k j,o=.ref p/\i=.int k/\H p=some (.lst xs)/\HB xs.length k=some j/\Q (aS H p (.lst (xs.set j v)))
theorem DC:JE X JZ:=by
 intro pins s σ H o i v ov iv u Q I ro ri rv h;obtain⟨p,xs,k,j,rfl,rfl,hp,hj,q⟩:=h;cases ro;obtain⟨t,rfl⟩:=ri;obtain⟨its,n,r,ho,hz⟩:=I.lst hp;obtain⟨h1,h2,h3,h4⟩:=BH hj;have hl:=r.length;have hn:=kQ;have I':Inv X pins σ (aS H p (.lst (xs.set j v))) { s with heap:=s.heap.update p (NB (·.setIfInBounds j u)) }:=
  I.lstUpd hp ho (AL its n j u) (r.set rv j) (by rw[List.length_set];exact hz) s.toks
 by_cases h0:0<=k
 ·have hk:k.toNat=j:=by
   rw[RX h0 h4]at h1;exact Option.some.inj h1
  exact PySem.W.ki_setAt ho h0 (by walk_at "o") (by rw[MV,<- hl];exact h4) (by rw[hk];exact⟨_,I',q⟩)
 ·have hk:(k+(its.toArray.size:Int)).toNat=j:=by
   rw[seqIndex_neg (by walk_at "o") h3]at h1
   rw[MV,<- hl];exact Option.some.inj h1
  exact PySem.W.ki_setBack ho (by walk_at "o") (by rw[MV,<- hl];exact h3) (by walk_at "o") (by rw[hk];exact⟨_,I',q⟩)
theorem v7(lo hi:Option Int)(n:Nat):(Oz lo hi none n).1=((HT.sIx n 0 lo:Nat):Int)/\(Oz lo hi none n).2.1=((HT.sIx n n hi:Nat):Int)/\(Oz lo hi none n).2.2=1:=by
 refine⟨?_,?_,rfl⟩
 ·cases lo with
  | none=>simp[Oz,HT.sIx]
  | some i=>
   simp only[Oz,HT.sIx,Option.getD_none,show (1:Int) > 0 by decide,if_true]
   by_cases h:i < 0
   ·simp only[h,if_true]<;>omega
   ·simp only[h,if_false]<;>omega
 ·cases hi with
  | none=>simp[Oz,HT.sIx]
  | some i=>
   simp only[Oz,HT.sIx,Option.getD_none,show (1:Int) > 0 by decide,if_true]
   by_cases h:i < 0
   ·simp only[h,if_true]<;>omega
   ·simp only[h,if_false]<;>omega
theorem ul(its:List MI)(lo hi:Option Int):slicePick its.toArray lo hi none=((its.drop (HT.sIx its.length 0 lo)).take (HT.sIx its.length its.length hi - HT.sIx its.length 0 lo)).toArray:=by
 obtain⟨h1,h2,h3⟩:=v7 lo hi its.toArray.size;unfold slicePick;rw[h1,h2,h3];simp only[sliceRange_one,pick_run,MV]<;>rfl
def LH(K:Ps):V->Option Int->Option Int->Hp->VK->Prop:=fun x lo hi H Q=>∃ a xs,x=.ref a/\jP K H a xs/\∀ p,H p=none->Q (.ref p) (aS H p (.lst (zC xs lo hi)))
theorem FE:C0 X (LH X.K):=by
 intro pins s σ H x v vl vu lo hi sl Q I rx hs pl pu h;obtain⟨a,xs,rfl,hx,q⟩:=h;cases rx;obtain⟨its,r,ht,hz⟩:=I.list hx;have hlen:=r.length;refine⟨"list",_,slot_list_getitem.lookup,ht.isList.typeIs,?_⟩;refine wpAny_getItem_list_slice ht.isList hs pl pu .none (by simp) ?_ (by rw[MV]<;>omega)
 rw[ul,<- hlen];refine⟨.ref s.heap.objs.size,_,I.laid (t':=s.toks) (o:=.lst (zC xs lo hi)) (fun b ob q=>MM _ q) (le_refl _) ?_,rfl,q _ (I.hok.fresh (le_refl _))⟩;exact⟨le_trans (qD xs lo hi) hz,_,0,(r.drop (HT.sIx xs.length 0 lo)).take (HT.sIx xs.length xs.length hi - HT.sIx xs.length 0 lo),MQ _ rfl⟩
theorem xw:eF X (.builtin "len") (fun xs H Q=>∃ p ys,xs=[.ref p]/\(jP X.K H p ys\/jO X.K H p ys)/\Q (.int ys.length) H):=by
 intro pins s σ H xs us Q I r h;obtain⟨p,ys,rfl,hq,q⟩:=h;obtain⟨u,rfl,rx⟩:=xR r;cases rx;have hn:=kQ;rcases hq with hq|hq
 ·obtain⟨its,r',pl,hz⟩:=I.list hq;have hlen:=r'.length;exact Calls.call_len_list pl.isList (by simp only[MV]<;>omega) ⟨.int ys.length,H,I.tok _,⟨s.toks+1,by rw[MV,hlen]⟩,q⟩
 ·obtain⟨its,r',pl,hz⟩:=I.tuple hq;have hlen:=r'.length;exact len_tuple pl (by simp only[MV]<;>omega) ⟨.int ys.length,H,I.tok _,⟨s.toks+1,by rw[MV,hlen]⟩,q⟩
theorem xv:eF X (.builtin "len") (fun xs H Q=>∃ z,xs=[.str z]/\z.length<=MT/\Q (.int z.length) H):=by
 intro pins s σ H xs us Q I r h;obtain⟨z,rfl,hz,q⟩:=h;obtain⟨u,rfl,t,rfl⟩:=xR r;have hn:=kQ;exact len_str (by walk_at "o") ⟨.int z.length,H,I.tok _,⟨_,rfl⟩,q⟩
theorem eF.or(h:eF X f r)(h':eF X f r'):eF X f (fun xs H Q=>r xs H Q\/r' xs H Q):=by
 intro pins s σ H xs us Q I rs q;rcases q with q|q
 ·exact h pins s σ H xs us Q I rs q
 ·exact h' pins s σ H xs us Q I rs q
theorem xu:eF X (.type "list") (fun xs H Q=>∃ p ys,xs=[.ref p]/\(jP X.K H p ys\/jO X.K H p ys)/\∀ l,H l=none->Q (.ref l) (aS H l (.lst ys))):=by
 intro pins s σ H xs us Q I r h;obtain⟨p,ys,rfl,hq,q⟩:=h;obtain⟨u,rfl,rx⟩:=xR r;cases rx;have fin:∀ (its:List MI),Vals ys its->ys.length<=MT->∀ (h':M5) (c':Nat),(∀ b o',s.heap.get? b=some o'->h'.get? b=some o')->
   h'.get? s.heap.objs.size=some { cls:=.type "list",dict:=none,data:=.seq its.toArray c',slots:=#[] }->EP X pins σ Q (.ref s.heap.objs.size) { s with heap:=h' }:=fun its r' hz h' c' kp e=>
  ⟨.ref s.heap.objs.size,_,I.laid (t':=s.toks) kp (le_refl _) (show bC X.prog X.w _ h' _ (.lst ys)from ⟨hz,its,c',r',e⟩),rfl,q _ (I.hok.fresh (le_refl _))⟩
 rcases hq with hq|hq
 ·obtain⟨its,r',pl,hz⟩:=I.list hq;have hlen:=r'.length;obtain⟨o,ho,hc,n,hd⟩:=pl.isList;exact call_list_seq p (.inl rfl) ho hc hd (fun h' c' kp e=>fin its r' hz h' c' kp e) (by simp only[MV]<;>omega)
 ·obtain⟨its,r',pl,hz⟩:=I.tuple hq;have hlen:=r'.length;obtain⟨o,ho,hc,n,hd⟩:=pl;exact call_list_seq p (.inr rfl) ho hc hd (fun h' c' kp e=>fin its r' hz h' c' kp e) (by simp only[MV]<;>omega)
theorem uT:eF X (.type "tuple") (fun xs H Q=>∃ p ys,xs=[.ref p]/\((jP X.K H p ys/\∀ l,H l=none->Q (.ref l) (aS H l (.tup ys)))\/(jO X.K H p ys/\Q (.ref p) H))):=by
 intro pins s σ H xs us Q I r h;obtain⟨p,ys,rfl,h⟩:=h;obtain⟨u,rfl,rx⟩:=xR r;cases rx;rcases h with ⟨hq,q⟩|⟨hq,q⟩
 ·obtain⟨its,r',pl,hz⟩:=I.list hq;have hlen:=r'.length;refine call_tuple_list pl.isList (fun h' kp=>?_) (by simp only[MV]<;>omega)
  have I1:Inv X pins σ H { s with heap:=h' }:=I.kept (t':=s.toks) kp
  have I2:Inv X pins σ (aS H h'.objs.size (.tup ys)) { s with heap:=h'.push { cls:=.type "tuple",data:=.seq its.toArray } }:=
   I1.laid (t':=s.toks) (fun b o e=>MM _ e) (le_refl _) (show bC X.prog X.w _ _ _ (.tup ys)from ⟨hz,its,r',tZ.new _ _⟩)
  exact⟨.ref h'.objs.size,_,I2,rfl,q _ (I1.hok.fresh (le_refl _))⟩
 ·obtain⟨its,r',pl,hz⟩:=I.tuple hq;exact call_tuple_same pl ⟨.ref p,H,I,rfl,q⟩
def Mi(K:Ps)(T:String)(x:V)(H:Hp):Prop:=match x with
 | .str _=>T="str"
 | .int _=>T="int"
 | .ref p=>(T="list"/\∃ xs,jP K H p xs)\/(T="tuple"/\∃ o,K.lookup p=some o/\o.cls=.type "tuple"/\o.dict=none)\/
   (T="dict"/\((∃ kvs,H p=some (.dK kvs))\/∃ kvs,H p=some (.dT kvs)))\/(T="set"/\∃ S n,H p=some (.set S n))
 | _=>False
theorem HP{pins:List (ML×Obj)}{σ:St}{H:Hp}{s:MK}{T:String}{x:V}{v:MI}(I:Inv X pins σ H s)(r:aD x v)(ty:Mi X.K T x H):
  s.TypeIs v T/\∀ a,v=.ref a->∃ ob,s.heap.get? a=some ob/\ob.dict=none:=by
 cases x with
 | str z=>
  obtain⟨t,rfl⟩:=r;cases (show T="str" from ty)
  exact⟨Sh s z t,fun _ e=>nomatch e⟩
 | int i=>
  obtain⟨t,rfl⟩:=r;cases (show T="int" from ty)
  exact⟨typeIs_int s i t,fun _ e=>nomatch e⟩
 | ref p=>
  cases r;rcases ty with ⟨rfl,xs,hq⟩|⟨rfl,o,hk,hc,hd⟩|⟨rfl,hk⟩|⟨rfl,S,n,hk⟩
  ·obtain⟨its,_,pl,_⟩:=I.list hq;refine⟨pl.isList.typeIs,fun a e=>?_⟩;cases e;obtain⟨o,n,e,c,hd,_⟩:=pl;exact⟨o,e,hd⟩
  ·refine⟨⟨o,I.kIn p o hk,hc⟩,fun a e=>?_⟩;cases e;exact⟨o,I.kIn _ o hk,hd⟩
  ·have z:∃ o,s.heap.get? p=some o/\o.ExactDict:=by
    rcases hk with ⟨kvs,hk⟩|⟨kvs,hk⟩
    ·obtain⟨_,_,_,_,o,_,_,e,ex,_⟩:=I.hok p _ hk;exact⟨o,e,ex⟩
    ·obtain⟨_,_,_,_,o,_,_,e,ex,_⟩:=I.hok p _ hk;exact⟨o,e,ex⟩
   obtain⟨o,e,ex⟩:=z;refine⟨⟨o,e,ex.1⟩,fun a e2=>?_⟩;cases e2;exact⟨o,e,ex.2.1⟩
  ·obtain⟨o,_,_,_,e,ex,_⟩:=I.hok p _ hk;refine⟨⟨o,e,ex.1⟩,fun a e2=>?_⟩;cases e2;exact⟨o,e,ex.2.1⟩
 | _=>exact False.elim ty
def Mp(K:Ps)(T:String)(r:V->List V->Hp->VK->Prop)(to:TE)(t:TA):TE:=fun σ H Q=>to σ H fun x H1=>Mi K T x H1/\t σ H1 fun xs H2=>r x xs H2 Q
variable{o e:M9}{es:List M9}{to:TE}{t:TA}{name:Str}{apos cpos:Pos}{T id:String}{r:V->List V->Hp->VK->Prop}
theorem Kd(pa:PlainAttrs T)(slot:Slot T name id)(hty:typeOf (.builtin id)=pure (.type "method_descriptor"))(hm:MC X id r)(ho:PE X o to)(ha:PA X (e::es) t)(SQ:Oi o name X.env (eval o X.env)=eval o X.env:=by rfl)(TX:((NS cpos (MU (e::es) X.env)).all (fun x=>!x.1) && (Pq cpos (OA [] X.env)).all (fun x=>x.1.isSome)
   && decide ((e::es).length+([]:List Q7).length+(if ([]:List Q7).isEmpty then 0 else 1) < 30))=true:=by rfl)(SW:(apos.endLine == cpos.line)=true:=by rfl)(hs:MU (e::es) X.env=(false,eval e X.env)::MU es X.env:=by rfl)(S5:(NS cpos (MU es X.env)).any (·.1)=false:=by rfl):
  PE X (.Call (.Attribute o name apos) (e::es) [] cpos) (Mp X.K T r to t):=by
 intro pins s σ H Q I h;refine wpAny_Call_method_late SQ TX SW rfl (bZ (ho pins s σ H _ I h) fun v s1 zz=>?_);obtain⟨x,H1,I1,r1,ty,q1⟩:=zz;obtain⟨h1,h2⟩:=HP I1 r1 ty;refine⟨T,id,pa,slot,hty,h1,h2,?_⟩;have hA:=ha cpos pins s1 σ H1 _ I1 q1;rw[hs]at hA ⊢;refine O_ (by show (false || (NS cpos (MU es X.env)).any (·.1))=false;rw[S5]<;>rfl) (R6 ?_)
 exact bZ hA fun us s2 ⟨vs,H2,I2,r2,q2⟩=>hm pins s2 σ H2 x vs v us Q I2 r1 r2 q2
end
def MD(X:Cx)(id:String)(r:V->List V->Hp->VK->Prop):Prop:=
 ∀ (pins:List (ML×Obj)) (s:MK) (σ:St) (H:Hp) (x:V) (xs:List V) (v:MI) (us:List MI) (Q:VK),Inv X pins σ H s->aD x v->Vals xs us->r x xs H Q->
  MP (MR X.prog X.w) X.A (call (.builtin id) (v::us)) (EP X pins σ Q) X.xe s
section
variable{X:Cx}{pins:List (ML×Obj)}{σ:St}{H:Hp}{s:MK}{l b:ML}{xs ys zs:List V}
theorem Inv.lset{its its':List MI}{n:Nat}{f:Array MI->Array MI}{t':Nat}(I:Inv X pins σ H s)(hH:H l=some (.lst xs))
  (e:s.heap.get? l=some { cls:=.type "list",data:=.seq its.toArray n }) (hf:f its.toArray=its'.toArray) (hv:Vals ys its') (hz:ys.length<=MT):
  Inv X pins σ (aS H l (.lst ys)) { s with heap:=s.heap.update l (NB f),toks:=t' }:=by
 have q:=PySem.IsL.update e f;rw[hf]at q;refine I.write (x:=l) (e:=l) (by rw[hH];exact trivial) (.inl rfl) (fun b' u hb hu=>(M_ s.heap (NB f) (Ne.symm hb)).trans hu) ⟨_,q⟩ ?_
 exact⟨hz,its',_,hv,q⟩
theorem Inv.lnew(I:Inv X pins σ H s)(hv:Vals ys its)(hz:ys.length<=MT):
  Inv X pins σ (aS H s.heap.objs.size (.lst ys)) { s with heap:=s.heap.push { cls:=.type "list",data:=.seq its.toArray },toks:=t' }:=
 I.laid (fun _ _ q=>MM _ q) (le_refl _) ⟨hz,its,0,hv,MQ _ rfl⟩
theorem Inv.fresh(I:Inv X pins σ H s):H s.heap.objs.size=none:=I.hok.fresh (le_refl _)
theorem Inv.lstM(I:Inv X pins σ H s)(hH:H l=some (.lst xs)):xs.length<=MT/\∃ (its:List MI) (n:Nat),Vals xs its/\xs.length=its.length/\s.heap.get? l=some { cls:=.type "list",data:=.seq its.toArray n }:=by
 obtain⟨z,its,n,r,e⟩:=I.hok l _ hH;exact⟨z,its,n,r,r.length,e⟩
end
section
variable{X:Cx}
def rAppend:V->List V->Hp->VK->Prop:=fun x vs H Q=>∃ l xs y,x=.ref l/\vs=[y]/\H l=some (.lst xs)/\xs.length < MT/\Q .non (aS H l (.lst (xs ++ [y])))
theorem vz:MD X "list.append" rAppend:=by
 intro pins s σ H x vs v us Q I rx rv h;obtain⟨l,xs,y,rfl,rfl,hH,hz,q⟩:=h;cases rx;obtain⟨u,rfl,ru⟩:=xR rv;obtain⟨z,its,n,r,hl,e⟩:=I.lstM hH;refine Ss F.slot_list_append ⟨_,e,rfl⟩ F.entry_list_append (F.args_list_append_2 _ _) (PySem.list_append l its.toArray n u (by rw[MV];omega)) ⟨e,?_⟩
 refine⟨.non,_,I.lset (its':=its ++ [u]) hH e (by simp) (r.append (.cons ru .nil)) ?_,rfl,q⟩
 rw[Nl,List.length_singleton];omega
end
end L2
namespace Att
open PySem PySem.W PySem.Calls PyProof.Rows
theorem rj:∀ (ns:List Int) (vs:List MI),WellAll P h vs (ns.map WData.int)->RK vs ns:=by
 intro ns
 induction ns with
 | nil=>
  intro vs w;rw[Pj]at w;cases w;exact .nil
 | cons n ns ih=>
  intro vs w;rw[M8]at w;cases w with
  | cons a b=>
   cases a;exact .cons _ _ (ih _ b)
theorem B9{l:OpenLaw}{n:Nat}(hn:l.most=some n){P:Params}{h:M5}{args:List WData}{vals:List MI}
  (Tk:l.row.toRowW.claim.pre args=true) (hwl:WellAll P h vals args):
  ∃ a vs ns,vals=[Value.ref a]/\args=[WData.list (ns.map WData.int)]/\h.get? a=some { cls:=.type "list",data:=.seq vs.toArray }/\RK vs ns/\ns.length<=n:=by
 have hsh:WShape.hasAll [] args [.list .int]=true:=(pre_splitW Tk).1;have hc:l.pre.holds [] { args:=args }=true:=(pre_splitW Tk).2;obtain⟨d,r,rfl,h1,h2⟩:=hasAllW_cons hsh;obtain rfl:=hasAllW_nil h2;obtain⟨xs,rfl,h3⟩:=hasW_list h1;obtain⟨ns,rfl⟩:=items_int h3;have hlen:ns.length<=n:=by
  unfold OpenLaw.pre at hc;have h4:(WTm.not (.lt (.lit (.int (n:Int))) (.len (.arg 0)))).holds [] { args:=[.list (ns.map .int)] }=true:=by
   have h4:=(holds_andW hc).1;rw[hn]at h4;exact h4
  have h5:=condW_of h4 (w_not (w_lt w_lit (w_len_list (w_arg rfl))));rw[MO]at h5;refine Nat.le_of_not_lt fun q=>?_;have q':(n:Int) < ((ns.length:Nat):Int):=by walk_at "o"
  first
   | (rw[decide_eq_true q']at h5;exact absurd h5 (by decide))
   | (simp at h5;omega)
 cases hwl with
 | cons w1 w2=>
  cases w2;cases w1 with
  | list ho hall=>exact⟨_,_,ns,rfl,rfl,ho,rj ns _ hall,hlen⟩
theorem Cf(l:OpenLaw)(args:List WData):l.row.toRowW.claim.post args (.bool true) args=true:=
 postW_of (r:=l.row.toRowW) (X:=(true == true))
  (show WShape.has [] (.bool true) .bool=true by first|rfl|decide|simp[WShape.has,WShape.arms,WShape.armsAll])
  (show (WTm.eq .res (.lit (.bool true))).value [] { args:=args,res:=some (.bool true),after:=args }=some (.bool (true == true))from w_eq_bool (w_res rfl) w_lit) rfl
theorem attach_call{l:OpenLaw}{n:Nat}{q:MY}{loose:List Str}{XP:(Str->Option MI)->M5->Prop}{YP:M7->M5->Prop}{d:DefRec}
  (hn:l.most=some n) (hdf:d.params.defaults=[])
  (call:∀ (w:M7) (s₀ s₁:MK) (mg mb:Str->Option MI) (fa:ML) (o:Obj) (pm cd doc:MI) (a:ML) (vs:List MI) (ns:List Int),
   Ground q loose [] XP w s₀ mg mb s₁.heap->YP w s₁.heap->
   s₁.heap.get? fa=some o->o.data=.func (docDef d.name d.params d.body d.scope pm cd doc)->s₁.heap.CodeRec cd d.name->mg d.name=some (.ref fa)->
   s₁.heap.get? a=some { cls:=.type "list",data:=.seq vs.toArray }->RK vs ns->ns.length<=n->s₁.gens=#[]->
   Oa (MR l.prog w) Qp (.call (.ref fa) ⟨[.ref a],[]⟩) (fun r s'=>r=.ok (.ret (.bool true))/\OldK s₁.heap s'.heap/\s'.os=s₁.os/\PM s'.gens) s₁):
  WalkO q loose XP YP l.row.toRowW d [] (fun f vs=>PySem.call f vs):=by
 intro w s₀ s₁ mg mb G Y fa o pm cd doc dV kV ho hd hcd hD hmg hg args vals as Tk hlay hrd hwl hlo;obtain rfl:dV=.none:=Dflts.none hD hdf;obtain rfl:kV=.none:=Dflts.noKw hD;obtain⟨a,vs,ns,rfl,rfl,SX,hints,hlen⟩:=B9 hn Tk hwl;refine enter_call (Od (call w s₀ s₁ mg mb fa o pm cd doc a vs ns G Y ho (fd_plain hd) hcd hmg SX hints hlen hg) fun r s' hq=>?_);obtain⟨rfl,h2,h3,h4⟩:=hq;exact⟨.inl ⟨.bool true,.bool true,[],rfl,fun _=>rfl,.bool true,Cf l _,fun _=>⟨List.Pairwise.nil,fun _ hm=>(nomatch hm)⟩⟩,h2,h3,h4⟩
end Att
namespace L2
open PySem PySem.Spec PyProof.Rows
theorem u5:∀ {vs:List MI} {ns:List Int},RK vs ns->Vals (ns.map V.int) vs
 | _,_,.nil=>.nil
 | _,_,.cons n t h=>.cons ⟨t,rfl⟩ (u5 h)
def G_(H:Hp):Prop:=∀ b,H b=none\/∃ o xs,H b=some (.frz o (.lst xs))
theorem Ez{P:MY}{w:M7}{K:Ps}{mg mb:Str->Option MI}{CX:Dh}{k:Nat}{fa a:ML}{fd:NR}{x:Str}{sp:Sp}{s₁:MK}{vs:List MI}{ns:List Int}
  (KX:K.In s₁.heap) (hns:s₁.heap.Ns M0 mg) (hb:s₁.heap.Ns Su mb) (hbb:∀ x:Str,x≠"__name__"->mb x=N3 x) (Uo:s₁.heap.NoLimit) (hg:s₁.gens=#[])
  (ha:s₁.heap.get? a=some { cls:=.type "list",data:=.seq vs.toArray }) (hi:RK vs ns) (hl:ns.length<=MT) (hr:Room k Qp)
  (F:∀ base:M5,K.In base->base.Ns M0 mg->FnOk P w K mg base CX k fa fd [x] sp) (Ub:∀ (s:MK) (u:MI),Q_ s fd ⟨[u],[]⟩ [(x,u)])
  (hsp:∀ H:Hp,G_ H->jP K H a (ns.map V.int)->sp [.ref a] H (fun v _=>v=.bl true) fun _ _ _=>False)
  (hCX:∀ H e s',CX [] H s₁ (fun _ _ _=>False) e s'->False):
  Oa (MR P w) Qp (.call (.ref fa) ⟨[.ref a],[]⟩) (fun r s'=>r=.ok (.ret (.bool true))/\OldK s₁.heap s'.heap/\s'.os=s₁.os/\PM s'.gens) s₁:=by
 have rv:=u5 hi;have Ui:=hi.length;have core:∀ H:Hp,G_ H->jP K H a (ns.map V.int)->lE P w H s₁.heap->(∀ b,H b≠none->b=a)->(H a≠none->K.lookup a=none)->
   Oa (MR P w) Qp (.call (.ref fa) ⟨[.ref a],[]⟩) (fun r s'=>r=.ok (.ret (.bool true))/\OldK s₁.heap s'.heap/\s'.os=s₁.os/\PM s'.gens) s₁:=by
  intro H hO hS hok hA hK;have Tc:∀ {b:ML} {o:Obj},s₁.heap.get? b=some o->H b=none->(xb s₁.heap H).get? b=some o:=fun e n=>EJ e n;have noA:∀ {b:ML} {o:Obj} {es:Array DictEntry} {ep:Nat},s₁.heap.get? b=some o->o.data=.dict es ep->H b=none:=fun {b o es ep} e d=>by
   cases q:H b with
   | none=>rfl
   | some u=>
    have e':b=a:=hA b (by rw[q];simp)
    subst e';rw[ha]at e;cases e;have d':Data.seq vs.toArray _=Data.dict es ep:=d;cases d'
  have nsK:∀ {b:ML} {m:Str->Option MI},s₁.heap.Ns b m->(xb s₁.heap H).Ns b m:=fun {b m} ⟨o,es,ep,e,d,r⟩=>⟨o,es,ep,Tc e (noA e d),d,r⟩;have hKb:K.In (xb s₁.heap H):=fun b o e=>Tc (KX b o e) (by
   cases q:H b with
   | none=>rfl
   | some u=>
    have e':b=a:=hA b (by rw[q];simp)
    subst e';rw[hK (by rw[q];simp)]at e;cases e)
  have hM:Mod K mg (xb s₁.heap H):=⟨hKb,nsK hns,⟨mb,nsK hb,hbb⟩,let ⟨mc,h1,h2⟩:=Uo;⟨mc,nsK h1,h2⟩⟩;have e0:Env0 P w K mg (xb s₁.heap H) Qp [] s₁ H:=⟨rfl,hM,fun b o e=>Ge e,PQ (CJ _ _),trivial,fun b hb=>absurd (show b∈([]:List ML)from hb) (by simp),hok,.of_eq hg⟩
  refine Od ((F _ hKb (nsK hns)).run Qp [] s₁ H ⟨[.ref a],[]⟩ [.ref a] [.ref a] _ _ hr e0 (Ub s₁ (.ref a)) (.cons rfl .nil) (hsp H hO hS)) fun r s' h=>?_;cases r with
  | error e=>exact (hCX H e s' h).elim
  | ok fl=>
   cases fl with
   | next=>exact False.elim h
   | brk=>exact False.elim h
   | cont=>exact False.elim h
   | ret u=>
    obtain⟨v,H',os,bare,un,hok',r',q⟩:=h;have q':v=.bl true:=q;subst q';obtain rfl:u=Value.bool true:=r';refine⟨rfl,OldK.of_keep fun b o e=>?_,os,bare⟩;cases q:H b with
    | none=>exact un.keep b o e q (by intro z;exact absurd (show b∈([]:List ML)from z) (by simp)) (by simp)
    | some u=>
     rcases hO b with z|⟨ob,xs,z⟩
     ·rw[q]at z;cases z
     ·have z2:=un.frzs b ob _ z;obtain⟨e1,_⟩:=hok b _ z;obtain⟨e2,_⟩:=hok' b _ z2;rw[e]at e1;cases e1;exact e2
 cases hk:K.lookup a with
 | some o=>
  have e:=KX a o hk;rw[ha]at e;cases e;refine core (fun _=>none) (fun _=>.inl rfl) (.inr ⟨_,vs.toArray,_,hk,rfl,rfl,rfl,by rw[MV,Ui];exact hl,by simpa using rv⟩) (fun b u z=>by have z':(none:Option HO)=some u:=z;cases z') (fun b z=>absurd rfl z) fun z=>absurd rfl z
 | none=>
  refine core (fun b=>if b=a then some (.frz { cls:=.type "list",data:=.seq vs.toArray } (.lst (ns.map V.int)))else none) (fun b=>?_) (.inl (.inr ⟨{ cls:=.type "list",data:=.seq vs.toArray },if_pos rfl⟩)) (fun b u z=>?_) (fun b z=>?_) fun _=>hk
  ·by_cases hb:b=a
   ·exact .inr ⟨_,_,if_pos hb⟩
   ·exact .inl (if_neg hb)
  ·by_cases hb:b=a
   ·have z':=(if_pos hb).symm.trans z;cases z';subst hb;exact⟨ha,by rw[MO];exact hl,vs,_,rv,ha⟩
   ·have z':=(if_neg hb).symm.trans z;cases z'
  ·by_cases hb:b=a
   ·exact hb
   ·exact absurd (if_neg hb) z
abbrev MG{K:Ps}{h:M5}(_:K.In h):Ps:=K
theorem walk_of{l:PySem.W.OpenLaw}{n k:Nat}{q:MY}{loose:List Str}{XP:(Str->Option MI)->M5->Prop}{YP:M7->M5->Prop}{d:DefRec}{K:Params->Ps}{CX:M7->Dh}{sp:M7->Sp}{x:Str}
  (hn:l.most=some n) (hn2:n<=MT) (hdf:d.params.defaults=[]) (hr:Room k Qp)
  (hY:∀ (w:M7) (h:M5),YP w h->(K w.params).In h)
  (F:∀ (w:M7) (mg:Str->Option MI) (fa:ML) (h:M5),(K w.params).In h->h.Ns M0 mg->mg d.name=some (.ref fa)->
   ∃ fd:NR,(∀ (s:MK) (u:MI),Q_ s fd ⟨[u],[]⟩ [(x,u)])/\
    ∀ base:M5,(K w.params).In base->base.Ns M0 mg->FnOk l.prog w (K w.params) mg base (CX w) k fa fd [x] (sp w))
  (hsp:∀ (w:M7) (H:Hp) (a:ML) (ns:List Int),ns.length<=n->G_ H->jP (K w.params) H a (ns.map V.int)->sp w [.ref a] H (fun v _=>v=.bl true) fun _ _ _=>False)
  (hCX:∀ (w:M7) (H:Hp) (s:MK) (e:MI) (s':MK),CX w [] H s (fun _ _ _=>False) e s'->False):
  PySem.W.WalkO q loose XP YP l.row.toRowW d [] (fun f vs=>PySem.call f vs):=by
 refine Att.attach_call hn hdf fun w s₀ s₁ mg mb fa o pm cd doc a vs ns G Y ho hd hcd hmg SX hints hlen hg=>?_;have KX:=hY w _ Y;obtain⟨fd,hb,hF⟩:=F w mg fa _ KX G.T.g hmg;exact Ez KX G.T.g G.T.b G.T.builtins G.T.nolimit hg SX hints (le_trans hlen hn2) hr hF hb (fun H hO hS=>hsp w H a ns hlen hO hS) fun H e s'=>hCX w H s₁ e s'
def aU(s:Ng)(j:Nat):Ng:=match s with
 | .ClassDef _ _ _ body _ _ _ _ _ _ _=>body.getD j (.Pass ⟨0,0,0,0⟩)
 | _=>.Pass ⟨0,0,0,0⟩
def dE(s:Ng):Arguments:=match s with
 | .FunctionDef _ a _ _ _ _ _ _ _ _=>a
 | _=>{ posonlyargs:=[],args:=[],vararg:=none,kwonlyargs:=[],kw_defaults:=[],kwarg:=none,defaults:=[] }
def cg(s:Ng):List Ng:=match s with
 | .FunctionDef _ _ b _ _ _ _ _ _ _=>b
 | _=>[]
def ah(s:Ng):O9:=match s with
 | .FunctionDef _ _ _ _ _ _ sc _ _ _=>sc
 | _=>{ kind:=.function,names:=[],isGenerator:=false,isCoroutine:=false }
abbrev oV:Dh:=fun _ _ _ _ _ _=>False
abbrev E0:XK:=fun _ _ _=>False
theorem vo:kZ oV X E0:=fun _ _ _ _ _ _ _ h=>h.elim
theorem iteF{A B:Prop}(h:B):if false=true then A else B:=by
 rw[if_neg Bool.false_ne_true];exact h
theorem iteT{A B:Prop}(h:A):if true=true then A else B:=by
 rw[if_pos rfl];exact h
section
variable{κ:Type}[DecidableEq κ]
def mv(kvs:List (κ×V))(k:κ):Option V:=(kvs.find? fun kv=>decide (kv.1=k)).map (·.2)
def nY(kvs:List (κ×V))(k:κ)(v:V):List (κ×V):=
 if (kvs.any fun kv=>decide (kv.1=k))=true then kvs.map (fun kv=>if kv.1=k then (kv.1,v)else kv)else kvs ++ [(k,v)]
theorem m6{p:κ×V}{r:List (κ×V)}{k:κ}(e:p.1=k):mv (p::r) k=some p.2:=by simp[mv,No,e]
theorem m7{p:κ×V}{r:List (κ×V)}{k:κ}(e:¬ p.1=k):mv (p::r) k=mv r k:=by simp[mv,No,e]
theorem rL(k:κ):∀ kvs:List (κ×V),(kvs.any fun kv=>decide (kv.1=k))=(mv kvs k).isSome
 | []=>rfl
 | p::r=>by
  rw[Qj]
  by_cases e:p.1=k
  ·simp only[m6 e,decide_eq_true e,Bool.true_or,Option.isSome_some]
  ·rw[m7 e,decide_eq_false e,Bool.false_or];exact rL k r
theorem qx(kvs:List (κ×V))(k:κ)(v:V):(nY kvs k v).length<=kvs.length+1:=by
 unfold nY;split
 ·rw[MO];omega
 ·rw[Nl,M1,Nj];omega
theorem j0.isSome_eq(r:j0 o u):o.isSome=u.isSome:=by
 cases o with
 | none=>cases u with
  | none=>rfl
  | some _=>exact (show False from r).elim
 | some _=>cases u with
  | none=>exact (show False from r).elim
  | some _=>rfl
theorem j0.getD(r:j0 o u)(rd:aD d d'):aD (o.getD d) (u.getD d'):=by
 cases o with
 | none=>cases u with
  | none=>exact rd
  | some _=>exact (show False from r).elim
 | some _=>cases u with
  | none=>exact (show False from r).elim
  | some _=>exact r
theorem KV.val(r:KV kvs vs)(k:κ):j0 (mv kvs k) (QB vs k):=by
 unfold KV at r
 induction r with
 | nil=>exact True.intro
 | @cons p q ps qs h t ih=>
  obtain⟨h1,h2⟩:=h
  by_cases e:p.1=k
  ·have e':q.1=k:=h1.symm.trans e;have b:QB (q::qs) k=some q.2:=by simp[QB,No,e']
   rw[m6 e,b];exact h2
  ·have e':¬ q.1=k:=fun z=>e (h1.trans z);have b:QB (q::qs) k=QB qs k:=by simp[QB,No,e']
   rw[m7 e,b];exact ih
theorem KV.any(r:KV kvs vs)(k:κ):(kvs.any fun kv=>decide (kv.1=k))=vs.any fun kv=>decide (kv.1=k):=by
 unfold KV at r
 induction r with
 | nil=>rfl
 | cons h t ih=>rw[Qj,Qj,ih,h.1]
theorem KV.repl{kvs:List (κ×V)}{vs:List (κ×MI)}(r:KV kvs vs)(k:κ){y:V}{u:MI}(ry:aD y u):
  KV (kvs.map fun kv=>if kv.1=k then (kv.1,y)else kv) (vs.map fun kv=>if kv.1=k then (kv.1,u)else kv):=by
 unfold KV at r ⊢
 induction r with
 | nil=>exact .nil
 | @cons p q ps qs h t ih=>
  rw[M8,M8];refine .cons ?_ ih;obtain⟨h1,h2⟩:=h
  by_cases e:p.1=k
  ·rw[if_pos e,if_pos (h1.symm.trans e)];exact⟨h1,ry⟩
  ·rw[if_neg e,if_neg (fun z=>e (h1.trans z))];exact⟨h1,h2⟩
theorem KV.put{kvs:List (κ×V)}{vs:List (κ×MI)}(r:KV kvs vs)(k:κ){y:V}{u:MI}(ry:aD y u):KV (nY kvs k y) (stored vs k u):=by
 unfold nY stored;rw[r.any k]
 by_cases e:(vs.any fun kv=>decide (kv.1=k))=true
 ·rw[if_pos e,if_pos e];exact r.repl k ry
 ·rw[if_neg e,if_neg e];exact Qk r ⟨rfl,ry⟩
theorem KV.length{kvs:List (κ×V)}{vs:List (κ×MI)}(r:KV kvs vs):kvs.length=vs.length:=Pm r
end
theorem vC(r:aD (kV k) u):(aI P w).is k u=true:=by
 cases k with
 | inl i=>obtain⟨t,e⟩:=(show ∃ t,u=Value.int i t from r);subst e;exact y_ P w i t
 | inr x=>obtain⟨t,e⟩:=(show ∃ t,u=Value.str x t from r);subst e;exact yZ P w x t
theorem pR:∀ {ks:List aE} {us:List MI},Vals (ks.map kV) us->ItemsAre (aI P w) ks us
 | [],_,r=>by rw[Pj]at r;cases r;exact .nil
 | k::ks,_,r=>by
  rw[M8]at r;cases r with
  | cons h t=>exact .cons (vC h) (pR t)
abbrev KT(H:Hp):List (List aE×V)->List (List aE×ML×MI)->Prop:=PB fun p q=>p.1=q.1/\H q.2.1=some (.tup (p.1.map kV))/\aD p.2 q.2.2
theorem KT.val(r:KT H kvs xs)(k:List aE):j0 (mv kvs k) ((Pr xs k).map (·.2)):=by
 induction r with
 | nil=>exact True.intro
 | @cons p q ps qs h t ih=>
  obtain⟨h1,_,h2⟩:=h
  by_cases e:p.1=k
  ·have e':q.1=k:=h1.symm.trans e;have b:Pr (q::qs) k=some q.2:=by simp[Pr,No,e']
   rw[m6 e,b];exact h2
  ·have e':¬ q.1=k:=fun z=>e (h1.trans z);have b:Pr (q::qs) k=Pr qs k:=by simp[Pr,No,e']
   rw[m7 e,b];exact ih
theorem KT.repl{H:Hp}{kvs:List (List aE×V)}{xs:List (List aE×ML×MI)}(r:KT H kvs xs)(k:List aE){y:V}{u:MI}(ry:aD y u):
  KT H (kvs.map fun kv=>if kv.1=k then (kv.1,y)else kv) (xs.map (putAt k u)):=by
 induction r with
 | nil=>exact .nil
 | @cons p q ps qs h t ih=>
  rw[M8,M8];refine .cons ?_ ih;obtain⟨h1,h2,h3⟩:=h;unfold putAt
  by_cases e:p.1=k
  ·rw[if_pos e,if_pos (h1.symm.trans e)];exact⟨h1,h2,ry⟩
  ·rw[if_neg e,if_neg (fun z=>e (h1.trans z))];exact⟨h1,h2,h3⟩
theorem KT.put{H:Hp}{kvs:List (List aE×V)}{xs:List (List aE×ML×MI)}(r:KT H kvs xs)(k:List aE){b:ML}{y:V}{u:MI}(hb:H b=some (.tup (k.map kV)))(ry:aD y u):
  KT H (nY kvs k y) (Ql xs k b u):=by
 have e:(kvs.any fun kv=>decide (kv.1=k))=(Pr xs k).isSome:=by
  rw[rL,(r.val k).isSome_eq,Option.isSome_map]
 unfold nY Ql;rw[e]
 by_cases q:(Pr xs k).isSome=true
 ·rw[if_pos q,if_pos q];exact r.repl k ry
 ·rw[if_neg q,if_neg q];exact Qk r ⟨rfl,hb,ry⟩
theorem KT.keeps(r:KT H kvs xs)(ht:∀ b ys,H b=some (.tup ys)->H' b=some (.tup ys)):KT H' kvs xs:=
 Paired.mapP r fun _ _ z=>⟨z.1,ht _ _ z.2.1,z.2.2⟩
section
variable{P:MY}{w:M7}{H:Hp}{h:M5}{a:ML}
theorem Hl(ok:lE P w H h)(e:Rd H a u):bC P w H h a u:=e.ok ok
theorem vG(ok:lE P w H h)(e:Rd H a (.dK kvs)):kvs.length<=MT/\(a == NM)=false/\∃ vs,KV kvs vs/\h.DictOf (aI P w) a vs:=
 show bC P w H h a (.dK kvs)from Hl ok e
theorem KF(ok:lE P w H h)(e:H a=some (.dK kvs)):kvs.length<=MT/\(a == NM)=false/\∃ vs,KV kvs vs/\h.DictOf (aI P w) a vs:=vG ok (.inl e)
theorem pP(ok:lE P w H h)(e:H a=some (.tup (ks.map kV))):(NZ (aI P w)).is h ks a:=by
 obtain⟨_,its,r,o,h1,h2,n,h3⟩:=(show bC P w H h a (.tup (ks.map kV))from ok a _ e)
 exact⟨o,its.toArray,n,h1,h2.1,h3,by simpa using pR r⟩
theorem vF(ok:lE P w H h)(e:Rd H a (.dT kvs)):kvs.length<=MT/\(a == NM)=false/\
  ∃ xs,KT H kvs xs/\h.DictOfH (NZ (aI P w)) a xs:=by
 obtain⟨z,y,xs,r,o,es,ep,h1,h2,h3,h4,h5⟩:=(show bC P w H h a (.dT kvs)from Hl ok e)
 refine⟨z,y,xs,r,o,es,ep,h1,h2,h3,h4,fun x hx=>?_,h5⟩;have all:∀ {l:List (List aE×V)} {m:List (List aE×ML×MI)},KT H l m->∀ x∈m,(NZ (aI P w)).is h x.1 x.2.1:=by
  intro l m q
  induction q with
  | nil=>intro x hx;exact nomatch hx
  | @cons p q ps qs hq t ih=>
   intro x hx;rcases Nr.mp hx with e|hx
   ·subst e;exact pP ok (by rw[<- hq.1];exact hq.2.1)
   ·exact ih x hx
 exact all r x hx
theorem KE(ok:lE P w H h)(e:H a=some (.dT kvs)):kvs.length<=MT/\(a == NM)=false/\
  ∃ xs,KT H kvs xs/\h.DictOfH (NZ (aI P w)) a xs:=vF ok (.inl e)
end
def xI(H:Hp)(a:ML)(y:V)(r:Option V):Prop:=
 (∃ kvs k,Rd H a (.dK kvs)/\y=kV k/\r=mv kvs k)\/∃ kvs k b,Rd H a (.dT kvs)/\y=.ref b/\H b=some (.tup (k.map kV))/\r=mv kvs k
def Hb(H:Hp)(a:ML)(y v:V)(H':Hp):Prop:=
 (∃ kvs k,H a=some (.dK kvs)/\y=kV k/\kvs.length < MT/\H'=aS H a (.dK (nY kvs k v)))\/
 ∃ kvs k b,H a=some (.dT kvs)/\y=.ref b/\H b=some (.tup (k.map kV))/\kvs.length < MT/\H'=aS H a (.dT (nY kvs k v))
theorem xI.k{H:Hp}{a:ML}{kvs:List (aE×V)}{k:aE}(e:H a=some (.dK kvs)):xI H a (kV k) (mv kvs k):=.inl ⟨kvs,k,.inl e,rfl,rfl⟩
theorem Hb.k{H:Hp}{a:ML}{kvs:List (aE×V)}{k:aE}{v:V}(e:H a=some (.dK kvs))(hl:kvs.length < MT):Hb H a (kV k) v (aS H a (.dK (nY kvs k v))):=.inl ⟨kvs,k,e,rfl,hl,rfl⟩
section
variable{X:Cx}{pins:List (ML×Obj)}{σ:St}{H:Hp}{s:MK}{a:ML}{y v:V}{u r:MI}{o:Option V}{A:M3}{E:MI->MK->Prop}
theorem Inv.big(I:Inv X pins σ H s):NM < s.heap.objs.size:=by
 have h:M0 < s.heap.objs.size:=(I.mod.glob.keeps I.bk).lt;exact Nat.lt_trans (by decide) h
theorem CT(hu:A.units+1 < ND)(I:Inv X pins σ H s)(g:xI H a y (some v))(ry:aD y u)(h:∀ w' s',Inv X pins σ H s'->aD v w'->Q w' s'):
  MP (MR X.prog X.w) A (P4 (.ref a) u) Q E s:=by
 rcases g with ⟨kvs,k,e,ey,l⟩|⟨kvs,k,b,e,ey,eb,l⟩
 ·subst ey;obtain⟨z,hd,vs,rel,dd⟩:=vG I.hok e;obtain⟨w',hw,rw'⟩:=j0.some_of (v:=v) (o:=QB vs k) (by rw[l];exact rel.val k)
  exact wpAny_getItem_of (vC ry) dd.mapOf hw (h w' _ (I.tok _) rw')
 ·subst ey;cases (show u=Value.ref b from ry)
  obtain⟨z,hd,xs,rel,dd⟩:=vF I.hok e;obtain⟨w',hw,rw'⟩:=j0.some_of (v:=v) (o:=(Pr xs k).map (·.2)) (by rw[l];exact rel.val k)
  obtain⟨p,hp,hp2⟩:=Option.map_eq_some_iff.mp hw;refine Se (NL hu) (pP I.hok eb) dd hp ?_;rw[hp2];exact h w' _ (I.tok _) rw'
theorem L6(hu:A.units+1 < ND)(I:Inv X pins σ H s)(g:xI H a y o)(ry:aD y u)(h:∀ s',Inv X pins σ H s'->Q (.bool o.isSome) s'):
  MP (MR X.prog X.w) A (Nv .In u (.ref a)) Q E s:=by
 rcases g with ⟨kvs,k,e,ey,l⟩|⟨kvs,k,b,e,ey,eb,l⟩
 ·subst ey;obtain⟨z,hd,vs,rel,dd⟩:=vG I.hok e;refine wpAny_in_of (vC ry) hd dd.mapOf ?_;rw[<- (rel.val k).isSome_eq,<- l];exact h _ (I.tok _)
 ·subst ey;cases (show u=Value.ref b from ry)
  obtain⟨z,hd,xs,rel,dd⟩:=vF I.hok e;refine wpAny_in_heap (NL hu) (pP I.hok eb) hd dd ?_;have q:=(rel.val k).isSome_eq;rw[Option.isSome_map]at q;rw[<- q,<- l];exact h _ (I.tok _)
theorem GK(hu:A.units+1 < ND)(I:Inv X pins σ H s)(g:xI H a y o)(ry:aD y u)(h:∀ s',Inv X pins σ H s'->Q (.bool (!o.isSome)) s'):
  MP (MR X.prog X.w) A (Nv .NotIn u (.ref a)) Q E s:=by
 rcases g with ⟨kvs,k,e,ey,l⟩|⟨kvs,k,b,e,ey,eb,l⟩
 ·subst ey;obtain⟨z,hd,vs,rel,dd⟩:=vG I.hok e;refine wpAny_notIn_of (vC ry) hd dd.mapOf ?_;rw[<- (rel.val k).isSome_eq,<- l];exact h _ (I.tok _)
 ·subst ey;cases (show u=Value.ref b from ry)
  obtain⟨z,hd,xs,rel,dd⟩:=vF I.hok e;refine wpAny_notIn_heap (NL hu) (pP I.hok eb) hd dd ?_;have q:=(rel.val k).isSome_eq;rw[Option.isSome_map]at q;rw[<- q,<- l];exact h _ (I.tok _)
theorem rH(I:Inv X pins σ H s)(mu:C8 (H a))(hs:Oe a s.heap h')(he:∃ q,h'.get? a=some q)(new:bC X.prog X.w (aS H a ob) h' a ob):
  Inv X pins σ (aS H a ob) { s with heap:=h',toks:=t' }:=
 I.write (x:=a) (e:=a) mu (.inl rfl) (fun b q hb z=>(hs.2 b hb).trans z) he new
theorem Jk(z:kvs.length<=MT)(hd:(a == NM)=false)(rel:KV kvs vs)(dd:h'.DictOf (aI P w) a vs):
  bC P w H' h' a (.dK kvs):=⟨z,hd,vs,rel,dd⟩
theorem CS(hu:A.units+1 < ND)(I:Inv X pins σ H s)(g:Hb H a y v H')(ry:aD y u)(rv:aD v r)(h:∀ s',Inv X pins σ H' s'->Q () s'):
  MP (MR X.prog X.w) A (SB (.ref a) u r) Q E s:=by
 rcases g with ⟨kvs,k,e,ey,l,eH⟩|⟨kvs,k,b,e,ey,eb,l,eH⟩
 ·subst ey eH;obtain⟨z,hd,vs,rel,dd⟩:=KF I.hok e;have hz:vs.length<=MT:=by rw[<- rel.length];exact z
  have hl:(nY kvs k v).length<=MT:=by have:=qx kvs k v;omega
  refine wpAny_setItem_pairs (hsz:=hz) (vC ry) dd fun h' dd' hs=>h _ ?_;have he:∃ q,h'.get? a=some q:=let ⟨q,_,_,hq,_⟩:=dd';⟨q,hq⟩;exact rH I (by rw[e];exact True.intro) hs he (Jk hl hd (rel.put k rv) dd')
 ·subst ey eH;cases (show u=Value.ref b from ry)
  obtain⟨z,hd,xs,rel,dd⟩:=KE I.hok e;have hz:xs.length<=MT:=by rw[<- Pm rel];exact z
  have hl:(nY kvs k v).length<=MT:=by have:=qx kvs k v;omega
  refine Sb (hsz:=hz) (NL hu) (pP I.hok eb) dd fun h' dd' hs=>h _ ?_;obtain⟨q,es,ep,hq,h2,h3,h4,_,h5⟩:=dd';refine rH I (by rw[e];exact True.intro) hs ⟨q,hq⟩ ⟨hl,hd,_,(rel.put k eb rv).keeps fun c ys ec=>?_,q,es,ep,hq,h2,h3,h4,h5⟩
  rw[aq (Kq ec e (fun z=>nomatch z))];exact ec
end
def K8(i:M9):Prop:=∀ ov iv,QR i false ov iv=operate [ov,iv] (P4 ov iv)
theorem Fz{prog:MY}{w:M7}{A:M3}{E:MI->MK->Prop}{s:MK}{env:Env}{value slice:M9}{pos:Pos}{T id:String}{Q:MI->MK->Prop}
  (hl:PZ (.type T) "__getitem__"=pure (some (.builtin id))) (hs:K8 slice)
  (h:MP (MR prog w) A (eval value env) (fun o s₁=>MP (MR prog w) A (eval slice env) (fun i s₂=>s₂.TypeIs o T/\MP (MR prog w) A (P4 o i) Q E s₂) E s₁) E s):
  MP (MR prog w) A (eval (.Subscript value slice pos) env) Q E s:=by
 refine Sv (Nh h (fun o s₁ h₁=>Nh h₁ (fun i s₂ h₂=>?_) fun _ _ x=>x) fun _ _ x=>x);obtain⟨hT,h₂⟩:=h₂;unfold Ri;refine MH ?_;rw[getitemInPython_of_ne hT.not_modules];refine MH (wpAny_specialOf hT hl ?_);have fin:MP (MR prog w) A (QR slice false o i) (fun r s₃=>MP (MR prog w) A (letTemporaryGo value o r >>= fun _=>pure r) Q E s₃) E s₂:=by
  rw[hs o i];exact wpAny_operating (Nh h₂ (fun r s₃ h₃=>MH (wpAny_letTemporaryGo (MJ h₃))) fun _ _ x=>x)
 first
  | exact MJ (MH fin)
  | exact MH (MJ (MH fin))
  | exact MH fin
theorem E1(h:M5)(hb:NM < h.objs.size):bC P w H (h.push { cls:=.type "dict",data:=.dict #[] }) h.objs.size (.dK []):=
 ⟨NC _,beq_eq_false_iff_ne.mpr (Ne.symm (Na hb)),[],.nil,Heap.DictOf.new h⟩
def HV:TE:=fun _ H Q=>∀ p,H p=none->Q (.ref p) (aS H p (.dK []))
section
variable{X:Cx}{pos:Pos}
theorem Eg:PE X (.Dict [] [] pos) HV:=fun pins s σ H Q I h=>
 wpAny_Dict_empty ⟨.ref s.heap.objs.size,_,I.laid (a:=s.heap.objs.size) (o:=.dK []) (t':=s.toks) (fun _ _ q=>MM _ q) (le_refl _) (E1 s.heap I.big),rfl,h _ (I.hok.fresh (le_refl _))⟩
end
structure M2(X:Cx)(o:M9)(m:Str)(apos:Pos)(e f:M9)(cpos:Pos):Prop where
 base:Oi o m X.env (eval o X.env)=eval o X.env
 few:((NS cpos (MU [e,f] X.env)).all (fun x=>!x.1) && (Pq cpos (OA [] X.env)).all (fun x=>x.1.isSome)
  && decide (([e,f]:List M9).length+([]:List Q7).length+(if ([]:List Q7).isEmpty then 0 else 1) < 30))=true
 line:(apos.endLine == cpos.line)=true
 trees:NS cpos (MU [e,f] X.env)=[(false,eval e X.env),(false,eval f X.env)]
def ME(H:Hp)(a:ML):Prop:=(∃ kvs,Rd H a (.dK kvs))\/∃ kvs,Rd H a (.dT kvs)
theorem Jc{X:Cx}{pins:List (ML×Obj)}{σ:St}{H:Hp}{s:MK}{a:ML}(I:Inv X pins σ H s)(d:ME H a):
  s.TypeIs (.ref a) "dict"/\(∀ b,Value.ref a=.ref b->∃ ob,s.heap.get? b=some ob/\ob.dict=none)/\(a == NM)=false:=by
 rcases d with ⟨kvs,e⟩|⟨kvs,e⟩
 ·obtain⟨_,hd,vs,_,dd⟩:=vG I.hok e;refine⟨dd.typeIs,fun b q=>?_,hd⟩;cases q;obtain⟨ob,_,_,h1,h2,_⟩:=dd;exact⟨ob,h1,h2.2.1⟩
 ·obtain⟨_,hd,xs,_,dd⟩:=vF I.hok e;refine⟨dd.typeIs,fun b q=>?_,hd⟩;cases q;obtain⟨ob,_,_,h1,h2,_⟩:=dd;exact⟨ob,h1,h2.2.1⟩
section
variable{X:Cx}{pins:List (ML×Obj)}{σ:St}{H:Hp}{s:MK}{a:ML}{y d:V}{u r:MI}{o:Option V}{A:M3}{E:MI->MK->Prop}
theorem Jl(hu:A.units+1 < ND)(I:Inv X pins σ H s)(g:xI H a y o)(ry:aD y u)(rd:aD d r)(h:∀ w' s',Inv X pins σ H s'->aD (o.getD d) w'->Q w' s'):
  MP (MR X.prog X.w) A (call (.builtin "dict.get") [.ref a,u,r]) Q E s:=by
 rcases g with ⟨kvs,k,e,ey,l⟩|⟨kvs,k,b,e,ey,eb,l⟩
 ·subst ey;obtain⟨z,hd,vs,rel,dd⟩:=vG I.hok e;refine P6 PySem.F.slot_dict_get dd.typeIs PySem.F.entry_dict_get (PySem.F.args_dict_get_3 _ _ _) (meets_dict_get_default (aI X.prog X.w) a (vC ry) hd r) ⟨_,dd.mapOf,h _ _ (I.tok _) ?_⟩;rw[l];exact (rel.val k).getD rd
 ·subst ey;cases (show u=Value.ref b from ry)
  obtain⟨z,hd,xs,rel,dd⟩:=vF I.hok e;refine P6 PySem.F.slot_dict_get dd.typeIs PySem.F.entry_dict_get (PySem.F.args_dict_get_3 _ _ _) (Ro (NZ (aI X.prog X.w)) a b hd r) ⟨NL hu,k,xs,pP I.hok eb,dd,h _ _ (I.tok _) ?_⟩;rw[l];exact (rel.val k).getD rd
end
end L2
namespace L3
open PySem PySem.Spec PyProof.Rows L2
abbrev St:=L2.St
inductive D where
 | non|bl (b:Bool)|int (i:Int)|str (x:Str)|tup (ds:List D)|lst (ds:List D)|fl (ds:List D)|ref (a:ML)|ty (n:String)
inductive GO where
 | lst (ds:List D)
 | ins (C:ML) (L:List Str) (ds:List D)
 | dK (kvs:List (aE×D))
 | dT (hw:List aE->Int) (kvs:List (List aE×D))
abbrev Gp:=ML->Option GO
def gset(G:Gp)(a:ML)(o:GO):Gp:=fun b=>if b=a then some o else G b
def fL(G:Gp)(a:ML):Gp:=fun b=>if b=a then none else G b
theorem av:gset G a o a=some o:=by unfold gset;rw[if_pos rfl]
theorem am(h:b≠a):gset G a o b=G b:=by unfold gset;rw[if_neg h]
theorem d8:gset (gset G a o) a u=gset G a u:=by
 funext b;unfold gset;split<;>rfl
theorem d9:fL G a a=none:=by unfold fL;rw[if_pos rfl]
theorem d_(h:b≠a):fL G a b=G b:=by unfold fL;rw[if_neg h]
def Fh(K:Ps)(H:Hp)(a:ML)(xs:List V):Prop:=
 (∃ o,H a=some (.frz o (.lst xs)))\/
  ∃ (o:Obj) (its:Array MI) (n:Nat),K.lookup a=some o/\o.cls=.type "list"/\o.dict=none/\o.data=.seq its n/\its.size<=MT/\Vals xs its.toList
theorem Fh.sq{K:Ps}{H:Hp}{a:ML}{xs:List V}(h:Fh K H a xs):jP K H a xs:=by
 rcases h with ⟨o,e⟩|h
 ·exact .inl (.inr ⟨o,e⟩)
 ·exact .inr h
mutual
def RD(K:Ps)(H:Hp):D->V->Prop
 | .non,v=>v=.non
 | .bl b,v=>v=.bl b
 | .int i,v=>v=.int i
 | .str x,v=>v=.str x
 | .ref a,v=>v=.ref a
 | .ty n,v=>v=.ty n
 | .fl _,_=>False
 | .tup ds,v=>∃ a xs,v=.ref a/\jO K H a xs/\RDs K H ds xs
 | .lst ds,v=>∃ a xs,v=.ref a/\Fh K H a xs/\RDs K H ds xs
def RDs(K:Ps)(H:Hp):List D->List V->Prop
 | [],xs=>xs=[]
 | d::ds,xs=>∃ x r,xs=x::r/\RD K H d x/\RDs K H ds r
end
structure Stb(K:Ps)(H H':Hp):Prop where
 t:∀ a xs,jO K H a xs->jO K H' a xs
 l:∀ a xs,Fh K H a xs->Fh K H' a xs
mutual
theorem RD.mono{K:Ps}{H H':Hp}(s:Stb K H H'):∀ (d:D) (v:V),RD K H d v->RD K H' d v
 | .non,v,h=>by simp only[RD]at h ⊢;exact h
 | .bl b,v,h=>by simp only[RD]at h ⊢;exact h
 | .int i,v,h=>by simp only[RD]at h ⊢;exact h
 | .str x,v,h=>by simp only[RD]at h ⊢;exact h
 | .ref a,v,h=>by simp only[RD]at h ⊢;exact h
 | .ty n,v,h=>by simp only[RD]at h ⊢;exact h
 | .fl _,v,h=>by simp only[RD]at h
 | .tup ds,v,h=>by
  simp only[RD]at h ⊢;obtain⟨a,xs,e,q,r⟩:=h;exact⟨a,xs,e,s.t _ _ q,RDs.mono s ds xs r⟩
 | .lst ds,v,h=>by
  simp only[RD]at h ⊢;obtain⟨a,xs,e,q,r⟩:=h;exact⟨a,xs,e,s.l _ _ q,RDs.mono s ds xs r⟩
theorem RDs.mono{K:Ps}{H H':Hp}(s:Stb K H H'):∀ (ds:List D) (xs:List V),RDs K H ds xs->RDs K H' ds xs
 | [],xs,h=>by simp only[RDs]at h ⊢;exact h
 | d::ds,xs,h=>by
  simp only[RDs]at h ⊢;obtain⟨x,r,e,h1,h2⟩:=h;exact⟨x,r,e,RD.mono s d x h1,RDs.mono s ds r h2⟩
end
section
variable{K:Ps}{H:Hp}
theorem RDs.nil:RDs K H [] []:=by simp only[RDs]
theorem RDs.cons(h:RD K H d x)(t:RDs K H ds xs):RDs K H (d::ds) (x::xs):=by
 simp only[RDs];exact⟨x,xs,rfl,h,t⟩
theorem RDs.inv_nil(h:RDs K H [] xs):xs=[]:=by simpa only[RDs]using h
theorem RDs.inv_cons(h:RDs K H (d::ds) xs):∃ x r,xs=x::r/\RD K H d x/\RDs K H ds r:=by simpa only[RDs]using h
theorem RDs.length:∀ {ds:List D} {xs:List V},RDs K H ds xs->ds.length=xs.length
 | [],xs,h=>by rw[h.inv_nil];rfl
 | d::ds,xs,h=>by
  obtain⟨x,r,e,_,h2⟩:=h.inv_cons;subst e;simp[RDs.length h2]
theorem RDs.get:∀ {ds:List D} {xs:List V} {i:Nat} {d:D},RDs K H ds xs->ds[i]?=some d->∃ x,xs[i]?=some x/\RD K H d x
 | [],xs,i,d,h,e=>by simp at e
 | c::ds,xs,0,d,h,e=>by
  obtain⟨x,r,e1,h1,h2⟩:=h.inv_cons;subst e1;simp at e;subst e;exact⟨x,rfl,h1⟩
 | c::ds,xs,i+1,d,h,e=>by
  obtain⟨x,r,e1,h1,h2⟩:=h.inv_cons;subst e1;obtain⟨y,q1,q2⟩:=RDs.get (i:=i) (d:=d) h2 (by simpa using e)
  exact⟨y,by simpa using q1,q2⟩
theorem RDs.append:∀ {ds es:List D} {xs ys:List V},RDs K H ds xs->RDs K H es ys->RDs K H (ds ++ es) (xs ++ ys)
 | [],es,xs,ys,h,h'=>by rw[h.inv_nil];exact h'
 | d::ds,es,xs,ys,h,h'=>by
  obtain⟨x,r,e,h1,h2⟩:=h.inv_cons;subst e;exact RDs.cons h1 (RDs.append h2 h')
theorem RDs.take:∀ {ds:List D} {xs:List V} (n:Nat),RDs K H ds xs->RDs K H (ds.take n) (xs.take n)
 | _,_,0,_=>by simp only[List.take_zero];exact RDs.nil
 | [],xs,n+1,h=>by rw[h.inv_nil];simp only[List.take_nil];exact RDs.nil
 | d::ds,xs,n+1,h=>by
  obtain⟨x,r,e,h1,h2⟩:=h.inv_cons;subst e;exact RDs.cons h1 (RDs.take n h2)
theorem RDs.drop:∀ {ds:List D} {xs:List V} (n:Nat),RDs K H ds xs->RDs K H (ds.drop n) (xs.drop n)
 | _,_,0,h=>by simpa only[QO]using h
 | [],xs,n+1,h=>by rw[h.inv_nil];simp only[List.drop_nil];exact RDs.nil
 | d::ds,xs,n+1,h=>by
  obtain⟨x,r,e,h1,h2⟩:=h.inv_cons;subst e;exact RDs.drop n h2
theorem RDs.set:∀ {ds:List D} {xs:List V} {d:D} {x:V} (n:Nat),RDs K H ds xs->RD K H d x->RDs K H (ds.set n d) (xs.set n x)
 | [],xs,d,x,n,h,_=>by rw[h.inv_nil];simp only[List.set_nil];exact RDs.nil
 | c::ds,xs,d,x,0,h,h'=>by
  obtain⟨y,r,e,h1,h2⟩:=h.inv_cons;subst e;exact RDs.cons h' h2
 | c::ds,xs,d,x,n+1,h,h'=>by
  obtain⟨y,r,e,h1,h2⟩:=h.inv_cons;subst e;exact RDs.cons h1 (RDs.set n h2 h')
theorem RDs.ints:∀ ns:List Int,RDs K H (ns.map D.int) (ns.map V.int)
 | []=>RDs.nil
 | n::r=>RDs.cons (by simp only[RD]) (RDs.ints r)
theorem RDs.strs:∀ ns:List Str,RDs K H (ns.map D.str) (ns.map V.str)
 | []=>RDs.nil
 | n::r=>RDs.cons (by simp only[RD]) (RDs.strs r)
end
def xL(hw:List aE->Int)(a:ML)(xs:List (List aE×ML×MI)):M5->Prop:=fun h=>(a == NM)=false/\∃ o es ep,h.get? a=some o/\o.ExactDict/\o.data=.dict es ep/\es.toList=xs.map fun x=>(⟨hw x.1,.ref x.2.1,x.2.2⟩:DictEntry)
def oX(K:Ps)(H:Hp):List (List aE×D)->List (List aE×ML×MI)->Prop:=PB fun p q=>p.1=q.1/\jO K H q.2.1 (p.1.map kV)/\∃ v,RD K H p.2 v/\aD v q.2.2
def xD(K:Ps)(H:Hp):List (aE×D)->List (aE×V)->Prop:=PB fun p q=>p.1=q.1/\RD K H p.2 q.2
def RO(K:Ps)(H:Hp)(a:ML):GO->HO->Prop
 | .lst ds,.lst xs=>RDs K H ds xs
 | .ins C L ds,.ins C' _ gs=>C'=C/\gs.map (·.1)=L/\RDs K H ds (gs.map (·.2))
 | .dK kvs,.dK hs=>xD K H kvs hs
 | .dT hw kvs,.ext φ=>∃ xs,φ=xL hw a xs/\oX K H kvs xs/\(kvs.map (·.1)).Nodup/\kvs.length<=MT
 | _,_=>False
def RG(K:Ps)(H:Hp)(G:Gp):Prop:=∀ a o,G a=some o->∃ h,H a=some h/\RO K H a o h
def Kp(G:Gp)(H:Hp)(G':Gp)(H':Hp):Prop:=∀ a h,H a=some h->G a=none->H' a=some h/\G' a=none
def HH(G:Gp)(H:Hp)(p:ML):Prop:=∀ h,H p=some h->G p≠none
section
variable{K:Ps}{H H' H1 H2:Hp}{G G' G1 G2:Gp}{p:ML}
theorem oX.mono(s:Stb K H H')(r:oX K H kvs xs):oX K H' kvs xs:=Paired.mapP r fun _ _ zz=>by
 obtain⟨a,b,v,c,d⟩:=zz;exact (
  ⟨a,s.t _ _ b,v,RD.mono s _ _ c,d⟩)
theorem xD.mono(s:Stb K H H')(r:xD K H kvs xs):xD K H' kvs xs:=Paired.mapP r fun _ _ zz=>by
 obtain⟨a,b⟩:=zz;exact (
  ⟨a,RD.mono s _ _ b⟩)
theorem RO.mono(s:Stb K H H')(r:RO K H a o h):RO K H' a o h:=by
 cases o<;>cases h<;>first
  | exact r.elim
  | exact RDs.mono s _ _ r
  | exact⟨r.1,r.2.1,RDs.mono s _ _ r.2.2⟩
  | exact xD.mono s r
  | (obtain⟨xs,e,q,n⟩:=r;exact⟨xs,e,q.mono s,n⟩)
theorem RG.none_of(rg:RG K H G)(e:H a=some h)(n:∀ o,¬ RO K H a o h):G a=none:=by
 cases q:G a with
 | none=>rfl
 | some o=>
  obtain⟨h',e',r⟩:=rg a o q;rw[e]at e';cases e';exact absurd r (n o)
theorem RG.free(rg:RG K H G)(e:H p=none):G p=none:=by
 cases q:G p with
 | none=>rfl
 | some o=>
  obtain⟨h',e',r⟩:=rg p o q;rw[e]at e';cases e'
theorem IM(o:GO)(xs:List V):¬ RO K H a o (.tup xs):=by cases o<;>exact id
theorem Eo(o:GO)(ob:Obj)(u:HO):¬ RO K H a o (.frz ob u):=by cases o<;>exact id
theorem Kp.refl:Kp G H G H:=fun _ _ e n=>⟨e,n⟩
theorem Kp.trans(a:Kp G H G1 H1)(b:Kp G1 H1 G2 H2):Kp G H G2 H2:=fun x h e n=>b x h (a x h e n).1 (a x h e n).2
theorem Kp.stb(k:Kp G H G' H')(rg:RG K H G):Stb K H H' where
 t:=fun a xs q=>by
  rcases q with (q|⟨o,q⟩)|q
  ·exact .inl (.inl (k a _ q (rg.none_of q fun o=>IM o xs)).1)
  ·exact .inl (.inr ⟨o,(k a _ q (rg.none_of q fun o'=>Eo o' o _)).1⟩)
  ·exact .inr q
 l:=fun a xs q=>by
  rcases q with ⟨o,q⟩|q
  ·exact .inl ⟨o,(k a _ q (rg.none_of q fun o'=>Eo o' o _)).1⟩
  ·exact .inr q
theorem Kp.fr(k:Kp G H G1 H1)(f:HH G1 H1 p):HH G H p:=fun h e n=>f h (k p h e n).1 (k p h e n).2
theorem oE(e:H p=none):HH G H p:=fun h q=>by rw[e]at q;cases q
theorem Kp.laid(e:H p=none):Kp G H G (aS H p o):=fun a h q n=>⟨by rw[aq (bA q e)];exact q,n⟩
theorem RG.laid(rg:RG K H G)(e:H p=none):RG K (aS H p o) G:=fun a o' q=>by
 obtain⟨h,e1,r⟩:=rg a o' q;exact⟨h,by rw[aq (bA e1 e)];exact e1,r.mono ((Kp.laid (G:=G) e).stb rg)⟩
end
abbrev eE:=List (Option D)
def C6(K:Ps)(H:Hp):Option D->Option V->Prop
 | some d,some v=>RD K H d v
 | none,_=>True
 | some _,none=>False
def RS(K:Ps)(H:Hp)(σ:eE)(τ:St):Prop:=PB (C6 K H) σ τ
section
variable{K:Ps}{H H':Hp}
theorem C6.mono(s:Stb K H H'):∀ {a:Option D} {b:Option V},C6 K H a b->C6 K H' a b
 | some d,some v,r=>RD.mono s d v r
 | none,_,_=>trivial
 | some _,none,r=>r.elim
theorem RS.mono(s:Stb K H H')(r:RS K H σ τ):RS K H' σ τ:=Paired.mapP r fun _ _ q=>q.mono s
theorem RS.get:∀ {σ:eE} {τ:St} {i:Nat} {d:D},RS K H σ τ->σ[i]?=some (some d)->∃ v,τ[i]?=some (some v)/\RD K H d v
 | _,_,_,_,.nil,e=>by simp at e
 | _,_,0,d,.cons (b:=b) r _,e=>by
  simp at e;subst e;cases b with
  | none=>exact r.elim
  | some v=>exact⟨v,rfl,r⟩
 | _,_,i+1,d,.cons _ t,e=>by
  obtain⟨v,h1,h2⟩:=RS.get (i:=i) (d:=d) t (by simpa using e)
  exact⟨v,by simpa using h1,h2⟩
theorem RS.set(r:RD K H d v):∀ {σ:eE} {τ:St} (i:Nat),RS K H σ τ->RS K H (σ.set i (some d)) (τ.set i (some v))
 | _,_,_,.nil=>.nil
 | _,_,0,.cons _ t=>.cons (show C6 K H (some d) (some v)from r) t
 | _,_,i+1,.cons q t=>.cons q (RS.set r i t)
end
def RE(K:Ps)(G:Gp)(H:Hp)(G':Gp)(H':Hp)(d:D)(v:V):Prop:=
 (∃ ds p xs,d=.fl ds/\v=.ref p/\H' p=some (.lst xs)/\G' p=none/\RDs K H' ds xs/\HH G H p)\/RD K H' d v
section
variable{K:Ps}{H H' H1 H2:Hp}{G G' G1 G2:Gp}{d:D}{v:V}
theorem RE.of(r:RD K H' d v):RE K G H G' H' d v:=.inr r
theorem RE.wait(r:RE K G H G1 H1 d v)(k:Kp G1 H1 G2 H2)(rg:RG K H1 G1):RE K G H G2 H2 d v:=by
 rcases r with ⟨ds,p,xs,e1,e2,e3,e4,e5,e6⟩|r
 ·exact .inl ⟨ds,p,xs,e1,e2,(k p _ e3 e4).1,(k p _ e3 e4).2,RDs.mono (k.stb rg) _ _ e5,e6⟩
 ·exact .inr (RD.mono (k.stb rg) _ _ r)
theorem RE.base(r:RE K G1 H1 G2 H2 d v)(k:Kp G H G1 H1):RE K G H G2 H2 d v:=by
 rcases r with ⟨ds,p,xs,e1,e2,e3,e4,e5,e6⟩|r
 ·exact .inl ⟨ds,p,xs,e1,e2,e3,e4,e5,k.fr e6⟩
 ·exact .inr r
theorem RE.rd(r:RE K G H G' H' d v)(h:∀ ds,d≠.fl ds):RD K H' d v:=by
 rcases r with ⟨ds,p,xs,e1,_⟩|r
 ·exact absurd e1 (h ds)
 ·exact r
theorem RE.int(r:RE K G H G' H' (.int i) v):v=.int i:=by
 have:=r.rd (by intro ds h;cases h);simpa only[RD]using this
theorem RE.str(r:RE K G H G' H' (.str i) v):v=.str i:=by
 have:=r.rd (by intro ds h;cases h);simpa only[RD]using this
theorem RE.bl(r:RE K G H G' H' (.bl i) v):v=.bl i:=by
 have:=r.rd (by intro ds h;cases h);simpa only[RD]using this
theorem RE.non(r:RE K G H G' H' .non v):v=.non:=by
 have:=r.rd (by intro ds h;cases h);simpa only[RD]using this
theorem RE.ref(r:RE K G H G' H' (.ref a) v):v=.ref a:=by
 have:=r.rd (by intro ds h;cases h);simpa only[RD]using this
theorem RE.tup(r:RE K G H G' H' (.tup ds) v):∃ a xs,v=.ref a/\jO K H' a xs/\RDs K H' ds xs:=by
 have:=r.rd (by intro ds h;cases h);simpa only[RD]using this
theorem RE.lst(r:RE K G H G' H' (.lst ds) v):∃ a xs,v=.ref a/\Fh K H' a xs/\RDs K H' ds xs:=by
 have:=r.rd (by intro ds h;cases h);simpa only[RD]using this
theorem RE.fl(r:RE K G H G' H' (.fl ds) v):∃ p xs,v=.ref p/\H' p=some (.lst xs)/\G' p=none/\RDs K H' ds xs/\HH G H p:=by
 rcases r with ⟨ds',p,xs,e1,e2,e3,e4,e5,e6⟩|r
 ·cases e1;exact⟨p,xs,e2,e3,e4,e5,e6⟩
 ·simp only[RD]at r
theorem ef:RD K H (.int i) (.int i):=by simp only[RD]
theorem iA:RD K H (.str i) (.str i):=by simp only[RD]
theorem fc:RD K H (.bl i) (.bl i):=by simp only[RD]
theorem wq:RD K H .non .non:=by simp only[RD]
theorem fH:RD K H (.ref a) (.ref a):=by simp only[RD]
theorem pC(h:jO K H a xs)(r:RDs K H ds xs):RD K H (.tup ds) (.ref a):=by
 simp only[RD];exact⟨a,xs,rfl,h,r⟩
theorem sA(h:Fh K H a xs)(r:RDs K H ds xs):RD K H (.lst ds) (.ref a):=by
 simp only[RD];exact⟨a,xs,rfl,h,r⟩
end
def tY(G:Gp):D->Option (List D)
 | .lst ds=>some ds
 | .fl ds=>some ds
 | .ref a=>match G a with
  | some (.lst ds)=>some ds
  | _=>none
 | _=>none
def Fl(G:Gp):D->Option (List D)
 | .tup ds=>some ds
 | d=>tY G d
section
variable{K:Ps}{H H':Hp}{G G':Gp}{d:D}{v:V}{ds:List D}
theorem p5(h:tY G' d=some ds)(r:RE K G H G' H' d v)(rg:RG K H' G'):∃ a xs,v=.ref a/\jP K H' a xs/\RDs K H' ds xs:=by
 cases d with
 | lst es=>
  obtain⟨a,xs,e,f,q⟩:=r.lst;simp only[tY,Option.some.injEq]at h;subst h;exact⟨a,xs,e,f.sq,q⟩
 | fl es=>
  obtain⟨a,xs,e,f,_,q,_⟩:=r.fl;simp only[tY,Option.some.injEq]at h;subst h;exact⟨a,xs,e,jP.of f,q⟩
 | ref a=>
  have e:=r.ref;simp only[tY]at h;cases q:G' a with
  | none=>rw[q]at h;cases h
  | some o=>
   rw[q]at h;cases o with
   | ins _ _ _=>cases h
   | dK _=>cases h
   | dT _ _=>cases h
   | lst es=>
    simp only[Option.some.injEq]at h;subst h;obtain⟨ho,e1,e2⟩:=rg a _ q;cases ho with
    | lst xs=>exact⟨a,xs,e,jP.of e1,e2⟩
    | _=>exact e2.elim
 | _=>simp[tY]at h
theorem tX(h:Fl G' d=some ds)(r:RE K G H G' H' d v)(rg:RG K H' G'):∃ a xs,v=.ref a/\(jP K H' a xs\/jO K H' a xs)/\RDs K H' ds xs:=by
 cases d with
 | tup es=>
  obtain⟨a,xs,e,f,q⟩:=r.tup;simp only[Fl,Option.some.injEq]at h;subst h;exact⟨a,xs,e,.inr f,q⟩
 | _=>
  obtain⟨a,xs,e,f,q⟩:=p5 (by simpa only[Fl]using h) r rg
  exact⟨a,xs,e,.inl f,q⟩
theorem xk(rg:RG K H G)(e:H p=none)(r:RDs K H ds xs):RE K G H G (aS H p (.lst xs)) (.fl ds) (.ref p):=
 .inl ⟨ds,p,xs,rfl,rfl,aB,rg.free e,RDs.mono ((Kp.laid (G:=G) e).stb rg) _ _ r,oE e⟩
theorem k_(rg:RG K H G)(e:H p=none)(r:RDs K H ds xs):RD K (aS H p (.tup xs)) (.tup ds) (.ref p):=
 pC (jO.of aB) (RDs.mono ((Kp.laid (G:=G) e).stb rg) _ _ r)
end
end L3
namespace L2
open PySem PySem.Spec PyProof.Rows
section
variable{X:Cx}
theorem PE.imp(h:PE X e t)(i:∀ σ H Q,t' σ H Q->t σ H Q):PE X e t':=fun pins s σ H Q I q=>h pins s σ H Q I (i σ H Q q)
theorem PT.imp(h:PT X e t)(i:∀ σ H Q,t' σ H Q->t σ H Q):PT X e t':=fun pins s σ H Q I q=>h pins s σ H Q I (i σ H Q q)
theorem PW.imp(h:PW X e t)(i:∀ σ H Q,t' σ H Q->t σ H Q):PW X e t':=fun wh pins s σ H Q I q=>h wh pins s σ H Q I (i σ H Q q)
theorem PA.imp(h:PA X es t)(i:∀ σ H Q,t' σ H Q->t σ H Q):PA X es t':=fun pos pins s σ H Q I q=>h pos pins s σ H Q I (i σ H Q q)
theorem PS.imp(h:PS X e t)(i:∀ D σ H,t' D σ H->t D σ H):PS X e t':=fun pins s σ H D I q=>h pins s σ H D I (i D σ H q)
theorem je.imp(h:je X e t)(i:∀ D σ H,t' D σ H->t D σ H):je X e t':=fun pins s σ H D I q=>h pins s σ H D I (i D σ H q)
theorem gL.imp(h:gL X f r)(i:∀ x y H Q,r' x y H Q->r x y H Q):gL X f r':=fun pins s σ H x y v u Q I rx ry q=>h pins s σ H x y v u Q I rx ry (i x y H Q q)
theorem eF.imp(h:eF X f r)(i:∀ xs H Q,r' xs H Q->r xs H Q):eF X f r':=fun pins s σ H xs us Q I r q=>h pins s σ H xs us Q I r (i xs H Q q)
theorem C0.imp(h:C0 X r)(i:∀ x lo hi H Q,r' x lo hi H Q->r x lo hi H Q):C0 X r':=fun pins s σ H x v vl vu lo hi sl Q I rx hs pl pu q=>h pins s σ H x v vl vu lo hi sl Q I rx hs pl pu (i x lo hi H Q q)
theorem C_.imp(h:C_ X r)(i:∀ x y H Q,r' x y H Q->r x y H Q):C_ X r':=fun value slice pins s σ H x y v u Q I rx ry q hs=>h value slice pins s σ H x y v u Q I rx ry (i x y H Q q) hs
theorem Inv.freeze{pins:List (ML×Obj)}{σ:St}{H:Hp}{s:MK}{p:ML}{xs:List V}(I:Inv X pins σ H s)(e:H p=some (.lst xs)):∃ o,Inv X pins σ (aS H p (.frz o (.lst xs))) s:=by
 obtain⟨its,n,rv,ho,hz⟩:=I.lst e;have stay:∀ b,H b=none->(aS H p (.frz { cls:=.type "list",data:=.seq its.toArray n } (.lst xs))) b=none:=fun b hb=>by
  rw[aq (fun z=>by subst z;rw[hb]at e;cases e)];exact hb
 refine⟨{ cls:=.type "list",data:=.seq its.toArray n },⟨I.ok,I.os,I.bare,⟨I.base.keep,I.base.slot,fun b o h1 h2 h3=>stay b (I.base.free b o h1 h2 h3),I.base.there,fun b ys q=>?_,fun b o u q=>?_,fun b ps q=>?_⟩,I.loc,I.cell,stay _ I.free,fun x c hc=>stay c (I.freeC x c hc),fun q hq=>?_,fun b u q=>?_,I.len⟩⟩
 ·have q':=I.base.tups b ys q;rw[aq (fun z=>by subst z;rw[e]at q';cases q')];exact q'
 ·have q':=I.base.frzs b o u q;rw[aq (fun z=>by subst z;rw[e]at q';cases q')];exact q'
 ·obtain⟨more,q'⟩:=I.base.tbls b ps q;exact⟨more,by rw[aq (fun z=>by subst z;rw[e]at q';cases q')];exact q'⟩
 ·obtain⟨h1,h2,h3⟩:=I.pin q hq;exact⟨h1,stay _ h2,h3⟩
 ·by_cases hb:b=p
  ·subst hb;rw[aB]at q;cases q;exact⟨ho,hz,its,n,rv,ho⟩
  ·rw[aq hb]at q;refine (I.hok b u q).stay (fun _ _ _ z=>z) (fun c z=>?_) fun c ys z=>?_
   ·rw[aq (fun y=>by subst y;rw[e]at z;cases z)];exact z
   ·rw[aq (fun y=>by subst y;rw[e]at z;cases z)];exact z
def gh(t:TE):TE:=fun σ H Q=>t σ H fun v H1=>Q v H1\/∃ p xs,v=.ref p/\H1 p=some (.lst xs)/\∀ o,Q v (aS H1 p (.frz o (.lst xs)))
theorem Kc(h:PE X e t):PE X e (gh t):=fun pins s σ H Q I q=>
 bZ (h pins s σ H _ I q) fun u s' zz=>by
  obtain⟨v,H',I',r,q'⟩:=zz;rcases q' with q'|⟨p,xs,rfl,e,q'⟩
  ·exact⟨v,H',I',r,q'⟩
  ·obtain⟨o,I2⟩:=I'.freeze e;exact⟨.ref p,_,I2,r,q' o⟩
end
end L2
namespace L3
open PySem PySem.Spec PyProof.Rows L2
abbrev i_:=D->Gp->Prop
abbrev aZ:=eE->Gp->i_->Prop
abbrev oP:=eE->Gp->(Bool->Gp->Prop)->Prop
abbrev jN:=eE->Gp->(List D->Gp->Prop)->Prop
set_option genInjectivity false in
structure Ends3 where
 nx:eE->Gp->Prop
 rt:i_
 bk:eE->Gp->Prop:=fun _ _=>False
 ct:eE->Gp->Prop:=fun _ _=>False
abbrev bg:=Ends3->eE->Gp->Prop
def ub(K:Ps)(G:Gp)(H:Hp)(Q3:i_)(Q:VK):Prop:=∀ d G' v H',Q3 d G'->Kp G H G' H'->RG K H' G'->RE K G H G' H' d v->Q v H'
def az(K:Ps)(t:aZ):TE:=fun τ H Q=>∃ σ G Q3,RS K H σ τ/\RG K H G/\t σ G Q3/\ub K G H Q3 Q
def cz(K:Ps)(t:oP):TT:=fun τ H Q=>∃ σ G Q3,RS K H σ τ/\RG K H G/\t σ G Q3/\∀ b G' H',Q3 b G'->Kp G H G' H'->RG K H' G'->Q b H'
def dD(K:Ps)(t:jN):TA:=fun τ H Q=>∃ σ G Q3,RS K H σ τ/\RG K H G/\t σ G Q3/\∀ ds G' vs H',Q3 ds G'->Kp G H G' H'->RG K H' G'->RDs K H' ds vs->Q vs H'
structure EndsOk(K:Ps)(G:Gp)(H:Hp)(D3:Ends3)(D:Ends):Prop where
 nx:∀ σ G' τ H',D3.nx σ G'->Kp G H G' H'->RG K H' G'->RS K H' σ τ->D.nx τ H'
 rt:ub K G H D3.rt D.rt
 bk:∀ σ G' τ H',D3.bk σ G'->Kp G H G' H'->RG K H' G'->RS K H' σ τ->D.bk τ H'
 ct:∀ σ G' τ H',D3.ct σ G'->Kp G H G' H'->RG K H' G'->RS K H' σ τ->D.ct τ H'
def bB(K:Ps)(t:bg):TS:=fun D τ H=>∃ σ G D3,RS K H σ τ/\RG K H G/\t D3 σ G/\EndsOk K G H D3 D
theorem ub.base{K:Ps}{G G1:Gp}{H H1:Hp}{Q3:i_}{Q:VK}(f:ub K G H Q3 Q)(k:Kp G H G1 H1):ub K G1 H1 Q3 Q:=
 fun d G' v H' q k' rg re=>f d G' v H' q (k.trans k') rg (re.base k)
theorem EndsOk.base{K:Ps}{G G1:Gp}{H H1:Hp}{D3:Ends3}{D:Ends}(f:EndsOk K G H D3 D)(k:Kp G H G1 H1):EndsOk K G1 H1 D3 D:=
 ⟨fun σ G' τ H' q k'=>f.nx σ G' τ H' q (k.trans k'),f.rt.base k,fun σ G' τ H' q k'=>f.bk σ G' τ H' q (k.trans k'),fun σ G' τ H' q k'=>f.ct σ G' τ H' q (k.trans k')⟩
def val:D->D
 | .fl ds=>.lst ds
 | d=>d
theorem Bn:val (.int i)=.int i:=rfl
theorem Bl:val (.str i)=.str i:=rfl
theorem Bm:val (.ref i)=.ref i:=rfl
def vB(K:Ps)(t:aZ):TE:=fun τ H Q=>∃ σ G Q3,RS K H σ τ/\RG K H G/\t σ G Q3/\∀ d G' v H',Q3 d G'->Kp G H G' H'->RG K H' G'->RD K H' (val d) v->Q v H'
section
variable{X:Cx}{e:M9}{t:aZ}
theorem ER{K:Ps}{G G':Gp}{H H':Hp}{p:ML}{o:HO}(k:Kp G H G' H')(f:HH G H p):Kp G H G' (aS H' p o):=fun a h e n=>by
 have:a≠p:=fun z=>by subst z;exact f h e n
 exact⟨by rw[aq this];exact (k a h e n).1,(k a h e n).2⟩
theorem EO{K:Ps}{G':Gp}{H':Hp}{p:ML}{xs:List V}{o:Obj}(rg:RG K H' G')(e:H' p=some (.lst xs))(n:G' p=none):RG K (aS H' p (.frz o (.lst xs))) G'/\Stb K H' (aS H' p (.frz o (.lst xs))):=by
 have st:Stb K H' (aS H' p (.frz o (.lst xs))):=by
  constructor
  ·intro a ys q;rcases q with (q|⟨ob,q⟩)|q
   ·exact .inl (.inl (by rw[aq (fun z=>by subst z;rw[e]at q;cases q)];exact q))
   ·exact .inl (.inr ⟨ob,by rw[aq (fun z=>by subst z;rw[e]at q;cases q)];exact q⟩)
   ·exact .inr q
  ·intro a ys q;rcases q with ⟨ob,q⟩|q
   ·exact .inl ⟨ob,by rw[aq (fun z=>by subst z;rw[e]at q;cases q)];exact q⟩
   ·exact .inr q
 refine⟨fun a o' q=>?_,st⟩;obtain⟨h,e1,r⟩:=rg a o' q;exact⟨h,by rw[aq (fun z=>by subst z;rw[n]at q;cases q)];exact e1,r.mono st⟩
theorem eg(h:PE X e (az X.K t)):PE X e (vB X.K t):=(Kc h).imp fun τ H Q zz=>by
 obtain⟨σ,G,Q3,rs,rg,ht,hk⟩:=zz;refine⟨σ,G,Q3,rs,rg,ht,fun d G' v H' q k rg' re=>?_⟩;cases d with
 | fl ds=>
  obtain⟨p,xs,rfl,e1,e2,e3,e4⟩:=re.fl;refine .inr ⟨p,xs,rfl,e1,fun o=>?_⟩;obtain⟨rg2,st⟩:=EO (o:=o) rg' e1 e2;exact hk _ G' _ _ q (ER (K:=X.K) k e4) rg2 (sA (.inl ⟨o,aB⟩) (RDs.mono st _ _ e3))
 | _=>exact .inl (hk _ G' v H' q k rg' (re.rd (by intro ds z;cases z)))
end
def bS:bg:=fun D σ G=>D.nx σ G
def sSeq(t u:bg):bg:=fun D σ G=>t { D with nx:=u D } σ G
section
variable{X:Cx}{st:Ng}{c7:List Ng}{t u:bg}{e:M9}{te:aZ}{pos:Pos}
theorem bQ:je X [] (bB X.K bS):=FS.imp fun D τ H zz=>by
 obtain⟨σ,G,D3,rs,rg,h,k⟩:=zz;exact (
  k.nx σ G τ H h Kp.refl rg rs)
theorem ao(h1:PS X st (bB X.K t))(h2:je X c7 (bB X.K u)):je X (st::c7) (bB X.K (sSeq t u)):=(yO h1 h2).imp fun D τ H zz=>by
 obtain⟨σ,G,D3,rs,rg,h,k⟩:=zz;exact (
   ⟨σ,G,{ D3 with nx:=u D3 },rs,rg,h,⟨fun σ' G' τ' H' q k' rg' rs'=>⟨σ',G',D3,rs',rg',q,k.base k'⟩,k.rt,k.bk,k.ct⟩⟩)
theorem aw(h1:PS X st (bB X.K t)):je X [st] (bB X.K t):=wu h1
def dQ(te:aZ):bg:=fun D σ G=>te σ G fun _ G'=>D.nx σ G'
theorem dA(he:PE X e (az X.K te))(hs:N9 e none pos.line X.env=pure false:=by rfl):PS X (.Expr e pos) (bB X.K (dQ te)):=(Bw he hs).imp fun D τ H zz=>by
 obtain⟨σ,G,D3,rs,rg,h,k⟩:=zz;exact (
   ⟨σ,G,fun _ G'=>D3.nx σ G',rs,rg,h,fun d G' v H' q k' rg' _=>k.nx σ G' τ H' q k' rg' (rs.mono (k'.stb rg))⟩)
def aX(te:aZ):bg:=fun D σ G=>te σ G D.rt
theorem aH(he:PE X e (az X.K te)):PS X (.Return (some e) pos) (bB X.K (aX te)):=(Ay he).imp fun D τ H zz=>by
 obtain⟨σ,G,D3,rs,rg,h,k⟩:=zz;exact (
  ⟨σ,G,D3.rt,rs,rg,h,k.rt⟩)
def JX:bg:=fun D _ G=>D.rt .non G
def Ib:bg:=fun D σ G=>D.bk σ G
def JY:bg:=fun D σ G=>D.ct σ G
def h9(c:oP)(t u:bg):bg:=fun D σ G=>c σ G fun b G'=>if b=true then t D σ G' else u D σ G'
theorem eW(hc:PT X c (cz X.K tc))(ha:je X a (bB X.K t))(hb:je X b (bB X.K u)):PS X (.If c a b pos) (bB X.K (h9 tc t u)):=
 (Hq hc ha hb).imp fun D τ H zz=>by
 obtain⟨σ,G,D3,rs,rg,h,k⟩:=zz;exact (
  ⟨σ,G,_,rs,rg,h,fun b G' H' q k' rg'=>by
    cases b with
    | true=>exact⟨σ,G',D3,rs.mono (k'.stb rg),rg',q,k.base k'⟩
    | false=>exact⟨σ,G',D3,rs.mono (k'.stb rg),rg',q,k.base k'⟩⟩)
def ix:bg:=fun _ _ _=>False
theorem wt:PS X st (bB X.K ix):=D8.imp fun D τ H zz=>by
 obtain⟨σ,G,D3,rs,rg,h,k⟩:=zz;exact (
  h)
theorem nX:je X c7 (bB X.K ix):=Ce.imp fun D τ H zz=>by
 obtain⟨σ,G,D3,rs,rg,h,k⟩:=zz;exact (
  h)
def bO(i:Nat)(te:aZ):bg:=fun D σ G=>te σ G fun d G'=>D.nx (σ.set i (some (val d))) G'
theorem aV(hN:X.N.Nodup)(hi:X.N[i]?=some x)(hx:JF X.env.scope x)(he:PE X e (az X.K te))(hs:N9 e (some (.Name x pos')) pos.line X.env=pure false:=by rfl)(hf:X.fn x=true\/X.env.scope.names.lookup x=some .local:=by first|exact .inl rfl|exact .inr rfl|assumption):PS X (.Assign [.Name x pos'] e pos) (bB X.K (bO i te)):=
 (D6 hN hi hx (eg he) hs hf).imp fun D τ H zz=>by
 obtain⟨σ,G,D3,rs,rg,h,k⟩:=zz;exact (
  ⟨σ,G,_,rs,rg,h,fun d G' v H' q k' rg' rd=>k.nx _ G' _ H' q k' rg' ((rs.mono (k'.stb rg)).set rd i)⟩)
def FG(i:Nat)(te:aZ):bg:=fun D σ G=>te σ G fun d G'=>∃ ds,d=.fl ds/\∀ p,G' p=none->D.nx (σ.set i (some (.ref p))) (gset G' p (.lst ds))
theorem Ej{K:Ps}{G:Gp}{H:Hp}{p:ML}{xs:List V}{ds:List D}(rg:RG K H G)(e:H p=some (.lst xs))(r:RDs K H ds xs):RG K H (gset G p (.lst ds)):=fun a o q=>by
 by_cases ha:a=p
 ·subst ha;rw[av]at q;cases q;exact⟨_,e,r⟩
 ·rw[am ha]at q;exact rg a o q
theorem Ek(k:Kp G H G' H')(f:HH G H p):Kp G H (gset G' p o) H':=fun a h e n=>by
 have:a≠p:=fun z=>by subst z;exact f h e n
 exact⟨(k a h e n).1,by rw[am this];exact (k a h e n).2⟩
theorem Ho(hN:X.N.Nodup)(hi:X.N[i]?=some x)(hx:JF X.env.scope x)(he:PE X e (az X.K te))(hs:N9 e (some (.Name x pos')) pos.line X.env=pure false:=by rfl)(hf:X.fn x=true\/X.env.scope.names.lookup x=some .local:=by first|exact .inl rfl|exact .inr rfl|assumption):PS X (.Assign [.Name x pos'] e pos) (bB X.K (FG i te)):=
 (D6 hN hi hx he hs hf).imp fun D τ H zz=>by
 obtain⟨σ,G,D3,rs,rg,h,k⟩:=zz;exact (
  ⟨σ,G,_,rs,rg,h,fun d G' v H' q k' rg' re=>by
    obtain⟨ds,rfl,q⟩:=q;obtain⟨p,xs,rfl,e1,e2,e3,e4⟩:=re.fl;exact k.nx _ _ _ H' (q p e2) (Ek k' e4) (Ej rg' e1 e3) ((rs.mono (k'.stb rg)).set fH i)⟩)
def ig(i:Nat):bg:=fun D σ G=>match σ[i]? with
 | some (some (.ref p))=>match G p with
  | some (.lst ds)=>D.rt (.fl ds) (fL G p)
  | _=>False
 | _=>False
theorem yJ{i:Nat}{x:Str}{pos':Pos}(hN:X.N[i]?=some x)(hv:JB X.env.scope x)(hd:(x == ("__debug__":Str))=false:=by decide)(hcd:(x == ("__classdict__":Str))=false:=by decide):
  PS X (.Return (some (.Name x pos')) pos) (bB X.K (ig i)):=(Ay (wG hN hv hd hcd)).imp fun D τ H zz=>by
 obtain⟨σ,G,D3,rs,rg,h,k⟩:=zz;unfold ig at h;split at h
 ·rename_i p hp;split at h
  ·rename_i ds hg;obtain⟨v,e1,r⟩:=rs.get hp;simp only[RD]at r;subst r;obtain⟨ho,e2,ro⟩:=rg p _ hg;refine⟨_,e1,?_⟩;cases ho with
   | lst xs=>
    have rg2:RG X.K H (fL G p):=fun a o q=>by
     by_cases ha:a=p
     ·subst ha;rw[d9]at q;cases q
     ·rw[d_ ha]at q;exact rg a o q
    refine k.rt _ _ _ H h (fun a ha e n=>⟨e,?_⟩) rg2 (.inl ⟨ds,p,xs,rfl,rfl,e2,d9,ro,fun h' _=>by rw[hg];exact fun z=>nomatch z⟩)
    by_cases hap:a=p
    ·subst hap;exact d9
    ·rw[d_ hap];exact n
   | _=>exact ro.elim
  ·exact h.elim
 ·exact h.elim
end
def ae(i:Nat):aZ:=fun σ G Q=>match σ[i]? with
 | some (some d)=>Q d G
 | _=>False
def eC(d:D):aZ:=fun _ G Q=>Q d G
section
variable{X:Cx}{pos:Pos}{j:Nat}
theorem Kg(hN:X.N[i]?=some x)(hv:JB X.env.scope x)(hd:(x == ("__debug__":Str))=false:=by decide)(hcd:(x == ("__classdict__":Str))=false:=by decide):PE X (.Name x pos) (az X.K (ae i)):=
 (wG hN hv hd hcd).imp fun τ H Q zz=>by
  obtain⟨σ,G,Q3,rs,rg,h,k⟩:=zz;unfold ae at h;split at h
  ·rename_i d hp;obtain⟨v,e1,r⟩:=rs.get hp;exact⟨v,e1,k d G v H h Kp.refl rg (.of r)⟩
  ·exact h.elim
theorem ai(i:Nat)(hN:X.N[i]?=some x:=by rfl)(hv:JB X.env.scope x:=by first|exact Or.inl rfl|exact Or.inr (Or.inl rfl)|exact Or.inr (Or.inr rfl))(hd:(x == ("__debug__":Str))=false:=by decide)(hcd:(x == ("__classdict__":Str))=false:=by decide):PE X (.Name x pos) (az X.K (ae i)):=Kg hN hv hd hcd
theorem JI(h:PE X e (tC v))(r:∀ H,RD X.K H d v):PE X e (az X.K (eC d)):=h.imp fun τ H Q zz=>by
 obtain⟨σ,G,Q3,rs,rg,hq,k⟩:=zz;exact (
  k d G v H hq Kp.refl rg (.of (r H)))
theorem ay:PE X (.Constant (.int i) j pos) (az X.K (eC (.int i))):=JI Ix fun _=>ef
theorem AE:PE X (.Constant (.bool b) j pos) (az X.K (eC (.bl b))):=JI Ke fun _=>fc
theorem vp:PE X (.Constant .none j pos) (az X.K (eC .non)):=JI Iv fun _=>wq
theorem aW:PE X (.Constant (.str x) j pos) (az X.K (eC (.str x))):=JI Iq fun _=>iA
end
abbrev R3:=D->D->Gp->i_->Prop
def cR(K:Ps)(r3:R3):R2:=fun v u H Q=>∃ x y G0 H0 G Q3,RE K G0 H0 G H x v/\RE K G0 H0 G H y u/\RG K H G/\r3 x y G Q3/\ub K G H Q3 Q
def cu(r:R3)(ta tb:aZ):aZ:=fun σ G Q=>ta σ G fun x G1=>tb σ G1 fun y G2=>r x y G2 Q
section
variable{X:Cx}{a b c:M9}{ta tb tc:aZ}{pos:Pos}{r r':R3}
theorem two{K:Ps}{r2:R2}{Q:VK}{τ:St}{H:Hp}(hr:r2=cR K r)(h:az K (cu r ta tb) τ H Q):JO r2 (az K ta) (az K tb) τ H Q:=by
 subst hr;obtain⟨σ,G,Q3,rs,rg,h,k⟩:=h;refine⟨σ,G,fun x G1=>tb σ G1 fun y G2=>r x y G2 Q3,rs,rg,h,fun x G1 v H1 h1 k1 rg1 re1=>⟨σ,G1,fun y G2=>r x y G2 Q3,rs.mono (k1.stb rg),rg1,h1,fun y G2 u H2 h2 k2 rg2 re2=>?_⟩⟩;exact⟨x,y,G,H,G2,Q3,re1.wait k2 rg1,re2.base k1,rg2,h2,k.base (k1.trans k2)⟩
theorem ce(ho:gL X (N6 op) (cR X.K r))(ha:PE X a (az X.K ta))(hb:PE X b (az X.K tb)):PE X (.BinOp a op b pos) (az X.K (cu r ta tb)):=
 (Ka ho ha hb).imp fun _ _ _ h=>two rfl h
def bJ(t:aZ):oP:=fun σ G Q=>t σ G fun d G'=>match d with
 | .bl b=>Q b G'
 | _=>False
theorem v0{K:Ps}{t:aZ}{τ:St}{H:Hp}{Q:Bool->Hp->Prop}(h:cz K (bJ t) τ H Q):Dv (az K t) τ H Q:=by
 obtain⟨σ,G,Q3,rs,rg,h,k⟩:=h;refine⟨σ,G,_,rs,rg,h,fun d G' v H' q k' rg' re=>?_⟩;cases d with
 | bl b=>exact⟨b,re.bl,k b G' H' q k' rg'⟩
 | _=>exact q.elim
theorem wH(ho:gL X (Nv op) (cR X.K r))(ha:PE X a (az X.K ta))(hb:PE X b (az X.K tb))(hm:Oh op b=false):PT X (.Compare a [op] [b] pos) (cz X.K (bJ (cu r ta tb))):=
 (Bv ho ha hb hm).imp fun _ _ _ h=>two rfl (v0 h)
def dX(r r':R3)(ta tb tc:aZ):aZ:=fun σ G Q=>ta σ G fun x G1=>tb σ G1 fun y G2=>r x y G2 fun z G3=>match z with
 | .bl k=>if k=true then tc σ G3 fun w G4=>r' y w G4 Q else Q (.bl false) G3
 | _=>False
theorem KH{K:Ps}{Q:VK}{τ:St}{H:Hp}(h:az K (dX r r' ta tb tc) τ H Q):Dy (cR K r) (cR K r') (az K ta) (az K tb) (az K tc) τ H Q:=by
 obtain⟨σ,G,Q3,rs,rg,h,k⟩:=h;refine⟨σ,G,_,rs,rg,h,fun x G1 v H1 h1 k1 rg1 re1=>⟨σ,G1,_,rs.mono (k1.stb rg),rg1,h1,fun y G2 u H2 h2 k2 rg2 re2=>?_⟩⟩;refine⟨x,y,G,H,G2,_,re1.wait k2 rg1,re2.base k1,rg2,h2,fun z G3 w H3 h3 k3 rg3 re3=>?_⟩;have k13:=k1.trans (k2.trans k3);cases z with
 | bl kk=>
  refine⟨kk,re3.bl,?_⟩;cases kk with
  | true=>
   refine iteT ?_;refine⟨σ,G3,_,rs.mono (k13.stb rg),rg3,h3,fun w' G4 w4 H4 h4 k4 rg4 re4=>?_⟩;exact⟨y,w',G,H,G4,Q3,(re2.base k1).wait (k3.trans k4) rg2,re4.base k13,rg4,h4,k.base (k13.trans k4)⟩
  | false=>exact iteF (k _ G3 _ H3 h3 k13 rg3 (.of fc))
 | _=>exact h3.elim
theorem dR(ho:gL X (Nv op) (cR X.K r))(ho':gL X (Nv op') (cR X.K r'))(ha:PE X a (az X.K ta))(hb:PE X b (az X.K tb))(hc:PE X c (az X.K tc))(hm:lastMarks [op,op'] [b,c]=false:=by with_unfolding_all rfl):PT X (.Compare a [op,op'] [b,c] pos) (cz X.K (bJ (dX r r' ta tb tc))):=
 (D4 ho ho' ha hb hc hm).imp fun τ H Q h=>by
  obtain⟨σ,G,Q3,rs,rg,h,k⟩:=h;refine KH (Q:=fun x H'=>∃ k,x=.bl k/\Q k H') ⟨σ,G,_,rs,rg,h,fun d G' v H' q k' rg' re=>?_⟩;cases d with
  | bl b=>exact⟨b,re.bl,k b G' H' q k' rg'⟩
  | _=>exact q.elim
def u6(t u:oP):oP:=fun σ G Q=>t σ G fun c G1=>if c=true then u σ G1 Q else Q false G1
def Ag(t u:oP):oP:=fun σ G Q=>t σ G fun c G1=>if c=true then Q true G1 else u σ G1 Q
def gy(t:oP):oP:=fun σ G Q=>t σ G fun c G1=>Q (!c) G1
variable{tA tB:oP}{es:List M9}
theorem Dp(ha:PT X a (cz X.K tA)):PW X (.BoolOp .And [a] pos) (cz X.K tA):=FO ha
theorem Do(ha:PT X a (cz X.K tA)):PW X (.BoolOp .Or [a] pos) (cz X.K tA):=Ih ha
theorem He(ha:PT X a (cz X.K tA))(hb:PW X (.BoolOp .And (b::es) pos) (cz X.K tB)):PW X (.BoolOp .And (a::b::es) pos) (cz X.K (u6 tA tB)):=(Ii ha hb).imp fun τ H Q zz=>by
 obtain⟨σ,G,Q3,rs,rg,h,k⟩:=zz;exact (
   ⟨σ,G,_,rs,rg,h,fun c G1 H1 q k1 rg1=>by
    cases c with
    | true=>exact iteT ⟨σ,G1,Q3,rs.mono (k1.stb rg),rg1,q,fun b' G' H' q' k' rg'=>k b' G' H' q' (k1.trans k') rg'⟩
    | false=>exact iteF (k false G1 H1 q k1 rg1)⟩)
theorem HN(ha:PT X a (cz X.K tA))(hb:PW X (.BoolOp .Or (b::es) pos) (cz X.K tB)):PW X (.BoolOp .Or (a::b::es) pos) (cz X.K (Ag tA tB)):=(J7 ha hb).imp fun τ H Q zz=>by
 obtain⟨σ,G,Q3,rs,rg,h,k⟩:=zz;exact (
   ⟨σ,G,_,rs,rg,h,fun c G1 H1 q k1 rg1=>by
    cases c with
    | false=>exact iteF ⟨σ,G1,Q3,rs.mono (k1.stb rg),rg1,q,fun b' G' H' q' k' rg'=>k b' G' H' q' (k1.trans k') rg'⟩
    | true=>exact iteT (k true G1 H1 q k1 rg1)⟩)
theorem gX(ha:PT X a (cz X.K tA)):PT X (.UnaryOp .Not a pos) (cz X.K (gy tA)):=(Ik ha).imp fun τ H Q zz=>by
 obtain⟨σ,G,Q3,rs,rg,h,k⟩:=zz;exact (
  ⟨σ,G,_,rs,rg,h,fun c G1 H1 q k1 rg1=>k (!c) G1 H1 q k1 rg1⟩)
def GJ(ta tb:aZ):aZ:=fun σ G Q=>ta σ G fun x G1=>match x with
 | .bl c=>if c=true then tb σ G1 Q else Q (.bl false) G1
 | _=>False
def Mz(ta tb:aZ):aZ:=fun σ G Q=>ta σ G fun x G1=>match x with
 | .bl c=>if c=true then Q (.bl true) G1 else tb σ G1 Q
 | _=>False
theorem Kh{op}(h:PE X a (az X.K ta)):PE X (.BoolOp op [a] pos) (az X.K ta):=Ir h
theorem Ht(ha:PE X a (az X.K ta))(hb:PE X (.BoolOp .And (b::es) pos) (az X.K tb)):PE X (.BoolOp .And (a::b::es) pos) (az X.K (GJ ta tb)):=(Iz ha hb).imp fun τ H Q zz=>by
 obtain⟨σ,G,Q3,rs,rg,h,k⟩:=zz;exact (
   ⟨σ,G,_,rs,rg,h,fun x G1 v H1 q k1 rg1 re=>by
    cases x with
    | bl c=>
     refine⟨c,re.bl,?_⟩;cases c with
     | true=>exact iteT ⟨σ,G1,Q3,rs.mono (k1.stb rg),rg1,q,k.base k1⟩
     | false=>exact iteF (k _ G1 _ H1 q k1 rg1 (.of fc))
    | _=>exact q.elim⟩)
def BK(ta:aZ):aZ:=fun σ G Q=>ta σ G fun x G1=>match x with
 | .bl c=>Q (.bl (!c)) G1
 | _=>False
theorem Hs(ha:PE X a (az X.K ta)):PE X (.UnaryOp .Not a pos) (az X.K (BK ta)):=(Iu ha).imp fun τ H Q zz=>by
 obtain⟨σ,G,Q3,rs,rg,h,k⟩:=zz;exact (
   ⟨σ,G,_,rs,rg,h,fun x G1 v H1 q k1 rg1 re=>by
    cases x with
    | bl c=>exact⟨c,re.bl,k _ G1 _ H1 q k1 rg1 (.of fc)⟩
    | _=>exact q.elim⟩)
def MA(c:oP)(ta tb:aZ):aZ:=fun σ G Q=>c σ G fun b G1=>if b=true then ta σ G1 Q else tb σ G1 Q
def HR(G:Gp):D->Option Bool
 | .non=>some false
 | .bl b=>some b
 | .int i=>some (i != 0)
 | .str y=>some ((y.length:Int) != 0)
 | d=>(Fl G d).map fun ds=>!ds.isEmpty
def uk(t:aZ):oP:=fun σ G Q=>t σ G fun d G'=>match HR G' d with
 | some b=>(match d with|.str y=>y.length<=MT|_=>True)/\Q b G'
 | none=>False
theorem i0(ha:PE X a (az X.K ta))(he:∀ whole,RF a X.env whole=(do let v <- whole;Ph a.pos;holding [v] (truthy v)):=by intro _;rfl):PT X a (cz X.K (uk ta)):=
 (DX ha he).imp fun τ H Q zz=>by
 obtain⟨σ,G,Q3,rs,rg,h,k⟩:=zz;exact (
  ⟨σ,G,_,rs,rg,h,fun d G' v H' q k' rg' re=>by
    cases d with
    | non=>rw[re.non];exact⟨false,rfl,k _ G' H' q.2 k' rg'⟩
    | bl b=>rw[re.bl];exact⟨b,rfl,k _ G' H' q.2 k' rg'⟩
    | int i=>rw[re.int];exact⟨_,rfl,k _ G' H' q.2 k' rg'⟩
    | str y=>rw[re.str];exact⟨_,⟨q.1,rfl⟩,k _ G' H' q.2 k' rg'⟩
    | ty n=>exact q.elim
    | _=>
     split at q
     ·rename_i b hb;simp only[HR,Option.map_eq_some_iff]at hb;obtain⟨ds,hq,rfl⟩:=hb;obtain⟨a,xs,rfl,s,r⟩:=tX hq re rg';have el:(!ds.isEmpty)=!xs.isEmpty:=by
       have:=r.length;cases ds<;>cases xs<;>simp_all
      refine⟨!xs.isEmpty,?_,k _ G' H' (by rw[<- el];exact q.2) k' rg'⟩
      rcases s with s|s
      ·exact .inl ⟨xs,s,rfl⟩
      ·exact .inr (.inl ⟨xs,s,rfl⟩)
     ·exact q.elim⟩)
end
end L3
namespace L2
open PySem PySem.Spec PyProof.Rows
section
variable{X:Cx}
def J5(K:Ps):R2:=fun x y H Q=>∃ l b xs zs,x=.ref l/\y=.ref b/\jP K H l xs/\jP K H b zs/\xs.length+zs.length<=MT/\∀ p,H p=none->Q (.ref p) (aS H p (.lst (xs ++ zs)))
theorem Gd:gL X (N6 .Add) (J5 X.K):=by
 intro pins s σ H x y v u Q I rx ry h;obtain⟨l,b,xs,zs,rfl,rfl,hH,hB,hz,q⟩:=h;cases rx;cases ry;obtain⟨its,r,pl,z⟩:=I.list hH;obtain⟨its2,r2,pl2,z2⟩:=I.list hB;obtain⟨⟨cls,dd,data,sl⟩,ho,hc,n,hd⟩:=pl.isList;obtain⟨⟨cls2,dd2,data2,sl2⟩,ho2,hc2,n2,hd2⟩:=pl2.isList;simp only at hc hd hc2 hd2;subst hc hd hc2 hd2;have hl:=r.length;have hl2:=r2.length;have e:its.toArray ++ its2.toArray=(its ++ its2).toArray:=by simp
 refine RI ⟨_,ho,rfl⟩ ⟨_,ho2,rfl⟩ noFill_list_add seq_list_add PySem.F.slot_list_add PySem.F.entry_list_add (PySem.F.args_list_add_2 _ _) (list_addW l b its.toArray its2.toArray n n2 dd dd2 sl sl2 (by simp only[MV];omega)) ⟨ho,ho2,?_⟩
 rw[e];exact⟨.ref _,_,I.lnew (t':=s.toks) (r.append r2) (by rw[Nl];omega),rfl,q _ I.fresh⟩
end
end L2
namespace L3
open PySem PySem.Spec PyProof.Rows L2
section
variable{X:Cx}
def iD:R3:=fun x y G Q=>match x,y with
 | .int i,.int j=>Q (.int (i+j)) G
 | .str i,.str j=>i.length+j.length<=MT/\Q (.str (i ++ j)) G
 | .tup xs,.tup ys=>xs≠[]/\xs.length+ys.length<=MT/\Q (.tup (xs ++ ys)) G
 | x,y=>match tY G x,tY G y with
  | some xs,some ys=>xs.length+ys.length<=MT/\Q (.fl (xs ++ ys)) G
  | _,_=>False
theorem ft:gL X (N6 .Add) (cR X.K iD):=by
 refine ((II (X:=X)).or ((AG (X:=X)).or ((Gc (X:=X)).or (Gd (X:=X))))).imp fun v u H Q zz=>?_;obtain⟨x,y,G0,H0,G,Q3,rx,ry,rg,h,k⟩:=zz;unfold iD at h;split at h
 ·rename_i i j;exact .inl ⟨i,j,rx.int,ry.int,k _ G _ H h Kp.refl rg (.of ef)⟩
 ·rename_i i j;exact .inr (.inl ⟨i,j,rx.str,ry.str,h.1,k _ G _ H h.2 Kp.refl rg (.of iA)⟩)
 ·rename_i ds es;obtain⟨a,xs,rfl,s1,r1⟩:=rx.tup;obtain⟨b,ys,rfl,s2,r2⟩:=ry.tup;have l1:=r1.length;have l2:=r2.length;refine .inr (.inr (.inl ⟨a,b,xs,ys,rfl,rfl,s1,s2,fun z=>h.1 ?_,by have:=h.2.1;omega,fun z=>?_,fun _ p hp=>?_⟩))
  ·subst z;exact List.length_eq_zero_iff.mp l1
  ·subst z;have:es=[]:=List.length_eq_zero_iff.mp l2;subst this;have hh:=h.2.2;rw[Oc]at hh;exact k _ G _ H hh Kp.refl rg (.of (pC s1 r1))
  ·exact k _ G _ _ h.2.2 (Kp.laid hp) (rg.laid hp) (.of (k_ rg hp (r1.append r2)))
 ·split at h
  ·rename_i ds es hx hy;obtain⟨a,xs,rfl,s1,r1⟩:=p5 hx rx rg;obtain⟨b,ys,rfl,s2,r2⟩:=p5 hy ry rg;have l1:=r1.length;have l2:=r2.length;exact .inr (.inr (.inr ⟨a,b,xs,ys,rfl,rfl,s1,s2,by have:=h.1;omega,fun p hp=>k _ G _ _ h.2 (Kp.laid hp) (rg.laid hp) (xk rg hp (r1.append r2))⟩))
  ·exact h.elim
def oI(C:Int->Int->Prop)(g:Int->Int->D):R3:=fun x y G Q=>match x,y with
 | .int i,.int j=>C i j/\Q (g i j) G
 | _,_=>False
def Hv(g:Int->Int->D):R3:=fun x y G Q=>match x,y with
 | .int i,.int j=>Q (g i j) G
 | _,_=>False
theorem Lk(h:gL X f (rI C g))(r:∀ i j H,RD X.K H (g3 i j) (g i j)):gL X f (cR X.K (oI C g3)):=
 h.imp fun v u H Q zz=>by
  obtain⟨x,y,G0,H0,G,Q3,rx,ry,rg,h,k⟩:=zz;unfold oI at h;split at h
  ·rename_i i j;exact⟨i,j,rx.int,ry.int,h.1,k _ G _ H h.2 Kp.refl rg (.of (r i j H))⟩
  ·exact h.elim
theorem Fw(h:gL X f (Hm g))(r:∀ i j H,RD X.K H (g3 i j) (g i j)):gL X f (cR X.K (Hv g3)):=
 h.imp fun v u H Q zz=>by
  obtain⟨x,y,G0,H0,G,Q3,rx,ry,rg,h,k⟩:=zz;unfold Hv at h;split at h
  ·rename_i i j;exact⟨i,j,rx.int,ry.int,k _ G _ H h Kp.refl rg (.of (r i j H))⟩
  ·exact h.elim
def Cq:R3:=Hv fun i j=>.int (i - j)
theorem Bj:gL X (N6 .Sub) (cR X.K Cq):=Fw IE fun _ _ _=>ef
def lL:R3:=oI (fun _ j=>0 < j) fun i j=>.int (i % j)
theorem ib:gL X (N6 .Mod) (cR X.K lL):=Lk IH fun _ _ _=>ef
def uD:R3:=oI xK fun i j=>.int (i / j)
theorem p_:gL X (N6 .FloorDiv) (cR X.K uD):=Lk Gb fun _ _ _=>ef
def Gf:R3:=oI Hc fun i j=>.int (i ^ j.toNat)
theorem Hd:gL X (N6 .Pow) (cR X.K Gf):=Lk IF fun _ _ _=>ef
def Fk:R3:=Hv fun i j=>.bl (decide (i < j))
theorem xP:gL X (Nv .Lt) (cR X.K Fk):=Fw Kj fun _ _ _=>fc
def yV:R3:=Hv fun i j=>.bl (decide (i<=j))
theorem mr:gL X (Nv .LtE) (cR X.K yV):=Fw Kk fun _ _ _=>fc
def Lf:R3:=Hv fun i j=>.bl (decide (j < i))
theorem Lj:gL X (Nv .Gt) (cR X.K Lf):=Fw Kl fun _ _ _=>fc
def Mv:R3:=Hv fun i j=>.bl (decide (j<=i))
def au:jN:=fun _ G Q=>Q [] G
def af(ta:aZ)(tr:jN):jN:=fun σ G Q=>ta σ G fun x G1=>tr σ G1 fun xs G2=>Q (val x::xs) G2
variable{e:M9}{es:List M9}{te:aZ}{t:jN}{pos:Pos}
theorem aj:PA X [] (dD X.K au):=IA.imp fun τ H Q zz=>by
 obtain⟨σ,G,Q3,rs,rg,h,k⟩:=zz;exact (
  k [] G [] H h Kp.refl rg RDs.nil)
theorem aa(ha:PE X e (az X.K te))(hr:PA X es (dD X.K t))(hs:MU (e::es) X.env=(false,eval e X.env)::MU es X.env:=by rfl):PA X (e::es) (dD X.K (af te t)):=
 (F4 (eg ha) hr hs).imp fun τ H Q zz=>by
 obtain⟨σ,G,Q3,rs,rg,h,k⟩:=zz;exact (
  ⟨σ,G,_,rs,rg,h,fun x G1 v H1 q k1 rg1 rd=>⟨σ,G1,_,rs.mono (k1.stb rg),rg1,q,fun ds G2 vs H2 q2 k2 rg2 rds=>
    k _ G2 _ H2 q2 (k1.trans k2) rg2 (RDs.cons (RD.mono (k2.stb rg1) _ _ rd) rds)⟩⟩)
def jY(t:jN):aZ:=fun σ G Q=>t σ G fun ds G1=>ds.length<=MT/\Q (.tup ds) G1
def A2(t:jN):aZ:=fun σ G Q=>t σ G fun ds G1=>ds.length<=MT/\Q (.fl ds) G1
theorem gC{x1}(h:PA X es (dD X.K t)):PE X (.Tuple es x1 pos) (az X.K (jY t)):=(Ip h).imp fun τ H Q zz=>by
 obtain⟨σ,G,Q3,rs,rg,h,k⟩:=zz;exact (
  ⟨σ,G,_,rs,rg,h,fun ds G1 vs H1 q k1 rg1 rds=>
   ⟨by rw[<- rds.length];exact q.1,fun p hp=>k _ G1 _ _ q.2 (k1.trans (Kp.laid hp)) (rg1.laid hp) (.of (k_ rg1 hp rds))⟩⟩)
theorem yT(h:PA X es (dD X.K t)):PE X (.List es pos) (az X.K (A2 t)):=(Iw h).imp fun τ H Q zz=>by
 obtain⟨σ,G,Q3,rs,rg,h,k⟩:=zz;exact (
  ⟨σ,G,_,rs,rg,h,fun ds G1 vs H1 q k1 rg1 rds=>
   ⟨by rw[<- rds.length];exact q.1,fun p hp=>k _ G1 _ _ q.2 (k1.trans (Kp.laid hp)) (rg1.laid hp) ((xk rg1 hp rds).base k1)⟩⟩)
def Hj(x:Str)(i:Int):Option D:=(mX x.cps.toList i).map fun c=>.str ⟨#[c]⟩
def jd:R3:=fun x y G Q=>match x,y with
 | .str z,.int i=>z.length<=MT/\match Hj z i with
  | some d=>Q d G
  | none=>False
 | x,.int i=>match Fl G x with
  | some ds=>match mX ds i with
   | some d=>Q d G
   | none=>False
  | none=>False
 | _,_=>False
theorem GT{K:Ps}{H:Hp}{ds:List D}{xs:List V}{i:Int}{d:D}(r:RDs K H ds xs)(h:mX ds i=some d):∃ v,mX xs i=some v/\RD K H d v:=by
 unfold mX at h ⊢;rw[<- r.length];cases e:HB ds.length i with
 | none=>rw[e]at h;cases h
 | some j=>
  rw[e]at h;exact r.get h
theorem Li:C_ X (cR X.K jd):=(I_ (X:=X)).imp fun v u H Q zz=>by
 obtain⟨x,y,G0,H0,G,Q3,rx,ry,rg,h,k⟩:=zz;unfold jd at h;split at h
 ·rename_i z i;obtain⟨h1,h2⟩:=h;split at h2
  ·rename_i d hd;unfold Hj at hd;rw[Option.map_eq_some_iff]at hd;obtain⟨c,hc,rfl⟩:=hd;exact .inr (.inr ⟨z,i,c,rx.str,ry.int,h1,hc,k _ G _ H h2 Kp.refl rg (.of iA)⟩)
  ·exact h2.elim
 ·rename_i i _;split at h
  ·rename_i ds hds;split at h
   ·rename_i d hd;obtain⟨a,xs,rfl,s,r⟩:=tX hds rx rg;obtain⟨w,hw,rd⟩:=GT r hd;have fin:=k _ G _ H h Kp.refl rg (.of rd);rcases s with s|s
    ·exact .inl ⟨a,xs,i,w,rfl,ry.int,s,hw,fin⟩
    ·exact .inr (.inl ⟨a,xs,i,w,rfl,ry.int,s,hw,fin⟩)
   ·exact h.elim
  ·exact h.elim
 ·exact h.elim
variable{a b:M9}{ta tb:aZ}
theorem dS(ha:PE X a (az X.K ta))(hb:PE X b (az X.K tb))(hs:BX b:=by exact fun _ _=>rfl):PE X (.Subscript a b pos) (az X.K (cu jd ta tb)):=(Kb Li ha hb hs).imp fun _ _ _ h=>two rfl h
abbrev JC:=eE->Gp->(Option Int->Gp->Prop)->Prop
def BF(K:Ps)(t:JC):TO:=fun τ H Q=>∃ σ G Q3,RS K H σ τ/\RG K H G/\t σ G Q3/\∀ o G' H',Q3 o G'->Kp G H G' H'->RG K H' G'->Q o H'
theorem PO.imp{e:Option M9}{t t':TO}(h:PO X e t)(i:∀ σ H Q,t' σ H Q->t σ H Q):PO X e t':=fun pins s σ H Q I q=>h pins s σ H Q I (i σ H Q q)
def Kn:JC:=fun _ G Q=>Q none G
def n6(t:aZ):JC:=fun σ G Q=>t σ G fun x G1=>match x with
 | .int i=>Q (some i) G1
 | _=>False
theorem AI:PO X none (BF X.K Kn):=PO.imp FW fun τ H Q zz=>by
 obtain⟨σ,G,Q3,rs,rg,h,k⟩:=zz;exact (
  k none G H h Kp.refl rg)
theorem mM(h:PE X e (az X.K te)):PO X (some e) (BF X.K (n6 te)):=PO.imp (FV h) fun τ H Q ⟨σ,G,Q3,rs,rg,h,k⟩=>⟨σ,G,_,rs,rg,h,fun d G1 v H1 q k1 rg1 re=>by
 cases d with
 | int i=>exact⟨i,re.int,k _ G1 H1 q k1 rg1⟩
 | _=>exact q.elim⟩
abbrev K7:=D->Option Int->Option Int->Gp->i_->Prop
def Ey(K:Ps)(r:K7):V->Option Int->Option Int->Hp->VK->Prop:=fun v lo hi H Q=>∃ x G0 H0 G Q3,RE K G0 H0 G H x v/\RG K H G/\r x lo hi G Q3/\ub K G H Q3 Q
def Jh(r:K7)(te:aZ)(tl th:JC):aZ:=fun σ G Q=>te σ G fun x G1=>tl σ G1 fun l G2=>th σ G2 fun u G3=>r x l u G3 Q
theorem nZ{r:K7}{lo hi:Option M9}{tl th:JC}{p2:Pos}(hr:C0 X (Ey X.K r))(he:PE X e (az X.K te))(hl:PO X lo (BF X.K tl))(hu:PO X hi (BF X.K th)):PE X (.Subscript e (.Slice lo hi none p2) pos) (az X.K (Jh r te tl th)):=
 (Ed hr he hl hu).imp fun τ H Q zz=>by
 obtain⟨σ,G,Q3,rs,rg,h,k⟩:=zz;exact (
  ⟨σ,G,_,rs,rg,h,fun x G1 v H1 q1 k1 rg1 re=>⟨σ,G1,_,rs.mono (k1.stb rg),rg1,q1,fun l G2 H2 q2 k2 rg2=>
    ⟨σ,G2,_,rs.mono ((k1.trans k2).stb rg),rg2,q2,fun u G3 H3 q3 k3 rg3=>⟨x,G,H,G3,Q3,re.wait (k2.trans k3) rg1,rg3,q3,k.base (k1.trans (k2.trans k3))⟩⟩⟩⟩)
def cutD(ds:List D)(lo hi:Option Int):List D:=(ds.drop (HT.sIx ds.length 0 lo)).take (HT.sIx ds.length ds.length hi - HT.sIx ds.length 0 lo)
theorem BL{K:Ps}{H:Hp}{ds:List D}{xs:List V}(r:RDs K H ds xs)(lo hi:Option Int):RDs K H (cutD ds lo hi) (zC xs lo hi):=by
 unfold cutD zC;rw[r.length];exact (r.drop _).take _
end
end L3
namespace L2
open PySem PySem.Spec PyProof.Rows
def Mf(xs:List V):It:=⟨fun i _=>i < xs.length,fun i H x H'=>H'=H/\xs[i]?=some x,fun i _=>i=xs.length⟩
def de(x:Str):List V:=x.cps.toList.map fun c=>V.str ⟨#[c]⟩
theorem lQ(x:Str):(de x).length=x.cps.size:=by simp[de]
theorem Dr{P:MY}{w:M7}{K:Ps}{tg:M9}(it:ML)(x:Str)(t:Tok)(ty:String)(hty:ty="str_ascii_iterator"\/ty="str_iterator"):
  Turn P w K tg (Mf (de x)) [it] it (fun i h=>h.IsStrIter it ty x t i) where
 mem:=by simp
 obj:=fun i h st b hb=>by
  have e:b=it:=by simpa using hb
  subst e;obtain⟨o,e,c,d⟩:=st;exact⟨o,e,fun v z=>by rw[d]at z;cases z⟩
 keep:=fun i h h' st k=>let ⟨o,ho,r⟩:=st;⟨o,k it (by simp) o ho,r⟩
 item:=by
  intro X hP hw hK hc i pins s σ H E I hf st hg;subst hP hw hK;obtain⟨f0,f1,f2,f3,f4,f5⟩:=hf it (by simp)
  have W:Walks X.prog X.w X.A it [it] [it] x.cps.size (SignAt x) (fun i h=>h.IsStrIter it ty x t i):=by
   rcases hty with rfl|rfl
   ·exact Walks.strAscii (I.ok.hd hc) it x t
   ·exact Walks.strWide (I.ok.hd hc) it x t
  refine W.item i s _ _ (by have:i < (de x).length:=hg;rw[lQ]at this;exact this) st fun v h' tk hv st' kk=>?_
  obtain⟨c,u,hc',rfl⟩:=hv;have I1:Inv X pins σ H { s with heap:=h',toks:=tk }:=I.turned (fun b o hb e=>kk b o (by simpa using hb) e) f0 f1 f3 f4 f5
  obtain⟨o,e,c1,d⟩:=id st';refine⟨_,rfl,zo (s:={ s with heap:=h',toks:=tk }) e c1 d (by rcases hty with rfl|rfl<;>decide) ⟨.str ⟨#[c]⟩,H,I1,⟨u,rfl⟩,⟨rfl,?_⟩,st',fun b hb=>(hf b hb).1⟩⟩
  simp only[de,Nc,Array.getElem?_toList,hc',Option.map_some]
 done:=by
  intro X hP hw hK hc i pins s σ H E I hf st hg;subst hP hw hK;obtain⟨f0,f1,f2,f3,f4,f5⟩:=hf it (by simp)
  have W:Walks X.prog X.w X.A it [it] [it] x.cps.size (SignAt x) (fun i h=>h.IsStrIter it ty x t i):=by
   rcases hty with rfl|rfl
   ·exact Walks.strAscii (I.ok.hd hc) it x t
   ·exact Walks.strWide (I.ok.hd hc) it x t
  have e:i=x.cps.size:=by have:i=(de x).length:=hg;rw[lQ]at this;exact this
  subst e;exact W.done s _ _ st fun h' tk kk=>⟨rfl,I.turned (fun b o hb e=>kk b o (by simpa using hb) e) f0 f1 f3 f4 f5⟩
 self:=fun A i s Q E st h=>by
  rcases hty with rfl|rfl
  ·exact wpAny_pyIter_striter_ascii st h
  ·exact wpAny_pyIter_striter_wide st h
section
variable{X:Cx}{tg:M9}
theorem A7:∀ (names:List (Str×PD)) (sc:O9),sc.names=names->(∀ x∈names,x.2=.free->∃ c,env.cells.lookup x.1=some c)->
  ∃ cl,Sq sc env=pure cl/\(∀ x c,cl.lookup x=some c->env.cells.lookup x=some c)/\(∀ x∈names,x.2=.free->∃ c,cl.lookup x.1=some c):=by
 have loop:∀ (names:List (Str×PD)) (cs:List (Str×ML)),(∀ x∈names,x.2=.free->∃ c,env.cells.lookup x.1=some c)->(∀ x c,cs.lookup x=some c->env.cells.lookup x=some c)->
   ∃ cl,(forIn names cs fun (x:Str×PD) (r:List (Str×ML))=>(match x with
    | (name,kind)=>if (kind == NameKind.free)=true then (do let a <- cellOf env name;pure (ForInStep.yield ((name,a)::r)))else pure (ForInStep.yield r):Sem (ForInStep (List (Str×ML)))))=(pure cl:Sem (List (Str×ML)))/\
    (∀ x c,cl.lookup x=some c->env.cells.lookup x=some c)/\(∀ x,(∃ c,cs.lookup x=some c)->∃ c,cl.lookup x=some c)/\(∀ x∈names,x.2=.free->∃ c,cl.lookup x.1=some c):=by
  intro names
  induction names with
  | nil=>intro cs _ h2;exact⟨cs,rfl,h2,fun _ z=>z,fun _ z=>nomatch z⟩
  | cons y r ih=>
   obtain⟨name,kind⟩:=y;intro cs h1 h2;cases hk:(kind == NameKind.free) with
   | false=>
    obtain⟨cl,e,a,b,c⟩:=ih cs (fun x hx=>h1 x (MW _ hx)) h2;refine⟨cl,?_,a,b,fun x hx hf=>?_⟩
    ·rw[O2];simp only[hk,Bool.false_eq_true,if_false];exact e
    ·rcases Nr.mp hx with rfl|hx
     ·rw[show kind=NameKind.free from hf]at hk;cases hk
     ·exact c x hx hf
   | true=>
    have hkf:kind=NameKind.free:=by simpa using hk
    obtain⟨ca,hca⟩:=h1 (name,kind) MZ hkf;have Ua:env.cells.lookup name=some ca:=hca;have nx:∀ x c,((name,ca)::cs).lookup x=some c->env.cells.lookup x=some c:=fun x c hx=>by
     rw[Og]at hx;split at hx
     ·rename_i hb;have:x=name:=by simpa using hb
      cases hx;rw[this];exact Ua
     ·exact h2 x c hx
    obtain⟨cl,e,a,b,c⟩:=ih ((name,ca)::cs) (fun x hx=>h1 x (MW _ hx)) nx;refine⟨cl,?_,a,fun x ⟨c',hx⟩=>?_,fun x hx hf=>?_⟩
    ·rw[O2];simp only[hk,if_true];unfold cellOf;rw[Ua];exact e
    ·by_cases hxn:x=name
     ·exact b x ⟨ca,by rw[Og,hxn,beq_self_eq_true]⟩
     ·exact b x ⟨c',by rw[Og,show (x == name)=false by simpa using hxn];exact hx⟩
    ·rcases Nr.mp hx with rfl|hx
     ·exact b name ⟨ca,by rw[Og,beq_self_eq_true]⟩
     ·exact c x hx hf
 intro names sc hsc h;subst hsc;obtain⟨cl,e,a,_,c⟩:=loop sc.names [] h (fun x c z=>by simp at z)
 refine⟨cl,?_,a,c⟩;unfold Sq;show (forIn sc.names [] _ >>= fun r=>pure r)=_
 refine Eq.trans ?_ (congrArg (fun m=>m >>= fun r=>(pure r:Sem (List (Str×ML)))) e);rfl
def bq(X:Cx)(N':List Str)(scope:O9)(cl:List (Str×ML))(C:ML)(s₀:MK)(H₀:Hp)(fp:List ML):Cx:=
 { X with N:=N',s₀:=s₀,H₀:=H₀,env:=compEnvC scope cl C X.env,outer:=X.stack,ex:=fp,fn:=fun _=>false,pn:=[],xe:=fun _ _=>False }
end
section
variable{prog:MY}{w:M7}{A:M3}{R:Pz->MK->Prop}{s:MK}
theorem kX(J:Nat->MK->Prop)(turn:∀ n s,J n s->MP (MR prog w) A (Ob it) (fun r s₁=>match r with
   | none=>R (.ok .next) s₁
   | some v=>MP (MR prog w) A (OZ target it v) (fun _ s₁'=>MP (MR prog w) A (assign target env v) (fun _ s₂=>
     MP (MR prog w) A (forIn ifs true fun c r=>if r=true then do let ok <- RF c env (eval c env);pure (ForInStep.yield ok)else pure (ForInStep.yield r)) (fun ok s₃=>
      if ok=true then MP (MR prog w) A (eval elt env) (fun x s₄=>
       MP (MR prog w) A (call (.builtin "list.append") [acc,x]) (fun _ s₅=>∃ m,m < n/\J m s₅) (fun _ _=>False) s₄) (fun _ _=>False) s₃
      else ∃ m,m < n/\J m s₃) (fun _ _=>False) s₂) (fun _ _=>False) s₁') (fun _ _=>False) s₁) (fun _ _=>False) s)(n:Nat)(h:J n s):Oa (MR prog w) A (.compLoop (.ListComp elt [⟨target,iter,ifs,0⟩] scope pos) 0 it acc env) R s:=by
 refine codeAny_loop rfl J (fun n s hI=>?_) n h;show MP _ A ((compTurn (.ListComp elt [⟨target,iter,ifs,0⟩] scope pos) 0 it acc env).onRaise (fun x=>do noteFrame x env;theTreesLotGoes x)) _ _ s
 refine wpAny_noted ?_;rw[compTurn_list];refine MH (Pg (MH (Nh (turn n s hI) (fun r s₁ h₁=>?_) fun _ _ h'=>h'.elim)));cases r with
 | none=>exact MJ h₁
 | some v=>
  refine MH (Nh h₁ (fun _ s₁' h₁'=>?_) fun _ _ h'=>h'.elim);refine MH (Nh h₁' (fun _ s₂ h₂=>MH (Nh h₂ (fun ok s₃ h₃=>?_) fun _ _ h'=>h'.elim)) fun _ _ h'=>h'.elim);cases ok with
  | false=>exact MJ ⟨rfl,h₃⟩
  | true=>exact MH (MH (Nh h₃ (fun x s₄ h₄=>MH (Nh h₄ (fun _ s₅ h₅=>MJ (MJ ⟨rfl,h₅⟩)) fun _ _ h'=>h'.elim)) fun _ _ h'=>h'.elim))
end
def Fp(X:Cx)(ifs:List M9)(tt:TT):Prop:=
 ∀ (pins:List (ML×Obj)) (s:MK) (σ:St) (H:Hp) (Q:Bool->Hp->Prop),Inv X pins σ H s->tt σ H Q->
  MP (MR X.prog X.w) X.A (forIn ifs true fun c r=>if r=true then do let ok <- RF c X.env (eval c X.env);pure (ForInStep.yield ok)else pure (ForInStep.yield r)) (TP X pins σ Q) X.xe s
theorem FR:Fp X [] (fun _ H Q=>Q true H):=fun pins s σ H Q I h=>wpAny_tests_nil ⟨H,I,h⟩
theorem FQ(h:PT X c tt):Fp X [c] tt:=fun pins s σ H Q I q=>wpAny_tests_one (h pins s σ H Q I q)
def Bp(ent:St->St)(wi:TI)(g:TG)(tt:TT)(te:TE):TE:=fun σ H Q=>wi σ H fun J H1=>∀ D,H1 D=none->∃ W:Nat->Nat->List V->St->Hp->Prop,(∃ m,W 0 m [] (ent σ) (aS H1 D (.lst [])))/\
 ∀ i m ys σ1 H2,W i m ys σ1 H2->H2 D=some (.lst ys)/\((J.stop i H2/\Q (.ref D) H2)\/(J.go i H2/\∃ N:List V->St->Hp->Prop,(∀ ys' σ' H',N ys' σ' H'->∃ m',m' < m/\W (i+1) m' ys' σ' H')/\
  ∀ x H',J.yld i H2 x H'->g x σ1 H' fun σ2 H3=>tt σ2 H3 fun b H4=>if b=true then te σ2 H4 fun y H5=>H5 D=some (.lst ys)/\ys.length < MT/\N (ys ++ [y]) σ2 (aS H5 D (.lst (ys ++ [y])))else N ys σ2 H4))
theorem gH(S1:∀ y∈scope.names,y.2≠.cell)(h:(Q5 scope env).names.lookup x=some .cell\/(Q5 scope env).names.lookup x=some .free):∃ y∈scope.names,y.1=x/\y.2=.free:=by
 have go:∀ (names:List (Str×PD)),(∀ y∈names,y.2≠.cell)->∀ k,(names.map fun (n,k)=>if (k == .free && env.scope.kind == .function && env.kindOf n == some .cell)then (n,NameKind.cell)else (n,k)).lookup x=some k->(k=.cell\/k=.free)->∃ y∈names,y.1=x/\y.2=.free:=by
  intro names
  induction names with
  | nil=>intro _ k e _;simp at e
  | cons y r ih=>
   obtain⟨n,kd⟩:=y;intro hc k e hk;rw[M8,Og]at e;split at e
   ·rename_i hb;cases e;have nc:kd≠.cell:=hc (n,kd) MZ;refine⟨(n,kd),MZ,?_,?_⟩
    ·split at hb
     ·simpa using (eq_of_beq hb).symm
     ·simpa using (eq_of_beq hb).symm
    ·split at hk
     ·rename_i hq;simp only[Bool.and_eq_true]at hq
      simpa using hq.1.1
     ·rcases hk with hk|hk
      ·exact absurd hk nc
      ·exact hk
   ·obtain⟨y,hy,q⟩:=ih (fun y hy=>hc y (MW _ hy)) k e hk;exact⟨y,MW _ hy,q⟩
 rcases h with h|h
 ·exact go scope.names S1 _ h (.inl rfl)
 ·exact go scope.names S1 _ h (.inr rfl)
theorem l5(h:(Q5 scope env).names.lookup x=some .local):∃ y∈scope.names,y.1=x/\y.2=.local:=by
 have go:∀ (names:List (Str×PD)),(names.map fun (n,k)=>if (k == .free && env.scope.kind == .function && env.kindOf n == some .cell)then (n,NameKind.cell)else (n,k)).lookup x=some .local->∃ y∈names,y.1=x/\y.2=.local:=by
  intro names
  induction names with
  | nil=>intro e;simp at e
  | cons y r ih=>
   obtain⟨n,kd⟩:=y;intro e;rw[M8,Og]at e;split at e
   ·rename_i hb;refine⟨(n,kd),MZ,?_,?_⟩
    ·split at hb
     ·simpa using (eq_of_beq hb).symm
     ·simpa using (eq_of_beq hb).symm
    ·split at e
     ·cases e
     ·simpa using e
   ·obtain⟨y,hy,q⟩:=ih e;exact⟨y,MW _ hy,q⟩
 exact go scope.names h
structure CompOk(X:Cx)(scope:O9)(T M:List Str):Prop where
 calm:X.calm=true
 kind:scope.kind=.function
 cell:∀ y∈scope.names,y.2≠.cell
 names:∀ y∈scope.names,y.2=.local->scope.names.lookup y.1=some .local
 loc:∀ y∈scope.names,y.2=.local->y.1∈((".0":Str)::T)
 len:M.length=X.N.length
 sub:∀ (i:Nat) x,M[i]?=some x->X.N[i]?=some x\/∀ y∈scope.names,y.1≠x
 off:∀ x∈M,x∉((".0":Str)::T)
 free:∀ y∈scope.names,y.2=.free->X.env.kindOf y.1=some .cell\/X.env.kindOf y.1=some .free
def ent(T:List Str)(σ:St):St:=T.map (fun _=>none) ++ σ
section
variable{X:Cx}{pins:List (ML×Obj)}{σ:St}{H:Hp}{s:MK}
theorem Inv.block(I:Inv X pins σ H s)(ok:CompOk X scope T M)(hf:∀ b∈fp,k9 X pins H b)(ho:∀ b∈fp,∃ o,s.heap.get? b=some o)(hc1:∀ x c,cl.lookup x=some c->X.env.cells.lookup x=some c)(hc2:∀ x∈scope.names,x.2=.free->∃ c,cl.lookup x.1=some c)(hns:h₁.Ns s.heap.objs.size fun _=>none)(kp:∀ b o,s.heap.get? b=some o->h₁.get? b=some o):
  Inv (bq X (T ++ M) scope cl s.heap.objs.size s H fp) [] (ent T σ) H { s with heap:=h₁,toks:=tk }:=by
 have fpC:∀ b∈fp,b≠s.heap.objs.size:=fun b hb z=>by
  obtain⟨o,e⟩:=ho b hb;exact absurd (MS e) (by rw[z];exact Nat.lt_irrefl _)
 have cellsOk:∀ x c,(bq X (T ++ M) scope cl s.heap.objs.size s H fp).env.cells.lookup x=some c->X.env.cells.lookup x=some c:=hc1;refine⟨⟨I.ok.mod,ok.kind,I.ok.glob,I.ok.blt,le_refl _,fun x y c h1 h2=>I.ok.inj x y c (hc1 x c h1) (hc1 y c h2),fun x hx=>?_,(fun x c h=>absurd h (by show ¬ (false=true);decide)),I.ok.hd,I.ok.frames,.inl rfl,fun b hb=>⟨fpC b hb,fun x c e=>(hf b hb).2.2.2.2.1 x c (hc1 x c e)⟩,I.bs,le_trans I.ok.bsz I.sz,fun b o e hb=>?_,fun b hb hs=>?_,I.stack,I.stkFree⟩,
  rfl,I.bare,Un.kept kp,⟨_,hns,fun i x v e1 e2 e3=>?_⟩,fun x c e=>?_,I.hok.fresh (le_refl _),fun x c e=>I.freeC x c (hc1 x c e),fun p hp=>absurd (show p∈([]:List (ML×Obj))from hp) (by simp),I.hok.kept kp,?_⟩
 ·obtain⟨y,hy,e,hfr⟩:=gH ok.cell hx;rw[<- e];exact hc2 y hy hfr
 ·rcases (hf b hb).2.2.2.1 with z|z
  ·exact I.ok.noex b o e z
  ·exact absurd (Nb (MS e) (le_trans I.ok.bsz z)) (Nat.lt_irrefl _)
 ·rcases Nr.mp (I.stkSub b hs)with z|z
  ·exact (hf b hb).2.1 z
  ·exact (hf b hb).2.2.1 z
 ·-- a name that is known: it is drawn from around
  have hi:T.length<=i:=by
   refine Nat.le_of_not_lt fun hlt=>?_;unfold ent at e2;rw[List.getElem?_append_left (by simpa using hlt),Nc]at e2
   cases q:T[i]? with
   | none=>rw[q]at e2;cases e2
   | some z=>rw[q]at e2;cases e2
  have e0':M[i - T.length]?=some x:=by
   have:=e1;show M[i - T.length]?=some x
   rw[<- List.getElem?_append_right hi];exact this
  have e1':X.N[i - T.length]?=some x:=by
   rcases ok.sub _ x e0' with z|z
   ·exact z
   ·exfalso;rcases e3 with e3|e3|e3
    ·obtain⟨y,hy,e,hl⟩:=l5 e3;exact z y hy e
    ·obtain⟨y,hy,e,_⟩:=gH ok.cell (.inl e3);exact z y hy e
    ·obtain⟨y,hy,e,_⟩:=gH ok.cell (.inr e3);exact z y hy e
  have e2':σ[i - T.length]?=some (some v):=by
   unfold ent at e2;rw[List.getElem?_append_right (by simpa using hi),MO]at e2
   exact e2
  have SZ:(Q5 scope X.env).names.lookup x=some .cell\/(Q5 scope X.env).names.lookup x=some .free:=by
   rcases e3 with e3|e3|e3
   ·obtain⟨y,hy,e,hl⟩:=l5 e3;exact absurd (by rw[<- e];exact ok.loc y hy hl) (ok.off x (M6 e0'))
   ·exact .inl e3
   ·exact .inr e3
  obtain⟨y,hy,e,hfr⟩:=gH ok.cell SZ;subst e;have hk:=ok.free y hy hfr;obtain⟨m,hn,hl⟩:=I.loc;obtain⟨u,r,l⟩:=hl _ _ v e1' e2' (by rcases hk with hk|hk;exact .inr (.inl hk);exact .inr (.inr hk))
  refine⟨u,r,.inr ⟨SZ,?_⟩⟩;rcases l with ⟨l1,_⟩|⟨_,c,ec,z⟩
  ·rcases hk with hk|hk
   ·rw[hk]at l1;cases l1
   ·rw[hk]at l1;cases l1
  ·obtain⟨c',ec'⟩:=hc2 y hy hfr;have:=hc1 _ _ ec';rw[ec]at this;cases this;obtain⟨o,ho',hd⟩:=z;exact⟨c,ec',o,kp _ _ ho',hd⟩
 ·obtain⟨v,o,ho',hd⟩:=I.cell x c (hc1 x c e);exact⟨v,o,kp _ _ ho',hd⟩
 ·show (ent T σ).length=(T ++ M).length;unfold ent;rw[Nl,Nl,MO,I.len,ok.len]
end
section
variable{X:Cx}{elt tg iter:M9}{ifs:List M9}{scope:O9}{T M:List Str}{pos:Pos}{wi:TI}{g:TG}{tt:TT}{te:TE}
theorem zE{σ:St}{H1:Hp}{Q:VK}{tn:Nat->M5->Prop}{RR:MI->ML->Pz->MK->Prop}{E:MI->MK->Prop}(ok:CompOk X scope T M)(hin:∀ cl C s₀ H₀ fp,PG (bq X (T ++ M) scope cl C s₀ H₀ fp) tg g/\Fp (bq X (T ++ M) scope cl C s₀ H₀ fp) ifs tt/\PE (bq X (T ++ M) scope cl C s₀ H₀ fp) elt te)(hc1:∀ x c,cl.lookup x=some c->X.env.cells.lookup x=some c)(hc2:∀ x∈scope.names,x.2=.free->∃ c,cl.lookup x.1=some c)(I2:Inv X pins σ H1 s2)(Tn:Turn X.prog X.w X.K tg J fp it tn)(st2:tn 0 s2.heap)(f2:∀ b∈fp,k9 X pins H1 b)(h:∀ D,H1 D=none->∃ W:Nat->Nat->List V->St->Hp->Prop,(∃ m,W 0 m [] (ent T σ) (aS H1 D (.lst [])))/\
   ∀ i m ys σ1 H2,W i m ys σ1 H2->H2 D=some (.lst ys)/\((J.stop i H2/\Q (.ref D) H2)\/(J.go i H2/\∃ N:List V->St->Hp->Prop,(∀ ys' σ' H',N ys' σ' H'->∃ m',m' < m/\W (i+1) m' ys' σ' H')/\
    ∀ x H',J.yld i H2 x H'->g x σ1 H' fun σ2 H3=>tt σ2 H3 fun b H4=>if b=true then te σ2 H4 fun y H5=>H5 D=some (.lst ys)/\ys.length < MT/\N (ys ++ [y]) σ2 (aS H5 D (.lst (ys ++ [y])))else N ys σ2 H4)))(hRR:∀ D C H' s',Inv X pins σ H' s'->(∃ m,s'.heap.Ns C m)->H' C=none->C≠X.env.locals->X.s₀.heap.objs.size<=C->(∀ x c,X.env.cells.lookup x=some c->c≠C)->(∀ p∈X.pn ++ pins,p.1≠C)->Q (.ref D) H'->RR (.ref D) C (.ok .next) s'):
  MP (MR X.prog X.w) X.A (newList []) (fun acc s₃=>MP (MR X.prog X.w) X.A (newFunctionEnv scope X.env.globals cl [] X.env.qual none .none (some X.env)) (fun cenv s₄=>
   Oa (MR X.prog X.w) X.A (.compStart (.ListComp elt [⟨tg,iter,ifs,0⟩] scope pos) 0 (.ref it) acc { cenv with scope:=Q5 scope X.env }) (RR acc cenv.locals) s₄) E s₃) E s2:=by
 refine Nd ?_;have hD:H1 s2.heap.objs.size=none:=I2.hok.fresh (le_refl _);obtain⟨W,⟨m0,w0⟩,turn⟩:=h _ hD;have I3:Inv X pins σ (aS H1 s2.heap.objs.size (.lst [])) { s2 with heap:=s2.heap.push { cls:=.type "list",data:=.seq ([]:List MI).toArray } }:=I2.lnew (t':=s2.toks) .nil (NC _)
 have f3:∀ b∈fp,k9 X pins (aS H1 s2.heap.objs.size (.lst [])) b:=fun b hb=>by
  have q:=f2 b hb;obtain⟨o,e,_⟩:=Tn.obj 0 _ st2 b hb;exact⟨by rw[aq (Na (MS e))];exact q.1,q.2⟩
 have st3:tn 0 (s2.heap.push { cls:=.type "list",data:=.seq ([]:List MI).toArray }):=Tn.keep _ _ _ st2 fun b _ o e=>MM _ e;generalize hs3:({ s2 with heap:=s2.heap.push { cls:=.type "list",data:=.seq ([]:List MI).toArray } }:MK)=s3 at I3 ⊢
 have T2:tn 0 s3.heap:=by rw[<- hs3];exact st3
 generalize hH3:aS H1 s2.heap.objs.size (.lst [])=H3 at I3 f3 w0;generalize hDD:s2.heap.objs.size=D at *
 refine wpAny_newFunctionEnv ok.cell (by intro y hy;simp at hy) (fun h₁ Um hsb₁=>?_) ok.kind
 have kp:∀ b o,s3.heap.get? b=some o->h₁.get? b=some o:=fun b o e=>hsb₁.extBut b o (Na (MS e)) (MM _ e);have hns:h₁.Ns s3.heap.objs.size fun _=>none:=by simpa using Um
 have I4:Inv (bq X (T ++ M) scope cl s3.heap.objs.size s3 H3 fp) [] (ent T σ) H3 { s3 with heap:=h₁,toks:=s3.toks+([]:List (Str×MI)).length }:=
  I3.block ok f3 (fun b hb=>let ⟨o,e,_⟩:=Tn.obj 0 _ T2 b hb;⟨o,e⟩) hc1 hc2 hns kp
 have st4:tn 0 h₁:=Tn.keep _ _ _ T2 fun b _ o e=>kp b o e;obtain⟨hG,hT,hE⟩:=hin cl s3.heap.objs.size s3 H3 fp;have back:∀ {SS:List (ML×Obj)} {σ':St} {H':Hp} {s':MK},Inv (bq X (T ++ M) scope cl s3.heap.objs.size s3 H3 fp) SS σ' H' s'->Inv X pins σ H' s':=fun {SS σ' H' s'} I'=>
  I3.call' (ch:=fp) I'.os I'.base I'.hok I'.bare fun b hb=>let q:=f3 b hb;⟨q.2.2.2.1,q.2.1,q.2.2.2.2.1,q.2.2.2.2.2⟩
 have loop:∀ s4:MK,Inv (bq X (T ++ M) scope cl s3.heap.objs.size s3 H3 fp) [] (ent T σ) H3 s4->tn 0 s4.heap->
   Oa (MR X.prog X.w) X.A (.compLoop (.ListComp elt [⟨tg,iter,ifs,0⟩] scope pos) 0 (.ref it) (.ref D) (compEnvC scope cl s3.heap.objs.size X.env)) (RR (.ref D) s3.heap.objs.size) s4:=by
  intro s4 I4 st4;have fpX:∀ {SS:List (ML×Obj)} {H':Hp},SS=[]->(∀ b∈fp,H' b=none)->∀ b∈fp,k9 (bq X (T ++ M) scope cl s3.heap.objs.size s3 H3 fp) SS H' b:=fun {SS H'} ep hn b hb=>by
   subst ep;refine⟨hn b hb,(I4.ok.exf b hb).1,I4.ok.exfs b hb,.inl hb,(I4.ok.exf b hb).2,fun p hp=>absurd (show p∈([]:List (ML×Obj))from hp) (by simp)⟩
  refine kX (fun n s'=>∃ i ys σ' H',Inv (bq X (T ++ M) scope cl s3.heap.objs.size s3 H3 fp) [] σ' H' s'/\tn i s'.heap/\(∀ b∈fp,H' b=none)/\W i n ys σ' H') ?_ m0 ⟨0,[],ent T σ,H3,I4,st4,fun b hb=>(f3 b hb).1,w0⟩
  rintro n s5 ⟨i,ys,σ5,H5,I5,st5,fr5,w5⟩
  obtain⟨hDl,hstep⟩:=turn i n ys σ5 H5 w5;rcases hstep with ⟨stop,qn⟩|⟨go,N,hN,step⟩
  ·refine bZ (Tn.done (bq X (T ++ M) scope cl s3.heap.objs.size s3 H3 fp) rfl rfl rfl ok.calm i [] s5 _ H5 _ I5 (fpX rfl fr5) st5 stop) fun r s6 zz=>?_;obtain⟨hr,I6⟩:=zz;subst hr;have I7:=back I6;obtain⟨m,hm,_⟩:=I6.loc;refine hRR D s3.heap.objs.size H5 s6 I7 ⟨m,hm⟩ I6.free ?_ ?_ ?_ ?_ qn
   ·exact ON I3.lt
   ·exact I3.sz
   ·intro x c e z;obtain⟨v,q⟩:=I3.cell x c e;exact absurd q.lt (by rw[z];exact Nat.lt_irrefl _)
   ·intro p hp z;exact absurd (MS (I3.pin p hp).1) (by rw[z];exact Nat.lt_irrefl _)
  ·refine bZ (Tn.item (bq X (T ++ M) scope cl s3.heap.objs.size s3 H3 fp) rfl rfl rfl ok.calm i [] s5 _ H5 _ I5 (fpX rfl fr5) st5 go) fun r s6 zz=>?_;obtain⟨u,hr,h6⟩:=zz;subst hr;refine bZ h6 fun _ s7 zz=>?_;obtain⟨x,H7,I7,r7,y7,st7,fr7⟩:=zz;have I7':=I7.pinned (fpX rfl fr7) (Tn.obj _ _ st7);refine bZ (hG _ s7 _ H7 x u _ I7' r7 (step x H7 y7)) fun _ s8 zz=>?_;obtain⟨σ8,H8,I8,q8⟩:=zz;have again:∀ {s9:MK} {H9:Hp} {ys':List V},Inv (bq X (T ++ M) scope cl s3.heap.objs.size s3 H3 fp) ([] ++ pD fp s7.heap) σ8 H9 s9->N ys' σ8 H9->
     ∃ m,m < n/\∃ i ys σ' H',Inv (bq X (T ++ M) scope cl s3.heap.objs.size s3 H3 fp) [] σ' H' s9/\tn i s9.heap/\(∀ b∈fp,H' b=none)/\W i m ys σ' H':=fun {s9 H9 ys'} I9 n9=>by
    obtain⟨m',hm,w9⟩:=hN ys' σ8 H9 n9;refine⟨m',hm,i+1,ys',σ8,H9,I9.unpinned,Tn.keep _ _ _ st7 fun b hb o e=>(I9.pin (b,o) (NA _ (NA _ (gZ hb e)))).1,fun b hb=>?_,w9⟩;obtain⟨o,e,d⟩:=Tn.obj _ _ st7 b hb;exact (I9.pin (b,o) (NA _ (NA _ (gZ hb e)))).2.1
   refine bZ (hT _ s8 σ8 H8 _ I8 q8) fun b s9 zz=>?_;obtain⟨H9,I9,q9⟩:=zz;cases b with
   | false=>exact again I9 q9
   | true=>
    refine bZ (hE _ s9 σ8 H9 _ I9 q9) fun u10 s10 zz=>?_;obtain⟨y,H10,I10,r10,e10,l10,n10⟩:=zz;refine bZ (vz (X:=bq X (T ++ M) scope cl s3.heap.objs.size s3 H3 fp) _ s10 σ8 H10 (.ref D) [y] (.ref D) [u10] (fun v H'=>v=.non/\H'=aS H10 D (.lst (ys ++ [y]))) I10 rfl (.cons r10 .nil) ⟨D,ys,y,rfl,rfl,e10,l10,rfl,rfl⟩) fun u11 s11 zz=>?_;obtain⟨z,H11,I11,r11,_,e11⟩:=zz;subst e11;exact again I11 n10
 exact codeAny_compStart_list (loop _ I4 st4) (Tn.self _ 0 _ _ _ st4 (loop _ I4 st4))
theorem BN(ok:CompOk X scope T M){pins:List (ML×Obj)}{σ:St}{H:Hp}{s:MK}(I:Inv X pins σ H s):∃ cl,Sq scope X.env=pure cl/\(∀ x c,cl.lookup x=some c->X.env.cells.lookup x=some c)/\(∀ x∈scope.names,x.2=.free->∃ c,cl.lookup x.1=some c):=
 A7 scope.names scope rfl fun x hx hf=>I.ok.has x.1 (ok.free x hx hf)
theorem BA(ok:CompOk X scope T M)(hin:∀ cl C s₀ H₀ fp,PG (bq X (T ++ M) scope cl C s₀ H₀ fp) tg g/\Fp (bq X (T ++ M) scope cl C s₀ H₀ fp) ifs tt/\PE (bq X (T ++ M) scope cl C s₀ H₀ fp) elt te)(hi:PI X tg iter wi)(hs:∀ x,NW iter X.env x=pure x:=by intro _;rfl):PE X (.ListComp elt [⟨tg,iter,ifs,0⟩] scope pos) (Bp (ent T) wi g tt te):=by
 intro pins s σ H Q I h;obtain⟨cl,hcl,hc1,hc2⟩:=BN ok I;rw[eval_ListComp];refine Rh (use:=none) rfl hs hcl ok.kind ok.names (bZ (hi pins s σ H _ I h) fun v s1 h1=>bZ h1 fun itv s2 h2=>?_);obtain⟨it,fp,tn,J,H2,e,I2,Tn,st2,f2,hh⟩:=h2;subst e;refine zE (Q:=Q) (RR:=fun acc C=>compPost (MR X.prog X.w) X.A X.xe none (EP X pins σ Q) acc C) ok hin hc1 hc2 I2 Tn st2 f2 hh ?_;intro D C H' s' I' hm hn n1 n2 n3 n4 q;obtain⟨m,hm⟩:=hm;exact⟨m,hm,fun h' sb=>⟨.ref D,H',I'.turned (t':=s'.toks) (fun b o hb e=>(sb.2 b hb).trans e) hn (Ne.symm (Ne.symm n1)) (.inr n2) n3 n4,rfl,q⟩⟩
theorem FU{i:Nat}{x:Str}{px spos:Pos}(ok:CompOk X scope T M)(hN:X.N.Nodup)(hix:X.N[i]?=some x)(hx:X.env.scope.names.lookup x=some .local)
  (hin:∀ cl C s₀ H₀ fp,PG (bq X (T ++ M) scope cl C s₀ H₀ fp) tg g/\Fp (bq X (T ++ M) scope cl C s₀ H₀ fp) ifs tt/\PE (bq X (T ++ M) scope cl C s₀ H₀ fp) elt te)
  (hi:PI X tg iter wi) (hsw:N9 (.ListComp elt [⟨tg,iter,ifs,0⟩] scope pos) (some (.Name x px)) spos.line X.env=pure true:=by rfl) (hs:∀ x,NW iter X.env x=pure x:=by intro _;rfl):
  PS X (.Assign [.Name x px] (.ListComp elt [⟨tg,iter,ifs,0⟩] scope pos) spos) (HX (gh (Bp (ent T) wi g tt te)) (zp i)):=by
 intro pins s σ H D3 I h;obtain⟨cl,hcl,hc1,hc2⟩:=BN ok I;rw[exec_Assign_Name_used _ _ _ _ hsw];refine MH (Pg (MH ?_));show MP _ X.A (do let _ <- comprehension (.ListComp elt [⟨tg,iter,ifs,0⟩] scope pos) scope X.env _ (newList []) false (eval iter X.env) (some (assign (.Name x px) X.env))) _ _ s
 refine MH (Nh (Rh (use:=some (assign (.Name x px) X.env)) (Q:=fun _ s'=>SP X pins D3 .next s') rfl hs hcl ok.kind ok.names
  (bZ (hi pins s σ H _ I h) fun v s1 h1=>bZ h1 fun itv s2 h2=>?_)) (fun _ s' hq=>MJ (MJ hq)) fun _ _ e=>e)
 obtain⟨it,fp,tn,J,H2,e,I2,Tn,st2,f2,hh⟩:=h2;subst e;refine zE (Q:=fun v H1=>zp i v σ H1 D3.nx\/∃ p xs,v=.ref p/\H1 p=some (.lst xs)/\∀ o,zp i v σ (aS H1 p (.frz o (.lst xs))) D3.nx) (RR:=fun acc C=>compPost (MR X.prog X.w) X.A X.xe (some (assign (.Name x px) X.env)) (fun _ s'=>SP X pins D3 .next s') acc C) ok hin hc1 hc2 I2 Tn st2 f2 hh ?_;intro D C H' s' I' hm hn n1 n2 n3 n4 q;obtain⟨m,hm⟩:=hm;have fin:∀ {H'':Hp},Inv X pins σ H'' s'->H'' C=none->D3.nx (σ.set i (some (.ref D))) H''->
   MP (MR X.prog X.w) X.A (assign (.Name x px) X.env (.ref D)) (fun _ s''=>∃ m,s''.heap.Ns C m/\∀ h',Oe C s''.heap h'->SP X pins D3 .next { s'' with heap:=h' }) X.xe s':=fun {H''} J' hn' q'=>by
  refine Sy (u7 (v:=V.ref D) J' hN hix (.inl hx) rfl (fun s'' I'' ⟨a,sb,ha⟩=>?_) (.inr hx));have aC:C≠a:=by
   rcases ha with z|z
   ·rw[z];exact n1
   ·exact fun y=>n3 _ _ z y.symm
  refine⟨m,hm.sameBut sb aC,fun h' sb'=>⟨_,H'',I''.turned (t':=s''.toks) (fun b o hb e=>(sb'.2 b hb).trans e) hn' n1 (.inr n2) n3 n4,q'⟩⟩
 rcases q with q|⟨p,xs,ep,e1,q⟩
 ·exact fin I' hn q
 ·obtain⟨o,I''⟩:=I'.freeze e1;refine fin I'' ?_ (q o);rw[aq (fun z=>by subst z;rw[hn]at e1;cases e1)];exact hn
end
section
variable{X:Cx}{tg:M9}
theorem PG.imp(h:PG X e t)(i:∀ v σ H Q,t' v σ H Q->t v σ H Q):PG X e t':=fun pins s σ H v u Q I r q=>h pins s σ H v u Q I r (i v σ H Q q)
theorem Fe.imp(h:Fe X es t)(i:∀ vs σ H Q,t' vs σ H Q->t vs σ H Q):Fe X es t':=fun pins s σ H v u Q I r q=>h pins s σ H v u Q I r (i v σ H Q q)
theorem PI.imp(h:PI X tg e t)(i:∀ σ H R,t' σ H R->t σ H R):PI X tg e t':=fun pins s σ H R I q=>h pins s σ H R I (i σ H R q)
variable{pins:List (ML×Obj)}{σ:St}{H:Hp}{s:MK}{R:It->Hp->Prop}{E:MI->MK->Prop}{a:ML}{xs:List V}
theorem pQ(I:Inv X pins σ H s)(hq:jP X.K H a xs)(q:R (K_ X.K a) H):MP (MR X.prog X.w) X.A (Pw (.ref a)) (HF X pins σ tg R) E s:=by
 obtain⟨its,rv,p,hz⟩:=I.list hq;refine PH p.isList ?_;refine⟨s.heap.objs.size,[s.heap.objs.size],_,_,H,rfl,I.kept (t':=s.toks) fun b o e=>MM _ e,B2 a _,⟨_,MQ _ rfl,rfl,rfl⟩,fun b hb=>?_,q⟩;have e:b=s.heap.objs.size:=by simpa using hb
 subst e;exact I.fpOk (le_refl _) (I.hok.fresh (le_refl _))
theorem zk(I:Inv X pins σ H s)(hq:jO X.K H a xs)(q:R (Me X.K a) H):MP (MR X.prog X.w) X.A (Pw (.ref a)) (HF X pins σ tg R) E s:=by
 obtain⟨its,rv,p,hz⟩:=I.tuple hq;refine wpAny_pyIter_tuple (show s.heap.IsTuple a its.toArray from p) ?_
 refine⟨s.heap.objs.size,[s.heap.objs.size],_,_,H,rfl,I.kept (t':=s.toks) fun b o e=>MM _ e,Ac a _,⟨_,MQ _ rfl,rfl,rfl⟩,fun b hb=>?_,q⟩;have e:b=s.heap.objs.size:=by simpa using hb
 subst e;exact I.fpOk (le_refl _) (I.hok.fresh (le_refl _))
theorem zl(I:Inv X pins σ H s)(q:R (Mf (de z)) H):MP (MR X.prog X.w) X.A (Pw (.str z t)) (HF X pins σ tg R) E s:=by
 have fin:∀ (ty:String),(ty="str_ascii_iterator"\/ty="str_iterator")->HF X pins σ tg R (.ref s.heap.objs.size) { s with heap:=s.heap.push { cls:=.type ty,data:=.fields #[.str z t,.int 0 0] } }:=fun ty hty=>by
  refine⟨s.heap.objs.size,[s.heap.objs.size],_,_,H,rfl,I.kept (t':=s.toks) fun b o e=>MM _ e,Dr _ z t ty hty,⟨_,MQ _ rfl,rfl,rfl⟩,fun b hb=>?_,q⟩;have e:b=s.heap.objs.size:=by simpa using hb
  subst e;exact I.fpOk (le_refl _) (I.hok.fresh (le_refl _))
 cases ha:z.cps.all (· < 128)
 ·exact wpAny_pyIter_wide ha (fin _ (.inr rfl))
 ·exact wpAny_pyIter_ascii ha (fin _ (.inl rfl))
end
end L2
namespace L3
open PySem PySem.Spec PyProof.Rows L2
abbrev uj:=D->eE->Gp->(eE->Gp->Prop)->Prop
abbrev CZ:=List D->eE->Gp->(eE->Gp->Prop)->Prop
def i7(K:Ps)(g:uj):TG:=fun v τ H Q=>∃ d σ G Q3,RD K H d v/\RS K H σ τ/\RG K H G/\g d σ G Q3/\∀ σ' G' τ' H',Q3 σ' G'->Kp G H G' H'->RG K H' G'->RS K H' σ' τ'->Q τ' H'
def wU(K:Ps)(g:CZ):GY:=fun vs τ H Q=>∃ ds σ G Q3,RDs K H ds vs/\RS K H σ τ/\RG K H G/\g ds σ G Q3/\∀ σ' G' τ' H',Q3 σ' G'->Kp G H G' H'->RG K H' G'->RS K H' σ' τ'->Q τ' H'
def gN(i:Nat):uj:=fun d σ G Q=>Q (σ.set i (some d)) G
def tH:CZ:=fun ds σ G Q=>match ds with
 | []=>Q σ G
 | _=>False
def hU(t:uj)(u:CZ):CZ:=fun ds σ G Q=>match ds with
 | d::r=>t d σ G fun σ' G'=>u r σ' G' Q
 | []=>False
def tG(n:Nat)(t:CZ):uj:=fun d σ G Q=>match d with
 | .tup ds=>ds.length=n/\t ds σ G Q
 | _=>False
section
variable{X:Cx}{pos:Pos}{e:M9}{es:List M9}{t:uj}{u:CZ}
theorem bE(hN:X.N.Nodup)(hi:X.N[i]?=some x)(hx:JF X.env.scope x)(hf:X.fn x=true\/X.env.scope.names.lookup x=some .local:=by first|exact .inl rfl|exact .inr rfl|assumption):PG X (.Name x pos) (i7 X.K (gN i)):=
 (FZ hN hi hx hf).imp fun v τ H Q zz=>by
 obtain⟨d,σ,G,Q3,rd,rs,rg,h,k⟩:=zz;exact (
  k _ G _ H h Kp.refl rg (rs.set rd i))
theorem EN:Fe X [] (wU X.K tH):=FY.imp fun vs τ H Q zz=>by
 obtain⟨ds,σ,G,Q3,rd,rs,rg,h,k⟩:=zz;cases ds with
 | nil=>exact⟨rd.inv_nil,k _ G _ H h Kp.refl rg rs⟩
 | cons _ _=>exact h.elim
theorem pS(h1:PG X e (i7 X.K t))(h2:Fe X es (wU X.K u))(hs:(OF (e::es) X.env).map (·.2)=assign e X.env::(OF es X.env).map (·.2):=by rfl):Fe X (e::es) (wU X.K (hU t u)):=
 (Ec h1 h2 hs).imp fun vs τ H Q zz=>by
  obtain⟨ds,σ,G,Q3,rd,rs,rg,h,k⟩:=zz;cases ds with
  | nil=>exact h.elim
  | cons d r=>
   obtain⟨x,xs,e1,r1,r2⟩:=rd.inv_cons;refine⟨x,xs,e1,d,σ,G,_,r1,rs,rg,h,fun σ' G' τ' H' q k' rg' rs'=>⟨r,σ',G',Q3,RDs.mono (k'.stb rg) _ _ r2,rs',rg',q,fun σ2 G2 τ2 H2 q2 k2=>k σ2 G2 τ2 H2 q2 (k'.trans k2)⟩⟩
theorem EM{k:Nat}{n:Nat}(hc:X.calm=true)(h:Fe X es (wU X.K u))(hn:(OF es X.env).length=n:=by rfl)(hst:(OF es X.env).findIdx? (·.1)=none:=by rfl):PG X (.Tuple es k pos) (i7 X.K (tG n u)):=
 (Im hc h hn hst).imp fun v τ H Q zz=>by
  obtain⟨d,σ,G,Q3,rd,rs,rg,h,k⟩:=zz;cases d with
  | tup ds=>
   simp only[RD]at rd;obtain⟨a,xs,e1,q,r⟩:=rd;exact⟨a,xs,e1,q,by rw[<- r.length];exact h.1,ds,σ,G,Q3,r,rs,rg,h.2,k⟩
  | _=>exact h.elim
end
abbrev Fn:=eE->Gp->(List D->Gp->Prop)->Prop
def xF(K:Ps)(G0:Gp)(H0:Hp)(ds:List D)(J:It):Prop:=∀ i G H,Kp G0 H0 G H->RG K H G->
 (i < ds.length->J.go i H/\∀ x H',J.yld i H x H'->Kp G H G H'/\RG K H' G/\∃ d,ds[i]?=some d/\RD K H' d x)/\(i=ds.length->J.stop i H)
def qw(K:Ps)(ti:Fn):TI:=fun τ H R=>∃ σ G Q3,RS K H σ τ/\RG K H G/\ti σ G Q3/\∀ ds G' J H',Q3 ds G'->Kp G H G' H'->RG K H' G'->xF K G' H' ds J->R J H'
def signs(x:Str):List D:=x.cps.toList.map fun c=>D.str ⟨#[c]⟩
theorem BI{K:Ps}{G0:Gp}{H0:Hp}{ds:List D}{xs:List V}(r:∀ H,RDs K H ds xs):xF K G0 H0 ds (Mf xs):=fun i G H _ rg=>by
 have hl:=(r H).length;refine⟨fun hi=>⟨(show i < xs.length by walk_at "o"),fun x H' y=>?_⟩,fun e=>(show i=xs.length by walk_at "o")⟩
 obtain⟨rfl,hx⟩:=y;refine⟨Kp.refl,rg,ds[i],by simp[hi],?_⟩
 obtain⟨y,e,q⟩:=(r H').get (i:=i) (d:=ds[i]) (by simp[hi])
 rw[hx]at e;cases e;exact q
theorem BJ{K:Ps}{G0:Gp}{H0:Hp}{ds:List D}{xs:List V}{a:ML}(rg0:RG K H0 G0)(f:Fh K H0 a xs)(r:RDs K H0 ds xs):xF K G0 H0 ds (K_ K a):=fun i G H k rg=>by
 have hl:=r.length;have f':=(k.stb rg0).l _ _ f;have r':=RDs.mono (k.stb rg0) _ _ r;refine⟨fun hi=>⟨⟨xs,xs[i]'(by walk_at "o"),f'.sq,by simp[show i < xs.length by walk_at "o"]⟩,fun x H' y=>?_⟩,fun e=>⟨xs,f'.sq,by walk_at "o"⟩⟩
 obtain⟨rfl,hx⟩:=y;refine⟨Kp.refl,rg,ds[i],by simp[hi],?_⟩
 obtain⟨y,e,q⟩:=r'.get (i:=i) (d:=ds[i]) (by simp[hi])
 rw[hx xs f'.sq]at e;cases e;exact q
theorem EE{K:Ps}{G0:Gp}{H0:Hp}{ds:List D}{xs:List V}{a:ML}(rg0:RG K H0 G0)(f:jO K H0 a xs)(r:RDs K H0 ds xs):xF K G0 H0 ds (Me K a):=fun i G H k rg=>by
 have hl:=r.length;have f':=(k.stb rg0).t _ _ f;have r':=RDs.mono (k.stb rg0) _ _ r;refine⟨fun hi=>⟨⟨xs,xs[i]'(by walk_at "o"),f',by simp[show i < xs.length by walk_at "o"]⟩,fun x H' y=>?_⟩,fun e=>⟨xs,f',by walk_at "o"⟩⟩
 obtain⟨rfl,hx⟩:=y;refine⟨Kp.refl,rg,ds[i],by simp[hi],?_⟩
 obtain⟨y,e,q⟩:=r'.get (i:=i) (d:=ds[i]) (by simp[hi])
 rw[hx xs f']at e;cases e;exact q
def eK:D->Option (List D)
 | .lst ds=>some ds
 | .fl ds=>some ds
 | .tup ds=>some ds
 | .str x=>some (signs x)
 | _=>none
def gn(te:aZ):Fn:=fun σ G Q=>te σ G fun d G'=>match eK d with
 | some ds=>Q ds G'
 | none=>False
def fJ(lo:Int)(n:Nat):List D:=(List.range n).map fun k=>D.int (lo+(k:Nat))
theorem zn{K:Ps}{G0:Gp}{H0:Hp}{lo:Int}{n:Nat}:xF K G0 H0 (fJ lo n) (K9 lo n):=fun i G H _ rg=>by
 have hl:(fJ lo n).length=n:=by simp[fJ]
 rw[hl];refine⟨fun hi=>⟨hi,fun x H' y=>?_⟩,fun e=>(show n<=i by walk_at "o")⟩
 obtain⟨rfl,rfl⟩:=y;exact⟨Kp.refl,rg,.int (lo+(i:Nat)),by simp[fJ,hi],ef⟩
def LW(ta:jN):Fn:=fun σ G Q=>ta σ G fun ds G'=>match ds with
 | [.int j]=>(-(2 ^ 62)<=j/\j < 2 ^ 62)/\Q (fJ 0 j.toNat) G'
 | _=>False
def LV(ta:jN):Fn:=fun σ G Q=>ta σ G fun ds G'=>match ds with
 | [.int i,.int j]=>(-(2 ^ 62)<=i/\i < 2 ^ 62/\-(2 ^ 62)<=j/\j < 2 ^ 62)/\Q (fJ i (j - i).toNat) G'
 | _=>False
section
variable{X:Cx}{tg e:M9}{te:aZ}
theorem fu(h:PE X e (az X.K te)):PI X tg e (qw X.K (gn te)):=by
 intro pins s τ H R I hq;obtain⟨σ,G,Q3,rs,rg,hq,k⟩:=hq;refine bZ (eg h pins s τ H (fun v H1=>∃ d G1,Kp G H G1 H1/\RG X.K H1 G1/\RD X.K H1 (val d) v/\(match eK d with|some ds=>Q3 ds G1|none=>False)) I ⟨σ,G,_,rs,rg,hq,fun d G' v H' q k' rg' rd=>⟨d,G',k',rg',rd,q⟩⟩) fun u s1 zz=>?_
 obtain⟨v,H1,I1,r1,d,G1,k1,rg1,rd,q⟩:=zz;have seq:∀ {a:ML} {xs:List V} {ds:List D},Fh X.K H1 a xs->RDs X.K H1 ds xs->Q3 ds G1->MP (MR X.prog X.w) X.A (Pw (.ref a)) (HF X pins τ tg R) X.xe s1:=fun f r q=>pQ I1 f.sq (k _ G1 _ H1 q k1 rg1 (BJ rg1 f r));cases d with
 | lst ds=>
  simp only[val,RD]at rd;obtain⟨a,xs,rfl,f,r⟩:=rd;cases r1;exact seq f r q
 | fl ds=>
  simp only[val,RD]at rd;obtain⟨a,xs,rfl,f,r⟩:=rd;cases r1;exact seq f r q
 | tup ds=>
  simp only[val,RD]at rd;obtain⟨a,xs,rfl,f,r⟩:=rd;cases r1;exact zk I1 f (k _ G1 _ H1 q k1 rg1 (EE rg1 f r))
 | str z=>
  simp only[val,RD]at rd;subst rd;obtain⟨t,rfl⟩:=r1;refine zl I1 (k _ G1 _ H1 q k1 rg1 (BI fun H'=>?_));have:signs z=(z.cps.toList.map fun c=>(⟨#[c]⟩:Str)).map D.str:=by simp[signs]
  rw[this];have e2:de z=(z.cps.toList.map fun c=>(⟨#[c]⟩:Str)).map V.str:=by simp[de]
  rw[e2];exact RDs.strs _
 | _=>exact q.elim
theorem EI(hg:Gl X "range")(hm:X.mg "range"=none)(ha:PA X [a] (dD X.K ta))(hs:MU [a] X.env=[(false,eval a X.env)]:=by rfl):PI X tg (.Call (.Name "range" p) [a] [] pos) (qw X.K (LW ta)):=
 (Ch hg hm ha hs).imp fun τ H R zz=>by
 obtain⟨σ,G,Q3,rs,rg,h,k⟩:=zz;exact (
  ⟨σ,G,_,rs,rg,h,fun ds G1 vs H1 q k1 rg1 rds=>by
    split at q
    ·rename_i j;obtain⟨x,r,e1,r1,r2⟩:=rds.inv_cons;have:=r2.inv_nil;simp only[RD]at r1;subst e1 this r1;exact⟨j,rfl,q.1.1,q.1.2,k _ G1 _ H1 q.2 k1 rg1 zn⟩
    ·exact q.elim⟩)
theorem EH{a b:M9}{ta:jN}{p pos:Pos}(hg:Gl X "range")(hm:X.mg "range"=none)(ha:PA X [a,b] (dD X.K ta))(hs:MU [a,b] X.env=[(false,eval a X.env),(false,eval b X.env)]:=by rfl)(hs2:MU [b] X.env=[(false,eval b X.env)]:=by rfl):
  PI X tg (.Call (.Name "range" p) [a,b] [] pos) (qw X.K (LV ta)):=
 (Cg hg hm ha hs hs2).imp fun τ H R zz=>by
 obtain⟨σ,G,Q3,rs,rg,h,k⟩:=zz;exact (
  ⟨σ,G,_,rs,rg,h,fun ds G1 vs H1 q k1 rg1 rds=>by
    split at q
    ·rename_i i j;obtain⟨x,r,e1,r1,r2⟩:=rds.inv_cons;obtain⟨x',r',e1',r1',r2'⟩:=r2.inv_cons;have:=r2'.inv_nil;simp only[RD]at r1 r1';subst e1 e1' this r1 r1';exact⟨i,j,rfl,q.1,k _ G1 _ H1 q.2 k1 rg1 zn⟩
    ·exact q.elim⟩)
end
def ForIn(g:uj)(tb:bg)(E:Ends3)(σ:eE)(ds:List D)(G1:Gp):Prop:=∃ Pv:Nat->eE->Gp->Prop,Pv 0 σ G1/\
 (∀ (i:Nat) d σ' G',ds[i]?=some d->Pv i σ' G'->g d σ' G' fun σ2 G2=>tb { E with nx:=Pv (i+1),ct:=Pv (i+1),bk:=E.nx } σ2 G2)/\∀ σ' G',Pv ds.length σ' G'->E.nx σ' G'
def jS(ti:Fn)(g:uj)(tb:bg):bg:=fun D σ G=>ti σ G fun ds G1=>ForIn g tb D σ ds G1
theorem jJ(hp:Qq (MR X.prog X.w) X.A X.env X.xe)(hc:X.calm=true)(hi:PI X tg iter (qw X.K ti))(hg:PG X tg (i7 X.K g))(hb:je X body (bB X.K tb))(hs:∀ x,NW iter X.env x=pure x:=by intro _;rfl):PS X (.For tg iter body [] pos) (bB X.K (jS ti g tb)):=
 (D9 hp hc hi hg hb hs).imp fun D τ H zz=>by
 obtain⟨σ,G,D3,rs,rg,h,k⟩:=zz;exact (
  ⟨σ,G,_,rs,rg,h,fun ds G1 J H1 q k1 rg1 it=>by
    obtain⟨Pv,p0,step,fin⟩:=q;refine⟨fun i m τ' H'=>m=ds.length - i/\i<=ds.length/\∃ σ' G',RS X.K H' σ' τ'/\RG X.K H' G'/\Pv i σ' G'/\Kp G1 H1 G' H',⟨ds.length,rfl,NC _,σ,G1,rs.mono (k1.stb rg),rg1,p0,Kp.refl⟩,?_⟩
    rintro i m τ' H' ⟨rfl,hi',σ',G',rs',rg',pv,k'⟩
    obtain⟨hgo,hstop⟩:=it i G' H' k' rg'
    by_cases hlt:i < ds.length
    ·obtain⟨go,yld⟩:=hgo hlt;refine .inr ⟨go,fun τ2 H2=>∃ σ2 G2,RS X.K H2 σ2 τ2/\RG X.K H2 G2/\Pv (i+1) σ2 G2/\Kp G1 H1 G2 H2,fun τ2 H2 ⟨σ2,G2,a,b,c,d⟩=>⟨ds.length - (i+1),by walk_at "o",rfl,hlt,σ2,G2,a,b,c,d⟩,fun x H2 y=>?_⟩
     obtain⟨ky,rgy,d,hd,rd⟩:=yld x H2 y;refine⟨d,σ',G',_,rd,rs'.mono (ky.stb rg'),rgy,step i d σ' G' hd pv,fun σ3 G3 τ3 H3 q3 k3 rg3 rs3=>?_⟩;have kk:Kp G1 H1 G3 H3:=k'.trans (ky.trans k3);have kG:Kp G H G3 H3:=k1.trans kk;refine⟨σ3,G3,_,rs3,rg3,q3,⟨fun σ4 G4 τ4 H4 q4 k4 rg4 rs4=>⟨σ4,G4,rs4,rg4,q4,kk.trans k4⟩,k.rt.base kG,fun σ4 G4 τ4 H4 q4 k4=>k.nx σ4 G4 τ4 H4 q4 (kG.trans k4),fun σ4 G4 τ4 H4 q4 k4 rg4 rs4=>⟨σ4,G4,rs4,rg4,q4,kk.trans k4⟩⟩⟩
    ·have e:i=ds.length:=by walk_at "o"
     refine .inl ⟨hstop e,k.nx σ' G' τ' H' (fin σ' G' (by rw[<- e];exact pv)) (k1.trans k') rg' rs'⟩⟩)
def lP:oP:=fun _ G Q=>Q true G
def xJ(k:Nat)(g:uj)(tt:oP)(te:aZ)(σ:eE)(ds:List D)(G1:Gp)(Q:i_):Prop:=ds.length<=MT/\∃ Pv:Nat->List D->Gp->Prop,Pv 0 [] G1/\
 (∀ (i:Nat) d acc G',ds[i]?=some d->Pv i acc G'->g d (List.replicate k none ++ σ) G' fun σ2 G2=>(k<=σ2.length/\σ2.drop k=σ)/\tt σ2 G2 fun b G3=>if b=true then te σ2 G3 fun y G4=>Pv (i+1) (acc ++ [val y]) G4 else Pv (i+1) acc G3)/\
 ∀ acc G',Pv ds.length acc G'->Q (.fl acc) G'
def f_(k:Nat)(ti:Fn)(g:uj)(tt:oP)(te:aZ):aZ:=fun σ G Q=>ti σ G fun ds G1=>xJ k g tt te σ ds G1 Q
theorem hV(f:D->D)(hl:ds.length<=MT)(he:∀ d∈ds,∀ P:i_,(∀ y,val y=f d->P y G1)->g d (List.replicate k none ++ σ) G1 fun σ2 G2=>(k<=σ2.length/\σ2.drop k=σ)/\te σ2 G2 P)(hq:Q (.fl (ds.map f)) G1):xJ k g lP te σ ds G1 Q:=by
 refine⟨hl,fun i acc G'=>acc=(ds.take i).map f/\G'=G1,⟨by simp,rfl⟩,fun i d acc G' hd ⟨ha,hG⟩=>?_,fun acc G' ⟨ha,hG⟩=>?_⟩
 ·subst hG;exact he d (M6 hd) (fun y G4=>acc ++ [val y]=(ds.take (i+1)).map f/\G4=G') fun y hy=>⟨by rw[ha,hy,NU,hd];simp,rfl⟩
 ·subst hG;rw[ha,NF];exact hq
theorem zG(p:D->Bool)(f:D->D)(hl:ds.length<=MT)(he:∀ d∈ds,∀ (P:i_) (R:Gp->Prop),(p d=true->∀ y,val y=f d->P y G1)->(p d=false->R G1)->g d (List.replicate k none ++ σ) G1 fun σ2 G2=>(k<=σ2.length/\σ2.drop k=σ)/\tt σ2 G2 fun b G3=>if b=true then te σ2 G3 P else R G3)(hq:Q (.fl ((ds.filter p).map f)) G1):xJ k g tt te σ ds G1 Q:=by
 refine⟨hl,fun i acc G'=>acc=((ds.take i).filter p).map f/\G'=G1,⟨by simp,rfl⟩,fun i d acc G' hd ⟨ha,hG⟩=>?_,fun acc G' ⟨ha,hG⟩=>?_⟩
 ·subst hG;have e:(ds.take (i+1)).filter p=(ds.take i).filter p ++ (if p d=true then [d]else []):=by
   rw[NU,hd,Pl];cases hp:p d<;>simp[hp]
  refine he d (M6 hd) (fun y G4=>acc ++ [val y]=((ds.take (i+1)).filter p).map f/\G4=G') (fun G4=>acc=((ds.take (i+1)).filter p).map f/\G4=G') (fun hp y hy=>⟨?_,rfl⟩) fun hp=>⟨?_,rfl⟩
  ·rw[e,hp,ha,hy];simp
  ·rw[e,hp,ha];simp
 ·subst hG;rw[ha,NF];exact hq
section
variable{X:Cx}{elt tg iter:M9}{ifs:List M9}{scope:O9}{T M:List Str}{pos:Pos}{ti:Fn}{g:uj}{tt:oP}{te:aZ}
theorem DJ{K:Ps}{H:Hp}{σ:eE}{τ:St}(T:List Str)(r:RS K H σ τ):RS K H (List.replicate T.length none ++ σ) (ent T τ):=by
 unfold ent
 induction T with
 | nil=>exact r
 | cons a t ih=>exact .cons (show C6 K H none none from trivial) ih
theorem pf{K:Ps}{H:Hp}:∀ (k:Nat) {σ:eE} {τ:St},k<=σ.length->RS K H σ τ->RS K H (List.replicate k none ++ σ.drop k) τ
 | 0,_,_,_,r=>r
 | k+1,[],_,h,_=>absurd h (by simp)
 | k+1,a::t,_,h,.cons _ r=>.cons (show C6 K H none _ from trivial) (pf k (by simpa using h) r)
theorem vJ{K:Ps}{τ:St}{H:Hp}{Q:VK}(h:az K (f_ T.length ti g tt te) τ H Q):
  Bp (ent T) (qw K ti) (i7 K g) (cz K tt) (vB K te) τ H Q:=by
 obtain⟨σ,G,Q3,rs,rg,h,k⟩:=h;refine⟨σ,G,_,rs,rg,h,fun ds G1 J H1 q k1 rg1 it Da hD=>?_⟩;obtain⟨hsz,Pv,p0,step,fin⟩:=q;have kD:Kp G1 H1 G1 (aS H1 Da (.lst [])):=Kp.laid hD;have rgD:RG K (aS H1 Da (.lst [])) G1:=rg1.laid hD;have gD:G1 Da=none:=rg1.free hD;refine⟨fun i m ys τ2 H2=>m=ds.length - i/\i<=ds.length/\∃ acc G2,H2 Da=some (.lst ys)/\G2 Da=none/\RG K H2 G2/\RS K H2 (List.replicate T.length none ++ σ) τ2/\RDs K H2 acc ys/\acc.length<=i/\Pv i acc G2/\(∀ a h,a≠Da->H1 a=some h->G1 a=none->H2 a=some h/\G2 a=none),
  ⟨ds.length,rfl,NC _,[],G1,aB,gD,rgD,DJ T (rs.mono ((k1.trans kD).stb rg)),RDs.nil,le_refl _,p0,fun a h ha e n=>⟨by rw[aq ha];exact e,n⟩⟩,?_⟩
 rintro i m ys τ2 H2 ⟨rfl,hi',acc,G2,eD,nD,rg2,rs2,ra,la,pv,k2⟩
 have k2':Kp G1 H1 G2 H2:=fun a h e n=>k2 a h (bA e hD) e n;refine⟨eD,?_⟩;obtain⟨hgo,hstop⟩:=it i G2 H2 k2' rg2
 by_cases hlt:i < ds.length
 ·obtain⟨go,yld⟩:=hgo hlt;refine .inr ⟨go,fun ys' τ' H'=>∃ acc G',H' Da=some (.lst ys')/\G' Da=none/\RG K H' G'/\RS K H' (List.replicate T.length none ++ σ) τ'/\RDs K H' acc ys'/\acc.length<=i+1/\Pv (i+1) acc G'/\(∀ a h,a≠Da->H1 a=some h->G1 a=none->H' a=some h/\G' a=none),
   fun ys' τ' H' q'=>⟨ds.length - (i+1),by walk_at "o",rfl,hlt,q'⟩,fun x H3 y=>?_⟩
  obtain⟨ky,rgy,d,hd,rd⟩:=yld x H3 y;refine⟨d,List.replicate T.length none ++ σ,G2,_,rd,rs2.mono (ky.stb rg2),rgy,step i d acc G2 hd pv,fun σ4 G4 τ4 H4 q4 k4 rg4 rs4=>?_⟩;obtain⟨⟨hlen,hdrop⟩,q4⟩:=q4;have rs4':RS K H4 (List.replicate T.length none ++ σ) τ4:=by
   have:=pf T.length hlen rs4;rw[hdrop]at this;exact this
  refine⟨σ4,G4,_,rs4,rg4,q4,fun b G5 H5 q5 k5 rg5=>?_⟩;have e3:H3 Da=some (.lst ys):=(ky Da _ eD nD).1;have e4:=k4 Da _ e3 nD;have e5:=k5 Da _ e4.1 e4.2;have kk:∀ {G6:Gp} {H6:Hp},Kp G5 H5 G6 H6->∀ a h,a≠Da->H1 a=some h->G1 a=none->H6 a=some h/\G6 a=none:=fun k6 a h ha e n=>((((Kp.trans k2' ky).trans k4).trans k5).trans k6) a h e n;cases b with
  | false=>
   refine iteF ⟨acc,G5,e5.1,e5.2,rg5,rs4'.mono (k5.stb rg4),RDs.mono (((ky.trans k4).trans k5).stb rg2) _ _ ra,by walk_at "o",q5,kk Kp.refl⟩
  | true=>
   refine iteT ⟨σ4,G5,_,rs4.mono (k5.stb rg4),rg5,q5,fun yv G6 v H6 q6 k6 rg6 rd6=>?_⟩;have e6:=k6 Da _ e5.1 e5.2;have la':=ra.length;have st:Stb K H6 (aS H6 Da (.lst (ys ++ [v]))):=by
    constructor
    ·intro a zs q;rcases q with (q|⟨o,q⟩)|q
     ·exact .inl (.inl (by rw[aq (fun z=>by subst z;rw[e6.1]at q;cases q)];exact q))
     ·exact .inl (.inr ⟨o,by rw[aq (fun z=>by subst z;rw[e6.1]at q;cases q)];exact q⟩)
     ·exact .inr q
    ·intro a zs q;rcases q with ⟨o,q⟩|q
     ·exact .inl ⟨o,by rw[aq (fun z=>by subst z;rw[e6.1]at q;cases q)];exact q⟩
     ·exact .inr q
   refine⟨e6.1,by walk_at "o",acc ++ [val yv],G6,aB,e6.2,fun a o q=>?_,(rs4'.mono ((k5.trans k6).stb rg4)).mono st,?_,by simp;omega,q6,fun a h ha e n=>?_⟩
   ·obtain⟨h',q1,q2⟩:=rg6 a o q;exact⟨h',by rw[aq (fun z=>by subst z;rw[e6.2]at q;cases q)];exact q1,q2.mono st⟩
   ·exact RDs.append (RDs.mono st _ _ (RDs.mono ((((ky.trans k4).trans k5).trans k6).stb rg2) _ _ ra)) (RDs.cons (RD.mono st _ _ rd6) RDs.nil)
   ·rw[aq ha];exact kk k6 a h ha e n
 ·have e:i=ds.length:=by walk_at "o"
  refine .inl ⟨hstop e,k _ G2 _ H2 (fin acc G2 (by rw[<- e];exact pv)) (k1.trans k2') rg2 (.inl ⟨acc,Da,ys,rfl,rfl,eD,nD,ra,?_⟩)⟩
  exact k1.fr (oE hD)
theorem mx:Fp X [] (cz X.K lP):=fun pins s τ H Q I h=>by
 obtain⟨σ,G,Q3,rs,rg,h,k⟩:=h;exact FR pins s τ H Q I (k true G H h Kp.refl rg)
theorem vZ(h:PT X c (cz X.K tc)):Fp X [c] (cz X.K tc):=FQ h
theorem kL(ok:CompOk X scope T M)(hin:∀ cl C s₀ H₀ fp,PG (bq X (T ++ M) scope cl C s₀ H₀ fp) tg (i7 X.K g)/\Fp (bq X (T ++ M) scope cl C s₀ H₀ fp) ifs (cz X.K tt)/\PE (bq X (T ++ M) scope cl C s₀ H₀ fp) elt (az X.K te))(hi:PI X tg iter (qw X.K ti))(hs:∀ x,NW iter X.env x=pure x:=by intro _;rfl):PE X (.ListComp elt [⟨tg,iter,ifs,0⟩] scope pos) (az X.K (f_ T.length ti g tt te)):=
 (BA ok (fun cl C s₀ H₀ fp=>let ⟨a,b,c⟩:=hin cl C s₀ H₀ fp;⟨a,b,eg c⟩) hi hs).imp fun _ _ _ h=>vJ h
theorem DT{i:Nat}{x:Str}{px spos:Pos}(ok:CompOk X scope T M)(hN:X.N.Nodup)(hix:X.N[i]?=some x)(hx:X.env.scope.names.lookup x=some .local)
  (hin:∀ cl C s₀ H₀ fp,PG (bq X (T ++ M) scope cl C s₀ H₀ fp) tg (i7 X.K g)/\Fp (bq X (T ++ M) scope cl C s₀ H₀ fp) ifs (cz X.K tt)/\PE (bq X (T ++ M) scope cl C s₀ H₀ fp) elt (az X.K te))
  (hi:PI X tg iter (qw X.K ti)) (hsw:N9 (.ListComp elt [⟨tg,iter,ifs,0⟩] scope pos) (some (.Name x px)) spos.line X.env=pure true:=by rfl) (hs:∀ x,NW iter X.env x=pure x:=by intro _;rfl):
  PS X (.Assign [.Name x px] (.ListComp elt [⟨tg,iter,ifs,0⟩] scope pos) spos) (bB X.K (bO i (f_ T.length ti g tt te))):=
 (FU ok hN hix hx (fun cl C s₀ H₀ fp=>let ⟨a,b,c⟩:=hin cl C s₀ H₀ fp;⟨a,b,eg c⟩) hi hsw hs).imp fun D τ H zz=>by
  obtain⟨σ,G,D3,rs,rg,h,k⟩:=zz;refine vJ (Q:=fun v H1=>D.nx (τ.set i (some v)) H1\/∃ p xs,v=.ref p/\H1 p=some (.lst xs)/\∀ o,D.nx (τ.set i (some v)) (aS H1 p (.frz o (.lst xs)))) ⟨σ,G,_,rs,rg,h,fun d G' v H' q k' rg' re=>?_⟩;cases d with
  | fl ds=>
   obtain⟨p,xs,rfl,e1,e2,e3,e4⟩:=re.fl;refine .inr ⟨p,xs,rfl,e1,fun o=>?_⟩;obtain⟨rg2,st⟩:=EO (o:=o) rg' e1 e2;exact k.nx _ G' _ _ q (ER (K:=X.K) k' e4) rg2 (((rs.mono (k'.stb rg)).mono st).set (sA (.inl ⟨o,aB⟩) (RDs.mono st _ _ e3)) i)
  | _=>exact .inl (k.nx _ G' _ H' q k' rg' ((rs.mono (k'.stb rg)).set (re.rd (by intro ds z;cases z)) i))
end
open PySem.SeqAt
def eA(x y:D):Bool:=@decide (x=y) (Classical.propDecidable _)
theorem oH:eA x y=true↔x=y:=by unfold eA;exact @decide_eq_true_iff _ (Classical.propDecidable _)
theorem bX(x:D):eA x x=true:=oH.mpr rfl
theorem xl(h:x=y):eA x y=true:=oH.mpr h
theorem bf(h:x≠y):eA x y=false:=by
 cases e:eA x y with
 | false=>rfl
 | true=>exact absurd (oH.mp e) h
theorem oJ(h:(b=true)↔x=y):eA x y=b:=by
 cases b with
 | true=>exact xl (h.mp rfl)
 | false=>exact bf fun e=>nomatch h.mpr e
def pl:Nat->D->Prop
 | _,.non=>True
 | _,.int _=>True
 | _,.str _=>True
 | n+1,.tup ds=>∀ d∈ds,pl n d
 | n+1,.lst ds=>∀ d∈ds,pl n d
 | _,_=>False
section
variable{X:Cx}{pins:List (ML×Obj)}{σ:St}{H:Hp}{s:MK}
theorem BC(I:Inv X pins σ H s)(h1:jO X.K H a xs)(h2:jP X.K H a ys):False:=by
 obtain⟨_,_,⟨o,e,c,_⟩,_⟩:=I.tuple h1;obtain⟨_,_,p,_⟩:=I.list h2;obtain⟨o',e',c',_⟩:=p.isList;rw[e]at e';cases e';rw[c]at c';injection c' with z
 exact absurd z (by decide)
theorem DN(I:Inv X pins σ H s):∀ (n:Nat) {x y:D} {v:V},pl n x->pl n y->RD X.K H x v->RD X.K H y v->x=y:=by
 intro n
 induction n with
 | zero=>
  intro x y v px py rx ry;cases x<;>first|exact px.elim|(cases y<;>first|exact py.elim|(simp only[RD]at rx ry;subst rx;first|rfl|(cases ry;rfl)|cases ry))
 | succ n ih=>
  have seq:∀ {ds es:List D} {xs:List V},(∀ d∈ds,pl n d)->(∀ d∈es,pl n d)->RDs X.K H ds xs->RDs X.K H es xs->ds=es:=by
   intro ds
   induction ds with
   | nil=>
    intro es xs _ _ r1 r2;have:=r1.inv_nil;subst this;cases es with
    | nil=>rfl
    | cons e t=>have:=r2.length;simp at this
   | cons d t ihd=>
    intro es xs p1 p2 r1 r2;obtain⟨v,vs,e1,a1,b1⟩:=r1.inv_cons;subst e1;cases es with
    | nil=>have:=r2.length;simp at this
    | cons e u=>
     obtain⟨v',vs',e2,a2,b2⟩:=r2.inv_cons;cases e2;rw[ih (p1 d MZ) (p2 e MZ) a1 a2,ihd (fun z hz=>p1 z (MW _ hz)) (fun z hz=>p2 z (MW _ hz)) b1 b2]
  intro x y v px py rx ry;cases x with
  | tup ds=>
   simp only[RD]at rx;obtain⟨a,xs,rfl,s1,r1⟩:=rx;cases y with
   | tup es=>
    simp only[RD]at ry;obtain⟨b,ys,e,s2,r2⟩:=ry;cases e;have:=I.tuple_inj s1 s2;subst this;rw[seq px py r1 r2]
   | lst es=>
    simp only[RD]at ry;obtain⟨b,ys,e,s2,r2⟩:=ry;cases e;exact (BC I s1 s2.sq).elim
   | _=>first|exact py.elim|(simp only[RD]at ry;cases ry)
  | lst ds=>
   simp only[RD]at rx;obtain⟨a,xs,rfl,s1,r1⟩:=rx;cases y with
   | lst es=>
    simp only[RD]at ry;obtain⟨b,ys,e,s2,r2⟩:=ry;cases e;have:=I.list_inj s1.sq s2.sq;subst this;rw[seq px py r1 r2]
   | tup es=>
    simp only[RD]at ry;obtain⟨b,ys,e,s2,r2⟩:=ry;cases e;exact (BC I s2 s1.sq).elim
   | _=>first|exact py.elim|(simp only[RD]at ry;cases ry)
  | _=>first|exact px.elim|(cases y with
   | tup es=>simp only[RD]at rx ry;obtain⟨b,ys,e,_⟩:=ry;rw[rx]at e;cases e
   | lst es=>simp only[RD]at rx ry;obtain⟨b,ys,e,_⟩:=ry;rw[rx]at e;cases e
   | _=>first|exact py.elim|(simp only[RD]at rx ry;subst rx;first|rfl|(cases ry;rfl)|cases ry))
structure Cmp3(A:M3)(s:MK)(v u:MI)(b:Bool):Prop where
 eq:EqAt A s v u b
 rc:RcAt A s v u b
 ne:RcNeAt A s v u (!b)
theorem xB(n:Nat)(hn:n=min ds.length es.length):((List.range n).all (fun j=>eA (ds.getD j .non) (es.getD j .non)) && ds.length == es.length)=eA (.tup ds) (.tup es):=by
 symm;refine oJ ?_;rw[Bool.and_eq_true,List.all_eq_true,beq_iff_eq];constructor
 ·rintro⟨h1,h2⟩
  congr 1;refine List.ext_getElem h2 fun i hi hj=>?_;have:=oH.mp (h1 i (mem_range.mpr (by walk_at "o")))
  rw[M4,M4,MX hi,MX hj]at this
  simpa using this
 ·intro h;cases h;exact⟨fun i _=>bX _,rfl⟩
theorem GE:eA (.lst ds) (.lst es)=eA (.tup ds) (.tup es):=oJ (by rw[oH];constructor<;>(intro h;cases h;rfl))
theorem Vals.getV:∀ {xs:List V} {us:List MI} {i:Nat} {u:MI},Vals xs us->us[i]?=some u->∃ x,xs[i]?=some x/\aD x u
 | _,_,_,_,.nil,e=>by simp at e
 | _,_,0,_,.cons r _,e=>by simp at e;subst e;exact⟨_,rfl,r⟩
 | _,_,i+1,u,.cons _ t,e=>by
  obtain⟨x,h1,h2⟩:=Vals.getV (i:=i) (u:=u) t (by simpa using e)
  exact⟨x,by simpa using h1,h2⟩
theorem RDs.getV{K:Ps}{H:Hp}:∀ {ds:List D} {xs:List V} {i:Nat} {x:V},RDs K H ds xs->xs[i]?=some x->∃ d,ds[i]?=some d/\RD K H d x
 | [],xs,i,x,h,e=>by rw[h.inv_nil]at e;simp at e
 | d::ds,xs,i,x,h,e=>by
  obtain⟨y,r,e1,h1,h2⟩:=h.inv_cons;subst e1;cases i with
  | zero=>simp at e;subst e;exact⟨d,rfl,h1⟩
  | succ i=>
   obtain⟨z,q1,q2⟩:=RDs.getV (i:=i) (x:=x) h2 (by simpa using e)
   exact⟨z,by simpa using q1,q2⟩
def sc:D->Prop
 | .non=>True
 | .int _=>True
 | .str _=>True
 | _=>False
theorem Js:Cmp3 A s .none (.int j t) (eA .non (.int j)):=by rw[bf (by intro z;cases z)];exact⟨EqAt.none_int _ _,RcAt.none_int _ _,RcNeAt.none_int _ _⟩
theorem Jq:Cmp3 A s .none (.str j t) (eA .non (.str j)):=by rw[bf (by intro z;cases z)];exact⟨EqAt.none_str _ _,RcAt.none_str _ _,RcNeAt.none_str _ _⟩
theorem Ju:Cmp3 A s (.int j t) .none (eA (.int j) .non):=by rw[bf (by intro z;cases z)];exact⟨EqAt.int_none _ _,RcAt.int_none _ _,RcNeAt.int_none _ _⟩
theorem Jo:Cmp3 A s (.str j t) .none (eA (.str j) .non):=by rw[bf (by intro z;cases z)];exact⟨EqAt.str_none _ _,RcAt.str_none _ _,RcNeAt.str_none _ _⟩
theorem Jt:Cmp3 A s (.int i t) (.str j u) (eA (.int i) (.str j)):=by rw[bf (by intro z;cases z)];exact⟨EqAt.int_str _ _ _ _,RcAt.int_str _ _ _ _,RcNeAt.int_str _ _ _ _⟩
theorem Jp:Cmp3 A s (.str i t) (.int j u) (eA (.str i) (.int j)):=by rw[bf (by intro z;cases z)];exact⟨EqAt.str_int _ _ _ _,RcAt.str_int _ _ _ _,RcNeAt.str_int _ _ _ _⟩
theorem Jv:Cmp3 A s (.int i t) (.int j u) (eA (.int i) (.int j)):=by
 have e:eA (.int i) (.int j)=(i == j):=oJ (by rw[beq_iff_eq];exact⟨fun z=>by rw[z],fun z=>by cases z;rfl⟩)
 rw[e];exact⟨EqAt.int_int _ _ _ _,RcAt.int_int _ _ _ _,RcNeAt.int_int _ _ _ _⟩
theorem Jn:Cmp3 A s (.str i t) (.str j u) (eA (.str i) (.str j)):=by
 have e:eA (.str i) (.str j)=(i == j):=oJ (by rw[beq_iff_eq];exact⟨fun z=>by rw[z],fun z=>by cases z;rfl⟩)
 rw[e];exact⟨EqAt.str_str _ _ _ _,RcAt.str_str _ _ _ _,RcNeAt.str_str _ _ _ _⟩
theorem Jr:Cmp3 A s .none .none (eA .non .non):=by rw[bX];exact⟨EqAt.same _,RcAt.none_none,RcNeAt.none_none⟩
theorem o7{K:Ps}{x:D}{v:V}{v':MI}(h:sc x)(r:RD K H x v)(l:aD v v'):(x=.non/\v'=.none)\/(∃ i t,x=.int i/\v'=.int i t)\/(∃ i t,x=.str i/\v'=.str i t):=by
 cases x with
 | non=>simp only[RD]at r;subst r;exact .inl ⟨rfl,l⟩
 | int i=>simp only[RD]at r;subst r;obtain⟨t,e⟩:=l;exact .inr (.inl ⟨i,t,rfl,e⟩)
 | str i=>simp only[RD]at r;subst r;obtain⟨t,e⟩:=l;exact .inr (.inr ⟨i,t,rfl,e⟩)
 | _=>exact h.elim
theorem E8{K:Ps}{A:M3}{x y:D}{v u:V}{v' u':MI}(h1:sc x)(h2:sc y)(rx:RD K H x v)(ry:RD K H y u)(lx:aD v v')(ly:aD u u'):Cmp3 A s v' u' (eA x y):=by
 rcases o7 h1 rx lx with ⟨rfl,rfl⟩|⟨i,t,rfl,rfl⟩|⟨i,t,rfl,rfl⟩
 ·rcases o7 h2 ry ly with ⟨rfl,rfl⟩|⟨j,u,rfl,rfl⟩|⟨j,u,rfl,rfl⟩
  ·exact Jr
  ·exact Js
  ·exact Jq
 ·rcases o7 h2 ry ly with ⟨rfl,rfl⟩|⟨j,u,rfl,rfl⟩|⟨j,u,rfl,rfl⟩
  ·exact Ju
  ·exact Jv
  ·exact Jt
 ·rcases o7 h2 ry ly with ⟨rfl,rfl⟩|⟨j,u,rfl,rfl⟩|⟨j,u,rfl,rfl⟩
  ·exact Jo
  ·exact Jp
  ·exact Jn
theorem va(p:pl n x):sc x\/(∃ m ds,n=m+1/\x=.tup ds/\∀ d∈ds,pl m d)\/(∃ m ds,n=m+1/\x=.lst ds/\∀ d∈ds,pl m d):=by
 cases x with
 | non=>exact .inl trivial
 | int _=>exact .inl trivial
 | str _=>exact .inl trivial
 | tup ds=>cases n with
  | zero=>exact p.elim
  | succ m=>exact .inr (.inl ⟨m,ds,rfl,rfl,p⟩)
 | lst ds=>cases n with
  | zero=>exact p.elim
  | succ m=>exact .inr (.inr ⟨m,ds,rfl,rfl,p⟩)
 | bl _=>cases n<;>exact p.elim
 | fl _=>cases n<;>exact p.elim
 | ref _=>cases n<;>exact p.elim
 | ty _=>cases n<;>exact p.elim
theorem E6{K:Ps}{A:M3}{b:ML}{its:Array MI}{es:List D}(hu0:A.units < ND)(t2:s.heap.IsTuple b its){x:D}{v:V}{v':MI}(h:sc x)(rx:RD K H x v)(lx:aD v v'):Cmp3 A s v' (.ref b) (eA x (.tup es))/\Cmp3 A s (.ref b) v' (eA (.tup es) x):=by
 rcases o7 h rx lx with ⟨rfl,rfl⟩|⟨i,t,rfl,rfl⟩|⟨i,t,rfl,rfl⟩
 ·rw[bf (by intro z;cases z),bf (by intro z;cases z)]
  exact⟨⟨EqAt.none_tuple t2 hu0,RcAt.none_tuple t2 hu0,RcNeAt.none_tuple t2 hu0⟩,⟨EqAt.tuple_none t2 hu0,RcAt.tuple_none t2 hu0,RcNeAt.tuple_none t2 hu0⟩⟩
 ·rw[bf (by intro z;cases z),bf (by intro z;cases z)]
  exact⟨⟨EqAt.int_tuple _ _ t2 hu0,RcAt.int_tuple _ _ t2 hu0,RcNeAt.int_tuple _ _ t2 hu0⟩,⟨EqAt.tuple_int _ _ t2 hu0,RcAt.tuple_int _ _ t2 hu0,RcNeAt.tuple_int _ _ t2 hu0⟩⟩
 ·rw[bf (by intro z;cases z),bf (by intro z;cases z)]
  exact⟨⟨EqAt.str_tuple _ _ t2 hu0,RcAt.str_tuple _ _ t2 hu0,RcNeAt.str_tuple _ _ t2 hu0⟩,⟨EqAt.tuple_str _ _ t2 hu0,RcAt.tuple_str _ _ t2 hu0,RcNeAt.tuple_str _ _ t2 hu0⟩⟩
theorem E7{K:Ps}{A:M3}{b:ML}{its:Array MI}{es:List D}(hu0:A.units < ND)(t2:s.heap.IsList b its){x:D}{v:V}{v':MI}(h:sc x)(rx:RD K H x v)(lx:aD v v'):Cmp3 A s v' (.ref b) (eA x (.lst es))/\Cmp3 A s (.ref b) v' (eA (.lst es) x):=by
 rcases o7 h rx lx with ⟨rfl,rfl⟩|⟨i,t,rfl,rfl⟩|⟨i,t,rfl,rfl⟩
 ·rw[bf (by intro z;cases z),bf (by intro z;cases z)]
  exact⟨⟨EqAt.none_list t2 hu0,RcAt.none_list t2 hu0,RcNeAt.none_list t2 hu0⟩,⟨EqAt.list_none t2 hu0,RcAt.list_none t2 hu0,RcNeAt.list_none t2 hu0⟩⟩
 ·rw[bf (by intro z;cases z),bf (by intro z;cases z)]
  exact⟨⟨EqAt.int_list _ _ t2 hu0,RcAt.int_list _ _ t2 hu0,RcNeAt.int_list _ _ t2 hu0⟩,⟨EqAt.list_int _ _ t2 hu0,RcAt.list_int _ _ t2 hu0,RcNeAt.list_int _ _ t2 hu0⟩⟩
 ·rw[bf (by intro z;cases z),bf (by intro z;cases z)]
  exact⟨⟨EqAt.str_list _ _ t2 hu0,RcAt.str_list _ _ t2 hu0,RcNeAt.str_list _ _ t2 hu0⟩,⟨EqAt.list_str _ _ t2 hu0,RcAt.list_str _ _ t2 hu0,RcNeAt.list_str _ _ t2 hu0⟩⟩
theorem vK(I:Inv X pins σ H s):∀ (n:Nat) {x y:D} {v u:V} {v' u':MI} {A:M3},pl n x->pl n y->RD X.K H x v->RD X.K H y u->aD v v'->aD u u'->A.units+n < ND->Cmp3 A s v' u' (eA x y):=by
 intro n
 induction n with
 | zero=>
  intro x y v u v' u' A px py rx ry lx ly hu;rcases va px with h1|⟨m,_,e,_⟩|⟨m,_,e,_⟩
  ·rcases va py with h2|⟨m,_,e,_⟩|⟨m,_,e,_⟩
   ·exact E8 h1 h2 rx ry lx ly
   ·cases e
   ·cases e
  ·cases e
  ·cases e
 | succ n ih=>
  intro x y v u v' u' A px py rx ry lx ly hu;have hu0:A.units < ND:=by walk_at "o"
  have hu1:A.in1.units+n < ND:=by show A.units+1+n < ND;omega
  have items:∀ {ds es:List D} {xs ys:List V} {its its2:List MI},(∀ d∈ds,pl n d)->(∀ d∈es,pl n d)->RDs X.K H ds xs->RDs X.K H es ys->Vals xs its->Vals ys its2->
    ∀ j (h1:j < its.toArray.size) (h2:j < its2.toArray.size),EqAt A.in1 s its.toArray[j] its2.toArray[j] (eA (ds.getD j .non) (es.getD j .non)):=by
   intro ds es xs ys its its2 p1 p2 r1 r2 w1 w2 j h1 h2;obtain⟨x1,e1,q1⟩:=Vals.getV (i:=j) (u:=its.toArray[j]) w1 (by simp at h1;simp[h1])
   obtain⟨x2,e2,q2⟩:=Vals.getV (i:=j) (u:=its2.toArray[j]) w2 (by simp at h2;simp[h2])
   obtain⟨d1,f1,g1⟩:=RDs.getV r1 e1;obtain⟨d2,f2,g2⟩:=RDs.getV r2 e2;have:=(ih (A:=A.in1) (p1 d1 (M6 f1)) (p2 d2 (M6 f2)) g1 g2 q1 q2 hu1).eq;rw[M4,M4,f1,f2];exact this
  rcases va px with h1|⟨m,ds,e1,rfl,p1⟩|⟨m,ds,e1,rfl,p1⟩
  ·rcases va py with h2|⟨m,es,e2,rfl,p2⟩|⟨m,es,e2,rfl,p2⟩
   ·exact E8 h1 h2 rx ry lx ly
   ·simp only[RD]at ry;obtain⟨b,ys,rfl,s2,r2⟩:=ry;cases ly;obtain⟨its2,w2,t2,z2⟩:=I.tuple s2;exact (E6 hu0 t2 h1 rx lx).1
   ·simp only[RD]at ry;obtain⟨b,ys,rfl,s2,r2⟩:=ry;cases ly;obtain⟨its2,w2,t2,z2⟩:=I.list s2.sq;exact (E7 hu0 t2.isList h1 rx lx).1
  ·cases e1;simp only[RD]at rx;obtain⟨a,xs,rfl,s1,r1⟩:=rx;cases lx;obtain⟨its,w1,t1,z1⟩:=I.tuple s1;have l1:=w1.length;have l1':=r1.length;rcases va py with h2|⟨m,es,e2,rfl,p2⟩|⟨m,es,e2,rfl,p2⟩
   ·exact (E6 hu0 t1 h2 ry ly).2
   ·cases e2;simp only[RD]at ry;obtain⟨b,ys,rfl,s2,r2⟩:=ry;cases ly;obtain⟨its2,w2,t2,z2⟩:=I.tuple s2;have l2:=w2.length;have l2':=r2.length;have he:=items p1 p2 r1 r2 w1 w2;have hsz:its.toArray.size=ds.length:=by simp only[MV];omega
    have Te:its2.toArray.size=es.length:=by simp only[MV];omega
    have rc:=RcAt.tuples (A:=A) t1 t2 hu0 he;have rn:=RcNeAt.tuples (A:=A) t1 t2 hu0 he;rw[hsz,Te,xB _ rfl]at rc;rw[hsz,Te,xB _ rfl]at rn;refine⟨?_,rc,rn⟩
    by_cases hab:a=b
    ·subst hab;have:D.tup ds=D.tup es:=DN I (n+1) (v:=.ref a) px py (pC s1 r1) (pC s2 r2);rw[this,bX];exact EqAt.same _
    ·exact EqAt.of_refs hab rc
   ·simp only[RD]at ry;obtain⟨b,ys,rfl,s2,r2⟩:=ry;cases ly;obtain⟨its2,w2,t2,z2⟩:=I.list s2.sq;rw[bf (by intro z;cases z)]
    exact⟨EqAt.tuple_list t1 t2.isList hu0,RcAt.tuple_list t1 t2.isList hu0,RcNeAt.tuple_list t1 t2.isList hu0⟩
  ·cases e1;simp only[RD]at rx;obtain⟨a,xs,rfl,s1,r1⟩:=rx;cases lx;obtain⟨its,w1,t1,z1⟩:=I.list s1.sq;have l1:=w1.length;have l1':=r1.length;rcases va py with h2|⟨m,es,e2,rfl,p2⟩|⟨m,es,e2,rfl,p2⟩
   ·exact (E7 hu0 t1.isList h2 ry ly).2
   ·simp only[RD]at ry;obtain⟨b,ys,rfl,s2,r2⟩:=ry;cases ly;obtain⟨its2,w2,t2,z2⟩:=I.tuple s2;rw[bf (by intro z;cases z)]
    exact⟨EqAt.list_tuple t1.isList t2 hu0,RcAt.list_tuple t1.isList t2 hu0,RcNeAt.list_tuple t1.isList t2 hu0⟩
   ·cases e2;simp only[RD]at ry;obtain⟨b,ys,rfl,s2,r2⟩:=ry;cases ly;obtain⟨its2,w2,t2,z2⟩:=I.list s2.sq;have l2:=w2.length;have l2':=r2.length;have he:=items p1 p2 r1 r2 w1 w2;have hsz:its.toArray.size=ds.length:=by simp only[MV];omega
    have Te:its2.toArray.size=es.length:=by simp only[MV];omega
    have rc:RcAt A s (.ref a) (.ref b) (eA (.lst ds) (.lst es))/\RcNeAt A s (.ref a) (.ref b) (!eA (.lst ds) (.lst es)):=by
     rw[GE]
     by_cases hl:ds.length=es.length
     ·have rc:=RcAt.lists (A:=A) t1.isList t2.isList (by walk_at "o") hu0 he
      have rn:=RcNeAt.lists (A:=A) t1.isList t2.isList (by walk_at "o") hu0 he
      have e:=xB (ds:=ds) (es:=es) its.toArray.size (by walk_at "o")
      rw[hl,beq_self_eq_true,Bool.and_true]at e;rw[e]at rc rn;exact⟨rc,rn⟩
     ·rw[bf (by intro z;cases z;exact hl rfl)]
      exact⟨RcAt.lists_lengths t1.isList t2.isList (by rw[hsz,Te];simpa using hl) hu0,RcNeAt.lists_lengths t1.isList t2.isList (by rw[hsz,Te];simpa using hl) hu0⟩
    refine⟨?_,rc.1,rc.2⟩
    by_cases hab:a=b
    ·subst hab;have:D.lst ds=D.lst es:=DN I (n+1) (v:=.ref a) px py (sA s1 r1) (sA s2 r2);rw[this,bX];exact EqAt.same _
    ·exact EqAt.of_refs hab rc.1
end
end L3
namespace L2
open PySem PySem.Spec PyProof.Rows
def oM(cs:List Nat)(lo hi:Option Int):List Nat:=(cs.drop (HT.sIx cs.length 0 lo)).take (HT.sIx cs.length cs.length hi - HT.sIx cs.length 0 lo)
theorem Eb(cs:Array Nat)(i k:Nat):(List.range k).filterMap (fun m=>cs[i+m]?)=(cs.toList.drop i).take k:=by
 induction k generalizing i with
 | zero=>simp
 | succ k ih=>
  rw[List.range_succ_eq_map,NO,List.filterMap_map];have e:(fun m=>cs[i+m]?) ∘ Nat.succ=fun m=>cs[(i+1)+m]?:=by funext m;simp[Nat.succ_eq_add_one];congr 1;omega
  rw[e,ih (i+1)];cases h:cs.toList.drop i with
  | nil=>
   have hl:cs.toList.length<=i:=List.drop_eq_nil_iff.mp h;have h1:cs[i+0]?=none:=by simp at hl;simp[hl]
   have h2:cs.toList.drop (i+1)=[]:=List.drop_eq_nil_iff.mpr (by walk_at "o")
   rw[h1,h2];simp
  | cons c r=>
   have hlt:i < cs.toList.length:=by
    refine Nat.lt_of_not_le fun hle=>?_;rw[List.drop_eq_nil_iff.mpr hle]at h;cases h
   have h0:=List.drop_eq_getElem_cons hlt;rw[h]at h0;cases h0;have h1:cs[i+0]?=some cs.toList[i]:=by simp at hlt;simp[hlt]
   rw[h1,List.take_succ_cons]
theorem zH(n:Nat)(o:Option Int)(d:Nat)(hd:d<=n):(match o with
  | none=>(d:Int)
  | some i=>max 0 (min (if i < 0 then i+(n:Int)else i) (n:Int)))=((HT.sIx n d o:Nat):Int):=by
 cases o with
 | none=>rfl
 | some i=>
  simp only[HT.sIx]
  by_cases h:i < 0
  ·simp only[h,if_true];omega
  ·simp only[h,if_false];omega
theorem tF(lo hi:Option Int)(n:Nat):Of lo hi 1 n=(List.range (HT.sIx n n hi - HT.sIx n 0 lo)).map fun m=>HT.sIx n 0 lo+m:=by
 have h1:=zH n lo 0 (NC _);have h2:=zH n hi n (le_refl _);have e:Of lo hi 1 n=Sj ((HT.sIx n 0 lo:Nat):Int) ((HT.sIx n n hi:Nat):Int) 1:=by
  rw[<- h1,<- h2];unfold Of;cases lo<;>cases hi<;>simp
 rw[e];unfold Sj;simp only[show (1:Int) > 0 by decide,if_true]
 have c:(if ((HT.sIx n 0 lo:Nat):Int) < ((HT.sIx n n hi:Nat):Int)then (((HT.sIx n n hi:Nat):Int) - ((HT.sIx n 0 lo:Nat):Int)+1 - 1) / 1 else 0).toNat=HT.sIx n n hi - HT.sIx n 0 lo:=by
  rw[Int.ediv_one];split<;>omega
 rw[c];refine N5 fun k _=>?_;omega
theorem tU(cs:List Nat)(lo hi:Option Int):(oM cs lo hi).length<=cs.length:=by
 unfold oM;rw[NV,Pn];omega
theorem B6(x:Str)(lo hi:Option Int):Txt.slice x lo hi=⟨(oM x.cps.toList lo hi).toArray⟩:=by
 have hn:x.length=x.cps.toList.length:=by simp[Qy]
 have key:(Of lo hi 1 x.length).filterMap (x.cps[·]?)=oM x.cps.toList lo hi:=by
  rw[tF,List.filterMap_map];unfold oM;rw[<- hn,<- Eb];rfl
 unfold Txt.slice;split
 ·rename_i h;rw[Bool.and_eq_true]at h;have hl:(Of lo hi 1 x.length).length=x.length:=by simpa using h.2
  rw[tF,MO,List.length_range]at hl;have b1:HT.sIx x.length x.length hi<=x.length:=HT.sIx_le _ _ (le_refl _) _;have h0:HT.sIx x.length 0 lo=0\/x.length=0:=by walk_at "o"
  have e:oM x.cps.toList lo hi=x.cps.toList:=by
   unfold oM;rw[<- hn];rcases h0 with h0|h0
   ·have h3:HT.sIx x.length x.length hi=x.length:=by walk_at "o"
    rw[h0,h3,QO,Nat.sub_zero,hn,NF]
   ·have:x.cps.toList=[]:=List.length_eq_zero_iff.mp (by walk_at "o")
    rw[this];simp
  rw[e]
 ·rw[key]
section
variable{X:Cx}
def yG(x:Str)(k:Nat):Str:=⟨(List.replicate k x.cps.toList).flatten.toArray⟩
theorem pT(x:Array Nat):∀ (k:Nat) (acc:List Nat),(List.replicate k x).foldl (· ++ ·) acc.toArray=(acc ++ (List.replicate k x.toList).flatten).toArray
 | 0,acc=>by simp
 | k+1,acc=>by
  rw[List.replicate_succ,P5,List.replicate_succ,List.flatten_cons];have:acc.toArray ++ x=(acc ++ x.toList).toArray:=by simp
  rw[this,pT x k];simp
theorem AF:gL X (N6 .Mult) (fun x y H Q=>∃ z n,x=.str z/\y=.int n/\-(2 ^ 63)<=n/\n < 2 ^ 63/\z.length*n.toNat<=MT/\Q (.str (yG z n.toNat)) H):=by
 intro pins s σ H x y v u Q I rx ry h;obtain⟨z,n,rfl,rfl,h1,h2,hl,q⟩:=h;obtain⟨t,rfl⟩:=rx;obtain⟨t',rfl⟩:=ry;have hn:=kQ;have len_rep:(yG z n.toNat).length=z.length*n.toNat:=by
  simp[yG,Qy,Nat.mul_comm]
 have bound:¬ n < 1->(z.length:Int)<=(2 ^ 63 - 1) / n:=fun h=>by
  rw[Int.le_ediv_iff_mul_le (by walk_at "o")]
  have e:(z.length:Int)*n=((z.length*n.toNat:Nat):Int):=by
   rw[Int.natCast_mul,Int.toNat_of_nonneg (by walk_at "o")]
  rw[e];omega
 refine PySem.P.mul_str (by rw[decide_eq_false (by walk_at "o"),decide_eq_false (by walk_at "o")];rfl) (fun h _=>by have:=bound h;omega) (fun h _=>?_) ?_
 ·unfold Builtin.Str.tooLong;exact decide_eq_false (by walk_at "o")
 ·have fin:∀ tk s',Inv X pins σ H s'->∀ w,w=yG z n.toNat->EP X pins σ Q (.str w tk) s':=fun tk s' I' w e=>⟨.str (yG z n.toNat),H,I',⟨tk,by rw[e]⟩,q⟩
  split
  ·rename_i hlt;have:n.toNat=0:=by walk_at "o"
   exact⟨by decide,fin _ _ (I.tok _) _ (by rw[this];rfl)⟩
  ·split
   ·rename_i hlt he;refine fin _ _ I _ ?_;rw[Bool.or_eq_true]at he;rcases he with he|he
    ·have:n=1:=by simpa using he
     subst this;simp[yG]
    ·have hz:z.length=0:=by simpa using he
     have hz':z.cps=#[]:=Array.eq_empty_of_size_eq_zero hz;cases z;simp only at hz';subst hz';simp[yG]
   ·refine⟨?_,fin _ _ (I.tok _) _ ?_⟩
    ·show (⟨_⟩:Str).length<=MT;have e:=pT z.cps n.toNat [];simp only[OM]at e;rw[show (#[]:Array Nat)=[].toArray from rfl,e]
     exact le_trans (PQ len_rep) hl
    ·have e:=pT z.cps n.toNat [];simp only[OM]at e;rw[show (#[]:Array Nat)=[].toArray from rfl,e]
     rfl
theorem HZ:C0 X (fun x lo hi H Q=>∃ z,x=.str z/\z.length<=MT/\Q (.str ⟨(oM z.cps.toList lo hi).toArray⟩) H):=by
 intro pins s σ H x v vl vu lo hi sl Q I rx hs pl pu h;obtain⟨z,rfl,hz,q⟩:=h;obtain⟨t,rfl⟩:=rx;refine⟨"str",_,PySem.F.slot_str_getitem.lookup,Sh _ _ _,?_⟩;have part:∀ {v:MI} {o:Option Int},Qz v o->∃ p:Option (Int×Tok),v=partValue p/\p.map (·.1)=o:=by
  intro v o h;cases h with
  | none=>exact⟨none,rfl,rfl⟩
  | int i t=>exact⟨some (i,t),rfl,rfl⟩
 obtain⟨pl',e1,f1⟩:=part pl;obtain⟨pu',e2,f2⟩:=part pu;subst e1 e2;refine wpAny_getItem_str_slice (l:=pl') (u:=pu') (st:=none) ?_ rfl ?_
 ·obtain⟨o,a,b,c⟩:=hs;exact⟨o,a,b,c⟩
 ·unfold sliceMade;subst f1 f2;have e:(if (((none:Option (Int×Tok)).map (·.1)).getD 1 == 1 && (slicePicked z pl' pu' none).length == z.length)=true then z else ⟨((slicePicked z pl' pu' none).filterMap (z.cps[·]?)).toArray⟩)=(⟨(oM z.cps.toList (pl'.map (·.1)) (pu'.map (·.1))).toArray⟩:Str):=by
   rw[<- B6];rfl
  refine post_val_or_str ⟨?_,fun t' k=>?_⟩
  ·rw[e];show (oM z.cps.toList (pl'.map (·.1)) (pu'.map (·.1))).toArray.size<=MT
   rw[MV];refine le_trans (tU _ _ _) ?_
   simpa[Qy]using hz
  ·rw[e];exact⟨.str _,H,I.tok k,⟨t',rfl⟩,q⟩
end
end L2
namespace L3
open PySem PySem.Spec PyProof.Rows L2
def rD(K:Ps)(r3:R3):R2:=fun v u H Q=>∃ x y G Q3,RD K H x v/\RD K H y u/\RG K H G/\r3 x y G Q3/\ub K G H Q3 Q
def fM(r:R3)(ta tb:aZ):aZ:=fun σ G Q=>ta σ G fun x G1=>tb σ G1 fun y G2=>r (val x) (val y) G2 Q
section
variable{X:Cx}{a b c:M9}{ta tb tc:aZ}{pos:Pos}{r:R3}
theorem Lp{K:Ps}{Q:VK}{τ:St}{H:Hp}(h:az K (fM r ta tb) τ H Q):JO (rD K r) (vB K ta) (vB K tb) τ H Q:=by
 obtain⟨σ,G,Q3,rs,rg,h,k⟩:=h;refine⟨σ,G,_,rs,rg,h,fun x G1 v H1 h1 k1 rg1 re1=>⟨σ,G1,_,rs.mono (k1.stb rg),rg1,h1,fun y G2 u H2 h2 k2 rg2 re2=>?_⟩⟩;exact⟨val x,val y,G2,Q3,RD.mono (k2.stb rg1) _ _ re1,re2,rg2,h2,k.base (k1.trans k2)⟩
theorem bF(ho:gL X (Nv op) (rD X.K r))(ha:PE X a (az X.K ta))(hb:PE X b (az X.K tb))(hm:Oh op b=false):PT X (.Compare a [op] [b] pos) (cz X.K (bJ (fM r ta tb))):=
 (Bv ho (eg ha) (eg hb) hm).imp fun _ _ _ h=>Lp (v0 h)
def ui:R3:=fun x y G Q=>match x,y with
 | .bl a,.bl b=>Q (.bl (a == b)) G
 | x,y=>pl 8 x/\pl 8 y/\Q (.bl (eA x y)) G
def Hu:R3:=fun x y G Q=>match x,y with
 | .bl a,.bl b=>Q (.bl (!(a == b))) G
 | x,y=>pl 8 x/\pl 8 y/\Q (.bl (!eA x y)) G
theorem j8(hu:X.A.units+8 < ND):gL X (Nv .Eq) (rD X.K ui):=by
 rintro pins s σ H v u v' u' Q I rv ru ⟨x,y,G,Q3,rx,ry,rg,h,k⟩
 unfold ui at h;split at h
 ·rename_i a b;simp only[RD]at rx ry;subst rx ry;cases rv;cases ru;exact SeqAt.RcAt.bool_bool a b X.prog X.w X.xe _ ⟨.bl (a == b),H,I,rfl,k _ G _ H h Kp.refl rg (.of fc)⟩
 ·obtain⟨p1,p2,q⟩:=h;exact (vK I 8 p1 p2 rx ry rv ru hu).rc X.prog X.w X.xe _ ⟨.bl _,H,I,rfl,k _ G _ H q Kp.refl rg (.of fc)⟩
theorem Dl(hu:X.A.units+8 < ND):gL X (Nv .NotEq) (rD X.K Hu):=by
 rintro pins s σ H v u v' u' Q I rv ru ⟨x,y,G,Q3,rx,ry,rg,h,k⟩
 unfold Hu at h;split at h
 ·rename_i a b;simp only[RD]at rx ry;subst rx ry;cases rv;cases ru;exact SeqAt.RcNeAt.bool_bool a b X.prog X.w X.xe _ ⟨.bl (!(a == b)),H,I,rfl,k _ G _ H h Kp.refl rg (.of fc)⟩
 ·obtain⟨p1,p2,q⟩:=h;exact (vK I 8 p1 p2 rx ry rv ru hu).ne X.prog X.w X.xe _ ⟨.bl _,H,I,rfl,k _ G _ H q Kp.refl rg (.of fc)⟩
abbrev cS:=List D->Gp->i_->Prop
def bP(K:Ps)(sp:cS):Sp:=fun vs H Q _=>∃ ds G Q3,RDs K H ds vs/\RG K H G/\sp ds G Q3/\ub K G H Q3 Q
def cx(N:List Str)(ds:List D):eE:=ds.map some ++ List.replicate (N.length - ds.length) none
theorem yA{K:Ps}{H:Hp}{N:List Str}{ds:List D}{vs:List V}(r:RDs K H ds vs):RS K H (cx N ds) (L2.start N vs):=by
 unfold cx L2.start;have hl:=r.length;rw[hl];have rep:∀ n:Nat,PB (C6 K H) (List.replicate n none) (List.replicate n none):=fun n=>by
  induction n with
  | zero=>exact .nil
  | succ n ih=>exact .cons (show C6 K H none none from trivial) ih
 have go:∀ {ds:List D} {vs:List V} {σ:eE} {τ:St},RDs K H ds vs->PB (C6 K H) σ τ->PB (C6 K H) (ds.map some ++ σ) (vs.map some ++ τ):=by
  intro ds
  induction ds with
  | nil=>intro vs σ τ r q;rw[r.inv_nil];exact q
  | cons d t ih=>
   intro vs σ τ r q;obtain⟨x,xs,e,h1,h2⟩:=r.inv_cons;subst e;exact .cons (show C6 K H (some d) (some x)from h1) (ih h2 q)
 exact go r (rep _)
variable{P:MY}{w:M7}{K:Ps}{mg:Str->Option MI}{base:M5}
structure Fn3(P:MY)(w:M7)(K:Ps)(mg:Str->Option MI)(base:M5)(k:Nat)(x:Str)(dds:List D)(sp:cS):Prop where
 ex:∃ f fd ps ds dvs,FnOk P w K mg base oV k f fd ps (bP K sp)/\mg x=some (.ref f)/\Qw K (.ref f)=true/\dj K fd ps ds/\Vals dvs ds/\∀ H,RDs K H dds dvs
structure Mt3(P:MY)(w:M7)(K:Ps)(mg:Str->Option MI)(base:M5)(k:Nat)(C:ML)(m:Str)(dds:List D)(sp:cS):Prop where
 cl:Cls K C
 ex:∃ f fd ps ds dvs,FnOk P w K mg base oV k f fd ps (bP K sp)/\Meth K C m f/\dj K fd ps ds/\Vals dvs ds/\∀ H,RDs K H dds dvs
structure Mk3(P:MY)(w:M7)(K:Ps)(mg:Str->Option MI)(base:M5)(k:Nat)(x:Str)(C:ML)(dds:List D)(sp:cS):Prop where
 ex:∃ f fd ps ds dvs,Mk K C f/\mg x=some (.ref C)/\FnOk P w K mg base oV k f fd ps (bP K sp)/\dj K fd ps ds/\Vals dvs ds/\∀ H,RDs K H dds dvs
def aP(sp:cS)(dds:List D)(ta:jN):aZ:=fun σ G Q=>ta σ G fun ds G1=>sp (ds ++ dds) G1 Q
def bb(C:ML)(L:List Str)(sp:cS)(dds:List D)(to:aZ)(ta:jN):aZ:=fun σ G Q=>to σ G fun x G1=>match x with
 | .ref a=>match G1 a with
  | some (.ins C' L' _)=>(C'=C/\L'=L)/\ta σ G1 fun ds G2=>sp (.ref a::(ds ++ dds)) G2 Q
  | _=>False
 | _=>False
def jL(C:ML)(sp:cS)(dds:List D)(ta:jN):aZ:=fun σ G Q=>ta σ G fun ds G1=>∀ a,G1 a=none->sp (.ref a::(ds ++ dds)) (gset G1 a (.ins C [] [])) fun d G2=>d=.non/\Q (.ref a) G2
variable{e o:M9}{es:List M9}{t:jN}{te to:aZ}{k:Nat}{x m:Str}{p apos:Pos}{dds:List D}{sp:cS}{C:ML}
theorem CW{Q:VK}{τ:St}{H:Hp}{dvs:List V}(hd:∀ H,RDs K H dds dvs)(h:az K (aP sp dds t) τ H Q)(E:XK):Hi (bP K sp) dvs E (dD K t) τ H Q:=by
 obtain⟨σ,G,Q3,rs,rg,h,kk⟩:=h;exact⟨σ,G,_,rs,rg,h,fun ds G1 vs H1 q k1 rg1 rds=>⟨ds ++ dds,G1,Q3,rds.append (hd H1),rg1,q,kk.base k1⟩⟩
theorem aL(F:Fn3 X.prog X.w X.K X.mg X.base k x dds sp)(hr:Room k X.A)(hg:Gl X x)(ha:PA X (e::es) (dD X.K t))(hdb:(x == ("__debug__":Str))=false:=by decide)(he:MU (e::es) X.env=(false,eval e X.env)::MU es X.env:=by rfl)(hpl:(NS pos (MU es X.env)).any (·.1)=false:=by rfl):PE X (.Call (.Name x p) (e::es) [] pos) (az X.K (aP sp dds t)):=by
 obtain⟨f,fd,ps,ds,dvs,ok,hm,hk,hb,hv,hd⟩:=F.ex;exact (BB ok hr hg hm hk hb hv vo ha hdb he hpl).imp fun _ _ _ h=>CW hd h E0
theorem lq{K:Ps}{gs:List (Str×V)}{L:List Str}{m:Str}(h:gs.map (·.1)=L)(n:m∉L):gs.lookup m=none:=by
 subst h
 induction gs with
 | nil=>rfl
 | cons g r ih=>
  obtain⟨y,v⟩:=g;rw[M8,Nr,not_or]at n;rw[Og,show (m == y)=false by simpa using n.1]
  exact ih n.2
theorem Cu{Q:VK}{τ:St}{H:Hp}{dvs:List V}{L:List Str}(hL:m∉L)(hd:∀ H,RDs K H dds dvs)(h:az K (bb C L sp dds to t) τ H Q)(E:XK):Dx C m (bP K sp) dvs E (az K to) (dD K t) τ H Q:=by
 obtain⟨σ,G,Q3,rs,rg,h,kk⟩:=h;refine⟨σ,G,_,rs,rg,h,fun d G1 v H1 q k1 rg1 re=>?_⟩;cases d with
 | ref a=>
  dsimp only at q;split at q
  ·rename_i C' L' ds hg;obtain⟨⟨rfl,rfl⟩,q⟩:=q;obtain⟨ho,e1,ro⟩:=rg1 a _ hg;cases ho with
   | ins C2 dx gs=>
    obtain⟨rfl,r2,r3⟩:=ro;refine⟨a,dx,gs,re.ref,e1,lq (K:=K) r2 hL,σ,G1,_,rs.mono (k1.stb rg),rg1,q,fun ds' G2 vs H2 q2 k2 rg2 rds=>?_⟩;rw[re.ref];exact⟨.ref a::(ds' ++ dds),G2,Q3,RDs.cons fH (rds.append (hd H2)),rg2,q2,kk.base (k1.trans k2)⟩
   | _=>exact ro.elim
  ·exact q.elim
 | _=>exact q.elim
theorem dC{pl:Sem Bool}{L:List Str}(F:Mt3 X.prog X.w X.K X.mg X.base k C m dds sp)(hL:m∉L)(hr:Room k X.A)(ho:PE X o (az X.K to))(ha:PA X (e::es) (dD X.K t))
  (hst:MU (e::es) X.env=(false,eval e X.env)::MU es X.env:=by rfl) (hpl:(NS pos (MU es X.env)).any (·.1)=false:=by rfl)
  (ht:eval (.Call (.Attribute o m apos) (e::es) [] pos) X.env=(do
   let ov <- eval o X.env
   Ph apos.atName
   let (f,first) <- holding [ov] (Pf ov m pl)
   Qi pos f first (NS pos (MU (e::es) X.env)) (Pq pos (OA [] X.env))):=by rfl):
  PE X (.Call (.Attribute o m apos) (e::es) [] pos) (az X.K (bb C L sp dds to t)):=by
 obtain⟨f,fd,ps,ds,dvs,ok,hm,hb,hv,hd⟩:=F.ex;exact (By ho F.cl hm ok hr hb hv vo ha hst hpl ht).imp fun _ _ _ h=>Cu hL hd h E0
theorem bT{pl:Sem Bool}{L:List Str}(F:Mt3 X.prog X.w X.K X.mg X.base k C m dds sp)(hL:m∉L)(hr:Room k X.A)(ho:PE X o (az X.K to))
  (ht:eval (.Call (.Attribute o m apos) [] [] pos) X.env=(do
   let ov <- eval o X.env
   Ph apos.atName
   let (f,first) <- holding [ov] (Pf ov m pl)
   Qi pos f first (NS pos (MU [] X.env)) (Pq pos (OA [] X.env))):=by rfl):
  PE X (.Call (.Attribute o m apos) [] [] pos) (az X.K (bb C L sp dds to au)):=by
 obtain⟨f,fd,ps,ds,dvs,ok,hm,hb,hv,hd⟩:=F.ex;refine (Ee ho F.cl hm ok hr hb hv vo ht).imp fun τ H Q h=>?_;obtain⟨σ,G,Q3,rs,rg,h,kk⟩:=h;refine⟨σ,G,_,rs,rg,h,fun d G1 v H1 q k1 rg1 re=>?_⟩;cases d with
 | ref a=>
  dsimp only at q;split at q
  ·rename_i C' L' ds hg;obtain⟨⟨rfl,rfl⟩,q⟩:=q;obtain⟨ho,e1,ro⟩:=rg1 a _ hg;cases ho with
   | ins C2 dx gs=>
    obtain⟨rfl,r2,r3⟩:=ro;refine⟨a,dx,gs,re.ref,e1,lq (K:=X.K) r2 hL,?_⟩;rw[re.ref];exact⟨.ref a::([] ++ dds),G1,Q3,RDs.cons fH (hd H1),rg1,q,kk.base k1⟩
   | _=>exact ro.elim
  ·exact q.elim
 | _=>exact q.elim
theorem Cv{Q:VK}{τ:St}{H:Hp}{dvs:List V}(hd:∀ H,RDs K H dds dvs)(h:az K (jL C sp dds t) τ H Q)(E:XK):Hh C (bP K sp) dvs E (dD K t) τ H Q:=by
 obtain⟨σ,G,Q3,rs,rg,h,kk⟩:=h;refine⟨σ,G,_,rs,rg,h,fun ds G1 vs H1 q k1 rg1 rds a dx na nd ne=>?_⟩;have kd:Kp G1 H1 G1 (aS H1 dx (.own a)):=Kp.laid nd;have rgd:RG K (aS H1 dx (.own a)) G1:=rg1.laid nd;have na':aS H1 dx (.own a) a=none:=by rw[aq (Ne.symm ne)];exact na
 have ka:Kp G1 H1 (gset G1 a (.ins C [] [])) (aS (aS H1 dx (.own a)) a (.ins C dx [])):=fun b h' e n=>by
  have:b≠a:=bA e na;exact⟨by rw[aq this,aq (bA e nd)];exact e,by rw[am this];exact n⟩
 have st:Stb K H1 (aS (aS H1 dx (.own a)) a (.ins C dx [])):=ka.stb rg1;have rga:RG K (aS (aS H1 dx (.own a)) a (.ins C dx [])) (gset G1 a (.ins C [] [])):=fun b o q=>by
  by_cases hb:b=a
  ·subst hb;rw[av]at q;cases q;exact⟨_,aB,rfl,rfl,RDs.nil⟩
  ·rw[am hb]at q;obtain⟨h',e1,r⟩:=rg1 b o q;exact⟨h',by rw[aq hb,aq (bA e1 nd)];exact e1,r.mono st⟩
 refine⟨.ref a::(ds ++ dds),_,_,RDs.cons fH (RDs.append (RDs.mono st _ _ rds) (hd _)),rga,q a (rg1.free na),fun d G2 v H2 q2 k2 rg2 re=>?_⟩;obtain⟨rfl,q2⟩:=q2;exact⟨re.non,kk _ G2 _ H2 q2 (k1.trans (ka.trans k2)) rg2 (.of fH)⟩
theorem jm(F:Mk3 X.prog X.w X.K X.mg X.base k x C dds sp)(hr:Room (k+1) X.A)(hg:Gl X x)(ha:PA X (e::es) (dD X.K t))(hdb:(x == ("__debug__":Str))=false:=by decide)(he:MU (e::es) X.env=(false,eval e X.env)::MU es X.env:=by rfl)(hpl:(NS pos (MU es X.env)).any (·.1)=false:=by rfl):PE X (.Call (.Name x p) (e::es) [] pos) (az X.K (jL C sp dds t)):=by
 obtain⟨f,fd,ps,ds,dvs,M,hm,ok,hb,hv,hd⟩:=F.ex;exact (F2 M ok hr hg hm hb hv vo ha hdb he hpl).imp fun _ _ _ h=>Cv hd h E0
def jZ(C:ML)(L:List Str)(i:Nat)(to:aZ):aZ:=fun σ G Q=>to σ G fun x G1=>match x with
 | .ref a=>match G1 a with
  | some (.ins C' L' ds)=>(C'=C/\L'=L)/\match ds[i]? with
   | some d=>Q d G1
   | none=>False
  | _=>False
 | _=>False
def uY(L:List Str)(f:Str)(i:Nat):Prop:=L[i]?=some f/\∀ j,j < i->L[j]?≠some f
theorem BE:∀ {gs:List (Str×V)} {f:Str} {i:Nat} {v:V},uY (gs.map (·.1)) f i->(gs.map (·.2))[i]?=some v->gs.lookup f=some v
 | [],f,i,v,h,e=>by simp at e
 | (g,u)::r,f,0,v,h,e=>by
  have:g=f:=by simpa using h.1
  subst this;simp at e;subst e;rw[Og,beq_self_eq_true]
 | (g,u)::r,f,i+1,v,h,e=>by
  have ne:g≠f:=fun z=>h.2 0 (Nat.succ_pos _) (by simp[z])
  rw[Og,show (f == g)=false by simpa using Ne.symm ne]
  exact BE (i:=i) ⟨by simpa using h.1,fun j hj z=>h.2 (j+1) (Nat.succ_lt_succ hj) (by simpa using z)⟩ (by simpa using e)
theorem DU:∀ {gs:List (Str×V)} {f:Str} {i:Nat} (v:V),uY (gs.map (·.1)) f i->(fe f v gs).map (·.1)=gs.map (·.1)/\(fe f v gs).map (·.2)=(gs.map (·.2)).set i v
 | [],f,i,v,h=>by have:=h.1;simp at this
 | (g,u)::r,f,0,v,h=>by
  have:g=f:=by simpa using h.1
  subst this;simp[fe]
 | (g,u)::r,f,i+1,v,h=>by
  have ne:g≠f:=fun z=>h.2 0 (Nat.succ_pos _) (by simp[z])
  have ih:=DU (gs:=r) (i:=i) v ⟨by simpa using h.1,fun j hj z=>h.2 (j+1) (Nat.succ_lt_succ hj) (by simpa using z)⟩
  simp only[fe,if_neg ne,M8,NJ,ih.1,ih.2,and_self]
theorem put_new:∀ {gs:List (Str×V)} {f:Str} (v:V),f∉gs.map (·.1)->fe f v gs=gs ++ [(f,v)]
 | [],f,v,h=>rfl
 | (g,u)::r,f,v,h=>by
  rw[M8,Nr,not_or]at h;simp only[fe,if_neg (Ne.symm h.1),put_new v h.2,OB]
theorem iq(cl:Cls X.K C)(na:cC X.K C f)(hi:uY L f i)(ho:PE X o (az X.K to))(hb:Oi o f X.env (eval o X.env)=eval o X.env:=by rfl):PE X (.Attribute o f pos) (az X.K (jZ C L i to)):=
 (Ef ho hb).imp fun τ H Q zz=>by
 obtain⟨σ,G,Q3,rs,rg,h,kk⟩:=zz;exact (
  ⟨σ,G,_,rs,rg,h,fun d G1 v H1 q k1 rg1 re=>by
    cases d with
    | ref a=>
     dsimp only at q;split at q
     ·rename_i C' L' ds hg;obtain⟨⟨rfl,rfl⟩,q⟩:=q;split at q
      ·rename_i d hd;obtain⟨ho,e1,ro⟩:=rg1 a _ hg;cases ho with
       | ins C2 dx gs=>
        obtain⟨rfl,r2,r3⟩:=ro;subst r2;obtain⟨w,hw,rd⟩:=r3.get hd;exact⟨a,_,dx,gs,w,re.ref,e1,cl,na,BE hi hw,kk _ G1 _ H1 q k1 rg1 (.of rd)⟩
       | _=>exact ro.elim
      ·exact q.elim
     ·exact q.elim
    | _=>exact q.elim⟩)
def Bu(C:ML)(L:List Str)(i:Nat)(to tv:aZ):bg:=fun D σ G=>tv σ G fun d G1=>to σ G1 fun x G2=>match x with
 | .ref a=>match G2 a with
  | some (.ins C' L' ds)=>(C'=C/\L'=L)/\D.nx σ (gset G2 a (.ins C L (ds.set i (val d))))
  | _=>False
 | _=>False
def r6(C:ML)(L:List Str)(f:Str)(to tv:aZ):bg:=fun D σ G=>tv σ G fun d G1=>to σ G1 fun x G2=>match x with
 | .ref a=>match G2 a with
  | some (.ins C' L' ds)=>(C'=C/\L'=L)/\D.nx σ (gset G2 a (.ins C (L ++ [f]) (ds ++ [val d])))
  | _=>False
 | _=>False
theorem Aw{H:Hp}{G:Gp}{a:ML}{C2 dx:ML}{gs gs':List (Str×V)}{L':List Str}{ds':List D}(rg:RG K H G)(e1:H a=some (.ins C2 dx gs))(r1:gs'.map (·.1)=L')(r2:RDs K H ds' (gs'.map (·.2)))(hg:G a≠none):
  Kp G H (gset G a (.ins C2 L' ds')) (aS H a (.ins C2 dx gs'))/\RG K (aS H a (.ins C2 dx gs')) (gset G a (.ins C2 L' ds')):=by
 have kp:Kp G H (gset G a (.ins C2 L' ds')) (aS H a (.ins C2 dx gs')):=fun b h e n=>by
  have:b≠a:=fun z=>by subst z;exact hg n
  exact⟨by rw[aq this];exact e,by rw[am this];exact n⟩
 have st:=kp.stb rg;refine⟨kp,fun b o q=>?_⟩
 by_cases hb:b=a
 ·subst hb;rw[av]at q;cases q;exact⟨_,aB,rfl,r1,RDs.mono st _ _ r2⟩
 ·rw[am hb]at q;obtain⟨h',e2,r⟩:=rg b o q;exact⟨h',by rw[aq hb];exact e2,r.mono st⟩
theorem J6(cl:Cls X.K C)(na:cC X.K C f)(hi:uY L f i)(hl:L.length < 1000)(ho:PE X o (az X.K to))(hv:PE X e (az X.K te))(hs:N9 e (some (.Attribute o f pos')) pos.line X.env=pure false:=by rfl):
  PS X (.Assign [.Attribute o f pos'] e pos) (bB X.K (Bu C L i to te)):=
 (Az ho (eg hv) hs).imp fun D τ H zz=>by
 obtain⟨σ,G,D3,rs,rg,h,kk⟩:=zz;exact (
  ⟨σ,G,_,rs,rg,h,fun d G1 v H1 q1 k1 rg1 rd=>⟨σ,G1,_,rs.mono (k1.stb rg),rg1,q1,fun x G2 u H2 q2 k2 rg2 re=>by
    cases x with
    | ref a=>
     dsimp only at q2;split at q2
     ·rename_i C' L' ds hg;obtain⟨⟨rfl,rfl⟩,q2⟩:=q2;obtain⟨ho,e1,ro⟩:=rg2 a _ hg;cases ho with
      | ins C2 dx gs=>
       obtain⟨rfl,r2,r3⟩:=ro;subst r2;obtain⟨p1,p2⟩:=DU (gs:=gs) v hi;have rd2:=RD.mono (k2.stb rg1) _ _ rd;obtain⟨kp,rg3⟩:=Aw (gs':=fe f v gs) (L':=gs.map (·.1)) (ds':=ds.set i (val d)) rg2 e1 p1 (by rw[p2];exact r3.set i rd2) (by rw[hg];exact fun z=>nomatch z)
       exact⟨a,_,dx,gs,re.ref,e1,cl,na,by simpa using hl,kk.nx _ _ _ _ q2 ((k1.trans k2).trans kp) rg3 (rs.mono ((((k1.trans k2).trans kp)).stb rg))⟩
      | _=>exact ro.elim
     ·exact q2.elim
    | _=>exact q2.elim⟩⟩)
theorem sE(cl:Cls X.K C)(na:cC X.K C f)(hi:f∉L)(hl:L.length < 1000)(ho:PE X o (az X.K to))(hv:PE X e (az X.K te))(hs:N9 e (some (.Attribute o f pos')) pos.line X.env=pure false:=by rfl):
  PS X (.Assign [.Attribute o f pos'] e pos) (bB X.K (r6 C L f to te)):=
 (Az ho (eg hv) hs).imp fun D τ H zz=>by
 obtain⟨σ,G,D3,rs,rg,h,kk⟩:=zz;exact (
  ⟨σ,G,_,rs,rg,h,fun d G1 v H1 q1 k1 rg1 rd=>⟨σ,G1,_,rs.mono (k1.stb rg),rg1,q1,fun x G2 u H2 q2 k2 rg2 re=>by
    cases x with
    | ref a=>
     dsimp only at q2;split at q2
     ·rename_i C' L' ds hg;obtain⟨⟨rfl,rfl⟩,q2⟩:=q2;obtain⟨ho,e1,ro⟩:=rg2 a _ hg;cases ho with
      | ins C2 dx gs=>
       obtain⟨rfl,r2,r3⟩:=ro;subst r2;have rd2:=RD.mono (k2.stb rg1) _ _ rd;obtain⟨kp,rg3⟩:=Aw (gs':=fe f v gs) (L':=gs.map (·.1) ++ [f]) (ds':=ds ++ [val d]) rg2 e1 (by rw[put_new v hi];simp) (by rw[put_new v hi,NN];exact r3.append (RDs.cons rd2 RDs.nil)) (by rw[hg];exact fun z=>nomatch z)
       exact⟨a,_,dx,gs,re.ref,e1,cl,na,by simpa using hl,kk.nx _ _ _ _ q2 ((k1.trans k2).trans kp) rg3 (rs.mono ((((k1.trans k2).trans kp)).stb rg))⟩
      | _=>exact ro.elim
     ·exact q2.elim
    | _=>exact q2.elim⟩⟩)
def LF(te:aZ)(g:uj):bg:=fun D σ G=>te σ G fun d G'=>g (val d) σ G' D.nx
abbrev Bb:=List D->Gp->i_->Prop
def n_(K:Ps)(r3:Bb):List V->Hp->VK->Prop:=fun vs H Q=>∃ ds G Q3,RDs K H ds vs/\RG K H G/\r3 ds G Q3/\ub K G H Q3 Q
def eB(r:Bb)(ta:jN):aZ:=fun σ G Q=>ta σ G fun ds G1=>r ds G1 Q
variable{id T:String}{r3:Bb}
theorem HE{Q:VK}{τ:St}{H:Hp}(h:az K (eB r3 t) τ H Q):LA (n_ K r3) (dD K t) τ H Q:=by
 obtain⟨σ,G,Q3,rs,rg,h,kk⟩:=h;exact⟨σ,G,_,rs,rg,h,fun ds G1 vs H1 q k1 rg1 rds=>⟨ds,G1,Q3,rds,rg1,q,kk.base k1⟩⟩
theorem aT(hc:eF X (.builtin id) (n_ X.K r3))(hg:Gl X x)(hm:X.mg x=none)(hv:N3 x=some (.builtin id))(ha:PA X (e::es) (dD X.K t))(hn:x≠"__name__":=by decide)(hdb:(x == ("__debug__":Str))=false:=by decide)(he:MU (e::es) X.env=(false,eval e X.env)::MU es X.env:=by rfl)(hpl:(NS pos (MU es X.env)).any (·.1)=false:=by rfl):PE X (.Call (.Name x p) (e::es) [] pos) (az X.K (eB r3 t)):=
 (Eh hc hg hm hv ha hn hdb he hpl).imp fun _ _ _ h=>HE h
theorem sH(hc:eF X (.type T) (n_ X.K r3))(hg:Gl X x)(hm:X.mg x=none)(hv:N3 x=some (.type T))(ha:PA X (e::es) (dD X.K t))(hn:x≠"__name__":=by decide)(hdb:(x == ("__debug__":Str))=false:=by decide)(he:MU (e::es) X.env=(false,eval e X.env)::MU es X.env:=by rfl)(hpl:(NS pos (MU es X.env)).any (·.1)=false:=by rfl):PE X (.Call (.Name x p) (e::es) [] pos) (az X.K (eB r3 t)):=
 (Cn hc hg hm hv ha hn hdb he hpl).imp fun _ _ _ h=>HE h
def gK:Bb:=fun ds G Q=>match ds with
 | [.str z]=>z.length<=MT/\Q (.int z.length) G
 | [d]=>match Fl G d with
  | some es=>Q (.int es.length) G
  | none=>False
 | _=>False
theorem fT(r:RDs K H [d] vs):∃ v,vs=[v]/\RD K H d v:=by
 obtain⟨v,t,e,h1,h2⟩:=r.inv_cons;have:=h2.inv_nil;subst this;exact⟨v,e,h1⟩
theorem b_len:eF X (.builtin "len") (n_ X.K gK):=((xv (X:=X)).or (xw (X:=X))).imp fun vs H Q zz=>by
 obtain⟨ds,G,Q3,rds,rg,h,kk⟩:=zz;unfold gK at h;split at h
 ·rename_i z;obtain⟨v,rfl,rd⟩:=fT rds;simp only[RD]at rd;subst rd;exact .inl ⟨z,rfl,h.1,kk _ G _ H h.2 Kp.refl rg (.of ef)⟩
 ·rename_i d _;obtain⟨v,rfl,rd⟩:=fT rds;split at h
  ·rename_i es he;obtain⟨a,xs,rfl,s,r⟩:=tX (G:=G) (H:=H) he (.of rd) rg;exact .inr ⟨a,xs,rfl,s,by rw[<- r.length];exact kk _ G _ H h Kp.refl rg (.of ef)⟩
  ·exact h.elim
 ·exact h.elim
def zL:Bb:=fun ds G Q=>match ds with
 | [d]=>match Fl G d with
  | some es=>Q (.fl es) G
  | none=>False
 | _=>False
theorem b_list:eF X (.type "list") (n_ X.K zL):=(xu (X:=X)).imp fun vs H Q zz=>by
 obtain⟨ds,G,Q3,rds,rg,h,kk⟩:=zz;unfold zL at h;split at h
 ·rename_i d;obtain⟨v,rfl,rd⟩:=fT rds;split at h
  ·rename_i es he;obtain⟨a,xs,rfl,s,r⟩:=tX (G:=G) (H:=H) he (.of rd) rg;exact⟨a,xs,rfl,s,fun p hp=>kk _ G _ _ h (Kp.laid hp) (rg.laid hp) (xk rg hp r)⟩
  ·exact h.elim
 ·exact h.elim
def xy:Bb:=fun ds G Q=>match ds with
 | [d]=>match Fl G d with
  | some es=>Q (.tup es) G
  | none=>False
 | _=>False
theorem b_tuple:eF X (.type "tuple") (n_ X.K xy):=(uT (X:=X)).imp fun vs H Q zz=>by
 obtain⟨ds,G,Q3,rds,rg,h,kk⟩:=zz;unfold xy at h;split at h
 ·rename_i d;obtain⟨v,rfl,rd⟩:=fT rds;split at h
  ·rename_i es he;obtain⟨a,xs,rfl,s,r⟩:=tX (G:=G) (H:=H) he (.of rd) rg;refine⟨a,xs,rfl,?_⟩;rcases s with s|s
   ·exact .inl ⟨s,fun p hp=>kk _ G _ _ h (Kp.laid hp) (rg.laid hp) (.of (k_ rg hp r))⟩
   ·exact .inr ⟨s,kk _ G _ H h Kp.refl rg (.of (pC s r))⟩
  ·exact h.elim
 ·exact h.elim
def L7:Bb:=fun ds G Q=>match ds with
 | [d]=>∃ ns:List Int,tY G d=some (ns.map D.int)/\Q (.int ns.sum) G
 | _=>False
def L8:Bb:=fun ds G Q=>match ds with
 | [.int i,.int j]=>Q (.int (if j < i then j else i)) G
 | _=>False
def L9:Bb:=fun ds G Q=>match ds with
 | [.int i,.int j]=>Q (.int (if j > i then j else i)) G
 | _=>False
end
section
variable{X:Cx}
def AJ:R3:=fun x y G Q=>match x,y with
 | .int i,.int j=>Fj i j/\Q (.int (i*j)) G
 | .str z,.int n=>(-(2 ^ 63)<=n/\n < 2 ^ 63/\z.length*n.toNat<=MT)/\Q (.str (yG z n.toNat)) G
 | _,_=>False
theorem Bk:gL X (N6 .Mult) (cR X.K AJ):=((IG (X:=X)).or (AF (X:=X))).imp fun v u H Q zz=>by
 obtain⟨x,y,G0,H0,G,Q3,rx,ry,rg,h,k⟩:=zz;unfold AJ at h;split at h
 ·rename_i i j;exact .inl ⟨i,j,rx.int,ry.int,h.1,k _ G _ H h.2 Kp.refl rg (.of ef)⟩
 ·rename_i z n;exact .inr ⟨z,n,rx.str,ry.int,h.1.1,h.1.2.1,h.1.2.2,k _ G _ H h.2 Kp.refl rg (.of iA)⟩
 ·exact h.elim
def Hk:K7:=fun x lo hi G Q=>match x with
 | .str z=>z.length<=MT/\Q (.str ⟨(oM z.cps.toList lo hi).toArray⟩) G
 | .tup ds=>¬ (HT.sIx ds.length 0 lo=0/\HT.sIx ds.length ds.length hi=ds.length)/\Q (.tup (cutD ds lo hi)) G
 | x=>match tY G x with
  | some ds=>Q (.fl (cutD ds lo hi)) G
  | none=>False
theorem Dk:C0 X (Ey X.K Hk):=((HZ (X:=X)).or ((HY (X:=X)).or (FE (X:=X)))).imp fun v lo hi H Q zz=>by
 obtain⟨x,G0,H0,G,Q3,rx,rg,h,k⟩:=zz;unfold Hk at h;split at h
 ·rename_i z;exact .inl ⟨z,rx.str,h.1,k _ G _ H h.2 Kp.refl rg (.of iA)⟩
 ·rename_i ds;obtain⟨a,xs,rfl,s,r⟩:=rx.tup;refine .inr (.inl ⟨a,xs,rfl,s,by rw[<- r.length];exact h.1,fun p hp=>k _ G _ _ h.2 (Kp.laid hp) (rg.laid hp) (.of (k_ rg hp (BL r lo hi)))⟩)
 ·split at h
  ·rename_i ds hds;obtain⟨a,xs,rfl,s,r⟩:=p5 hds rx rg;exact .inr (.inr ⟨a,xs,rfl,s,fun p hp=>k _ G _ _ h (Kp.laid hp) (rg.laid hp) (xk rg hp (BL r lo hi))⟩)
  ·exact h.elim
def KD(to:aZ)(ta:jN):aZ:=fun σ G Q=>to σ G fun x G1=>match x with
 | .str z=>ta σ G1 fun ds G2=>match ds with
  | [d]=>∃ ys:List Str,tY G2 d=some (ys.map D.str)/\(ys.map (·.length)).sum+ys.length*z.length<=16777216/\Q (.str (Txt.join z ys)) G2
  | _=>False
 | _=>False
variable{o e:M9}{es:List M9}{to te:aZ}{t:jN}{apos cpos pos p:Pos}
def ju(to:aZ)(ta:jN):aZ:=fun σ G Q=>to σ G fun x G1=>match x with
 | .ref a=>(∃ ds,G1 a=some (.lst ds))/\ta σ G1 fun es G2=>match es with
  | [d]=>match G2 a with
   | some (.lst ds)=>ds.length < MT/\Q .non (gset G2 a (.lst (ds ++ [d])))
   | _=>False
  | _=>False
 | _=>False
theorem Go{K:Ps}{H:Hp}{G:Gp}{a:ML}{xs ys:List V}{ds':List D}(rg:RG K H G)(e1:H a=some (.lst xs))(r2:RDs K H ds' ys)(hg:G a≠none):
  Kp G H (gset G a (.lst ds')) (aS H a (.lst ys))/\RG K (aS H a (.lst ys)) (gset G a (.lst ds')):=by
 have kp:Kp G H (gset G a (.lst ds')) (aS H a (.lst ys)):=fun b h e n=>by
  have:b≠a:=fun z=>by subst z;exact hg n
  exact⟨by rw[aq this];exact e,by rw[am this];exact n⟩
 have st:=kp.stb rg;refine⟨kp,fun b o q=>?_⟩
 by_cases hb:b=a
 ·subst hb;rw[av]at q;cases q;exact⟨_,aB,RDs.mono st _ _ r2⟩
 ·rw[am hb]at q;obtain⟨h',e2,r⟩:=rg b o q;exact⟨h',by rw[aq hb];exact e2,r.mono st⟩
theorem sQ{K:Ps}{H:Hp}{G:Gp}{a:ML}{ds:List D}(rg:RG K H G)(e:G a=some (.lst ds)):∃ xs,H a=some (.lst xs)/\RDs K H ds xs:=by
 obtain⟨ho,e1,ro⟩:=rg a _ e;cases ho with
 | lst xs=>exact⟨xs,e1,ro⟩
 | _=>exact ro.elim
theorem sI(ho:PE X o (az X.K to))(ha:PA X [e] (dD X.K t))(SQ:Oi o "append" X.env (eval o X.env)=eval o X.env:=by rfl)(TX:((NS cpos (MU [e] X.env)).all (fun x=>!x.1) && (Pq cpos (OA [] X.env)).all (fun x=>x.1.isSome)
   && decide (([e]:List M9).length+([]:List Q7).length+(if ([]:List Q7).isEmpty then 0 else 1) < 30))=true:=by rfl)(SW:(apos.endLine == cpos.line)=true:=by rfl)(hs:MU [e] X.env=(false,eval e X.env)::MU [] X.env:=by rfl)(S5:(NS cpos (MU [] X.env)).any (·.1)=false:=by rfl):
  PE X (.Call (.Attribute o "append" apos) [e] [] cpos) (az X.K (ju to t)):=
 (Kd PySem.F.plainAttrs_list PySem.F.slot_list_append PySem.F.type_list_append vz ho ha SQ TX SW hs S5).imp fun τ H Q zz=>by
 obtain⟨σ,G,Q3,rs,rg,h,k⟩:=zz;exact (
  ⟨σ,G,_,rs,rg,h,fun d G1 v H1 q k1 rg1 re=>by
    cases d with
    | ref a=>
     rw[re.ref];obtain⟨⟨ds,hg⟩,q⟩:=q;obtain⟨xs,e1,r1⟩:=sQ rg1 hg;refine⟨.inl ⟨rfl,xs,jP.of e1⟩,σ,G1,_,rs.mono (k1.stb rg),rg1,q,fun es G2 vs H2 q2 k2 rg2 rds=>?_⟩;split at q2
     ·rename_i d;obtain⟨v2,rfl,rd⟩:=fT rds;split at q2
      ·rename_i ds2 hg2;obtain⟨xs2,e2,r2⟩:=sQ rg2 hg2;have rr:RDs X.K H2 (ds2 ++ [d]) (xs2 ++ [v2]):=r2.append (RDs.cons rd RDs.nil);obtain⟨kp,rg3⟩:=Go rg2 e2 rr (by rw[hg2];exact fun z=>nomatch z)
       exact⟨a,xs2,v2,rfl,rfl,e2,by rw[<- r2.length];exact q2.1,k _ _ _ _ q2.2 ((k1.trans k2).trans kp) rg3 (.of wq)⟩
      ·exact q2.elim
     ·exact q2.elim
    | _=>exact q.elim⟩)
def w_(G:Gp):D->Option String
 | .int _=>some "int"
 | .str _=>some "str"
 | .bl _=>some "bool"
 | .tup _=>some "tuple"
 | d=>(tY G d).map fun _=>"list"
def L_:Bb:=fun ds G Q=>match ds with
 | [d,.ty T]=>w_ G d=some T/\Q (.bl true) G
 | _=>False
theorem LI(hg:Gl X x)(hm:X.mg x=none)(hv:N3 x=some (.type T))(hn:x≠"__name__":=by decide)(hd:(x == ("__debug__":Str))=false:=by decide):PE X (.Name x pos) (az X.K (eC (.ty T))):=
 JI (F3 (v:=.ty T) hg hm hv rfl hn hd) fun _=>by simp only[RD]
theorem wJ(hg:Gl X x)(hm:X.mg x=some u)(r:aD v u)(rd:∀ H,RD X.K H d v)(hd:(x == ("__debug__":Str))=false:=by decide):PE X (.Name x pos) (az X.K (eC d)):=JI (Bz hg hm r hd) rd
def L5(te:aZ):aZ:=fun σ G Q=>te σ G fun x G1=>match x with
 | .int i=>Q (.int (-i)) G1
 | _=>False
end
theorem oz(h:L.findIdx? (· == f)=some i):uY L f i:=by
 rw[List.findIdx?_eq_some_iff_getElem]at h;obtain⟨hi,h1,h2⟩:=h;refine⟨?_,fun j hj e=>?_⟩
 ·rw[MX hi]
  simpa using h1
 ·have hj':j < L.length:=Nat.lt_trans hj hi;have:=h2 j hj;rw[MX hj']at e;simp only[Option.some.injEq]at e;rw[e]at this;simp at this
def BM(N:List Str)(osc scope:O9)(T M:List Str):Bool:=
 decide (scope.kind=.function) && scope.names.all (fun y=>decide (y.2≠.cell) && (decide (y.2≠.local) || (decide (scope.names.lookup y.1=some .local) && ((".0":Str)::T).contains y.1)) &&
  (decide (y.2≠.free) || (decide (osc.names.lookup y.1=some .cell) || decide (osc.names.lookup y.1=some .free)))) && (M.all fun x=>!((".0":Str)::T).contains x) && decide (M.length=N.length) &&
  ((M.zip N).all fun p=>decide (p.1=p.2) || scope.names.all fun y=>decide (y.1≠p.1))
theorem cZ(hc:X.calm=true)(h:BM X.N X.env.scope scope T M=true):CompOk X scope T M:=by
 unfold BM at h;rw[Bool.and_eq_true,Bool.and_eq_true,Bool.and_eq_true]at h;obtain⟨⟨⟨h12,h3⟩,h4⟩,h5⟩:=h;have hlen:M.length=X.N.length:=of_decide_eq_true h4;simp only[Bool.and_eq_true,List.all_eq_true,Bool.or_eq_true,decide_eq_true_eq,Bool.not_eq_true',List.contains_eq_mem]at h12 h3 h5;obtain⟨h1,h2⟩:=h12;refine⟨hc,h1,fun y hy=>(h2 y hy).1.1,fun y hy hl=>?_,fun y hy hl=>?_,hlen,fun i x hx=>?_,fun x hx=>?_,fun y hy hf=>?_⟩
 ·rcases (h2 y hy).1.2 with z|z
  ·exact absurd hl z
  ·exact z.1
 ·rcases (h2 y hy).1.2 with z|z
  ·exact absurd hl z
  ·simpa using z.2
 ·have hi:i < M.length:=(List.getElem?_eq_some_iff.mp hx).1;have hi2:i < X.N.length:=by walk_at "o"
  have hm:(x,X.N[i])∈M.zip X.N:=by
   refine M6 (i:=i) ?_;rw[List.getElem?_zip_eq_some];exact⟨hx,MX hi2⟩
  rcases h5 _ hm with z|z
  ·left;rw[MX hi2];exact congrArg some (show x=X.N[i]from z).symm
  ·exact .inr fun y hy=>z y hy
 ·simpa using h3 x hx
 ·rcases (h2 y hy).2 with z|z
  ·exact absurd hf z
  ·exact z
structure Fun3(K:Ps)(x qual:Str)(st:Ng)(f:ML)(fd:NR):Prop where
 ex:∃ (oc:MI) (od:Option ML) (dV kV doc pm:MI) (an:Option ML) (cdv ct:MI) (osl:Array (Option MI)),
  fd=So x qual (dE st) (cg st) (ah st) dV kV doc pm an cdv ct/\K.lookup f=some ⟨oc,od,.func fd,osl⟩/\RJ K cdv qual=true
section
variable{P:MY}{w:M7}{K:Ps}{mg:Str->Option MI}{base:M5}
theorem Fun3.ok3{x qual:Str}{st:Ng}{f:ML}{fd:NR}{N ps:List Str}{k:Nat}{sp:cS}(F:Fun3 K x qual st f fd)(S:FnScope N ps (ah st))(len:∀ ds G Q,sp ds G Q->ds.length=ps.length)
  (SU:∀ (cdv:MI) (A:M3) (outer:List Env) (s:MK) (H:Hp) (E:XK),Room k (A.deeper (O8 qual (ah st) s.heap.objs.size f cdv))->
   ∃ t:bg,je (uS oV P w K mg base N qual (ah st) f cdv A outer s H E).nox (cg st) (bB K t)/\∀ ds G Q,sp ds G Q->t { nx:=fun _ G'=>Q .non G',rt:=Q } (cx N ds) G):FnOk P w K mg base oV (k+1) f fd ps (bP K sp):=by
 obtain⟨oc,od,dV,kV,doc,pm,an,cdv,ct,osl,rfl,lk,hcd⟩:=F.ex;refine ET lk hcd S (fun vs H Q E ⟨ds,G,Q3,rds,rg,h,kk⟩=>by rw[<- rds.length];exact len ds G Q3 h) fun A outer s H vs Q E hr hsp=>?_
 obtain⟨ds,G,Q3,rds,rg,h,kk⟩:=hsp;obtain⟨t,ht,hq⟩:=SU cdv A outer s H E hr;refine⟨bB K t,ht.nox,cx N ds,G,{ nx:=fun _ G'=>Q3 .non G',rt:=Q3 },yA rds,rg,hq ds G Q3 h,⟨fun σ' G' τ' H' q k' rg' rs'=>kk _ G' _ H' q k' rg' (.of wq),kk,fun _ _ _ _ q=>q.elim,fun _ _ _ _ q=>q.elim⟩⟩
theorem fV{x qual:Str}{st:Ng}{f:ML}{oc:MI}{od an:Option ML}{osl:Array (Option MI)}{dV kV doc pm cdv ct:MI}(l:K.lookup f=some ⟨oc,od,.func (So x qual (dE st) (cg st) (ah st) dV kV doc pm an cdv ct),osl⟩)
  (c:RJ K cdv qual=true):Fun3 K x qual st f (So x qual (dE st) (cg st) (ah st) dV kV doc pm an cdv ct):=⟨⟨oc,od,dV,kV,doc,pm,an,cdv,ct,osl,rfl,l,c⟩⟩
end
theorem ag{t u:bg}{D:Ends3}{σ:eE}{G:Gp}:sSeq t u D σ G=t { D with nx:=u D } σ G:=rfl
theorem GN(h:0<=i):cutD ds none (some i)=ds.take i.toNat:=by
 have:HT.sIx ds.length ds.length (some i)=min i.toNat ds.length:=by simp only[HT.sIx];rw[if_neg (by walk_at "o")]
 unfold cutD;rw[this];simp only[HT.sIx,QO,Nat.sub_zero];rw[List.take_eq_take_iff];omega
theorem zD(h:0<=i)(h2:0<=j):cutD ds (some i) (some j)=(ds.drop i.toNat).take (j.toNat - i.toNat):=by
 have e1:HT.sIx ds.length 0 (some i)=min i.toNat ds.length:=by simp only[HT.sIx];rw[if_neg (by walk_at "o")]
 have e2:HT.sIx ds.length ds.length (some j)=min j.toNat ds.length:=by simp only[HT.sIx];rw[if_neg (by walk_at "o")]
 unfold cutD;rw[e1,e2]
 by_cases hi:i.toNat<=ds.length
 ·rw[Nat.min_eq_left hi,List.take_eq_take_iff,Pn]
  by_cases hj:j.toNat<=ds.length
  ·rw[Nat.min_eq_left hj]
  ·have hj':=Nat.le_of_not_le hj;rw[Nat.min_eq_right hj',Nat.min_self,Nat.min_eq_right (Nat.sub_le_sub_right hj' _)]
 ·rw[Nat.min_eq_right (Nat.le_of_not_le hi),List.drop_length,List.drop_eq_nil_of_le (le_of_lt (Nat.lt_of_not_le hi))];simp
theorem GP(h:0<=i):oM cs none (some i)=cs.take i.toNat:=by
 have:HT.sIx cs.length cs.length (some i)=min i.toNat cs.length:=by simp only[HT.sIx];rw[if_neg (by walk_at "o")]
 unfold oM;rw[this];simp only[HT.sIx,QO,Nat.sub_zero];rw[List.take_eq_take_iff];omega
def S(cs:List Nat):Str:=⟨cs.toArray⟩
theorem zM{ds:List D}{i:Int}(h0:0<=i)(h:i < ds.length):mX ds i=some (ds[i.toNat]'(by walk_at "o")):=by
 unfold mX HB;rw[if_pos h0,if_pos h];simp[show i.toNat < ds.length by walk_at "o"]
theorem al:1000000<=MT:=by decide
theorem iB(lo:Int)(n:Nat):(fJ lo n).length=n:=by simp[fJ]
theorem Au{lo:Int}{n i:Nat}{d:D}(h:(fJ lo n)[i]?=some d):i < n/\d=.int (lo+(i:Nat)):=by
 have hl:i < (fJ lo n).length:=(List.getElem?_eq_some_iff.mp h).1;rw[iB]at hl;refine⟨hl,?_⟩;rw[fJ,Nc,List.getElem?_range hl]at h
 simpa using h.symm
def v6:cS:=fun vs _ Q=>match vs with
 | [.lst ds]=>∃ ns:List Int,ds=ns.map D.int/\ns.length<=63/\∀ G',Q (.bl true) G'
 | _=>False
theorem Cy{K:Ps}{H:Hp}{a:ML}{ns:List Int}(hl:ns.length<=63)(hO:G_ H)(hS:jP K H a (ns.map V.int))(E:XK):bP K v6 [.ref a] H (fun v _=>v=.bl true) E:=by
 have hF:Fh K H a (ns.map V.int):=by
  rcases hS with (h|⟨o,h⟩)|h
  ·rcases hO a with e|⟨o,xs,e⟩
   ·rw[h]at e;cases e
   ·rw[h]at e;cases e
  ·exact .inl ⟨o,h⟩
  ·exact .inr h
 refine⟨[.lst (ns.map D.int)],fun _=>none,fun d _=>d=.bl true,RDs.cons (sA hF (RDs.ints ns)) RDs.nil,(fun b o q=>nomatch q),⟨ns,rfl,hl,fun _=>rfl⟩,fun d G' v H' q _ _ re=>?_⟩;subst q;exact re.bl
theorem walk3{l:PySem.W.OpenLaw}{q:MY}{loose:List Str}{XP:(Str->Option MI)->M5->Prop}{YP:M7->M5->Prop}{d:DefRec}{K:Params->Ps}{k:Nat}{x:Str}(hn:l.most=some 63)(hdf:d.params.defaults=[])(hr:Room k Qp)
  (hY:∀ (w:M7) (h:M5),YP w h->(K w.params).In h)
  (F:∀ (w:M7) (mg:Str->Option MI) (fa:ML) (h:M5),(K w.params).In h->h.Ns M0 mg->mg d.name=some (.ref fa)->
   ∃ fd:NR,(∀ (s:MK) (u:MI),Q_ s fd ⟨[u],[]⟩ [(x,u)])/\∀ base:M5,(K w.params).In base->base.Ns M0 mg->FnOk l.prog w (K w.params) mg base oV k fa fd [x] (bP (K w.params) v6)):
  PySem.W.WalkO q loose XP YP l.row.toRowW d [] (fun f vs=>PySem.call f vs):=
 L2.walk_of (n:=63) (k:=k) (x:=x) (CX:=fun _=>oV) (sp:=fun w=>bP (K w.params) v6) hn (by decide) hdf hr hY F (fun _ _ _ _ hl hO hS=>Cy hl hO hS _) fun _ _ _ _ _ z=>z
end L3
namespace L2
open PySem PySem.Spec PyProof.Rows
end L2
namespace L3
open PySem PySem.Spec PyProof.Rows L2
def LC(i:Nat)(t:bg):bg:=fun D σ G=>match σ[i]? with
 | some (some (.ref p))=>match G p with
  | some (.lst ds)=>t D (σ.set i (some (.lst ds))) (fL G p)
  | _=>False
 | some (some (.lst _))=>t D σ G
 | _=>False
def LU(ta:jN):Fn:=fun σ G Q=>ta σ G fun ds G'=>match ds with
 | [.lst es]=>Q es.reverse G'
 | _=>False
theorem K2{a:D}:mX [a] 0=some a:=rfl
theorem K1{a b:D}:mX [a,b] 0=some a:=rfl
theorem K0{a b:D}:mX [a,b] 1=some b:=rfl
theorem KZ{a b c:D}:mX [a,b,c] 0=some a:=rfl
theorem KY{a b c:D}:mX [a,b,c] 1=some b:=rfl
theorem KW{a b c:D}:mX [a,b,c] 2=some c:=rfl
theorem KU{a b c d:D}:mX [a,b,c,d] 0=some a:=rfl
theorem KS{a b c d:D}:mX [a,b,c,d] 1=some b:=rfl
theorem KR{a b c d:D}:mX [a,b,c,d] 2=some c:=rfl
theorem KQ{a b c d:D}:mX [a,b,c,d] 3=some d:=rfl
theorem KP{a b c d e:D}:mX [a,b,c,d,e] 0=some a:=rfl
theorem KO{a b c d e:D}:mX [a,b,c,d,e] 1=some b:=rfl
theorem KN{a b c d e:D}:mX [a,b,c,d,e] 2=some c:=rfl
theorem KM{a b c d e:D}:mX [a,b,c,d,e] 3=some d:=rfl
theorem KL{a b c d e:D}:mX [a,b,c,d,e] 4=some e:=rfl
theorem bo(b:Bool)(hc:∀ K:Bool->Gp->Prop,K b G->c σ G K)(h:if b=true then t E σ G else u E σ G):h9 c t u E σ G:=hc _ h
theorem rR{t u:bg}{G:Gp}{NX:eE->Gp->Prop}(h2:∀ σ' G',NX σ' G'->u E σ' G')(h1:∀ NX':eE->Gp->Prop,(∀ σ' G',NX σ' G'->NX' σ' G')->t { E with nx:=NX' } σ G):sSeq t u E σ G:=h1 (u E) h2
open PySem.SeqAt
def LQ(x:D)(ds:List D):Bool:=ds.any fun d=>eA d x
def IK:R3:=fun x y G Q=>match Fl G y with
 | some ds=>(pl 7 x/\∀ d∈ds,pl 7 d)/\Q (.bl (!LQ x ds)) G
 | none=>False
section
variable{κ:Type}[DecidableEq κ]
def dF(kvs:List (κ×D))(k:κ):Option D:=(kvs.find? fun kv=>decide (kv.1=k)).map (·.2)
def bu(kvs:List (κ×D))(k:κ)(v:D):List (κ×D):=
 if (kvs.any fun kv=>decide (kv.1=k))=true then kvs.map (fun kv=>if kv.1=k then (kv.1,v)else kv)else kvs ++ [(k,v)]
theorem oO(k:κ):∀ kvs:List (κ×D),(kvs.any fun kv=>decide (kv.1=k))=(dF kvs k).isSome
 | []=>rfl
 | p::r=>by
  by_cases e:p.1=k
  ·simp[dF,No,e]
  ·have ih:=oO k r;simp only[Qj,e,decide_false,Bool.false_or,ih];simp[dF,No,e]
theorem eV(kvs:List (κ×D))(k:κ)(v:D):(bu kvs k v).length<=kvs.length+1:=by
 unfold bu;split<;>simp
theorem Cc(kvs:List (κ×D))(k:κ)(v:D):(bu kvs k v).map (·.1)=if k∈kvs.map (·.1)then kvs.map (·.1)else kvs.map (·.1) ++ [k]:=by
 unfold bu;have e:((kvs.any fun kv=>decide (kv.1=k))=true)↔k∈kvs.map (·.1):=by
  rw[List.any_eq_true,mem_map];constructor
  ·rintro⟨p,hp,q⟩;exact⟨p,hp,of_decide_eq_true q⟩
  ·rintro⟨p,hp,rfl⟩;exact⟨p,hp,decide_eq_true rfl⟩
 by_cases h:k∈kvs.map (·.1)
 ·rw[if_pos (e.mpr h),if_pos h,NH];refine N5 fun p _=>?_;simp only[Function.comp_apply];split<;>rfl
 ·rw[if_neg (fun z=>h (e.mp z)),if_neg h];simp
theorem mK(k:κ)(v:D)(h:(kvs.map (·.1)).Nodup):((bu kvs k v).map (·.1)).Nodup:=by
 rw[Cc];split
 ·exact h
 ·rename_i hk;rw[List.nodup_append];refine⟨h,by simp,fun a ha b hb=>?_⟩
  have:b=k:=by simpa using hb
  subst this;exact fun z=>hk (z ▸ ha)
end
def Gu:D->Option aE
 | .int i=>some (.inl i)
 | .str x=>some (.inr x)
 | _=>none
def kD:aE->D
 | .inl i=>.int i
 | .inr x=>.str x
def zi:List D->Option (List aE)
 | []=>some []
 | d::r=>match Gu d,zi r with
  | some k,some ks=>some (k::ks)
  | _,_=>none
def ow:D->Option (List aE)
 | .tup ds=>zi ds
 | _=>none
theorem IX(k:aE):Gu (kD k)=some k:=by cases k<;>rfl
theorem BG:∀ ks:List aE,zi (ks.map kD)=some ks
 | []=>rfl
 | k::r=>by simp only[M8,zi,IX,BG r]
section
variable{K:Ps}{H:Hp}
theorem AR(h:Gu d=some k)(r:RD K H d v):v=kV k:=by
 cases d with
 | int i=>simp only[Gu,Option.some.injEq]at h;subst h;simp only[RD]at r;exact r
 | str i=>simp only[Gu,Option.some.injEq]at h;subst h;simp only[RD]at r;exact r
 | _=>simp[Gu]at h
theorem zh:∀ {ds:List D} {ks:List aE} {vs:List V},zi ds=some ks->RDs K H ds vs->vs=ks.map kV
 | [],ks,vs,h,r=>by
  simp only[zi,Option.some.injEq]at h;subst h;exact r.inv_nil
 | d::t,ks,vs,h,r=>by
  obtain⟨x,u,e,h1,h2⟩:=r.inv_cons;subst e;simp only[zi]at h;split at h
  ·rename_i k kr e1 e2;simp only[Option.some.injEq]at h;subst h;rw[AR e1 h1,zh e2 h2];rfl
  ·cases h
theorem rE(h:ow d=some ks)(r:RD K H d v):∃ b,v=.ref b/\jO K H b (ks.map kV):=by
 cases d with
 | tup ds=>
  simp only[RD]at r;obtain⟨a,xs,e,q,rr⟩:=r;exact⟨a,e,by rw[<- zh h rr];exact q⟩
 | _=>simp[ow]at h
theorem oX.keys(r:oX K H kvs xs):kvs.map (·.1)=xs.map (·.1):=by
 unfold oX at r
 induction r with
 | nil=>rfl
 | cons h _ ih=>rw[M8,M8,h.1,ih]
theorem oX.val(r:oX K H kvs xs)(k:List aE):
  (dF kvs k=none/\Pr xs k=none)\/∃ d b u v,dF kvs k=some d/\Pr xs k=some (b,u)/\RD K H d v/\aD v u:=by
 unfold oX at r
 induction r with
 | nil=>exact .inl ⟨rfl,rfl⟩
 | @cons p q ps qs h t ih=>
  obtain⟨h1,_,v,h2,h3⟩:=h
  by_cases e:p.1=k
  ·have e':q.1=k:=h1.symm.trans e;exact .inr ⟨p.2,q.2.1,q.2.2,v,by simp[dF,No,e],by simp[Pr,No,e'],h2,h3⟩
  ·have e':¬ q.1=k:=fun z=>e (h1.trans z);have a1:dF (p::ps) k=dF ps k:=by simp[dF,No,e]
   have a2:Pr (q::qs) k=Pr qs k:=by simp[Pr,No,e']
   rw[a1,a2];exact ih
theorem oX.put{kvs:List (List aE×D)}{xs:List (List aE×ML×MI)}(r:oX K H kvs xs)(k:List aE){b:ML}{d:D}{v:V}{u:MI}(hb:jO K H b (k.map kV))(hd:RD K H d v)(hu:aD v u):oX K H (bu kvs k d) (Ql xs k b u):=by
 have e:(kvs.any fun kv=>decide (kv.1=k))=(Pr xs k).isSome:=by
  rw[oO];rcases r.val k with ⟨a,b⟩|⟨_,_,_,_,a,b,_⟩<;>rw[a,b]<;>rfl
 unfold bu Ql;rw[e]
 by_cases q:(Pr xs k).isSome=true
 ·rw[if_pos q,if_pos q];unfold oX at r ⊢;clear e q
  induction r with
  | nil=>exact .nil
  | @cons p q ps qs h t ih=>
   rw[M8,M8];refine .cons ?_ ih;obtain⟨h1,h2,v',h3,h4⟩:=h;unfold putAt
   by_cases e:p.1=k
   ·rw[if_pos e,if_pos (h1.symm.trans e)];exact⟨h1,h2,v,hd,hu⟩
   ·rw[if_neg e,if_neg (fun z=>e (h1.trans z))];exact⟨h1,h2,v',h3,h4⟩
 ·rw[if_neg q,if_neg q];exact Qk r ⟨rfl,hb,v,hd,hu⟩
theorem xD.val(r:xD K H kvs xs)(k:aE):(dF kvs k=none/\mv xs k=none)\/∃ d v,dF kvs k=some d/\mv xs k=some v/\RD K H d v:=by
 unfold xD at r
 induction r with
 | nil=>exact .inl ⟨rfl,rfl⟩
 | @cons p q ps qs h t ih=>
  obtain⟨h1,h2⟩:=h
  by_cases e:p.1=k
  ·have e':q.1=k:=h1.symm.trans e;exact .inr ⟨p.2,q.2,by simp[dF,No,e],m6 e',h2⟩
  ·have e':¬ q.1=k:=fun z=>e (h1.trans z);have a1:dF (p::ps) k=dF ps k:=by simp[dF,No,e]
   rw[a1,m7 e'];exact ih
theorem xD.put{kvs:List (aE×D)}{xs:List (aE×V)}(r:xD K H kvs xs)(k:aE){d:D}{v:V}(hd:RD K H d v):xD K H (bu kvs k d) (nY xs k v):=by
 have e:(kvs.any fun kv=>decide (kv.1=k))=(xs.any fun kv=>decide (kv.1=k)):=by
  rw[oO,rL];rcases r.val k with ⟨a,b⟩|⟨_,_,a,b,_⟩<;>rw[a,b]<;>rfl
 unfold bu nY;rw[e]
 by_cases q:(xs.any fun kv=>decide (kv.1=k))=true
 ·rw[if_pos q,if_pos q];unfold xD at r ⊢;clear e q
  induction r with
  | nil=>exact .nil
  | @cons p q ps qs h t ih=>
   rw[M8,M8];refine .cons ?_ ih;obtain⟨h1,h2⟩:=h
   by_cases e:p.1=k
   ·rw[if_pos e,if_pos (h1.symm.trans e)];exact⟨h1,hd⟩
   ·rw[if_neg e,if_neg (fun z=>e (h1.trans z))];exact⟨h1,h2⟩
 ·rw[if_neg q,if_neg q];exact Qk r ⟨rfl,hd⟩
theorem xD.length(r:xD K H kvs xs):kvs.length=xs.length:=Pm r
theorem oX.length(r:oX K H kvs xs):kvs.length=xs.length:=Pm r
end
def aG(P:MY)(w:M7):List aE->Int:=tupleKeyHash (aI P w)
section
variable{X:Cx}{pins:List (ML×Obj)}{σ:St}{H:Hp}{s:MK}{a:ML}
theorem key_at(I:Inv X pins σ H s){b:ML}{ks:List aE}(h:jO X.K H b (ks.map kV)):(NZ (aI X.prog X.w)).is s.heap ks b:=by
 obtain⟨its,r,⟨o,h1,h2,n,h3⟩,_⟩:=I.tuple h;exact⟨o,its.toArray,n,h1,h2,h3,by simpa using pR r⟩
theorem xp(I:Inv X pins σ H s)(e:H a=some (.ext (xL (aG X.prog X.w) a xs)))(r:oX X.K H kvs xs)(nd:(kvs.map (·.1)).Nodup):
  (a == NM)=false/\s.heap.DictOfH (NZ (aI X.prog X.w)) a xs:=by
 obtain⟨hd,o,es,ep,h1,h2,h3,h4⟩:=(show bC X.prog X.w H s.heap a (.ext (xL (aG X.prog X.w) a xs))from I.hok a _ e).1
 refine⟨hd,o,es,ep,h1,h2,h3,h4,?_,by rw[<- r.keys];exact nd⟩
 unfold oX at r;clear h4 e nd
 induction r with
 | nil=>intro x hx;exact nomatch hx
 | @cons p q ps qs hq t ih=>
  intro x hx;rcases Nr.mp hx with e|hx
  ·subst e;exact key_at I (by rw[<- hq.1];exact hq.2.1)
  ·exact ih x hx
theorem pY(h1:xL hw a xs h):bC P w H' h a (.ext (xL hw a xs)):=by
 obtain⟨hd,o,es,ep,e,r⟩:=h1;exact⟨⟨hd,o,es,ep,e,r⟩,⟨o,e⟩,fun h1 h2 ⟨hd,o,es,ep,e,r⟩ k=>⟨hd,o,es,ep,k o e,r⟩⟩
end
section
variable{K:Ps}{H:Hp}{G:Gp}
theorem GB(rg:RG K H G)(e:H p=none)(ro:∀ H':Hp,Stb K H H'->RO K H' p o ho):Kp G H (gset G p o) (aS H p ho)/\RG K (aS H p ho) (gset G p o):=by
 have kp:Kp G H (gset G p o) (aS H p ho):=fun b h q n=>by
  have:b≠p:=bA q e;exact⟨by rw[aq this];exact q,by rw[am this];exact n⟩
 refine⟨kp,fun b u q=>?_⟩
 by_cases hb:b=p
 ·subst hb;rw[av]at q;cases q;exact⟨_,aB,ro _ (kp.stb rg)⟩
 ·rw[am hb]at q;obtain⟨h,q1,q2⟩:=rg b u q;exact⟨h,by rw[aq hb];exact q1,q2.mono (kp.stb rg)⟩
theorem xc(rg:RG K H G)(hg:G a≠none)(ro:∀ H':Hp,Stb K H H'->RO K H' a o ho):Kp G H (gset G a o) (aS H a ho)/\RG K (aS H a ho) (gset G a o):=by
 have kp:Kp G H (gset G a o) (aS H a ho):=fun b h e n=>by
  have:b≠a:=fun z=>by subst z;exact hg n
  exact⟨by rw[aq this];exact e,by rw[am this];exact n⟩
 refine⟨kp,fun b u q=>?_⟩
 by_cases hb:b=a
 ·subst hb;rw[av]at q;cases q;exact⟨_,aB,ro _ (kp.stb rg)⟩
 ·rw[am hb]at q;obtain⟨h,q1,q2⟩:=rg b u q;exact⟨h,by rw[aq hb];exact q1,q2.mono (kp.stb rg)⟩
end
def qA(hw:List aE->Int):aZ:=fun _ G Q=>∀ p,G p=none->Q (.ref p) (gset G p (.dT hw []))
def EY:aZ:=fun _ G Q=>∀ p,G p=none->Q (.ref p) (gset G p (.dK []))
section
variable{X:Cx}{pos:Pos}
theorem pE:PE X (.Dict [] [] pos) (az X.K (qA (aG X.prog X.w))):=fun pins s τ H Q I zz=>by
 obtain⟨σ,G,Q3,rs,rg,h,k⟩:=zz;have hf:H s.heap.objs.size=none:=I.hok.fresh (le_refl _);obtain⟨kp,rg2⟩:=GB (o:=.dT (aG X.prog X.w) []) (ho:=.ext (xL (aG X.prog X.w) s.heap.objs.size [])) rg hf fun H' _=>⟨[],rfl,.nil,QN,NC _⟩;have hd:(s.heap.objs.size == NM)=false:=beq_eq_false_iff_ne.mpr (Ne.symm (Na I.big));exact wpAny_Dict_empty ⟨.ref s.heap.objs.size,_,I.laid (a:=s.heap.objs.size) (t':=s.toks) (fun _ _ q=>MM _ q) (le_refl _) (pY ⟨hd,_,#[],0,MQ _ rfl,⟨rfl,rfl,rfl⟩,rfl,rfl⟩),rfl,
  k _ _ _ _ (h _ (rg.free hf)) kp rg2 (.of fH)⟩
theorem IC:PE X (.Dict [] [] pos) (az X.K EY):=Eg.imp fun τ H Q ⟨σ,G,Q3,rs,rg,h,k⟩ p hp=>by
 obtain⟨kp,rg2⟩:=GB (o:=.dK []) (ho:=.dK []) rg hp fun H' _=>(show xD X.K H' [] []from .nil)
 exact k _ _ _ _ (h _ (rg.free hp)) kp rg2 (.of fH)
end
def kM(hw:List aE->Int):D->D->D->Gp->(Gp->Prop)->Prop:=fun o i v G Q=>match o with
 | .ref a=>match G a with
  | some (.dT hw' kvs)=>hw'=hw/\∃ ks,ow i=some ks/\kvs.length < MT/\Q (gset G a (.dT hw (bu kvs ks v)))
  | some (.dK kvs)=>∃ k,Gu i=some k/\kvs.length < MT/\Q (gset G a (.dK (bu kvs k v)))
  | some (.lst ds)=>match i with
   | .int j=>∃ m,HB ds.length j=some m/\Q (gset G a (.lst (ds.set m v)))
   | _=>False
  | _=>False
 | _=>False
def Gq(K:Ps)(r:D->D->D->Gp->(Gp->Prop)->Prop):GX:=fun o i v H Q=>∃ x y z G Q3,RD K H x o/\RD K H y i/\RD K H z v/\RG K H G/\r x y z G Q3/\∀ G' H',Q3 G'->Kp G H G' H'->RG K H' G'->Q H'
def eU(hw:List aE->Int)(to ti te:aZ):bg:=fun E σ G=>te σ G fun v G1=>to σ G1 fun o G2=>ti σ G2 fun i G3=>kM hw (val o) (val i) (val v) G3 fun G4=>E.nx σ G4
section
variable{X:Cx}
theorem HL(hu:X.A.units+8 < ND):JE X (Gq X.K (kM (aG X.prog X.w))):=by
 rintro pins s σ H o i v ov iv u Q I ro ri rv ⟨x,y,z,G,Q3,rx,ry,rz,rg,h,k⟩
 unfold kM at h;split at h
 ·rename_i a;simp only[RD]at rx;subst rx;cases ro;split at h
  ·rename_i hw' kvs hg;obtain⟨rfl,ks,hk,hl,h⟩:=h;obtain⟨b,rfl,sq⟩:=rE hk ry;cases ri;obtain⟨ho,e,r⟩:=rg a _ hg;cases ho with
   | ext φ=>
    obtain⟨xs,rfl,rt,nd,_⟩:=r;obtain⟨hd,dd⟩:=xp I e rt nd;have hz:xs.length<=MT:=by rw[<- rt.length];omega
    refine Sb (hsz:=hz) (NL (show X.A.units+1 < ND by walk_at "o")) (key_at I sq) dd fun h' dd' hs=>?_
    obtain⟨q,es,ep,hq,h2,h3,h4,_,h5⟩:=dd';obtain⟨kp,rg2⟩:=xc (a:=a) (o:=.dT (aG X.prog X.w) (bu kvs ks z)) (ho:=.ext (xL (aG X.prog X.w) a (Ql xs ks b u))) rg (by rw[hg];exact fun z=>nomatch z)
     fun H' st=>⟨_,rfl,(rt.put ks sq rz rv).mono st,mK ks z nd,by have:=eV kvs ks z;omega⟩
    exact⟨_,rH I (by rw[e];exact True.intro) hs ⟨q,hq⟩ (pY ⟨hd,q,es,ep,hq,h2,h3,h4⟩),k _ _ h kp rg2⟩
   | _=>exact r.elim
  ·rename_i kvs hg;obtain⟨kk,hk,hl,h⟩:=h;have ei:=AR hk ry;subst ei;obtain⟨ho,e,r⟩:=rg a _ hg;cases ho with
   | dK xs=>
    have r':xD X.K H kvs xs:=r;obtain⟨kp,rg2⟩:=xc (a:=a) (o:=.dK (bu kvs kk z)) (ho:=.dK (nY xs kk v)) rg (by rw[hg];exact fun z=>nomatch z) fun H' st=>(r'.put kk rz).mono st
    exact CS (by walk_at "o") I (Hb.k e (by rw[<- r'.length];exact hl)) ri rv fun s' I'=>⟨_,I',k _ _ h kp rg2⟩
   | _=>exact r.elim
  ·rename_i ds hg;split at h
   ·rename_i j;obtain⟨m,hm,h⟩:=h;simp only[RD]at ry;subst ry;obtain⟨ho,e,r⟩:=rg a _ hg;cases ho with
    | lst xs=>
     have r':RDs X.K H ds xs:=r;obtain⟨kp,rg2⟩:=xc (a:=a) (o:=.lst (ds.set m z)) (ho:=.lst (xs.set m v)) rg (by rw[hg];exact fun z=>nomatch z) fun H' st=>RDs.mono st _ _ (r'.set m rz)
     exact DC pins s σ H (.ref a) _ _ _ _ _ _ I rfl ri rv ⟨a,xs,j,m,rfl,rfl,e,by rw[<- r'.length];exact hm,k _ _ h kp rg2⟩
    | _=>exact r.elim
   ·exact h.elim
  ·exact h.elim
 ·exact h.elim
theorem iC{o i e:M9}{to ti te:aZ}{pos pos':Pos}(hu:X.A.units+8 < ND)(ho:PE X o (az X.K to))(hi:PE X i (az X.K ti))(he:PE X e (az X.K te))
  (hs:swapsWithSole [.Subscript o i pos'] e pos.line X.env=pure false:=by rfl) (hw:swappedStores [.Subscript o i pos'] e X.env=pure none:=by rfl) (h1:(OF [.Subscript o i pos'] X.env).map (·.2)=[assign (.Subscript o i pos') X.env]:=by rfl)
  (ha:∀ v,assign (.Subscript o i pos') X.env v=(do
   let ov <- holding [v] (eval o X.env)
   let iv <- holding [v,ov] (eval i X.env)
   Ph pos'
   holding [v,ov,iv] (SB ov iv v)
   release [v,ov,iv] []):=by intro _;rfl):PS X (.Assign [.Subscript o i pos'] e pos) (bB X.K (eU (aG X.prog X.w) to ti te)):=
 (Il (eg he) (Io (eg ho) (eg hi) (HL hu) ha) hs hw h1).imp fun E τ H zz=>by
 obtain⟨σ,G,E3,rs,rg,h,k⟩:=zz;exact (
  ⟨σ,G,_,rs,rg,h,fun v G1 u H1 q1 k1 rg1 rd1=>
    ⟨σ,G1,_,rs.mono (k1.stb rg),rg1,q1,fun o G2 u2 H2 q2 k2 rg2 rd2=>⟨σ,G2,_,rs.mono ((k1.trans k2).stb rg),rg2,q2,fun i G3 u3 H3 q3 k3 rg3 rd3=>
     ⟨val o,val i,val v,G3,_,RD.mono (k3.stb rg2) _ _ rd2,rd3,RD.mono ((k2.trans k3).stb rg1) _ _ rd1,rg3,q3,fun G4 H4 q4 k4 rg4=>k.nx σ G4 τ H4 q4 (k1.trans (k2.trans (k3.trans k4))) rg4 (rs.mono ((k1.trans (k2.trans (k3.trans k4))).stb rg))⟩⟩⟩⟩)
end
def cB(hw:List aE->Int)(G:Gp)(o i:D)(r:Option D):Prop:=match o with
 | .ref a=>match G a with
  | some (.dT hw' kvs)=>hw'=hw/\∃ ks,ow i=some ks/\r=dF kvs ks
  | some (.dK kvs)=>∃ k,Gu i=some k/\r=dF kvs k
  | _=>False
 | _=>False
def jK(G:Gp)(o:D):Prop:=match o with
 | .ref a=>match G a with
  | some (.dT _ _)=>True
  | some (.dK _)=>True
  | _=>False
 | _=>False
section
variable{X:Cx}{pins:List (ML×Obj)}{σ:St}{H:Hp}{s:MK}{G:Gp}{A:M3}{E:MI->MK->Prop}{x y d z:D}{o i zv:V}{ov iv zu:MI}{r:Option D}
theorem cB.split(h:cB (aG X.prog X.w) G x y r)(I:Inv X pins σ H s)(rg:RG X.K H G)(rx:RD X.K H x o)(ro:aD o ov)(ry:RD X.K H y i)(ri:aD i iv):
  ∃ a,ov=.ref a/\((∃ hs k,H a=some (.dK hs)/\i=kV k/\((r=none/\mv hs k=none)\/∃ d v,r=some d/\mv hs k=some v/\RD X.K H d v))\/
   ∃ xs ks b,(a == NM)=false/\s.heap.DictOfH (NZ (aI X.prog X.w)) a xs/\iv=.ref b/\(NZ (aI X.prog X.w)).is s.heap ks b/\
    ((r=none/\Pr xs ks=none)\/∃ d b' u v,r=some d/\Pr xs ks=some (b',u)/\RD X.K H d v/\aD v u)):=by
 unfold cB at h;split at h
 ·rename_i a;simp only[RD]at rx;subst rx;cases ro;refine⟨a,rfl,?_⟩;split at h
  ·rename_i hw' kvs hg;obtain⟨rfl,ks,hk,rfl⟩:=h;obtain⟨b,rfl,sq⟩:=rE hk ry;cases ri;obtain⟨ho,e,q⟩:=rg a _ hg;cases ho with
   | ext φ=>
    obtain⟨xs,rfl,rt,nd,_⟩:=q;obtain⟨hd,dd⟩:=xp I e rt nd;exact .inr ⟨xs,ks,b,hd,dd,rfl,key_at I sq,rt.val ks⟩
   | _=>exact q.elim
  ·rename_i kvs hg;obtain⟨k,hk,rfl⟩:=h;obtain⟨ho,e,q⟩:=rg a _ hg;cases ho with
   | dK hs=>
    have q':xD X.K H kvs hs:=q;exact .inl ⟨hs,k,e,AR hk ry,q'.val k⟩
   | _=>exact q.elim
  ·exact h.elim
 ·exact h.elim
theorem jK.at(h:jK G x)(I:Inv X pins σ H s)(rg:RG X.K H G)(rx:RD X.K H x o)(ro:aD o ov):
  s.TypeIs ov "dict"/\(∀ b,ov=.ref b->∃ ob,s.heap.get? b=some ob/\ob.dict=none):=by
 unfold jK at h;split at h
 ·rename_i a;simp only[RD]at rx;subst rx;cases ro;split at h
  ·rename_i hw' kvs hg;obtain⟨ho,e,q⟩:=rg a _ hg;cases ho with
   | ext φ=>
    obtain⟨xs,rfl,rt,nd,_⟩:=q;obtain⟨hd,ob,es,ep,h1,h2,h3,h4⟩:=(show bC X.prog X.w H s.heap a (.ext (xL hw' a xs))from I.hok a _ e).1
    refine⟨⟨ob,h1,h2.1⟩,fun b hb=>?_⟩;cases hb;exact⟨ob,h1,h2.2.1⟩
   | _=>exact q.elim
  ·rename_i kvs hg;obtain⟨ho,e,q⟩:=rg a _ hg;cases ho with
   | dK hs=>
    obtain⟨t1,t2,_⟩:=Jc I (.inl ⟨hs,.inl e⟩);exact⟨t1,t2⟩
   | _=>exact q.elim
  ·exact h.elim
 ·exact h.elim
theorem cB.dct(h:cB hw G x y r):jK G x:=by
 unfold cB at h;unfold jK;split at h
 ·split at h
  ·rename_i e;simp only[e]
  ·rename_i e;simp only[e]
  ·exact h.elim
 ·exact h.elim
theorem GL(hu:A.units+1 < ND)(I:Inv X pins σ H s)(rg:RG X.K H G)(h:cB (aG X.prog X.w) G x y (some d))(rx:RD X.K H x o)(ro:aD o ov)(ry:RD X.K H y i)(ri:aD i iv)(q:∀ v u s',Inv X pins σ H s'->RD X.K H d v->aD v u->Q u s'):MP (MR X.prog X.w) A (P4 ov iv) Q E s:=by
 obtain⟨a,rfl,⟨hs,k,e,rfl,r⟩|⟨xs,ks,b,hd,dd,rfl,hk,r⟩⟩:=h.split I rg rx ro ry ri
 ·rcases r with ⟨z,_⟩|⟨d',v,e1,e2,rd⟩
  ·cases z
  ·cases e1;exact CT hu I (.inl ⟨hs,k,.inl e,rfl,e2.symm⟩) ri fun u s' I' rv=>q v u s' I' rd rv
 ·rcases r with ⟨z,_⟩|⟨d',b',u,v,e1,e2,rd,rv⟩
  ·cases z
  ·cases e1;exact Se (NL hu) hk dd e2 (q v u _ (I.tok _) rd rv)
theorem HD(hu:A.units+1 < ND)(I:Inv X pins σ H s)(rg:RG X.K H G)(h:cB (aG X.prog X.w) G x y r)(rx:RD X.K H x o)(ro:aD o ov)(ry:RD X.K H y i)(ri:aD i iv)(q:∀ s',Inv X pins σ H s'->Q (.bool r.isSome) s'):MP (MR X.prog X.w) A (Nv .In iv ov) Q E s:=by
 obtain⟨a,rfl,⟨hs,k,e,rfl,l⟩|⟨xs,ks,b,hd,dd,rfl,hk,l⟩⟩:=h.split I rg rx ro ry ri
 ·refine L6 hu I (xI.k e) ri fun s' I'=>?_;rcases l with ⟨rfl,e2⟩|⟨d,v,rfl,e2,_⟩<;>rw[e2]<;>exact q s' I'
 ·refine wpAny_in_heap (NL hu) hk hd dd ?_;rcases l with ⟨rfl,e2⟩|⟨d,b',u,v,rfl,e2,_⟩<;>rw[e2]<;>exact q _ (I.tok _)
theorem E2(hu:A.units+1 < ND)(I:Inv X pins σ H s)(rg:RG X.K H G)(h:cB (aG X.prog X.w) G x y r)(rx:RD X.K H x o)(ro:aD o ov)(ry:RD X.K H y i)(ri:aD i iv)(q:∀ s',Inv X pins σ H s'->Q (.bool (!r.isSome)) s'):MP (MR X.prog X.w) A (Nv .NotIn iv ov) Q E s:=by
 obtain⟨a,rfl,⟨hs,k,e,rfl,l⟩|⟨xs,ks,b,hd,dd,rfl,hk,l⟩⟩:=h.split I rg rx ro ry ri
 ·refine GK hu I (xI.k e) ri fun s' I'=>?_;rcases l with ⟨rfl,e2⟩|⟨d,v,rfl,e2,_⟩<;>rw[e2]<;>exact q s' I'
 ·refine wpAny_notIn_heap (NL hu) hk hd dd ?_;rcases l with ⟨rfl,e2⟩|⟨d,b',u,v,rfl,e2,_⟩<;>rw[e2]<;>exact q _ (I.tok _)
theorem GM(hu:A.units+1 < ND)(I:Inv X pins σ H s)(rg:RG X.K H G)(h:cB (aG X.prog X.w) G x y r)(rx:RD X.K H x o)(ro:aD o ov)(ry:RD X.K H y i)(ri:aD i iv)(rz:RD X.K H z zv)(rzu:aD zv zu)(q:∀ v u s',Inv X pins σ H s'->RD X.K H (r.getD z) v->aD v u->Q u s'):MP (MR X.prog X.w) A (call (.builtin "dict.get") [ov,iv,zu]) Q E s:=by
 obtain⟨a,rfl,⟨hs,k,e,rfl,l⟩|⟨xs,ks,b,hd,dd,rfl,hk,l⟩⟩:=h.split I rg rx ro ry ri
 ·refine Jl hu I (xI.k e) ri rzu fun u s' I' rv=>?_;rcases l with ⟨rfl,e2⟩|⟨d,v,rfl,e2,rd⟩<;>rw[e2]at rv
  ·exact q _ u s' I' rz rv
  ·exact q _ u s' I' rd rv
 ·refine P6 PySem.F.slot_dict_get dd.typeIs PySem.F.entry_dict_get (PySem.F.args_dict_get_3 _ _ _) (Ro (NZ (aI X.prog X.w)) a b hd zu) ⟨NL hu,ks,xs,hk,dd,?_⟩;rcases l with ⟨rfl,e2⟩|⟨d,b',u,v,rfl,e2,rd,rv⟩<;>rw[e2]
  ·exact q zv _ _ (I.tok _) rz rzu
  ·exact q v _ _ (I.tok _) rd rv
end
def zy(hw:List aE->Int)(to ti:aZ):aZ:=fun σ G Q=>to σ G fun x G1=>ti σ G1 fun y G2=>∃ d,cB hw G2 (val x) (val y) (some d)/\Q d G2
def xn(hw:List aE->Int)(ti to:aZ):aZ:=fun σ G Q=>ti σ G fun y G1=>to σ G1 fun x G2=>∃ r,cB hw G2 (val x) (val y) r/\Q (.bl r.isSome) G2
def oK(hw:List aE->Int)(ti to:aZ):aZ:=fun σ G Q=>ti σ G fun y G1=>to σ G1 fun x G2=>∃ r,cB hw G2 (val x) (val y) r/\Q (.bl (!r.isSome)) G2
def pV(hw:List aE->Int)(to ti tz:aZ):aZ:=fun σ G Q=>to σ G fun x G1=>jK G1 (val x)/\ti σ G1 fun y G2=>tz σ G2 fun z G3=>∃ r,cB hw G3 (val x) (val y) r/\Q (r.getD (val z)) G3
section
variable{X:Cx}{o i e f:M9}{to ti tz:aZ}{pos apos cpos:Pos}
theorem dB{t:aZ}{e:M9}(h:PE X e (az X.K t)){pins:List (ML×Obj)}{s:MK}{τ:St}{H:Hp}{σ:eE}{G:Gp}{Q3:i_}(I:Inv X pins τ H s)(rs:RS X.K H σ τ)(rg:RG X.K H G)(ht:t σ G Q3):
  MP (MR X.prog X.w) X.A (eval e X.env) (EP X pins τ fun v H1=>∃ d G1,Q3 d G1/\Kp G H G1 H1/\RG X.K H1 G1/\RD X.K H1 (val d) v) X.xe s:=
 eg h pins s τ H _ I ⟨σ,G,Q3,rs,rg,ht,fun d G' v H' q k rg' rd=>⟨d,G',q,k,rg',rd⟩⟩
theorem vq(hu:X.A.units+8 < ND)(ho:PE X o (az X.K to))(hi:PE X i (az X.K ti))(hs:K8 i:=by exact fun _ _=>rfl):PE X (.Subscript o i pos) (az X.K (zy (aG X.prog X.w) to ti)):=by
 rintro pins s τ H Q I ⟨σ,G,Q3,rs,rg,h,k⟩
 refine Fz PySem.F.slot_dict_getitem.lookup hs (bZ (dB ho I rs rg h) fun ov s1 zz=>?_);obtain⟨ox,H1,I1,rox,x,G1,q1,k1,rg1,rd1⟩:=zz;refine bZ (dB hi I1 (rs.mono (k1.stb rg)) rg1 q1) fun iv s2 zz=>?_;obtain⟨iy,H2,I2,riy,y,G2,q2,k2,rg2,rd2⟩:=zz;obtain⟨d,l,q2⟩:=q2;have rx:=RD.mono (k2.stb rg1) _ _ rd1;exact⟨(l.dct.at I2 rg2 rx rox).1,GL (by walk_at "o") I2 rg2 l rx rox rd2 riy fun v u s3 I3 rd rv=>⟨v,H2,I3,rv,k _ G2 _ H2 q2 (k1.trans k2) rg2 (.of rd)⟩⟩
theorem Ki(hu:X.A.units+8 < ND)(hi:PE X i (az X.K ti))(ho:PE X o (az X.K to))(hm:Oh .In o=false:=by rfl):PE X (.Compare i [.In] [o] pos) (az X.K (xn (aG X.prog X.w) ti to)):=by
 refine Iy (op:=.In) (fun pins s τ H Q I zz=>?_) hm;obtain⟨σ,G,Q3,rs,rg,h,k⟩:=zz;refine bZ (dB hi I rs rg h) fun iv s1 zz=>?_;obtain⟨iy,H1,I1,riy,y,G1,q1,k1,rg1,rd1⟩:=zz;refine bZ (dB ho I1 (rs.mono (k1.stb rg)) rg1 q1) fun ov s2 zz=>?_;obtain⟨ox,H2,I2,rox,x,G2,q2,k2,rg2,rd2⟩:=zz;obtain⟨r,l,q2⟩:=q2;exact HD (by walk_at "o") I2 rg2 l rd2 rox (RD.mono (k2.stb rg1) _ _ rd1) riy fun s3 I3=>⟨.bl r.isSome,H2,I3,rfl,k _ G2 _ H2 q2 (k1.trans k2) rg2 (.of fc)⟩
theorem wI(hu:X.A.units+8 < ND)(ho:PE X o (az X.K to))(he:PE X e (az X.K ti))(hf:PE X f (az X.K tz))(m:M2 X o "get" apos e f cpos:=by exact⟨rfl,rfl,rfl,rfl⟩):PE X (.Call (.Attribute o "get" apos) [e,f] [] cpos) (az X.K (pV (aG X.prog X.w) to ti tz)):=by
 rintro pins s τ H Q I ⟨σ,G,Q3,rs,rg,h,k⟩
 refine wpAny_Call_method m.base m.few m.line PySem.F.plainAttrs_dict PySem.F.slot_dict_get PySem.F.type_dict_get (bZ (dB ho I rs rg h) fun ov s1 zz=>?_);obtain⟨ox,H1,I1,rox,x,G1,q1,k1,rg1,rd1⟩:=zz;obtain⟨t1,t2⟩:=q1.1.at I1 rg1 rd1 rox;refine⟨t1,t2,?_⟩;rw[m.trees];refine O_ rfl (R6 (On (bZ (dB he I1 (rs.mono (k1.stb rg)) rg1 q1.2) fun iv s2 ⟨iy,H2,I2,riy,y,G2,q2,k2,rg2,rd2⟩=>On (bZ (dB hf I2 (rs.mono ((k1.trans k2).stb rg)) rg2 q2) fun fv s3 zz=>?_))));obtain⟨fz,H3,I3,rfz,z,G3,q3,k3,rg3,rd3⟩:=zz;refine OK ?_;obtain⟨r,l,q3⟩:=q3;exact GM (by walk_at "o") I3 rg3 l (RD.mono ((k2.trans k3).stb rg1) _ _ rd1) rox (RD.mono (k3.stb rg2) _ _ rd2) riy rd3 rfz fun v u s4 I4 rd rv=>⟨v,H3,I4,rv,k _ G3 _ H3 q3 (k1.trans (k2.trans k3)) rg3 (.of rd)⟩
end
end L3
namespace PySem.W
open PySem PyProof.Rows
def KasT.run{α:Type}(lt:Nat->Nat->Bool):Sw α->α
 | .ret a=>a
 | .ask i j k=>(k (lt i j)).run lt
theorem KasT.run_bind{α β:Type}(lt:Nat->Nat->Bool)(f:α->Sw β):∀ t:Sw α,(t.bind f).run lt=(f (t.run lt)).run lt
 | .ret _=>rfl
 | .ask i j k=>by
  show ((k (lt i j)).bind f).run lt=_
  rw[KasT.run_bind lt f (k (lt i j))];rfl
section
variable(r:Nat->Nat)
def lC(i j:Nat):Bool:=decide (r i < r j)
def RR(p:Array Nat)(i:Nat):Nat:=r (p.getD i 0)
def mq(p:Array Nat)(n:Nat):Prop:=∀ i,i+1 < n->RR r p i<=RR r p (i+1)
def uh(p:Array Nat)(n:Nat):Prop:=∀ i,i+1 < n->RR r p (i+1)<=RR r p i
end
section
variable{r:Nat->Nat}{p:Array Nat}
theorem mq.le(h:mq r p n)(hij:i<=j)(hj:j < n):RR r p i<=RR r p j:=by
 induction j with
 | zero=>
      have:i=0:=by walk_at "o"
      subst this;exact le_refl _
 | succ j ih=>
  rcases OO i (j+1)with h1|h1
  ·exact le_trans (ih (by walk_at "o") (by walk_at "o")) (h j hj)
  ·have:i=j+1:=by walk_at "o"
   subst this;exact le_refl _
theorem uh.le(h:uh r p n)(hij:i<=j)(hj:j < n):RR r p j<=RR r p i:=by
 induction j with
 | zero=>
      have:i=0:=by walk_at "o"
      subst this;exact le_refl _
 | succ j ih=>
  rcases OO i (j+1)with h1|h1
  ·exact le_trans (h j hj) (ih (by walk_at "o") (by walk_at "o"))
  ·have:i=j+1:=by walk_at "o"
   subst this;exact le_refl _
theorem zP(h:p[i]?=q[j]?):RR r p i=RR r q j:=by
 unfold RR;rw[Array.getD_eq_getD_getElem?,Array.getD_eq_getD_getElem?,h]
theorem xC(hj:j<=p.size)(k:Nat):RR r (OJ p i j) k=if i<=k/\k < j then RR r p (i+j - 1 - k)else RR r p k:=by
 have e:=getElem?_mirror_all (xs:=p) (i:=i) hj k;unfold OJ;split
 ·rename_i h;rw[if_pos h]at e;exact zP e
 ·rename_i h;rw[if_neg h]at e;exact zP e
theorem gQ(i j:Nat):(OJ p i j).size=p.size:=mirror_size _ _ _ _
theorem p6(hj:j<=p.size)(he:∀ k,i<=k->k < j->RR r p k=RR r p (j - 1))(k:Nat):RR r (OJ p i j) k=RR r p k:=by
 rw[xC hj];split
 ·rename_i h;rw[he _ (by walk_at "o") (by walk_at "o"),he k h.1 h.2]
 ·rfl
theorem tV:lC r i j=true↔r i < r j:=by unfold lC;exact decide_eq_true_iff
theorem i9:lC r i j=false↔r j<=r i:=by unfold lC;rw[decide_eq_false_iff_not];omega
theorem A9:∀ (f n:Nat),1<=n->∃ m,(kas_asc p f n).run (lC r)=m/\n<=m/\m<=n+f/\(∀ i,n<=i->i < m->RR r p (i - 1)<=RR r p i)/\(m < n+f->RR r p m < RR r p (m - 1))
 | 0,n,_=>⟨n,rfl,le_refl _,le_refl _,fun i h1 h2=>absurd h1 (by walk_at "o"),fun h=>absurd h (by walk_at "o")⟩
 | f+1,n,hn=>by
  show ∃ m,((fun c=>if c=true then KasT.ret n else kas_asc p f (n+1)) (lC r (p.getD n 0) (p.getD (n - 1) 0))).run (lC r)=m/\_
  cases e:lC r (p.getD n 0) (p.getD (n - 1) 0) with
  | true=>exact⟨n,rfl,le_refl _,by walk_at "o",fun i h1 h2=>absurd h1 (by walk_at "o"),fun _=>tV.mp e⟩
  | false=>
   obtain⟨m,e1,h1,h2,h3,h4⟩:=A9 f (n+1) (by walk_at "o")
   refine⟨m,e1,by walk_at "o",by walk_at "o",fun i h5 h6=>?_,fun h=>h4 (by walk_at "o")⟩
   rcases OO n i with h7|h7
   ·exact h3 i h7 h6
   ·have:i=n:=by walk_at "o"
    subst this;exact i9.mp e
structure DSt(r:Nat->Nat)(p:Array Nat)(n q:Nat):Prop where
 hq:q+1<=n
 hn:n<=p.size
 dec:uh r p n
 eq:∀ k,n - (q+1)<=k->k < n->RR r p k=RR r p (n - 1)
theorem El:∀ k,n+1 - (0+1)<=k->k < n+1->RR r p k=RR r p (n+1 - 1):=fun k h1 h2=>by
 have:k=n+1 - 1:=by walk_at "o"
 subst this;rfl
theorem xr:∀ (f:Nat) (p:Array Nat) (n q:Nat),DSt r p n q->n+f<=p.size->∃ p' n' q',(O6 f p n q).run (lC r)=(p',n',q')/\DSt r p' n' q'/\n<=n'/\n'<=n+f/\p'.size=p.size/\p'.Perm p
 | 0,p,n,q,h,_=>⟨p,n,q,rfl,h,le_refl _,le_refl _,rfl,Array.Perm.refl _⟩
 | f+1,p,n,q,h,hf=>by
  have hq:=h.hq;show ∃ p' n' q',((fun c=>if c=true then (if q > 0 then O6 f (OJ p (n - (q+1)) n) (n+1) 0 else O6 f p (n+1) 0)
   else .ask (p.getD (n - 1) 0) (p.getD n 0) fun d=>if d=true then .ret (p,n,q)else O6 f p (n+1) (q+1)) (lC r (p.getD n 0) (p.getD (n - 1) 0))).run (lC r)=(p',n',q')/\_
  cases e:lC r (p.getD n 0) (p.getD (n - 1) 0) with
  | true=>
   have lt:RR r p n < RR r p (n - 1):=tV.mp e;have next:∀ p1:Array Nat,p1.size=p.size->p1.Perm p->(∀ k,RR r p1 k=RR r p k)->∃ p' n' q',(O6 f p1 (n+1) 0).run (lC r)=(p',n',q')/\DSt r p' n' q'/\n<=n'/\n'<=n+(f+1)/\p'.size=p.size/\p'.Perm p:=fun p1 hz hp hR=>by
    have hn:=h.hn;have dc:uh r p1 (n+1):=fun i hi=>by
     rw[hR,hR];rcases OO (i+1) n with h7|h7
     ·exact h.dec i h7
     ·have e2:n=i+1:=by walk_at "o"
      have e3:i=n - 1:=by walk_at "o"
      rw[<- e2,e3];exact le_of_lt lt
    obtain⟨p',n',q',e1,h1,h2,h3,h4,h5⟩:=xr f p1 (n+1) 0 ⟨by walk_at "o",by walk_at "o",dc,El⟩ (by walk_at "o")
    exact⟨p',n',q',e1,h1,by walk_at "o",by walk_at "o",by walk_at "o",h5.trans hp⟩
   show ∃ p' n' q',(if q > 0 then O6 f (OJ p (n - (q+1)) n) (n+1) 0 else O6 f p (n+1) 0).run (lC r)=(p',n',q')/\_
   by_cases hq0:q > 0
   ·rw[if_pos hq0];exact next _ (gQ _ _) (QU _ _ _ _) (p6 (by walk_at "o") h.eq)
   ·rw[if_neg hq0];exact next p rfl (Array.Perm.refl _) fun _=>rfl
  | false=>
   have ge:RR r p (n - 1)<=RR r p n:=i9.mp e;show ∃ p' n' q',((fun d=>if d=true then KasT.ret (p,n,q)else O6 f p (n+1) (q+1)) (lC r (p.getD (n - 1) 0) (p.getD n 0))).run (lC r)=(p',n',q')/\_
   cases e2:lC r (p.getD (n - 1) 0) (p.getD n 0) with
   | true=>exact⟨p,n,q,rfl,h,le_refl _,by walk_at "o",rfl,Array.Perm.refl _⟩
   | false=>
    have le:RR r p n<=RR r p (n - 1):=i9.mp e2;have dc:uh r p (n+1):=fun i hi=>by
     rcases OO (i+1) n with h7|h7
     ·exact h.dec i h7
     ·have e2:n=i+1:=by walk_at "o"
      have e3:i=n - 1:=by walk_at "o"
      rw[<- e2,e3];exact le
    have eqq:∀ k,n+1 - (q+1+1)<=k->k < n+1->RR r p k=RR r p (n+1 - 1):=fun k h1 h2=>by
     show RR r p k=RR r p n
     rcases OO k n with h7|h7
     ·rw[h.eq k (by walk_at "o") h7];omega
     ·have:k=n:=by walk_at "o"
      subst this;rfl
    obtain⟨p',n',q',e1,h1,h2,h3,h4,h5⟩:=xr f p (n+1) (q+1) ⟨by walk_at "o",by walk_at "o",dc,eqq⟩ (by walk_at "o")
    exact⟨p',n',q',e1,h1,by walk_at "o",by walk_at "o",h4,h5⟩
theorem xU(h1:1<=n)(hn:n<=nrem)(hz:nrem<=p.size)(hd:uh r p n):∃ m p',(O3 n nrem p).run (lC r)=(m,p')/\1<=m/\m<=nrem/\p'.size=p.size/\p'.Perm p/\mq r p' m:=by
 unfold O3;rw[KasT.run_bind];obtain⟨m,e,a1,a2,a3,_⟩:=A9 (r:=r) (p:=OJ p 0 n) (nrem - n) n h1;rw[e];refine⟨m,_,rfl,by walk_at "o",by walk_at "o",gQ _ _,QU _ _ _ _,fun i hi=>?_⟩
 rcases OO (i+1) n with h7|h7
 ·rw[xC (by walk_at "o"),xC (by walk_at "o"),if_pos (by walk_at "o"),if_pos (by walk_at "o")]
  exact hd.le (by walk_at "o") (by walk_at "o")
 ·exact a3 (i+1) h7 hi
theorem qB(h1:1<=n)(hn:n+1<=nrem)(hz:nrem<=p.size)(hd:uh r p (n+1)):∃ m p',(P0 n nrem p).run (lC r)=(m,p')/\1<=m/\m<=nrem/\p'.size=p.size/\p'.Perm p/\mq r p' m:=by
 unfold P0;rw[KasT.run_bind];obtain⟨p1,n1,q1,e,d,a1,a2,a3,a4⟩:=xr (r:=r) (nrem - (n+1)) p (n+1) 0 ⟨by walk_at "o",by walk_at "o",hd,El⟩ (by walk_at "o")
 rw[e];have hq:=d.hq
 by_cases hq0:q1 > 0
 ·show ∃ m p',(if q1 > 0 then O3 n1 nrem (OJ p1 (n1 - (q1+1)) n1)else O3 n1 nrem p1).run (lC r)=(m,p')/\_
  rw[if_pos hq0];have hR:=p6 (r:=r) (p:=p1) (i:=n1 - (q1+1)) (j:=n1) d.hn d.eq;obtain⟨m,p',b1,b2,b3,b4,b5,b6⟩:=xU (r:=r) (p:=OJ p1 (n1 - (q1+1)) n1) (n:=n1) (nrem:=nrem) (by walk_at "o") (by walk_at "o") (by rw[gQ];omega) (fun i hi=>by rw[hR,hR];exact d.dec i hi)
  exact⟨m,p',b1,b2,b3,by rw[b4,gQ,a3],(b5.trans (QU _ _ _ _)).trans a4,b6⟩
 ·show ∃ m p',(if q1 > 0 then O3 n1 nrem (OJ p1 (n1 - (q1+1)) n1)else O3 n1 nrem p1).run (lC r)=(m,p')/\_
  rw[if_neg hq0];obtain⟨m,p',b1,b2,b3,b4,b5,b6⟩:=xU (r:=r) (p:=p1) (n:=n1) (nrem:=nrem) (by walk_at "o") (by walk_at "o") (by walk_at "o") d.dec
  exact⟨m,p',b1,b2,b3,by rw[b4,a3],b5.trans a4,b6⟩
theorem E4(h1:1<=nrem)(hz:nrem<=p.size):∃ m p',(Rp nrem p).run (lC r)=(m,p')/\1<=m/\m<=nrem/\p'.size=p.size/\p'.Perm p/\mq r p' m:=by
 unfold Rp;rw[KasT.run_bind];obtain⟨n,e,a1,a2,a3,a4⟩:=A9 (r:=r) (p:=p) (nrem - 1) 1 (le_refl _);rw[e];have adj:mq r p n:=fun i hi=>a3 (i+1) (by walk_at "o") hi
 by_cases h2:n=nrem
 ·rw[if_pos (by simpa using h2)]
  exact⟨n,p,rfl,by walk_at "o",by walk_at "o",rfl,Array.Perm.refl _,adj⟩
 ·rw[if_neg (by simpa using h2)]
  have dn:RR r p n < RR r p (n - 1):=a4 (by walk_at "o")
  by_cases h3:n > 1
  ·rw[if_pos h3];show ∃ m p',((fun c=>if c=true then KasT.ret (n,p)else P0 n nrem (OJ p 0 n)) (lC r (p.getD 0 0) (p.getD (n - 1) 0))).run (lC r)=(m,p')/\_
   cases e2:lC r (p.getD 0 0) (p.getD (n - 1) 0) with
   | true=>exact⟨n,p,rfl,by walk_at "o",by walk_at "o",rfl,Array.Perm.refl _,adj⟩
   | false=>
    have ge:RR r p (n - 1)<=RR r p 0:=i9.mp e2;have eq:∀ k,0<=k->k < n->RR r p k=RR r p (n - 1):=fun k _ hk=>by
     have:=adj.le (NC k) hk;have:=adj.le (show k<=n - 1 by walk_at "o") (by walk_at "o")
     omega
    have hR:=p6 (r:=r) (p:=p) (i:=0) (j:=n) (by walk_at "o") eq
    obtain⟨m,p',b1,b2,b3,b4,b5,b6⟩:=qB (r:=r) (p:=OJ p 0 n) (n:=n) (nrem:=nrem) (by walk_at "o") (by walk_at "o") (by rw[gQ];omega) (fun i hi=>by
     rw[hR,hR];rcases OO (i+1) n with h7|h7
     ·rw[eq i (by walk_at "o") (by walk_at "o"),eq (i+1) (by walk_at "o") h7];exact le_refl _
     ·have e3:n=i+1:=by walk_at "o"
      have e4:i=n - 1:=by walk_at "o"
      rw[<- e3,e4];exact le_of_lt dn)
    exact⟨m,p',b1,b2,b3,by rw[b4,gQ],b5.trans (QU _ _ _ _),b6⟩
  ·rw[if_neg h3];have e1:n=1:=by walk_at "o"
   subst e1;exact qB (by walk_at "o") (by walk_at "o") hz (fun i hi=>by
    have:i=0:=by walk_at "o"
    subst this;exact le_of_lt dn)
theorem sF(hs:mq r p k):∀ (f l u:Nat),l<=u->u<=k->u - l<=f->(∀ i,i < l->RR r p i<=RR r p k)->(∀ i,u<=i->i < k->RR r p k < RR r p i)->
  ∃ m,(Qo p k f l u).run (lC r)=m/\m<=k/\(∀ i,i < m->RR r p i<=RR r p k)/\(∀ i,m<=i->i < k->RR r p k < RR r p i)
 | 0,l,u,h1,h2,h3,h4,h5=>⟨l,rfl,by walk_at "o",h4,fun i a b=>h5 i (by walk_at "o") b⟩
 | f+1,l,u,h1,h2,h3,h4,h5=>by
  unfold Qo
  by_cases hlu:l>=u
  ·rw[if_pos hlu];exact⟨l,rfl,by walk_at "o",h4,fun i a b=>h5 i (by walk_at "o") b⟩
  ·rw[if_neg hlu];show ∃ m,((fun c=>if c=true then Qo p k f l ((l+u) / 2)else Qo p k f ((l+u) / 2+1) u) (lC r (p.getD k 0) (p.getD ((l+u) / 2) 0))).run (lC r)=m/\_
   cases e:lC r (p.getD k 0) (p.getD ((l+u) / 2) 0) with
   | true=>
    have lt:RR r p k < RR r p ((l+u) / 2):=tV.mp e;exact sF hs f l ((l+u) / 2) (by walk_at "o") (by walk_at "o") (by walk_at "o") h4 fun i a b=>Nb lt (hs.le a b)
   | false=>
    have ge:RR r p ((l+u) / 2)<=RR r p k:=i9.mp e;exact sF hs f ((l+u) / 2+1) u (by walk_at "o") h2 (by walk_at "o") (fun i a=>le_trans (hs.le (show i<=(l+u) / 2 by walk_at "o") (by walk_at "o")) ge) h5
theorem p7(hs:src < p.size)(hd:d<=src)(k:Nat):RR r (bubble p src d) k=if k=src - d then RR r p src else if src - d < k/\k<=src then RR r p (k - 1)else RR r p k:=by
 have e:=getElem?_bubble hs d hd k;split
 ·rename_i h;rw[if_pos h]at e;exact zP e
 ·rename_i h;rw[if_neg h]at e;split
  ·rename_i h2;rw[if_pos h2]at e;exact zP e
  ·rename_i h2;rw[if_neg h2]at e;exact zP e
theorem E9:∀ (f:Nat) (p:Array Nat) (k:Nat),k+f=p.size->mq r p k->∃ p',(Q6 f p k).run (lC r)=p'/\p'.size=p.size/\p'.Perm p/\mq r p' p.size
 | 0,p,k,h,a=>⟨p,rfl,rfl,Array.Perm.refl _,by rw[<- h];exact a⟩
 | f+1,p,k,h,a=>by
  unfold Q6;rw[KasT.run_bind];obtain⟨l,e,b1,b2,b3⟩:=sF (r:=r) a k 0 k (by walk_at "o") (le_refl _) (by walk_at "o") (fun i z=>absurd z (by walk_at "o")) (fun i x y=>absurd x (by walk_at "o"))
  rw[e];have hk:k < p.size:=by walk_at "o"
  obtain⟨p',c1,c2,c3,c4⟩:=E9 f (bubble p k (k - l)) (k+1) (by rw[R1];omega) (fun i hi=>by
   have e1:=p7 (r:=r) hk (show k - l<=k by walk_at "o") i
   have e2:=p7 (r:=r) hk (show k - l<=k by walk_at "o") (i+1)
   have ek:k - (k - l)=l:=by walk_at "o"
   rw[ek]at e1 e2;rw[e1,e2];rcases Nat.lt_trichotomy i l with hil|hil|hil
   ·rw[if_neg (by walk_at "o"),if_neg (by walk_at "o")]
    by_cases h2:i+1=l
    ·rw[if_pos h2];exact b2 i hil
    ·rw[if_neg h2,if_neg (by walk_at "o")];exact a i (by walk_at "o")
   ·rw[if_pos hil,if_neg (by walk_at "o"),if_pos (by walk_at "o")]
    have:i+1 - 1=i:=by walk_at "o"
    rw[this];exact le_of_lt (b3 i (by walk_at "o") (by walk_at "o"))
   ·rw[if_neg (by walk_at "o"),if_pos (by walk_at "o"),if_neg (by walk_at "o"),if_pos (by walk_at "o")]
    have:i+1 - 1=(i - 1)+1:=by walk_at "o"
    rw[this];exact a (i - 1) (by walk_at "o"))
  rw[R1]at c2 c4;exact⟨p',c1,c2,c3.trans (bubble_perm _ _ _),c4⟩
theorem Bq(r:Nat->Nat)(n:Nat)(hn:1<=n):∃ p,(RZ n).run (lC r)=p/\p.toList.Perm (List.range n)/\mq r p n:=by
 unfold RZ;rw[KasT.run_bind];have hz:(List.toArray (List.range n)).size=n:=by simp
 obtain⟨m,p1,e,a1,a2,a3,a4,a5⟩:=E4 (r:=r) (p:=List.toArray (List.range n)) (nrem:=n) hn (by rw[hz];exact le_refl _)
 rw[e];have toL:∀ {p:Array Nat},p.Perm (List.toArray (List.range n))->p.toList.Perm (List.range n):=fun h=>by simpa using Array.perm_iff_toList_perm.mp h
 show ∃ p,(if m < n then Q6 (n - max m 1) p1 (max m 1)else KasT.ret p1).run (lC r)=p/\_
 by_cases h:m < n
 ·rw[if_pos h];obtain⟨p',b1,b2,b3,b4⟩:=E9 (r:=r) (n - max m 1) p1 (max m 1) (by rw[a3,hz];omega) (by rw[show max m 1=m by walk_at "o"];exact a5)
  exact⟨p',b1,toL (b3.trans a4),by rw[a3,hz]at b4;exact b4⟩
 ·rw[if_neg h];have:m=n:=by walk_at "o"
  subst this;exact⟨p1,rfl,toL a4,a5⟩
end
section
variable{κ:Type}(blt:κ->κ->Bool)
structure SWO:Prop where
 irrefl:∀ a,blt a a=false
 trans:∀ a b c,blt a b=true->blt b c=true->blt a c=true
 neg:∀ a b c,blt a c=true->blt a b=true\/blt b c=true
def rankIn(ks:List κ)(a:κ):Nat:=ks.countP fun k=>blt k a
end
section
variable{κ:Type}{blt:κ->κ->Bool}
theorem vH(ks:List κ)(h:∀ x,p x=true->q x=true):ks.countP p<=ks.countP q:=by
 induction ks with
 | nil=>exact le_refl _
 | cons x r ih=>
  rw[Qg,Qg];cases hp:p x with
  | false=>simp;split<;>omega
  | true=>rw[h x hp];simp;omega
theorem CU{p q:κ->Bool}{ks:List κ}(h:∀ x,p x=true->q x=true){y:κ}(hy:y∈ks)(h1:p y=false)(h2:q y=true):ks.countP p < ks.countP q:=by
 induction ks with
 | nil=>simp at hy
 | cons x r ih=>
  rw[Qg,Qg];rcases Nr.mp hy with rfl|hy
  ·have:=vH r h;rw[h1,h2];simp;omega
  ·have:=ih hy;cases hp:p x with
   | false=>simp;split<;>omega
   | true=>rw[h x hp];simp;omega
theorem rank_lt(o:SWO blt)(ha:a∈ks):blt a b=decide (rankIn blt ks a < rankIn blt ks b):=by
 cases e:blt a b with
 | true=>
  symm;rw[decide_eq_true_iff];exact CU (fun x hx=>o.trans _ _ _ hx e) ha (o.irrefl a) e
 | false=>
  symm;rw[decide_eq_false_iff_not,not_lt];refine vH ks fun x hx=>?_;rcases o.neg x a b hx with h|h
  ·exact h
  ·rw[e]at h;cases h
end
def KasT.allR{α:Type}(n:Nat)(P:α->Prop):Sw α->Prop
 | .ret a=>P a
 | .ask i j k=>i < n/\j < n/\∀ b,(k b).allR n P
theorem KasT.allR_mono{α:Type}{P P':α->Prop}(h:∀ a,P a->P' a):∀ {t:Sw α},t.allR n P->t.allR n P'
 | .ret a,q=>h a q
 | .ask i j k,q=>⟨q.1,q.2.1,fun b=>KasT.allR_mono h (q.2.2 b)⟩
theorem KasT.allR_bind{α β:Type}{P:α->Prop}{P':β->Prop}{f:α->Sw β}(h:∀ a,P a->(f a).allR n P'):∀ {t:Sw α},t.allR n P->(t.bind f).allR n P'
 | .ret a,q=>h a q
 | .ask i j k,q=>⟨q.1,q.2.1,fun b=>KasT.allR_bind h (q.2.2 b)⟩
theorem KasT.walked{α:Type}{P:α->Prop}{lt:Nat->Nat->Bool}{J:MK->Prop}{cmp:Nat->Nat->(Bool->MK->Prop)->MK->Prop}{Q:α->MK->Prop}(hc:∀ i j C s,i < n->j < n->J s->(∀ s',J s'->C (lt i j) s')->cmp i j C s):∀ (t:Sw α) (s:MK),t.allR n P->J s->(∀ s',J s'->P (t.run lt)->Q (t.run lt) s')->t.kasWp cmp Q s
 | .ret a,s,q,j,h=>h s j q
 | .ask i j k,s,q,hj,h=>hc i j _ s q.1 q.2.1 hj fun s' hj'=>KasT.walked hc (k (lt i j)) s' (q.2.2 _) hj' h
structure EntN(n:Nat)(p:Array Nat):Prop where
 size:p.size=n
 ent:∀ i,p.getD i 0 < n
section
variable{N:Nat}{p:Array Nat}
theorem EntN.rev(e:EntN N p)(hj:j<=N):EntN N (OJ p i j):=by
 refine⟨by rw[gQ];exact e.size,fun k=>?_⟩
 have h:=xC (r:=id) (p:=p) (i:=i) (j:=j) (by rw[e.size];exact hj) k
 unfold RR at h;simp only[id]at h;rw[h];split<;>exact e.ent _
theorem EntN.bub(e:EntN N p)(hs:src < N)(hd:d<=src):EntN N (bubble p src d):=by
 refine⟨by rw[R1];exact e.size,fun k=>?_⟩
 have h:=p7 (r:=id) (p:=p) (src:=src) (d:=d) (by rw[e.size];exact hs) hd k
 unfold RR at h;simp only[id]at h;rw[h];split
 ·exact e.ent _
 ·split<;>exact e.ent _
theorem A_(e:EntN N p):∀ (f n:Nat),(kas_asc p f n).allR N fun m=>n<=m/\m<=n+f
 | 0,n=>⟨le_refl _,le_refl _⟩
 | f+1,n=>⟨e.ent _,e.ent _,fun b=>by
   cases b with
   | true=>exact⟨le_refl _,by walk_at "o"⟩
   | false=>exact KasT.allR_mono (fun m h=>⟨by walk_at "o",by walk_at "o"⟩) (A_ e f (n+1))⟩
theorem rG:∀ (f:Nat) (p:Array Nat) (n q:Nat),EntN N p->n+f<=N->(O6 f p n q).allR N fun r=>EntN N r.1/\n<=r.2.1/\r.2.1<=n+f
 | 0,p,n,q,e,_=>⟨e,le_refl _,le_refl _⟩
 | f+1,p,n,q,e,h=>⟨e.ent _,e.ent _,fun b=>by
   have mono:∀ {t:Sw (Array Nat×Nat×Nat)},(t.allR N fun r=>EntN N r.1/\n+1<=r.2.1/\r.2.1<=n+1+f)->t.allR N fun r=>EntN N r.1/\n<=r.2.1/\r.2.1<=n+(f+1):=fun h=>KasT.allR_mono (fun r z=>⟨z.1,by walk_at "o",by walk_at "o"⟩) h
   cases b with
   | true=>
    show KasT.allR N _ (if q > 0 then O6 f (OJ p (n - (q+1)) n) (n+1) 0 else O6 f p (n+1) 0)
    split
    ·exact mono (rG f _ (n+1) 0 (e.rev (by walk_at "o")) (by walk_at "o"))
    ·exact mono (rG f _ (n+1) 0 e (by walk_at "o"))
   | false=>exact⟨e.ent _,e.ent _,fun d=>by
     cases d with
     | true=>exact⟨e,le_refl _,show n<=n+(f+1)by walk_at "o"⟩
     | false=>exact mono (rG f p (n+1) (q+1) e (by walk_at "o"))⟩⟩
theorem xV(e:EntN N p)(hn:n<=N):(O3 n nrem p).allR N fun r=>EntN N r.2:=by
 unfold O3;refine KasT.allR_bind (fun m _=>?_) (A_ (e.rev (i:=0) hn) (nrem - n) n);exact (e.rev hn:EntN N (OJ p 0 n))
theorem qC(e:EntN N p)(hn:n+1<=nrem)(hz:nrem<=N):(P0 n nrem p).allR N fun r=>EntN N r.2:=by
 unfold P0;refine KasT.allR_bind (fun r h=>?_) (rG (nrem - (n+1)) p (n+1) 0 e (by walk_at "o"))
 obtain⟨p1,n1,q1⟩:=r;obtain⟨h1,h2,h3⟩:=h;show KasT.allR N _ (if q1 > 0 then O3 n1 nrem (OJ p1 (n1 - (q1+1)) n1)else O3 n1 nrem p1)
 have hn1:n1<=N:=by simp only at h3;omega
 split
 ·exact xV (h1.rev hn1) hn1
 ·exact xV h1 hn1
theorem E5(e:EntN N p)(h1:1<=nrem)(hz:nrem<=N):(Rp nrem p).allR N fun r=>EntN N r.2:=by
 unfold Rp;refine KasT.allR_bind (fun n h=>?_) (A_ e _ _)
 by_cases h2:n=nrem
 ·rw[if_pos (by simpa using h2)];exact e
 ·rw[if_neg (by simpa using h2)]
  by_cases h3:n > 1
  ·rw[if_pos h3];refine⟨e.ent _,e.ent _,fun b=>?_⟩;cases b with
   | true=>exact e
   | false=>exact qC (e.rev (by walk_at "o")) (by walk_at "o") hz
  ·rw[if_neg h3];exact qC e (by walk_at "o") hz
theorem sG(e:EntN N p)(k:Nat):∀ (f l u:Nat),(Qo p k f l u).allR N fun _=>True
 | 0,l,u=>trivial
 | f+1,l,u=>by
  unfold Qo;split
  ·exact trivial
  ·exact⟨e.ent _,e.ent _,fun b=>by
    cases b with
    | true=>exact sG e k f _ _
    | false=>exact sG e k f _ _⟩
theorem E_:∀ (f:Nat) (p:Array Nat) (k:Nat),EntN N p->k+f<=N->(Q6 f p k).allR N (EntN N)
 | 0,p,k,e,_=>e
 | f+1,p,k,e,h=>by
  unfold Q6;refine KasT.allR_bind (fun l _=>?_) (sG e k k 0 k);exact E_ f _ (k+1) (e.bub (by walk_at "o") (by walk_at "o")) (by walk_at "o")
theorem Br(hn:1<=n):(RZ n).allR n (EntN n):=by
 have e:EntN n (List.toArray (List.range n)):=⟨by simp,fun i=>by
  rw[Array.getD_eq_getD_getElem?,List.getElem?_toArray];cases h:(List.range n)[i]? with
  | none=>exact hn
  | some x=>exact mem_range.mp (M6 h)⟩
 unfold RZ;refine KasT.allR_bind (fun r h=>?_) (E5 e hn (le_refl _));obtain⟨m,p⟩:=r;show KasT.allR n _ (if m < n then Q6 (n - max m 1) p (max m 1)else KasT.ret p)
 split
 ·exact E_ _ _ _ h (by walk_at "o")
 ·exact h
end
section
variable{α:Type}(blt:α->α->Bool)
structure STO:Prop where
 irrefl:∀ a,blt a a=false
 trans:∀ a b c,blt a b=true->blt b c=true->blt a c=true
 tot:∀ a b,blt a b=false->blt b a=false->a=b
def sR[DecidableEq α]:List α->List α->Bool
 | [],[]=>false
 | [],_::_=>true
 | _::_,[]=>false
 | a::r,b::t=>if a=b then sR r t else blt a b
end
section
variable{α:Type}{blt:α->α->Bool}
theorem STO.neg(o:STO blt)(a b c:α)(h:blt a c=true):blt a b=true\/blt b c=true:=by
 cases e:blt a b with
 | true=>exact .inl rfl
 | false=>
  cases e2:blt b c with
  | true=>exact .inr rfl
  | false=>
   cases e3:blt b a with
   | true=>have:=o.trans _ _ _ e3 h;rw[e2]at this;cases this
   | false=>
    have:=o.tot _ _ e e3;subst this;rw[h]at e2;cases e2
theorem STO.swo(o:STO blt):SWO blt:=⟨o.irrefl,o.trans,o.neg⟩
variable[DecidableEq α]
theorem lr(a b:α)(r t:List α):sR blt (a::r) (b::t)=if a=b then sR blt r t else blt a b:=rfl
theorem wV(o:STO blt):STO (sR blt) where
 irrefl:=by
  intro a
  induction a with
  | nil=>rfl
  | cons x r ih=>rw[lr,if_pos rfl,ih]
 trans:=by
  intro a
  induction a with
  | nil=>
   intro b c h1 h2;cases c with
   | nil=>cases b<;>cases h2
   | cons _ _=>rfl
  | cons x r ih=>
   intro b c h1 h2;cases b with
   | nil=>cases h1
   | cons y t=>
    cases c with
    | nil=>cases h2
    | cons z u=>
     rw[lr]at h1 h2 ⊢
     by_cases e1:x=y
     ·subst e1;rw[if_pos rfl]at h1
      by_cases e2:x=z
      ·subst e2;rw[if_pos rfl]at h2 ⊢;exact ih t u h1 h2
      ·rw[if_neg e2]at h2 ⊢;exact h2
     ·rw[if_neg e1]at h1
      by_cases e2:y=z
      ·subst e2;rw[if_neg e1];exact h1
      ·rw[if_neg e2]at h2;have h3:=o.trans _ _ _ h1 h2;rw[if_neg (fun e=>by subst e;rw[o.irrefl]at h3;cases h3)]
       exact h3
 tot:=by
  intro a
  induction a with
  | nil=>
   intro b h1 h2;cases b with
   | nil=>rfl
   | cons _ _=>cases h1
  | cons x r ih=>
   intro b h1 h2;cases b with
   | nil=>cases h2
   | cons y t=>
    rw[lr]at h1 h2
    by_cases e1:x=y
    ·subst e1;rw[if_pos rfl]at h1 h2;rw[ih t h1 h2]
    ·rw[if_neg e1]at h1;rw[if_neg (Ne.symm e1)]at h2;exact absurd (o.tot _ _ h1 h2) e1
end
def wQ(a b:Nat):Bool:=decide (a < b)
theorem wP:STO wQ:=⟨fun a=>by simp[wQ],fun a b c h1 h2=>by simp only[wQ,decide_eq_true_eq]at *;omega,fun a b h1 h2=>by simp only[wQ,decide_eq_false_iff_not]at *;omega⟩
theorem oa:∀ a b:List Nat,sR wQ a b=decide (a < b)
 | [],[]=>by simp[sR]
 | [],b::t=>by simp[sR]
 | a::r,[]=>by simp[sR]
 | a::r,b::t=>by
  rw[lr]
  by_cases e:a=b
  ·subst e;rw[if_pos rfl,oa r t];simp
  ·rw[if_neg e];simp[wQ,List.cons_lt_cons_iff,e]
end PySem.W
namespace L3
open PySem PySem.Spec PyProof.Rows L2 PySem.SeqAt
open PySem.AutoSeq1 (wpAny_loadPart')
open PySem.MeetsSeq PySem.MeetsSeq2 PySem.MeetsSeq3
def cA(blt:D->D->Bool):List D->List D->Bool
 | [],[]=>false
 | [],_::_=>true
 | _::_,[]=>false
 | a::r,b::t=>if eA a b=true then cA blt r t else blt a b
def h_:Nat->D->D->Bool
 | _,.int a,.int b=>decide (a < b)
 | _,.str x,.str y=>decide (x.cps.toList < y.cps.toList)
 | n+1,.tup xs,.tup ys=>cA (h_ n) xs ys
 | _,_,_=>false
def Jm(n:Nat)(P:D->D->Prop):List D->List D->Prop
 | a::r,b::t=>(pl n a/\pl n b)/\(a≠b->P a b)/\Jm n P r t
 | _,_=>True
def z0:Nat->D->D->Prop
 | _,.int _,.int _=>True
 | _,.str _,.str _=>True
 | n+1,.tup xs,.tup ys=>Jm n (z0 n) xs ys
 | _,_,_=>False
def GZ(op:Qu)(A:M3)(s:MK)(v u:MI)(b:Bool):Prop:=
 ∀ (prog:MY) (w:M7) (E:MI->MK->Prop) (Q:MI->MK->Prop),Q (.bool b) s->MP (MR prog w) A (richCompare op v u) Q E s
def vV(op:Qu)(fin:Bool)(A:M3)(s:MK):List MI->List MI->Bool->Prop
 | v::vs,u::us,out=>∃ e,EqAt A s v u e/\(e=true->vV op fin A s vs us out)/\(e=false->GZ op A s v u out)
 | _,_,out=>out=fin
theorem Cw:∀ {vs us:List MI},vV op fin A s vs us out->vs.zip us=[]->out=fin
 | [],_,h,_=>h
 | _::_,[],h,_=>h
 | _::_,_::_,_,e=>by rw[OU]at e;cases e
theorem Ae(l b:ML)(items items2:Array MI)(n n2:Nat)(dd dd2:Option ML)(sl sl2:Array (Option MI))(out:Bool):
  Meets (Builtin.«tuple.__lt__» ⟨[.ref l,.ref b],[]⟩)
   (fun A R s=>s.heap.get? l=some { cls:=.type "tuple",dict:=dd,data:=.seq items n,slots:=sl }/\s.heap.get? b=some { cls:=.type "tuple",dict:=dd2,data:=.seq items2 n2,slots:=sl2 }/\
    vV .Lt (decide (items.size < items2.size)) A.in1 s items.toList items2.toList out/\R (.ok (.ret (.bool out))) s):=
 .of_wp fun prog w A R s h=>by
  obtain⟨hp,g,d,tk,os⟩:=s;obtain⟨hl,hb,hx,h⟩:=h;have f2:=AutoSeq1.sub_tuple_tuple
  wp_walk using wpAny_loadPart' hl,wpAny_loadPart' hb,wpAny_forIn_list _ (fun c7 b s'=>b.1=none/\s'=⟨hp,g,d,tk,os⟩/\∃ vs ws,c7=vs.zip ws/\vV .Lt (decide (items.size < items2.size)) A.in1 ⟨hp,g,d,tk,os⟩ vs ws out) _
  case turn=>
   rintro⟨y,x⟩ c7 b s' ⟨hb',rfl,vs,ws,hz,lx⟩
   cases vs with
   | nil=>rw[List.zip_nil_left]at hz;cases hz
   | cons v vs=>
    cases ws with
    | nil=>rw[List.zip_nil_right]at hz;cases hz
    | cons u ws=>
     rw[OU]at hz;injection hz with hyx Tg
     injection hyx with hy hx'
     subst hy hx';obtain⟨e,he,l1,l2⟩:=lx;refine MH (he prog w _ _ ?_);cases e with
     | true=>
      wp_walk
      exact⟨rfl,rfl,_,_,Tg,l1 rfl⟩
     | false=>
      have hri:=l2 rfl prog w
      wp_walk using hri
      exact⟨_,rfl,by simpa using h⟩
  case fin=>
   rintro⟨b1,b2⟩ s' ⟨hb',rfl,vs,ws,hz,lx⟩
   simp only at hb';subst hb';have hv:=Cw lx hz.symm;rw[hv]at h
   wp_walk
   exact⟨_,rfl,by simpa[Builtin.Tuple.tupleCompareSizes]using h⟩
  case h=>
   exact⟨rfl,rfl,items.toList,items2.toList,rfl,hx⟩
theorem Et(hl:s.heap.IsTuple l items)(hb:s.heap.IsTuple b items2)(hu:A.units < ND)(hx:vV .Lt (decide (items.size < items2.size)) A.in1 s items.toList items2.toList out):GZ .Lt A s (.ref l) (.ref b) out:=fun prog w E Q h=>by
 obtain⟨⟨cls,dd,data,sl⟩,ho,hc,n,hd⟩:=id hl;obtain⟨⟨cls2,dd2,data2,sl2⟩,ho2,hc2,n2,hd2⟩:=id hb;simp only at hc hd hc2 hd2;subst hc hd hc2 hd2;exact richCompare_meets_room (op:=.Lt) ⟨_,ho,rfl⟩ ⟨_,ho2,rfl⟩ PySem.F.slot_tuple_lt PySem.F.entry_tuple_lt (PySem.F.args_tuple_lt_2 _ _) (Ae l b items items2 n n2 dd dd2 sl sl2 out)
  ⟨ho,ho2,hx,show Value.bool out≠Value.notImplemented/\Q (.bool out) s from ⟨(fun x=>nomatch x),h⟩⟩ hu
section
variable{X:Cx}{pins:List (ML×Obj)}{σ:St}{H:Hp}{s:MK}
theorem zb(I:Inv X pins σ H s)(hu:A.units+n < ND)(ih:∀ {x y:D} {v u:V} {v' u':MI},z0 n x y->RD X.K H x v->RD X.K H y u->aD v v'->aD u u'->GZ .Lt A s v' u' ( h_ n x y)):
  ∀ {ds es:List D} {xs ys:List V} {us ws:List MI},Jm n (z0 n) ds es->RDs X.K H ds xs->RDs X.K H es ys->Vals xs us->Vals ys ws->ds.length+N2=es.length+N1->vV .Lt (decide (N1 < N2)) A s us ws ( cA (h_ n) ds es)
 | [],es,xs,ys,us,ws,_,r1,r2,w1,w2,hl=>by
  rw[r1.inv_nil]at w1;cases w1;show ( cA (h_ n) [] es)=decide (N1 < N2)
  cases es with
  | nil=>
   simp only[Nj]at hl;have e1:N2=N1:=by walk_at "o"
   subst e1;simp[cA]
  | cons b t=>
   simp only[Nj,M1]at hl;have:N1 < N2:=by walk_at "o"
   simp[cA];omega
 | a::r,[],xs,ys,us,ws,_,r1,r2,w1,w2,hl=>by
  rw[r2.inv_nil]at w2;cases w2;obtain⟨x1,t1,e1,_,_⟩:=r1.inv_cons;subst e1;cases w1;show ( cA (h_ n) (a::r) [])=decide (N1 < N2)
  simp only[Nj,M1]at hl;have:N2 < N1:=by walk_at "o"
  simp[cA];omega
 | a::r,b::t,xs,ys,us,ws,⟨p,c,q⟩,r1,r2,w1,w2,hl=>by
  obtain⟨x1,t1,e1,g1,g2⟩:=r1.inv_cons;subst e1;obtain⟨x2,t2,e2,f1,f2⟩:=r2.inv_cons;subst e2;cases w1 with
  | cons k1 w1=>
  cases w2 with
  | cons k2 w2=>
   refine⟨eA a b,(vK I n p.1 p.2 g1 f1 k1 k2 hu).eq,fun e=>?_,fun e=>?_⟩
   ·rw[show cA (h_ n) (a::r) (b::t)=cA (h_ n) r t by simp[cA,e]]
    simp only[M1]at hl;exact zb I hu ih q g2 f2 w1 w2 (by walk_at "o")
   ·rw[show cA (h_ n) (a::r) (b::t)=h_ n a b by simp[cA,e]]
    exact ih (c fun z=>by rw[z,bX]at e;cases e) g1 f1 k1 k2
theorem ID(I:Inv X pins σ H s):∀ (n:Nat) {x y:D} {v u:V} {v' u':MI} {A:M3},z0 n x y->RD X.K H x v->RD X.K H y u->aD v v'->aD u u'->A.units+n < ND->GZ .Lt A s v' u' ( h_ n x y):=by
 intro n
 induction n with
 | zero=>
  intro x y v u v' u' A c rx ry lx ly hu;cases x<;>cases y<;>first|exact c.elim|skip
  ·simp only[RD]at rx ry;subst rx ry;obtain⟨t,rfl⟩:=lx;obtain⟨t',rfl⟩:=ly;intro prog w E Q h;exact (PyProof.Rows.lt_int h:MP (MR prog w) A (Nv .Lt (.int _ t) (.int _ t')) Q E s)
  ·simp only[RD]at rx ry;subst rx ry;obtain⟨t,rfl⟩:=lx;obtain⟨t',rfl⟩:=ly;intro prog w E Q h;exact (PySem.P.lt_str h:MP (MR prog w) A (Nv .Lt (.str _ t) (.str _ t')) Q E s)
 | succ n ih=>
  intro x y v u v' u' A c rx ry lx ly hu;cases x<;>cases y<;>first|exact c.elim|skip
  ·simp only[RD]at rx ry;subst rx ry;obtain⟨t,rfl⟩:=lx;obtain⟨t',rfl⟩:=ly;intro prog w E Q h;exact (PyProof.Rows.lt_int h:MP (MR prog w) A (Nv .Lt (.int _ t) (.int _ t')) Q E s)
  ·simp only[RD]at rx ry;subst rx ry;obtain⟨t,rfl⟩:=lx;obtain⟨t',rfl⟩:=ly;intro prog w E Q h;exact (PySem.P.lt_str h:MP (MR prog w) A (Nv .Lt (.str _ t) (.str _ t')) Q E s)
  ·rename_i ds es;simp only[RD]at rx ry;obtain⟨a,xs,rfl,s1,r1⟩:=rx;obtain⟨b,ys,rfl,s2,r2⟩:=ry;cases lx;cases ly;obtain⟨its,w1,t1,z1⟩:=I.tuple s1;obtain⟨its2,w2,t2,z2⟩:=I.tuple s2;have l1:=w1.length;have l1':=r1.length;have l2:=w2.length;have l2':=r2.length;refine Et t1 t2 (by walk_at "o") ?_
   exact zb I (A:=A.in1) (by show A.units+1+n < ND;omega) (fun c rx ry lx ly=>ih c rx ry lx ly (by show A.units+1+n < ND;omega)) c r1 r2 w1 w2 (by simp only[MV];omega)
end
def LK:R3:=fun x y G Q=>z0 4 x y/\Q (.bl (! h_ 4 x y)) G
open PySem.W
def mZ(h:M5)(d:ML)(vs:List MI)(ep:Nat):Prop:=∃ o es,h.get? d=some o/\o.ExactDict/\o.data=.dict es ep/\es.toList.map (·.val)=vs
section
variable{prog:MY}{w:M7}{A:M3}{E:MI->MK->Prop}{s:MK}{d r it:ML}{vs:List MI}{ep i:Nat}
theorem mZ.ty(x:mZ s.heap d vs ep):s.TypeIs (.ref d) "dict":=let ⟨o,_,e,z,_⟩:=x;⟨o,e,z.1⟩
theorem mZ.there(x:mZ h d vs ep):d < h.objs.size:=let ⟨_,_,e,_⟩:=x;MS e
theorem mZ.stay(x:mZ h d vs ep)(k:∀ o,h.get? d=some o->h'.get? d=some o):mZ h' d vs ep:=let ⟨o,es,e,z⟩:=x;⟨o,es,k o e,z⟩
theorem At(hs:(d == NM)=false):MeetsIn prog w (Builtin.«dict.values» ⟨[.ref d],[]⟩) (fun _ R s=>(∃ vs ep,mZ s.heap d vs ep)/\
  R (.ok (.ret (.ref s.heap.objs.size))) { s with heap:=s.heap.push { cls:=.type "dict_values",data:=.fields #[.ref d] } }):=
 .of_wp fun A R s zz=>by
  obtain⟨⟨vs,ep,x⟩,q⟩:=zz;refine MH ?_;unfold Builtin.Dict.noArgs;refine MH (P8 x.ty ?_);show MP _ _ (pure d) _ _ s;refine MJ ?_
  show MP _ _ (Pa d >>= _) _ _ s;unfold Pa
  rw[if_neg (fun z=>by rw[hs]at z;cases z)];refine MH (MJ ?_)
  exact MH (Nd (MJ ⟨_,rfl,q⟩))
theorem DQ(hr:s.heap.IsValuesView r d)(x:mZ s.heap d vs ep)(q:Q (.ref s.heap.objs.size) { s with heap:=s.heap.push { cls:=.type "dict_valueiterator",data:=.fields #[.ref d,.int 0 0,.int vs.length 0,.int ep 0] } }):MP (MR prog w) A (Pw (.ref r)) Q E s:=by
 obtain⟨ov,e1,c1,d1⟩:=id hr;obtain⟨o,es,e2,c2,d2,rfl⟩:=x;refine QA hr.typeIs Rt (Ny Rt hr.typeIs F.entry_dict_values_iter ?_ (F.args_dict_values_iter_1 _));unfold Builtin.«dict_values.__iter__»;refine MH (MJ ?_);refine MH ?_;unfold Builtin.Dict_items.dictOf;refine MH (Nw e1 d1 (x:=.ref d) rfl (MJ ?_));refine MH ?_;unfold Builtin.Dict_items.newIterator;refine MH (N8 e2 d2 ?_);refine MH (Op e2 d2 ?_);have own:NI "dict_valueiterator"=false:=by decide
 simp only[own,Bool.false_eq_true,if_false];refine Nd (MJ ⟨_,rfl,"dict_valueiterator",_,⟨_,MQ _ rfl,rfl⟩,Ow.lookup,?_⟩)
 simpa[N4]using q
theorem DR(hi:s.heap.IsValIter it d i vs.length ep)(x:mZ s.heap d vs ep)(hv:vs[i]?=some v)(q:∀ h',h'.IsValIter it d (i+1) vs.length ep->Oe it s.heap h'->Q (some v) { s with heap:=h' }):MP (MR prog w) A (Ob (.ref it)) Q E s:=by
 obtain⟨o,e1,c1,d1⟩:=id hi;obtain⟨od,es,e2,c2,d2,rfl⟩:=x;unfold Ob;refine MH (N0 (Nz (name:=MN "__next__") hi.typeIs Ow (Ny Ow hi.typeIs QJ ?_ (QG _))));refine MH (MJ ?_);refine MH ?_;refine MH ?_
 first|refine MH (Ox hi.typeIs (MJ ?_))|refine MH (OV hi.typeIs (MJ ?_))
 refine MH (O5 e1 d1 ?_);have own:NI "dict_valueiterator"=false:=by decide
 simp only[own,Bool.false_eq_true,if_false];show MP _ _ (if (Value.ref d == Value.none)=true then _ else _) _ _ s;rw[if_neg (show ¬ ((Value.ref d == Value.none)=true)from Bool.false_ne_true)]
 refine MH (MJ ?_);refine MH (N8 e2 d2 ?_);have z:es.size=(es.toList.map (·.val)).length:=by simp
 rw[if_neg (by rw[z];simp)];refine MH (MJ ?_);refine MH (Op e2 d2 ?_)
 rw[if_neg (by simp)];refine MJ ?_
 have lt:i < es.size:=by
  rw[z];rcases OO i (es.toList.map (·.val)).length with h|h
  ·exact h
  ·rw[Ov h]at hv;cases hv
 have val:es[i].val=v:=by
  rw[Nc]at hv
  simpa[lt]using hv
 simp only[show ¬ ((i:Int) < 0)from by walk_at "o",if_false,Int.toNat_natCast,Array.getElem?_eq_getElem lt];refine MH ?_
 first|refine MH (Ox hi.typeIs (MJ ?_))|refine MH (OV hi.typeIs (MJ ?_))
 refine MH (P9 hi.typeIs ?_);show MP _ _ (Qd (.ref it) 1 (N4 ((i:Int)+1)) >>= _) _ _ s;refine MH (Ou e1 d1 (by simp) ?_)
 have hi':(s.heap.update it (NE (·.setIfInBounds 1 (N4 ((i:Int)+1))))).IsValIter it d (i+1) (es.toList.map (·.val)).length ep:=
  ⟨_,Nx _ e1 (Oo (NP d1 _)),(PL ..).trans c1,by rw[NP d1];simp[N4]⟩
 refine MH (Nf ?_);refine MH (P9 (s:={ s with heap:=s.heap.update it (NE (·.setIfInBounds 1 (N4 ((i:Int)+1)))) }) hi'.typeIs ?_)
 refine MH (P9 (s:={ s with heap:=s.heap.update it (NE (·.setIfInBounds 1 (N4 ((i:Int)+1)))) }) hi'.typeIs ?_);show MP _ _ (pure es[i].val) _ _ _
 exact MJ (MJ ⟨_,rfl,MJ (val ▸ q _ hi' (OS ..))⟩)
theorem FL(hh:A.handled=none)(hi:s.heap.IsValIter it d i vs.length ep)(x:mZ s.heap d vs ep)(hv:vs[i]?=none)(q:∀ h',R5 it s.heap h'->Q none { s with heap:=h' }):MP (MR prog w) A (Ob (.ref it)) Q E s:=by
 obtain⟨o,e1,c1,d1⟩:=id hi;obtain⟨od,es,e2,c2,d2,rfl⟩:=x;unfold Ob;refine MH (N0 (Nz (name:=MN "__next__") hi.typeIs Ow (Ny Ow hi.typeIs QJ ?_ (QG _))));refine MH (MJ ?_);refine MH ?_;refine MH ?_
 first|refine MH (Ox hi.typeIs (MJ ?_))|refine MH (OV hi.typeIs (MJ ?_))
 refine MH (O5 e1 d1 ?_);have own:NI "dict_valueiterator"=false:=by decide
 simp only[own,Bool.false_eq_true,if_false];show MP _ _ (if (Value.ref d == Value.none)=true then _ else _) _ _ s;rw[if_neg (show ¬ ((Value.ref d == Value.none)=true)from Bool.false_ne_true)]
 refine MH (MJ ?_);refine MH (N8 e2 d2 ?_);have z:es.size=(es.toList.map (·.val)).length:=by simp
 rw[if_neg (by rw[z];simp)];refine MH (MJ ?_);refine MH (Op e2 d2 ?_)
 rw[if_neg (by simp)];refine MJ ?_
 have ge:es.size<=i:=by rw[z];simpa using hv
 simp only[show ¬ ((i:Int) < 0)from by walk_at "o",if_false,Int.toNat_natCast,Array.getElem?_eq_none ge];refine MH ?_
 first|refine MH (Ox hi.typeIs (MJ ?_))|refine MH (OV hi.typeIs (MJ ?_))
 show MP _ _ (Qd (.ref it) 0 .none >>= _) _ _ s;refine MH (Ou e1 d1 (by simp) ?_)
 show MP _ _ (RA (.type "StopIteration") [] >>= _) _ _ _;refine MH ?_
 simp only[RA,newTuple];refine MH (Nd ?_ (by size_fits))
 refine MH (m:=O7 _ _) (RW (a:=Value.none) (by first|rfl|(simp only[O7];rfl)) ?_);refine Nd ?_ (by size_fits)
 simp only[raiseNew];refine MH (Rg ?_);rw[show A.in1.handled=none from hh]
 refine MH (MJ (RV ?_));refine MH (Pc (T:="StopIteration") (b:=true) ⟨_,MQ _ rfl,rfl⟩ Qe ?_);exact MJ (q _ (((OS ..).extBut.push _).push _))
theorem DP(hh:A.handled=none)(hne:d≠it):Walks prog w A it [it,d] [it] vs.length (fun i v=>vs[i]?=some v) (fun i h=>h.IsValIter it d i vs.length ep/\mZ h d vs ep) where
 sub:=fun b hb=>by rw[Qt.mp hb];exact MZ
 frame:=fun _ _ _ t k=>⟨t.1.at fun o e=>k it MZ o e,t.2.stay fun o e=>k d (MW _ MZ) o e⟩
 item:=fun i s Q E hi t q=>by
  obtain⟨v,hv⟩:∃ v,vs[i]?=some v:=⟨vs[i],by simp[hi]⟩
  refine DR t.1 t.2 hv fun h' a b=>?_;exact q v h' s.toks hv ⟨a,t.2.stay fun o e=>b.extBut d o hne e⟩ fun c o hc e=>b.extBut c o (fun z=>hc (by rw[z];exact MZ)) e
 done:=fun s Q E t q=>FL hh t.1 t.2 (by simp) fun h' b=>q h' s.toks fun c o hc e=>b c o (fun z=>hc (by rw[z];exact MZ)) e
 self:=fun _ _ _ _ t q=>wpAny_pyIter_valiter t.1 q
theorem FK:KdlSrc prog w "dict_values" r d vs.length (fun i v=>vs[i]?=some v) (fun h=>h.IsValuesView r d/\mZ h d vs ep) where
 type:=fun _ x=>x.1.typeIs
 there:=fun _ x=>⟨let ⟨_,e,_⟩:=x.1;MS e,x.2.there⟩
 keep:=fun _ _ x k=>⟨let ⟨o,e,z⟩:=x.1;⟨o,k r (.inl rfl) o e,z⟩,x.2.stay fun o e=>k d (.inr rfl) o e⟩
 notList:=by decide
 notTuple:=by decide
 hint:=fun _ _ _ _ x q=>kdl_hint_values x.1.typeIs q
 iter:=fun _ _ hh x=>⟨_,_,(fun _ _ q=>DQ x.1 x.2 q),DP hh (Na x.2.there),⟨⟨_,MQ _ rfl,rfl,rfl⟩,x.2.stay fun o e=>MM _ e⟩⟩
end
def XO(a:ML)(o:Obj):HO:=.ext fun h=>h.get? a=some o
theorem Dj(e:h.get? a=some o):bC P w H h a (XO a o):=⟨e,⟨o,e⟩,fun _ _ p k=>k _ p⟩
section
variable{X:Cx}{pins:List (ML×Obj)}{τ:St}{H H0:Hp}{s:MK}{G:Gp}{a:ML}{o:Obj}{u:HO}
theorem hJ(I:Inv X pins τ H s)(e:H a=some (XO a o)):s.heap.get? a=some o:=(show bC X.prog X.w H s.heap a (XO a o)from I.hok a _ e).1
theorem lu(I:Inv X pins τ H s)(ha:s.heap.objs.size=a)(hh:h'=s.heap.push o)(hf:o.isFreed=false:=by rfl):Inv X pins τ (aS H a (XO a o)) { s with heap:=h',toks:=t' }:=by
 subst ha hh;exact I.laid (fun _ _ e=>MM _ e) (le_refl _) (Dj (MQ _ hf))
theorem oA(I:Inv X pins τ H s)(e:H a=some (XO a o))(e':(s.heap.update a f).get? a=some o'):Inv X pins τ (aS H a (XO a o')) { s with heap:=s.heap.update a f,toks:=t' }:=
 I.write (x:=a) (e:=a) (by rw[e];exact trivial) (.inl rfl) (fun b u hb hu=>(M_ s.heap f (Ne.symm hb)).trans hu) ⟨_,e'⟩ (Dj e')
theorem iw{K:Ps}(mu:C8 (H a)):Stb K H (aS H a u) where
 t:=fun b xs q=>by
  rcases q with (q|⟨z,q⟩)|q
  ·exact .inl (.inl (by rw[aq (fun e=>by subst e;rw[q]at mu;exact mu)];exact q))
  ·exact .inl (.inr ⟨z,by rw[aq (fun e=>by subst e;rw[q]at mu;exact mu)];exact q⟩)
  ·exact .inr q
 l:=fun b xs q=>by
  rcases q with ⟨z,q⟩|q
  ·exact .inl ⟨z,by rw[aq (fun e=>by subst e;rw[q]at mu;exact mu)];exact q⟩
  ·exact .inr q
theorem vj{K:Ps}(rg:RG K H G)(g:G a=none)(mu:C8 (H a)):RG K (aS H a u) G:=fun b z q=>by
 obtain⟨h,e1,r⟩:=rg b z q;have hb:b≠a:=fun e=>by subst e;rw[q]at g;cases g
 exact⟨h,by rw[aq hb];exact e1,r.mono (iw mu)⟩
theorem tq(k:Kp G H0 G H)(n:H0 a=none):Kp G H0 G (aS H a u):=fun b h e g=>⟨by rw[aq (bA e n)];exact (k b h e g).1,g⟩
theorem Gs(F:FnOk X.prog X.w X.K X.mg X.base oV k f fd ps (bP X.K sp))(hb:dj X.K fd ps [])(hr:Room k A)(hA:Env0 X.prog X.w X.K X.mg X.base A X.stack s H)(I:Inv X pins τ H s)(rg:RG X.K H G)(rd:RD X.K H d v)(rv:aD v x)(hs:sp [d] G fun z G'=>z=kd/\G'=G)(nf:∀ l,kd≠.fl l)(q:∀ u v' H' s',Inv X pins τ H' s'->Kp G H G H'->RG X.K H' G->RD X.K H' kd v'->aD v' u->Q u s'):MP (MR X.prog X.w) A (call (.ref f) [x]) Q E s:=by
 have sp1:bP X.K sp [v] H (fun v' H'=>Kp G H G H'/\RG X.K H' G/\RD X.K H' kd v') (fun _ _ _=>False):=
  ⟨[d],G,_,RDs.cons rd RDs.nil,rg,hs,fun z G' v' H' e k1 rg1 re=>by obtain⟨rfl,rfl⟩:=e;exact⟨k1,rg1,re.rd nf⟩⟩
 have r2:Vals [v] [x]:=.cons rv .nil;have hl:([x] ++ ([]:List MI)).length=ps.length:=by
  have:=F.len _ _ _ _ sp1
  simpa using this
 refine Pd (Od (F.run A X.stack s H ⟨[x],[]⟩ ([x] ++ []) [v] _ _ hr hA (hb s [x] I.kIn hl) (by simpa using r2) sp1) fun r s' hq=>?_)
 cases r with
 | error e=>exact False.elim hq
 | ok fl=>
  cases fl with
  | ret u=>
   obtain⟨v',H',I',rv',k1,rg1,rd1⟩:=I.after hq;exact q u v' H' s' I' k1 rg1 rd1 rv'
  | next=>exact False.elim hq
  | brk=>exact False.elim hq
  | cont=>exact False.elim hq
end
theorem zj{X:Cx}{pins:List (ML×Obj)}{τ:St}{H0:Hp}{G:Gp}{k:Nat}{f:ML}{fd:NR}{ps:List Str}{sp:cS}{A:M3}{E:MI->MK->Prop}(F:FnOk X.prog X.w X.K X.mg X.base oV k f fd ps (bP X.K sp))(hb:dj X.K fd ps [])(hr:Room k A)
  (hA:∀ {s H},Inv X pins τ H s->Env0 X.prog X.w X.K X.mg X.base A X.stack s H) {S D0:ML} {oD:Obj} (nS:H0 S=none) (nD:H0 D0=none) (gS:G S=none) (gD:G D0=none) (hne:S≠D0)
  {body:MI->PUnit->Sem (ForInStep PUnit)}
  (hbd:∀ x s Q,MP (MR X.prog X.w) A (call (.ref f) [x]) (fun u s'=>MP (MR X.prog X.w) A (Ru (.ref S) (·.push u)) (fun _=>Q (.yield ⟨⟩)) E s') (fun _ _=>False) s->MP (MR X.prog X.w) A (body x ⟨⟩) Q E s):
  ∀ {ds ks:List D} {vs:List V} {us:List MI},ks.length=ds.length->(∀ (i:Nat) d kd,ds[i]?=some d->ks[i]?=some kd->(sp [d] G fun z G'=>z=kd/\G'=G)/\∀ l,kd≠.fl l)->
   ∀ {H:Hp} {s:MK} {done:List D} {kv:List V} {ku:List MI} {n:Nat},Inv X pins τ H s->Kp G H0 G H->RG X.K H G->RDs X.K H ds vs->Vals vs us->H D0=some (XO D0 oD)->H S=some (XO S (NK "list" ku.toArray n))->RDs X.K H done kv->Vals kv ku->ku.length+us.length < 64->
   ∀ {Q:PUnit->MK->Prop},(∀ H' s' kv' ku' n',Inv X pins τ H' s'->Kp G H0 G H'->RG X.K H' G->H' D0=some (XO D0 oD)->H' S=some (XO S (NK "list" ku'.toArray n'))->RDs X.K H' (done ++ ks) kv'->Vals kv' ku'->Stb X.K H H'->Q ⟨⟩ s')->
   MP (MR X.prog X.w) A (forIn us PUnit.unit body) Q E s
 | [],ks,vs,us,hl,hk,H,s,done,kv,ku,n,I,kp,rg,rds,rv,eD,eS,rdk,rvk,hz,Q,q=>by
  rw[rds.inv_nil]at rv;cases rv;rw[PU];have:ks=[]:=List.length_eq_zero_iff.mp (by simpa using hl)
  subst this;exact MJ (q H s kv ku n I kp rg eD eS (by rw[Oc];exact rdk) rvk ⟨fun _ _ z=>z,fun _ _ z=>z⟩)
 | d::ds,[],vs,us,hl,_,_,_,_,_,_,_,_,_,_,_,_,_,_,_,_,_,_,_=>by simp at hl
 | d::ds,kd::ks,vs,us,hl,hk,H,s,done,kv,ku,n,I,kp,rg,rds,rv,eD,eS,rdk,rvk,hz,Q,q=>by
  obtain⟨v,t,e,h1,h2⟩:=rds.inv_cons;subst e;cases rv with
  | @cons _ x _ us l rv=>
   rw[O2];obtain⟨hs,nf⟩:=hk 0 d kd rfl rfl;refine MH (hbd x s _ (Gs F hb hr (hA I) I rg h1 l hs nf fun u v' H' s' I' k1 rg1 rd1 rv1=>?_));have eS':=(k1 S _ eS gS).1;have eD':=(k1 D0 _ eD gD).1;have st1:=k1.stb rg;have oS:=hJ I' eS';simp only[M1]at hz;refine Pk oS rfl ?_ (by rw[MV,Nk];omega) (by rw[Array.size_push,MV,Nk];omega)
   have ea:ku.toArray.push u=(ku ++ [u]).toArray:=by simp
   have e2:=O0 oS (·.push u);rw[ea]at e2;generalize (if ((ku ++ [u]).toArray.size == ku.toArray.size)=true then n else n+1)=n2 at e2
   have mu:C8 (H' S):=by rw[eS'];exact trivial
   have I2:=oA (t':=s'.toks) I' eS' e2;have st2:Stb X.K H' (aS H' S (XO S (NK "list" (ku ++ [u]).toArray n2))):=iw mu;refine zj F hb hr hA nS nD gS gD hne hbd (ds:=ds) (ks:=ks) (by simpa using hl) (fun i d' kd' a b=>hk (i+1) d' kd' (by simpa using a) (by simpa using b)) I2 (tq (kp.trans k1) nS) (vj rg1 gS mu)
    (RDs.mono st2 _ _ (RDs.mono st1 _ _ h2)) rv (by rw[aq hne.symm];exact eD') aB (done:=done ++ [kd]) (kv:=kv ++ [v']) (RDs.append (RDs.mono st2 _ _ (RDs.mono st1 _ _ rdk)) (RDs.cons (RD.mono st2 _ _ rd1) RDs.nil)) (rvk.append (.cons rv1 .nil)) (by simp;omega)
    fun H3 s3 kv3 ku3 n3 I3 kp3 rg3 eD3 eS3 rd3 rv3 st3=>q H3 s3 kv3 ku3 n3 I3 kp3 rg3 eD3 eS3 (by simpa using rd3) rv3 ⟨fun b xs z=>st3.t _ _ (st2.t _ _ (st1.t _ _ z)),fun b xs z=>st3.l _ _ (st2.l _ _ (st1.l _ _ z))⟩
section
variable{X:Cx}{pins:List (ML×Obj)}{τ:St}{H H0:Hp}{s:MK}{G:Gp}
theorem ED(I:L2.Inv X pins τ H s)(hu:A.units+n < ND):
  ∀ {ds es:List D} {xs ys:List V} {us ws:List MI} {i:Nat},(b && i == 0)=false->Jm n (z0 n) ds es->RDs X.K H ds xs->RDs X.K H es ys->Vals xs us->Vals ys ws->ds.length+N2=es.length+N1->Q (cA (h_ n) ds es) s->
   KatLex X.prog X.w A b (decide (N1 < N2)) Q (us.zip ws) i s
 | [],es,xs,ys,us,ws,i,hb,c,r1,r2,w1,w2,hl,q=>by
  rw[r1.inv_nil]at w1;cases w1;rw[List.zip_nil_left];refine kat_nil ?_;cases es with
  | nil=>
   simp only[Nj]at hl;rw[decide_eq_false (by walk_at "o")]
   exact q
  | cons b t=>
   simp only[Nj,M1]at hl;rw[decide_eq_true (by walk_at "o")]
   exact q
 | a::r,[],xs,ys,us,ws,i,hb,c,r1,r2,w1,w2,hl,q=>by
  rw[r2.inv_nil]at w2;cases w2;rw[List.zip_nil_right];refine kat_nil ?_;simp only[Nj,M1]at hl;rw[decide_eq_false (by walk_at "o")]
  exact q
 | a::r,b'::t,xs,ys,us,ws,i,hb,⟨p,c,z⟩,r1,r2,w1,w2,hl,q=>by
  obtain⟨x1,t1,e1,g1,g2⟩:=r1.inv_cons;subst e1;obtain⟨x2,t2,e2,f1,f2⟩:=r2.inv_cons;subst e2;cases w1 with
  | cons k1 w1=>
  cases w2 with
  | cons k2 w2=>
   rw[OU];refine kat_cons ((vK I n p.1 p.2 g1 f1 k1 k2 hu).eq X.prog X.w _ _ (kat_go (fun e=>kat_yes ?_) fun e=>kat_no ?_))
   ·rw[show cA (h_ n) (a::r) (b'::t)=cA (h_ n) r t by simp[cA,e]]at q
    simp only[M1]at hl;exact ED I hu (by simp) z g2 f2 w1 w2 (by walk_at "o") q
   ·rw[show cA (h_ n) (a::r) (b'::t)=h_ n a b' by simp[cA,e]]at q
    rw[hb];refine kat_one _ _ ?_;exact (ID I n (c fun y=>by rw[y,bX]at e;cases e) g1 f1 k1 k2 hu) X.prog X.w _ _ q
def CC(d:D):Prop:=∃ t r,d=.tup (.int t::r)
theorem K4(I:L2.Inv X pins τ H s)(hu:A.units+4 < ND)(cp:z0 4 kx ky)(hx:CC kx)(hy:CC ky)(rx:RD X.K H kx v)(ry:RD X.K H ky u)(lx:aD v v')(ly:aD u u')(q:C (h_ 4 kx ky) s):MP (MR X.prog X.w) A (keyLt' (Sz true) v' u') C E s:=by
 obtain⟨i,r,rfl⟩:=hx;obtain⟨j,t,rfl⟩:=hy;simp only[RD]at rx ry;obtain⟨a,xs,rfl,s1,r1⟩:=rx;obtain⟨b,ys,rfl,s2,r2⟩:=ry;cases lx;cases ly;obtain⟨its,w1,⟨o1,h1,c1,n1,d1⟩,z1⟩:=I.tuple s1;obtain⟨its2,w2,⟨o2,h2,c2,n2,d2⟩,z2⟩:=I.tuple s2;refine kat_lt h1 d1 h2 d2 ?_;have l1:=w1.length;have l1':=r1.length;have l2:=w2.length;have l2':=r2.length;obtain⟨x1,t1,e1,g1,g2⟩:=RDs.inv_cons (d:=.int i) (ds:=r) r1;subst e1;obtain⟨x2,t2,e2,f1,f2⟩:=RDs.inv_cons (d:=.int j) (ds:=t) r2;subst e2;simp only[RD]at g1 f1;subst g1 f1;cases w1 with
 | @cons _ u1 _ m1 k1 w1=>
 cases w2 with
 | @cons _ u2 _ m2 k2 w2=>
  obtain⟨tk,rfl⟩:=k1;obtain⟨tk',rfl⟩:=k2;obtain⟨p,c,z⟩:=(show Jm 3 (z0 3) (.int i::r) (.int j::t)from cp)
  have q':C (cA (h_ 3) (.int i::r) (.int j::t)) s:=q;show KatLex _ _ _ _ _ _ ((_::m1).zip (_::m2)) 0 s
  rw[OU];refine kat_cons ((vK I 3 (x:=.int i) (y:=.int j) (v:=.int i) (u:=.int j) p.1 p.2 ef ef ⟨tk,rfl⟩ ⟨tk',rfl⟩ (by walk_at "o")).eq X.prog X.w _ _ (kat_go (fun e=>kat_yes ?_) fun e=>kat_no ?_))
  ·rw[show cA (h_ 3) (.int i::r) (.int j::t)=cA (h_ 3) r t by simp[cA,e]]at q'
   simp only[M1]at l1 l1' l2 l2';exact ED I (by walk_at "o") (by simp) z g2 f2 w1 w2 (by simp only[MV,M1];omega) q'
  ·rw[show cA (h_ 3) (.int i::r) (.int j::t)=h_ 3 (.int i) (.int j)by simp[cA,e]]at q'
   show MP _ _ (oneLt' true _ _) _ _ _
   exact oneLt_int q'
theorem IQ(I:L2.Inv X pins τ H s)(hk:∀ d∈ks,CC d)(r:RDs X.K H ks kv)(w:Vals kv ku)(hn:0 < ks.length)(q:Q (Sz true) s):
  MP (MR X.prog X.w) A (keyKind' ku.toArray) Q E s:=by
 have go:∀ {ks:List D} {kv:List V} {ku:List MI},(∀ d∈ks,CC d)->RDs X.K H ks kv->Vals kv ku->∃ fs,KatTups s.heap ku fs/\fs.length=ks.length/\∀ v∈fs,∃ i t,v=Value.int i t:=by
  intro ks
  induction ks with
  | nil=>
   intro kv ku _ r w;rw[r.inv_nil]at w;cases w;exact⟨[],KatTups.nil,rfl,fun v hv=>by simp at hv⟩
  | cons d t ih=>
   intro kv ku hk r w;obtain⟨x1,t1,e1,g1,g2⟩:=r.inv_cons;subst e1;cases w with
   | cons k1 w=>
    obtain⟨fs,h1,h2,h3⟩:=ih (fun d hd=>hk d (MW _ hd)) g2 w;obtain⟨i,rr,rfl⟩:=hk d MZ;simp only[RD]at g1;obtain⟨a,xs,rfl,s1,r1⟩:=g1;cases k1;obtain⟨its,w1,⟨o1,e1,c1,n1,d1⟩,z1⟩:=I.tuple s1;obtain⟨y1,u1,e2,g3,_⟩:=RDs.inv_cons (d:=.int i) (ds:=rr) r1;subst e2;simp only[RD]at g3;subst g3;cases w1 with
    | cons k2 w1=>
     obtain⟨tk,rfl⟩:=k2;refine⟨.int i tk::fs,KatTups.cons e1 c1 d1 (by simp) h1,by simp[h2],fun v hv=>?_⟩
     rcases Nr.mp hv with rfl|hv
     ·exact⟨i,tk,rfl⟩
     ·exact h3 v hv
 obtain⟨fs,h1,h2,h3⟩:=go hk r w;refine kat_kind (T:=.type "int") h1 (by walk_at "o") (fun v hv=>?_) (by decide) ?_
 ·obtain⟨i,t,rfl⟩:=h3 v hv;exact Looks.of_pure rfl
 ·rw[show (Value.type "int" != Value.type "tuple")=true by decide]
  exact q
end
section
variable{X:Cx}{pins:List (ML×Obj)}{τ:St}{H H0:Hp}{s:MK}{G:Gp}{S D0:ML}{A:M3}{E:MI->MK->Prop}{P:PySem.Fin->MK->Prop}
theorem xT(I:L2.Inv X pins τ H s)(rg:RG X.K H G)(kp:Kp G H0 G H)(nS:H0 S=none)(nD:H0 D0=none)(gS:G S=none)(gD:G D0=none)(hne:S≠D0){e1 n:Nat}{ku out:List MI}{ov:List V}{st:SortSt}
  (eD:H D0=some (XO D0 (NK "list" #[] e1))) (eS:H S=some (XO S (NK "list" ku.toArray n))) (hz:ku.length < 64) (ho:(arrOf st).map (·.2)=out.toArray) (hf:Rc st=none) (hv:Vals ov out) (hl:out.length < 64)
  (q:∀ H' s',L2.Inv X pins τ H' s'->Kp G H0 G H'->RG X.K H' G->H' D0=some (.lst ov)->Stb X.K H H'->P (.done (.ret .none)) s'):MP (MR X.prog X.w) A (ksk_tail D0 false e1 (.ref S) st) P E s:=by
 unfold ksk_tail;dsimp only;rw[ho];simp only[Bool.false_eq_true,if_false];have oS:=hJ I eS;have e2:=O0 oS (fun _=>(#[]:Array MI));have mu:C8 (H S):=by rw[eS];exact trivial
 have I1:=oA (t':=s.toks) I eS e2;have eD1:(aS H S (XO S (NK "list" #[] (if ((#[]:Array MI).size == ku.toArray.size)=true then n else n+1)))) D0=some (XO D0 (NK "list" #[] e1)):=by rw[aq hne.symm];exact eD
 have oD:=hJ I1 eD1;have mu2:C8 ((aS H S (XO S (NK "list" #[] (if ((#[]:Array MI).size == ku.toArray.size)=true then n else n+1)))) D0):=by rw[eD1];exact trivial
 have e3:=O0 oD (fun _=>out.toArray);refine MH (Pk oS rfl ?_ (by rw[MV,Nk];omega) (NC _))
 refine MH (Qb ?_);refine MH (QS oD rfl ?_);refine MH (Pk oD rfl ?_ (NC _) (by rw[MV,Nk];omega))
 rw[hf];simp only[bne_self_eq_false,Bool.false_eq_true,if_false];have I2:=I1.write (x:=D0) (e:=D0) (o:=.lst ov) (t':=s.toks) mu2 (.inl rfl) (fun b u hb hu=>(M_ _ (NB fun _=>out.toArray) (Ne.symm hb)).trans hu) ⟨_,e3⟩ ⟨by rw[hv.length,Nk];omega,out,_,hv,e3⟩
 refine MJ (q _ _ I2 (tq (tq kp nS) nD) (vj (vj rg gS mu) gD mu2) aB ?_);exact⟨fun b xs z=>(iw mu2).t _ _ ((iw mu).t _ _ z),fun b xs z=>(iw mu2).l _ _ ((iw mu).l _ _ z)⟩
theorem CM(w:Vals vs us)(i:Nat)(hi:i < vs.length):aD (vs.getD i .non) (us.getD i .none):=by
 have hl:=w.length;obtain⟨v,e,r⟩:=Vals.getV (i:=i) (u:=us[i]'(by walk_at "o")) w (by simp)
 rw[M4,M4,e,MX (by walk_at "o")]
 exact r
theorem sP(w:Vals vs us):∀ {p:List Nat},(∀ i∈p,i < vs.length)->Vals (p.map fun i=>vs.getD i .non) (p.map fun i=>us.getD i .none)
 | [],_=>.nil
 | i::r,h=>.cons (CM w i (h i MZ)) (sP w fun j hj=>h j (MW _ hj))
theorem EL{K:Ps}{ds:List D}{vs:List V}(r:RDs K H ds vs)(i:Nat)(hi:i < vs.length):RD K H (ds.getD i .non) (vs.getD i .non):=by
 obtain⟨d,e,q⟩:=RDs.getV (i:=i) r (MX hi);rw[M4,M4,e,MX hi];exact q
theorem wS{K:Ps}{ds:List D}{vs:List V}(r:RDs K H ds vs):∀ {p:List Nat},(∀ i∈p,i < vs.length)->RDs K H (p.map fun i=>ds.getD i .non) (p.map fun i=>vs.getD i .non)
 | [],_=>RDs.nil
 | i::t,h=>RDs.cons (EL r i (h i MZ)) (wS r fun j hj=>h j (MW _ hj))
theorem range_getD{α:Type}(l:List α)(d:α):(List.range l.length).map (fun i=>l.getD i d)=l:=by
 refine List.ext_getElem (by simp) fun i h1 h2=>?_
 simp[h2]
theorem GF(I:L2.Inv X pins τ H s)(rg:RG X.K H G)(kp:Kp G H0 G H)(nS:H0 S=none)(nD:H0 D0=none)(gS:G S=none)(gD:G D0=none)(hne:S≠D0)(eD:H D0=some (XO D0 (NK "list" #[] e1)))(eS:H S=some (XO S (NK "list" ku.toArray n)))(rk:RDs X.K H ks kv)(wk:Vals kv ku)(wv:Vals vs us)(hl:ku.length=us.length)(hz:us.length < 64)(hu:A.units+4 < ND)(hk:∀ d∈ks,CC d)(hc:∀ a∈ks,∀ b∈ks,z0 4 a b)(r:Nat->Nat)(hr:∀ i j a b,ks[i]?=some a->ks[j]?=some b->h_ 4 a b=decide (r i < r j))(q:∀ (p:List Nat) H' s',p.Perm (List.range us.length)->(p.map r).Pairwise (·<=·)->L2.Inv X pins τ H' s'->Kp G H0 G H'->RG X.K H' G->H' D0=some (.lst (p.map fun i=>vs.getD i .non))->Stb X.K H H'->P (.done (.ret .none)) s'):
  MP (MR X.prog X.w) A (ksk_end D0 false us.toArray e1 (.ref S) ku.toArray) P E s:=by
 have lk:=wk.length;have lk':=rk.length;have lv:=wv.length;unfold ksk_end;dsimp only;simp only[Bool.false_eq_true,if_false]
 by_cases h2:us.length < 2
 ·have hs:us.toArray.size < 2:=by rw[MV];exact h2
  rw[if_pos hs,if_pos hs];refine MH (MJ ?_);refine MH (MJ ?_);refine xT I rg kp nS nD gS gD hne eD eS (by walk_at "o") (out:=us) (ov:=vs) (st:=SortSt.mk' general' (ku.toArray.zip us.toArray) #[] 7 none) ?_ rfl wv hz fun H' s' I' kp' rg' e' st'=>?_
  ·apply Array.toList_inj.mp;show ((ku.toArray.zip us.toArray).map (·.2)).toList=_
   rw[Array.toList_map,ksk_zip];simp[List.map_snd_zip,hl]
  ·refine q (List.range us.length) H' s' (List.Perm.refl _) ?_ I' kp' rg' (by rw[<- lv,range_getD];exact e') st'
   have:us.length=0\/us.length=1:=by walk_at "o"
   rcases this with e|e<;>rw[e]<;>simp[List.range_succ]
 ·have hs:¬ us.toArray.size < 2:=by rw[MV];exact h2
  rw[if_neg hs,if_neg hs];obtain⟨p,ep,hp,adj⟩:=Bq r us.length (by walk_at "o")
  refine MH (IQ I hk rk wk (by walk_at "o") ?_)
  refine MH (Nh (kat_run (Q:=fun st' s'=>∃ p':Array Nat,arrOf st'=p'.map (kas_item (ku.toArray.zip us.toArray))/\Rc st'=none/\s'=s/\p'=p) hl (by walk_at "o") hz (G:=fun p' s'=>s'=s/\p'=p)
   (fun p' st' s' a1 a2 a3 a4=>⟨p',a2,a3,a4.1,a4.2⟩) ?_) ?_ fun _ _ x=>x)
  ·refine KasT.walked (lt:=lC r) (J:=fun s'=>s'=s) (fun i j C s' hi hj e c=>?_) _ s (Br (by walk_at "o")) rfl fun s' e _=>⟨e,ep⟩
   subst e;unfold kas_ask;obtain⟨v1,f1,g1⟩:=Vals.getV (i:=i) (u:=ku[i]'(by walk_at "o")) wk (by simp)
   obtain⟨v2,f2,g2⟩:=Vals.getV (i:=j) (u:=ku[j]'(by walk_at "o")) wk (by simp)
   obtain⟨d1,b1,c1⟩:=RDs.getV rk f1;obtain⟨d2,b2,c2⟩:=RDs.getV rk f2;have m1:=M6 b1;have m2:=M6 b2;rw[show ku.getD i Value.none=ku[i]'(by walk_at "o")by simp[show i < ku.length by walk_at "o"],show ku.getD j Value.none=ku[j]'(by walk_at "o")by simp[show j < ku.length by walk_at "o"]]
   refine K4 I hu (hc _ m1 _ m2) (hk _ m1) (hk _ m2) c1 c2 g1 g2 ?_;rw[hr i j d1 d2 b1 b2];exact c _ rfl
  ·rintro⟨⟨⟩,st'⟩ s' ⟨p',har,hf,rfl,rfl⟩
   dsimp only;have lp:p'.toList.length=us.length:=by rw[hp.length_eq,List.length_range]
   have inr:∀ i∈p'.toList,i < us.length:=fun i hi=>mem_range.mp (hp.mem_iff.mp hi);refine xT I rg kp nS nD gS gD hne eD eS (by walk_at "o") (out:=p'.toList.map fun i=>us.getD i Value.none) (ov:=p'.toList.map fun i=>vs.getD i .non) (kat_snds hl har) hf (sP wv fun i hi=>by rw[lv];exact inr i hi) (by rw[MO,lp];exact hz) fun H' s' I' kp' rg' e' st'=>?_
   refine q p'.toList H' s' hp ?_ I' kp' rg' e' st';rw[Pt,List.pairwise_iff_getElem];intro i j hi hj hij;have h:=adj.le (le_of_lt hij) (by walk_at "o")
   unfold RR at h;have gi:p'.getD i 0=p'.toList[i]:=by
    have:i < p'.size:=by simpa using hi
    simp[Array.getD,this]
   have gj:p'.getD j 0=p'.toList[j]:=by
    have:j < p'.size:=by simpa using hj
    simp[Array.getD,this]
   rw[gi,gj]at h;exact h
end
structure SortBy(sp:cS)(G:Gp)(ds:List D)(ks:List D)(r:Nat->Nat):Prop where
 few:ds.length < 64
 len:ks.length=ds.length
 key:∀ (i:Nat) d kd,ds[i]?=some d->ks[i]?=some kd->sp [d] G fun z G'=>z=kd/\G'=G
 ki:∀ d∈ks,CC d
 cp:∀ a∈ks,∀ b∈ks,z0 4 a b
 lt:∀ i j a b,ks[i]?=some a->ks[j]?=some b->h_ 4 a b=decide (r i < r j)
section
variable{X:Cx}{pins:List (ML×Obj)}{τ:St}{H H0:Hp}{s:MK}{G:Gp}{S D0:ML}{A:M3}{E:MI->MK->Prop}{P:PySem.Fin->MK->Prop}
 {k:Nat} {f:ML} {fd:NR} {ps:List Str} {sp:cS} {ds ks:List D} {r:Nat->Nat} {vs:List V} {us:List MI}
theorem DL(F:FnOk X.prog X.w X.K X.mg X.base oV k f fd ps (bP X.K sp))(hb:dj X.K fd ps [])(hr:Room k A)(hA:∀ {s H},L2.Inv X pins τ H s->Env0 X.prog X.w X.K X.mg X.base A X.stack s H)(sb:SortBy sp G ds ks r)(hu:A.units+4 < ND)(I:L2.Inv X pins τ H s)(rg:RG X.K H G)(kp:Kp G H0 G H)(nS:H0 S=none)(nD:H0 D0=none)(gS:G S=none)(gD:G D0=none)(hne:S≠D0)(eD:H D0=some (XO D0 (NK "list" #[] e1)))(eS:H S=some (XO S (NK "list" #[] 0)))(rd:RDs X.K H ds vs)(wv:Vals vs us)(q:∀ (p:List Nat) H' s',p.Perm (List.range ds.length)->(p.map r).Pairwise (·<=·)->L2.Inv X pins τ H' s'->Kp G H0 G H'->RG X.K H' G->H' D0=some (.lst (p.map fun i=>vs.getD i .non))->Stb X.K H H'->P (.done (.ret .none)) s'):
  MP (MR X.prog X.w) A (ksk_rest D0 (.ref f) false us.toArray e1 (.ref S)) P E s:=by
 have l1:=rd.length;have l2:=wv.length;have few:=sb.few;unfold ksk_rest;refine MH (PX ?_)
 first
  | rw[List.forIn_toArray]
  | (rw[<- Array.forIn_toList];simp only[List.toList_toArray])
  | rw[<- Array.forIn_toList]
 refine MH (zj F hb hr hA nS nD gS gD hne (fun x s' Q' h=>?_) sb.len (fun i d kd a b=>⟨sb.key i d kd a b,fun l e=>?_⟩) I kp rg rd wv eD (ku:=[]) (n:=0) (done:=[]) (kv:=[]) eS RDs.nil .nil (by simp only[Nj];omega)
  fun H' s' kv' ku' n' I' kp' rg' eD' eS' rk wk st=>?_)
 ·refine MH (N0 (Nh h (fun u s'' hu'=>?_) fun _ _ hF=>hF.elim));dsimp only;exact MH (Nh hu' (fun _ s3 hq=>MJ hq) fun _ _ x=>x)
 ·obtain⟨t,rr,e2⟩:=sb.ki kd (M6 b);rw[e2]at e;cases e
 ·have l3:=rk.length;have l4:=wk.length;have sl:=sb.len;simp only[OM]at rk l3;refine MH (RB (hJ I' eS') rfl ?_);refine GF I' rg' kp' nS nD gS gD hne eD' eS' rk wk wv (by walk_at "o") (by walk_at "o") hu sb.ki sb.cp r sb.lt fun p H'' s'' hp hs I'' Uk Ue e'' st''=>?_
  refine q p H'' s'' (by rw[show ds.length=us.length by walk_at "o"];exact hp) hs I'' Uk Ue e'' ⟨fun b xs z=>st''.t _ _ (st.t _ _ z),fun b xs z=>st''.l _ _ (st.l _ _ z)⟩
theorem Ds(F:FnOk X.prog X.w X.K X.mg X.base oV k f fd ps (bP X.K sp))(hb:dj X.K fd ps [])(hr:Room k A)(hA:∀ {s H},L2.Inv X pins τ H s->Env0 X.prog X.w X.K X.mg X.base A X.stack s H)(sb:SortBy sp G ds ks r)(hu:A.units+4 < ND)(I:L2.Inv X pins τ H s)(rg:RG X.K H G)(kp:Kp G H0 G H)(h0:∀ a,H a=none->H0 a=none)(nD:H0 D0=none)(gD:G D0=none)(eD:H D0=some (XO D0 (NK "list" us.toArray n)))(rd:RDs X.K H ds vs)(wv:Vals vs us)(q:∀ (p:List Nat) H' s',p.Perm (List.range ds.length)->(p.map r).Pairwise (·<=·)->L2.Inv X pins τ H' s'->Kp G H0 G H'->RG X.K H' G->H' D0=some (.lst (p.map fun i=>vs.getD i .non))->Stb X.K H H'->P (.done (.ret .none)) s'):
  MP (MR X.prog X.w) A (ksk_tree D0 (.ref f) false) P E s:=by
 have l1:=rd.length;have l2:=wv.length;have few:=sb.few;have oD:=hJ I eD;have mu:C8 (H D0):=by rw[eD];exact trivial
 have e2:=O0 oD (fun _=>(#[]:Array MI));generalize (if ((#[]:Array MI).size == us.toArray.size)=true then n else n+1)=e1 at e2
 have I1:=oA (t':=s.toks) I eD e2;unfold ksk_tree;refine MH (RB oD rfl ?_);refine MH (Pk oD rfl ?_ (by rw[MV,Nk];omega) (NC _))
 refine MH (QS e2 rfl ?_);refine MH (Pu ?_ (by show us.length<=_;rw[Nk];omega))
 refine MH (Qs ?_ (NC _));refine Nf ?_;have I2:L2.Inv X pins τ _ { s with heap:=(s.heap.update D0 (NB fun _=>#[])).push { cls:=.type "tuple",data:=.seq us.toArray } }:=I1.kept (t':=s.toks) fun b u e=>MM _ e
 have fS:=I2.fresh;have I3:=lu (t':=s.toks) (o:=NK "list" #[] 0) I2 rfl rfl;have hS0:H ((s.heap.update D0 (NB fun _=>(#[]:Array MI))).push { cls:=.type "tuple",data:=.seq us.toArray }).objs.size=none:=by
  by_cases e:((s.heap.update D0 (NB fun _=>(#[]:Array MI))).push { cls:=.type "tuple",data:=.seq us.toArray }).objs.size=D0
  ·rw[e]at fS;rw[aB]at fS;cases fS
  ·rw[aq e]at fS;exact fS
 have hne:((s.heap.update D0 (NB fun _=>(#[]:Array MI))).push { cls:=.type "tuple",data:=.seq us.toArray }).objs.size≠D0:=fun e=>by rw[e,eD]at hS0;cases hS0
 have rg1:RG X.K (aS H D0 (XO D0 (NK "list" #[] e1))) G:=vj rg gD mu;have st1:Stb X.K H (aS H D0 (XO D0 (NK "list" #[] e1))):=iw mu;have st2:Stb X.K (aS H D0 (XO D0 (NK "list" #[] e1))) (aS (aS H D0 (XO D0 (NK "list" #[] e1))) ((s.heap.update D0 (NB fun _=>(#[]:Array MI))).push { cls:=.type "tuple",data:=.seq us.toArray }).objs.size (XO ((s.heap.update D0 (NB fun _=>(#[]:Array MI))).push { cls:=.type "tuple",data:=.seq us.toArray }).objs.size (NK "list" #[] 0))):=(Kp.laid (G:=G) fS).stb rg1;refine DL F hb hr hA sb hu I3 (rg1.laid fS) (tq (tq kp nD) (h0 _ hS0)) (h0 _ hS0) nD (rg.free hS0) gD hne (by rw[aq hne.symm,aB]) aB (RDs.mono st2 _ _ (RDs.mono st1 _ _ rd)) wv fun p H' s' hp hs I' kp' rg' e' st'=>?_
 exact q p H' s' hp hs I' kp' rg' e' ⟨fun b xs z=>st'.t _ _ (st2.t _ _ (st1.t _ _ z)),fun b xs z=>st'.l _ _ (st2.l _ _ (st1.l _ _ z))⟩
theorem Ak(F:FnOk X.prog X.w X.K X.mg X.base oV k f fd ps (bP X.K sp))(hb:dj X.K fd ps [])(hr:Room (k+2) X.A)(sb:SortBy sp G ds ks r)(hu:X.A.units+8 < ND)(hh:X.A.handled=none)(I:L2.Inv X pins τ H s)(rg:RG X.K H G)(hv:s.heap.IsValuesView vw d)(dr:mZ s.heap d us ep)(rd:RDs X.K H ds vs)(wv:Vals vs us)(q:∀ (p:List Nat) D0 H' s',p.Perm (List.range ds.length)->(p.map r).Pairwise (·<=·)->L2.Inv X pins τ H' s'->Kp G H G H'->RG X.K H' G->H D0=none->H' D0=some (.lst (p.map fun i=>vs.getD i .non))->RDs X.K H' (p.map fun i=>ds.getD i .non) (p.map fun i=>vs.getD i .non)->Q (.ref D0) s'):
  MP (MR X.prog X.w) X.A (call (.builtin "sorted") [.ref vw] [(MN "key",.ref f)]) Q E s:=by
 have l1:=rd.length;have l2:=wv.length;have few:=sb.few;refine call_function_entry_kw kind_sorted plain_sorted entry_sorted (ksk_s1 _ _) ?_;unfold Builtin.«sorted»;refine MH (m:=checkCount "sorted" 1 1 _) (MJ ?_);refine MH (kdu_collect (A:=X.A.in1) (FK (r:=vw) (d:=d) (vs:=us) (ep:=ep)) hh ⟨hv,dr⟩ (by rw[Nk];omega) fun h' tk acc hk hacc=>?_)
 have ea:acc.toList=us:=by
  refine List.ext_getElem? fun i=>?_;rcases OO i acc.size with h|h
  ·have e:acc[i]?=some acc[i]:=by simp[h]
   have:=hacc.2 i _ e;rw[this];simp[h]
  ·rw[Ov (by simpa using h),Ov (by rw[<- hacc.1];exact h)]
 rw[ea];have I1:L2.Inv X pins τ H { s with heap:=h',toks:=tk }:=I.kept hk
 refine MH (Qs ?_ (by rw[Nk];omega))
 have fD:=I1.fresh;have I2:=lu (t':=tk) (o:=NK "list" us.toArray 0) I1 rfl rfl;have st:Stb X.K H (aS H h'.objs.size (XO h'.objs.size (NK "list" us.toArray 0))):=(Kp.laid (G:=G) fD).stb rg;refine MH (Nf (wpAny_call_entry_kw slot_list_sort ⟨_,hJ I2 aB,rfl⟩ entry_list_sort ?_ (ksk_l1 _ _)));rw[ksk_t1];refine Ds F hb (hr.in1.in1) (fun J=>J.env0.in1.in1) sb (by show X.A.units+1+1+4 < ND;omega) I2 (rg.laid fD) (Kp.laid fD) (fun a e=>?_) fD (rg.free fD) aB (RDs.mono st _ _ rd) wv fun p H' s' hp hs I' kp' rg' e' st'=>⟨_,rfl,?_⟩
 ·by_cases h:a=h'.objs.size
  ·subst h;exact fD
  ·rw[aq h]at e;exact e
 ·refine MJ ⟨_,rfl,q p _ H' s' hp hs I' kp' rg' fD e' (wS (RDs.mono st' _ _ (RDs.mono st _ _ rd)) fun i hi=>?_)⟩;rw[<- l1];exact mem_range.mp (hp.mem_iff.mp hi)
end
def AY(sp:cS)(to:aZ):aZ:=fun σ G Q=>to σ G fun x G1=>match val x with
 | .ref a=>match G1 a with
  | some (.dT _ kvs)=>∃ ks r,SortBy sp G1 (kvs.map (·.2)) ks r/\∀ p:List Nat,p.Perm (List.range (kvs.map (·.2)).length)->(p.map r).Pairwise (·<=·)->Q (.fl (p.map fun i=>(kvs.map (·.2)).getD i .non)) G1
  | _=>False
 | _=>False
theorem DI{K:Ps}{H:Hp}{kvs:List (List aE×D)}{xs:List (List aE×ML×MI)}(r:oX K H kvs xs):∃ vs,RDs K H (kvs.map (·.2)) vs/\Vals vs (xs.map (·.2.2)):=by
 unfold oX at r
 induction r with
 | nil=>exact⟨[],RDs.nil,.nil⟩
 | cons h _ ih=>
  obtain⟨_,_,v,h1,h2⟩:=h;obtain⟨vs,a,b⟩:=ih;exact⟨v::vs,RDs.cons h1 a,.cons h2 b⟩
theorem F5{X:Cx}{k:Nat}{f:Str}{sp:cS}{o:M9}{to:aZ}{p0 apos cpos np Uj pos:Pos}(F:Fn3 X.prog X.w X.K X.mg X.base k f [] sp)(hr:Room (k+2) X.A)(hc:X.calm=true)(hgf:Gl X f)(hg:Gl X "sorted")(hm:X.mg "sorted"=none)(ho:PE X o (az X.K to))
  (SQ:Oi o "values" X.env (eval o X.env)=eval o X.env:=by rfl) (SW:(apos.endLine == cpos.line)=true:=by rfl) (hdf:(f == ("__debug__":Str))=false:=by decide):
  PE X (.Call (.Name "sorted" p0) [.Call (.Attribute o "values" apos) [] [] cpos] [⟨some "key",.Name f np,Uj⟩] pos) (az X.K (AY sp to)):=by
 obtain⟨fa,fd,ps,dv,dvs,ok,hmf,_,hb,hv0,hd0⟩:=F.ex;have e0:dvs=[]:=(hd0 (fun _=>none)).inv_nil;subst e0;cases hv0;have hu:=hr.units
 rintro pins s τ H Q I ⟨σ,G,Q3,rs,rg,h,kf⟩
 refine NY (g_ I hg hm (u:=.builtin "sorted") (by decide +kernel) ?_ (by decide) (by decide))
 refine callWith_kw (id:="sorted") ?_;show MP _ _ (spliced [(false,eval (.Call (.Attribute o "values" apos) [] [] cpos) X.env)]) _ _ _
 refine On (Rl SQ SW (bZ (dB ho I rs rg h) fun ov s1 zz=>?_));obtain⟨ox,H1,I1,rox,x,G1,q1,k1,rg1,rd1⟩:=zz;split at q1
 ·rename_i a hx;rw[hx]at rd1;simp only[RD]at rd1;subst rd1;cases rox;split at q1
  ·rename_i hw kvs hga;obtain⟨ks,r,sb,q1⟩:=q1;obtain⟨hob,eo,ro⟩:=rg1 a _ hga;cases hob with
   | ext φ=>
    obtain⟨xs,rfl,rt,nd,hz⟩:=ro;obtain⟨hsm,o1,es,ep,g1,g2,g3,g4⟩:=(show bC X.prog X.w H1 s1.heap a (.ext (xL hw a xs))from I1.hok a _ eo).1
    obtain⟨vs,rv,wv⟩:=DI rt;have dr:mZ s1.heap a (xs.map (·.2.2)) ep:=⟨o1,es,g1,g2,g3,by rw[g4,NH];rfl⟩
    refine⟨"dict","dict.values",PySem.F.plainAttrs_dict,PySem.F.slot_dict_values,PySem.F.type_dict_values,dr.ty,fun b e=>?_,?_⟩
    ·cases e;exact⟨o1,g1,g2.2.1⟩
    ·refine O_ rfl (PySem.evalArgs_none (P6 PySem.F.slot_dict_values dr.ty PySem.F.entry_dict_values (PySem.F.args_dict_values_1 _) (At hsm) ⟨⟨_,ep,dr⟩,?_⟩));refine OK ?_;have I2:L2.Inv X pins τ H1 { s1 with heap:=s1.heap.push { cls:=.type "dict_values",data:=.fields #[.ref a] } }:=I1.kept (t':=s1.toks) fun b u e=>MM _ e
     show MP _ _ (evalAll [(do let v <- eval (.Name f np) X.env;Ph pos;pure v)]) _ _ _
     refine wpAny_evalAll_cons (MH (jr I2 hgf hmf (MH (Pg (MJ (wpAny_evalAll_nil ?_)))) hdf));show MP _ _ (call (.builtin "sorted") [.ref s1.heap.objs.size] [(MN "key",.ref fa)]) _ _ _
     refine Ak ok hb hr sb (by walk_at "o") (I.ok.hd hc) I2 rg1 (ep:=ep) ⟨_,MQ _ rfl,rfl,rfl⟩ (dr.stay fun b e=>MM _ e) rv wv fun p D0 H' s' hp hs I' kp' rg' n0 e' rd'=>?_
     exact⟨.ref D0,H',I',rfl,kf _ G1 _ H' (q1 p hp hs) (k1.trans kp') rg' (.inl ⟨_,D0,_,rfl,rfl,e',rg1.free n0,rd',k1.fr (oE n0)⟩)⟩
   | _=>exact ro.elim
  ·exact q1.elim
 ·exact q1.elim
def KC(te:aZ):aZ:=fun σ G Q=>te σ G fun x G1=>match tY G1 (val x) with
 | some ds=>Q (.fl ds.reverse) G1
 | none=>False
def Jj(to:aZ):aZ:=fun σ G Q=>to σ G fun x G1=>match x with
 | .ref a=>match G1 a with
  | some (.lst _)=>Q .non (gset G1 a (.lst []))
  | _=>False
 | _=>False
def J_{α:Type}(xs:List α)(lo hi st:Option Int):List α:=
 (Sj (Oz lo hi st xs.length).1 (Oz lo hi st xs.length).2.1 (Oz lo hi st xs.length).2.2).filterMap (xs[·]?)
def KB(te:aZ)(tl th ts:JC):aZ:=fun σ G Q=>te σ G fun x G1=>tl σ G1 fun l G2=>th σ G2 fun u G3=>ts σ G3 fun st G4=>st≠some 0/\match tY G4 (val x) with
 | some ds=>Q (.fl (J_ ds l u st)) G4
 | none=>False
def lF(K:Ps)(mg:Str->Option MI)(x:Str)(d:D):Prop:=∃ u v,mg x=some u/\aD v u/\∀ H,RD K H d v
theorem f8(hg:Gl X x)(h:lF X.K X.mg x d)(hd:(x == ("__debug__":Str))=false:=by decide):PE X (.Name x pos) (az X.K (eC d)):=by
 obtain⟨u,v,hm,r,rd⟩:=h;exact wJ hg hm r rd hd
theorem CV{K:Ps}{mg:Str->Option MI}{x:Str}{ds:List D}{vs:List V}{its:Array MI}{a:ML}{n:Nat}{sl:Array (Option MI)}(hm:mg x=some (.ref a))(hl:K.lookup a=some ⟨.type "tuple",none,.seq its n,sl⟩)
  (hz:its.size<=MT) (w:Vals vs its.toList) (r:∀ H,RDs K H ds vs):lF K mg x (.tup ds):=
 ⟨.ref a,.ref a,hm,rfl,fun H=>pC (.inr ⟨_,its,n,hl,⟨rfl,rfl⟩,rfl,hz,w⟩) (r H)⟩
end L3
namespace L2
open PySem PySem.Spec PyProof.Rows
theorem Inv.turnedL{X:Cx}{pins:List (ML×Obj)}{σ:St}{H:Hp}{s:MK}{h':M5}{t':Nat}{fp:List ML}(I:Inv X pins σ H s)(k:∀ b o,b∉fp->s.heap.get? b=some o->h'.get? b=some o)(hf:∀ b∈fp,k9 X pins H b):
  Inv X pins σ H { s with heap:=h',toks:=t' }:=by
 have nit:∀ b u,H b=some u->b∉fp:=fun b u e z=>by rw[(hf b z).1]at e;cases e
 have hL:X.env.locals∉fp:=fun z=>(hf _ z).2.1 rfl;refine I.step (g':=s.gens) (d':=s.drawn) (ch:=fp) (fun b hb=>⟨(hf b hb).2.2.2.1,(hf b hb).2.1,(hf b hb).2.2.2.2.1,(hf b hb).2.2.2.2.2⟩) (fun b o _ _ hc e _=>k b o hc e) (fun b o _ _ hc e _=>⟨o.slots,k b o hc e⟩) (fun _ _ _ _ n=>n)
  (fun b o hc e=>⟨o,k b o hc e⟩) (fun _ _ e=>e) (fun _ _ _ e=>e) (fun b ps e=>⟨#[],by rw[e];simp⟩) (fun m hm=>?_) (fun b u e=>?_) I.bare
 ·obtain⟨o,es,ep,ho,r⟩:=hm;exact⟨o,es,ep,k _ o hL ho,r⟩
 ·refine (I.hok b u e).stay (fun c v hc q=>k c v ?_ q) (fun _ q=>q) fun _ _ q=>q;rcases hc with z|z
  ·rw[z];exact nit b u e
  ·exact nit c _ z
end L2
namespace L3
open PySem PySem.Spec PyProof.Rows L2
def LS(a b:String):Bool:=(a == b) || ((a == "bool") && (b == "int"))
def IN(b:String):Prop:=b="int"\/b="bool"\/b="str"\/b="tuple"\/b="list"
def Ma:Bb:=fun ds G Q=>match ds with
 | [d,.ty T]=>IN T/\∃ T',w_ G d=some T'/\Q (.bl (LS T' T)) G
 | _=>False
def KJ:Bb:=fun ds G Q=>match ds with
 | [.bl b]=>Q (.int (if b then 1 else 0)) G
 | _=>False
theorem vI{K:Ps}{mg:Str->Option MI}{x z:Str}{t:Tok}(hm:mg x=some (.str z t)):lF K mg x (.str z):=⟨.str z t,.str z,hm,⟨t,rfl⟩,fun _=>iA⟩
end L3
namespace L2
open PySem PySem.Spec PyProof.Rows
end L2
namespace L3
open PySem PySem.Spec PyProof.Rows L2
def Lb(a:ML)(g:uj)(tb:bg)(E:Ends3)(σ:eE)(ds:List D)(G1:Gp):Prop:=∃ Pv:Nat->eE->Gp->Prop,Pv 0 σ G1/\(∀ i σ' G',Pv i σ' G'->G' a=some (.lst ds))/\
 (∀ (i:Nat) d σ' G',ds[i]?=some d->Pv i σ' G'->g d σ' G' fun σ2 G2=>tb { E with nx:=Pv (i+1),ct:=Pv (i+1),bk:=E.nx } σ2 G2)/\∀ σ' G',Pv ds.length σ' G'->E.nx σ' G'
def DE(te:aZ)(g:uj)(tb:bg):bg:=fun E σ G=>te σ G fun d G1=>match d with
 | .ref a=>∃ ds,G1 a=some (.lst ds)/\Lb a g tb E σ ds G1
 | d=>match eK d with
  | some ds=>ForIn g tb E σ ds G1
  | none=>False
section
variable{X:Cx}{tg e:M9}{te:aZ}
theorem Bx(h:PE X e (az X.K te)):PI X tg e (fun τ H R=>∃ σ G Q3,RS X.K H σ τ/\RG X.K H G/\te σ G Q3/\∀ d G1 H1,Q3 d G1->Kp G H G1 H1->RG X.K H1 G1->match d with
  | .ref a=>(∃ ds,G1 a=some (.lst ds))/\R (K_ X.K a) H1
  | d=>∃ ds,eK d=some ds/\∀ J,xF X.K G1 H1 ds J->R J H1):=by
 intro pins s τ H R I hq;obtain⟨σ,G,Q3,rs,rg,hq,k⟩:=hq;refine bZ (eg h pins s τ H (fun v H1=>∃ d G1,Kp G H G1 H1/\RG X.K H1 G1/\RD X.K H1 (val d) v/\Q3 d G1) I ⟨σ,G,_,rs,rg,hq,fun d G' v H' q k' rg' rd=>⟨d,G',k',rg',rd,q⟩⟩) fun u s1 zz=>?_;obtain⟨v,H1,I1,r1,d,G1,k1,rg1,rd,q⟩:=zz;have kk:=k d G1 H1 q k1 rg1;have seq:∀ {a:ML} {xs:List V} {ds:List D},Fh X.K H1 a xs->RDs X.K H1 ds xs->(∀ J,xF X.K G1 H1 ds J->R J H1)->MP (MR X.prog X.w) X.A (Pw (.ref a)) (HF X pins τ tg R) X.xe s1:=fun f r q=>pQ I1 f.sq (q _ (BJ rg1 f r));cases d with
 | ref a=>
  simp only[val,RD]at rd;subst rd;cases r1;obtain⟨⟨ds,hg⟩,kr⟩:=kk;obtain⟨xs,e1,r⟩:=sQ rg1 hg;exact pQ I1 (jP.of e1) kr
 | lst ds=>
  simp only[val,RD]at rd;obtain⟨a,xs,rfl,f,r⟩:=rd;cases r1;obtain⟨ds',e,kr⟩:=kk;cases e;exact seq f r kr
 | fl ds=>
  simp only[val,RD]at rd;obtain⟨a,xs,rfl,f,r⟩:=rd;cases r1;obtain⟨ds',e,kr⟩:=kk;cases e;exact seq f r kr
 | tup ds=>
  simp only[val,RD]at rd;obtain⟨a,xs,rfl,f,r⟩:=rd;cases r1;obtain⟨ds',e,kr⟩:=kk;cases e;exact zk I1 f (kr _ (EE rg1 f r))
 | str z=>
  simp only[val,RD]at rd;subst rd;obtain⟨t,rfl⟩:=r1;obtain⟨ds',e,kr⟩:=kk;cases e;refine zl I1 (kr _ (BI fun H'=>?_));have:signs z=(z.cps.toList.map fun c=>(⟨#[c]⟩:Str)).map D.str:=by simp[signs]
  rw[this];have e2:de z=(z.cps.toList.map fun c=>(⟨#[c]⟩:Str)).map V.str:=by simp[de]
  rw[e2];exact RDs.strs _
 | _=>
  obtain⟨ds',e,_⟩:=kk;cases e
end
theorem Ie(hp:Qq (MR X.prog X.w) X.A X.env X.xe)(hc:X.calm=true)(hi:PE X iter (az X.K te))(hg:PG X tg (i7 X.K g))(hb:je X body (bB X.K tb))(hs:∀ x,NW iter X.env x=pure x:=by intro _;rfl):PS X (.For tg iter body [] pos) (bB X.K (DE te g tb)):=
 (D9 hp hc (Bx hi) hg hb hs).imp fun Dd τ H zz=>by
 obtain⟨σ,G,D3,rs,rg,h,k⟩:=zz;exact (
  ⟨σ,G,_,rs,rg,h,fun d G1 H1 q k1 rg1=>by
    have core:∀ (ds:List D) (J:It) (Pv:Nat->eE->Gp->Prop),Pv 0 σ G1->
      (∀ i σ' G' H',Pv i σ' G'->Kp G1 H1 G' H'->RG X.K H' G'->(i < ds.length->J.go i H'/\∀ x H2,J.yld i H' x H2->Kp G' H' G' H2/\RG X.K H2 G'/\∃ d,ds[i]?=some d/\RD X.K H2 d x)/\(i=ds.length->J.stop i H'))->
      (∀ (i:Nat) d σ' G',ds[i]?=some d->Pv i σ' G'->g d σ' G' fun σ2 G2=>tb { D3 with nx:=Pv (i+1),ct:=Pv (i+1),bk:=D3.nx } σ2 G2)->(∀ σ' G',Pv ds.length σ' G'->D3.nx σ' G')->
      ∃ W:Nat->Nat->St->Hp->Prop,(∃ m,W 0 m τ H1)/\∀ i m σ H,W i m σ H->
       (J.stop i H/\Dd.nx σ H)\/(J.go i H/\∃ N:St->Hp->Prop,(∀ σ' H',N σ' H'->∃ m',m' < m/\W (i+1) m' σ' H')/\∀ x H',J.yld i H x H'->i7 X.K g x σ H' fun σ2 H2=>bB X.K tb { Dd with nx:=N,ct:=N,bk:=Dd.nx } σ2 H2):=by
     intro ds J Pv p0 it step fin;refine⟨fun i m τ' H'=>m=ds.length - i/\i<=ds.length/\∃ σ' G',RS X.K H' σ' τ'/\RG X.K H' G'/\Pv i σ' G'/\Kp G1 H1 G' H',⟨ds.length,rfl,NC _,σ,G1,rs.mono (k1.stb rg),rg1,p0,Kp.refl⟩,?_⟩
     rintro i m τ' H' ⟨rfl,hi',σ',G',rs',rg',pv,k'⟩
     obtain⟨hgo,hstop⟩:=it i σ' G' H' pv k' rg'
     by_cases hlt:i < ds.length
     ·obtain⟨go,yld⟩:=hgo hlt;refine .inr ⟨go,fun τ2 H2=>∃ σ2 G2,RS X.K H2 σ2 τ2/\RG X.K H2 G2/\Pv (i+1) σ2 G2/\Kp G1 H1 G2 H2,fun τ2 H2 ⟨σ2,G2,a,b,c,d⟩=>⟨ds.length - (i+1),by walk_at "o",rfl,hlt,σ2,G2,a,b,c,d⟩,fun x H2 y=>?_⟩
      obtain⟨ky,rgy,d,hd,rd⟩:=yld x H2 y;refine⟨d,σ',G',_,rd,rs'.mono (ky.stb rg'),rgy,step i d σ' G' hd pv,fun σ3 G3 τ3 H3 q3 k3 rg3 rs3=>?_⟩;have kk:Kp G1 H1 G3 H3:=k'.trans (ky.trans k3);have kG:Kp G H G3 H3:=k1.trans kk;refine⟨σ3,G3,_,rs3,rg3,q3,⟨fun σ4 G4 τ4 H4 q4 k4 rg4 rs4=>⟨σ4,G4,rs4,rg4,q4,kk.trans k4⟩,k.rt.base kG,fun σ4 G4 τ4 H4 q4 k4=>k.nx σ4 G4 τ4 H4 q4 (kG.trans k4),fun σ4 G4 τ4 H4 q4 k4 rg4 rs4=>⟨σ4,G4,rs4,rg4,q4,kk.trans k4⟩⟩⟩
     ·have e:i=ds.length:=by walk_at "o"
      refine .inl ⟨hstop e,k.nx σ' G' τ' H' (fin σ' G' (by rw[<- e];exact pv)) (k1.trans k') rg' rs'⟩
    cases d with
    | ref a=>
     obtain⟨ds,hg,Pv,p0,live,step,fin⟩:=q;refine⟨⟨ds,hg⟩,core ds _ Pv p0 (fun i σ' G' H' pv k' rg'=>?_) step fin⟩;obtain⟨xs,e1,r⟩:=sQ rg' (live i σ' G' pv);have hl:=r.length;refine⟨fun hi=>⟨⟨xs,xs[i]'(by walk_at "o"),jP.of e1,by simp[show i < xs.length by walk_at "o"]⟩,fun x H2 y=>?_⟩,fun e=>⟨xs,jP.of e1,by walk_at "o"⟩⟩
     obtain⟨rfl,hx⟩:=y;refine⟨Kp.refl,rg',ds[i],by simp[hi],?_⟩
     obtain⟨y,e,q⟩:=r.get (i:=i) (d:=ds[i]) (by simp[hi])
     rw[hx xs (jP.of e1)]at e;cases e;exact q
    | lst ds=>
     obtain⟨Pv,p0,step,fin⟩:=q;exact⟨_,rfl,fun J it=>core _ J Pv p0 (fun i σ' G' H' _ k' rg'=>it i G' H' k' rg') step fin⟩
    | fl ds=>
     obtain⟨Pv,p0,step,fin⟩:=q;exact⟨_,rfl,fun J it=>core _ J Pv p0 (fun i σ' G' H' _ k' rg'=>it i G' H' k' rg') step fin⟩
    | tup ds=>
     obtain⟨Pv,p0,step,fin⟩:=q;exact⟨_,rfl,fun J it=>core _ J Pv p0 (fun i σ' G' H' _ k' rg'=>it i G' H' k' rg') step fin⟩
    | str z=>
     obtain⟨Pv,p0,step,fin⟩:=q;exact⟨_,rfl,fun J it=>core _ J Pv p0 (fun i σ' G' H' _ k' rg'=>it i G' H' k' rg') step fin⟩
    | _=>exact q.elim⟩)
def Ao(c:oP)(tb:bg):bg:=fun E σ G=>∃ W:Nat->eE->Gp->Prop,(∃ m,W m σ G)/\∀ m σ' G',W m σ' G'->
 c σ' G' fun b G1=>if b=true then ∃ N:eE->Gp->Prop,(∀ σ2 G2,N σ2 G2->∃ m',m' < m/\W m' σ2 G2)/\tb { E with nx:=N,ct:=N,bk:=E.nx } σ' G1 else E.nx σ' G1
theorem FN(hp:Qq (MR X.prog X.w) X.A X.env X.xe)(hc:PT X c (cz X.K tc))(hb:je X body (bB X.K tb)):PS X (.While c body [] pos) (bB X.K (Ao tc tb)):=
 (D5 hp hc hb).imp fun D τ H ⟨σ,G,D3,rs,rg,⟨W,⟨m0,w0⟩,turn⟩,k⟩=>by
  refine⟨fun m τ' H'=>∃ σ' G',RS X.K H' σ' τ'/\RG X.K H' G'/\W m σ' G'/\Kp G H G' H',⟨m0,σ,G,rs,rg,w0,Kp.refl⟩,?_⟩
  rintro m τ' H' ⟨σ',G',rs',rg',w',k'⟩
  refine⟨σ',G',_,rs',rg',turn m σ' G' w',fun b G1 H1 q k1 rg1=>?_⟩;cases b with
  | true=>
   rw[if_pos rfl]at q ⊢;obtain⟨N,hN,q⟩:=q;refine⟨fun τ2 H2=>∃ σ2 G2,RS X.K H2 σ2 τ2/\RG X.K H2 G2/\N σ2 G2/\Kp G H G2 H2,fun τ2 H2 ⟨σ2,G2,a,b,n,d⟩=>?_,?_⟩
   ·obtain⟨m',hm,w2⟩:=hN σ2 G2 n;exact⟨m',hm,σ2,G2,a,b,w2,d⟩
   ·have kG:=k'.trans k1;exact⟨σ',G1,_,rs'.mono (k1.stb rg'),rg1,q,⟨fun σ4 G4 τ4 H4 q4 k4 rg4 rs4=>⟨σ4,G4,rs4,rg4,q4,kG.trans k4⟩,k.rt.base kG,fun σ4 G4 τ4 H4 q4 k4=>k.nx σ4 G4 τ4 H4 q4 (kG.trans k4),fun σ4 G4 τ4 H4 q4 k4 rg4 rs4=>⟨σ4,G4,rs4,rg4,q4,kG.trans k4⟩⟩⟩
  | false=>
   rw[if_neg Bool.false_ne_true]at q ⊢;exact k.nx σ' G1 τ' H1 q (k'.trans k1) rg1 (rs'.mono (k1.stb rg'))
def fw:List Str->List D->Str->Option D
 | g::L,d::ds,f=>if g=f then some d else fw L ds f
 | _,_,_=>none
def iZ(L:List Str)(f:Str):List Str:=match L with
 | []=>[f]
 | g::r=>if g=f then g::r else g::iZ r f
def gW:List Str->List D->Str->D->List D
 | g::L,x::ds,f,d=>if g=f then d::ds else x::gW L ds f d
 | _,_,_,d=>[d]
section
variable{K:Ps}{H:Hp}
theorem tN:∀ {gs:List (Str×V)} {ds:List D} {f:Str} {d:D},RDs K H ds (gs.map (·.2))->fw (gs.map (·.1)) ds f=some d->∃ v,gs.lookup f=some v/\RD K H d v
 | [],ds,f,d,r,e=>by simp[fw]at e
 | (g,u)::t,ds,f,d,r,e=>by
  cases ds with
  | nil=>simp[fw]at e
  | cons x ds=>
   obtain⟨y,q,e1,h1,h2⟩:=r.inv_cons;rw[M8,List.cons.injEq]at e1;obtain⟨rfl,e1⟩:=e1;simp only[M8,fw]at e;split at e
   ·rename_i hg;cases e;subst hg;exact⟨u,by rw[Og,beq_self_eq_true],h1⟩
   ·rename_i hg;obtain⟨v,e2,h3⟩:=tN (gs:=t) (by rw[e1];exact h2) e
    exact⟨v,by rw[Og,show (f == g)=false by simpa using Ne.symm hg];exact e2,h3⟩
theorem yK:∀ {gs:List (Str×V)} {f:Str} {v:V},(fe f v gs).map (·.1)=iZ (gs.map (·.1)) f
 | [],f,v=>rfl
 | (g,u)::t,f,v=>by
  simp only[fe,M8,iZ];split
  ·rename_i hg;simp[hg]
  ·simp[yK (gs:=t)]
theorem yL:∀ {gs:List (Str×V)} {ds:List D} {f:Str} {v:V} {d:D},RDs K H ds (gs.map (·.2))->RD K H d v->RDs K H (gW (gs.map (·.1)) ds f d) ((fe f v gs).map (·.2))
 | [],ds,f,v,d,r,h=>by
  have:gW ([]:List Str) ds f d=[d]:=by unfold gW;rfl
  exact RDs.cons h RDs.nil
 | (g,u)::t,ds,f,v,d,r,h=>by
  cases ds with
  | nil=>exact absurd r.length (by simp)
  | cons x ds=>
   obtain⟨y,q,e1,h1,h2⟩:=r.inv_cons;rw[M8,List.cons.injEq]at e1;obtain⟨rfl,e1⟩:=e1;simp only[fe,M8,gW];split
   ·rename_i hg;subst e1;exact RDs.cons h h2
   ·exact RDs.cons h1 (yL (gs:=t) (by rw[e1];exact h2) h)
end
def bn(cs:List ML)(f:Str)(to:aZ):aZ:=fun σ G Q=>to σ G fun x G1=>match x with
 | .ref a=>match G1 a with
  | some (.ins C L ds)=>C∈cs/\match fw L ds f with
   | some d=>Q d G1
   | none=>False
  | _=>False
 | _=>False
def iQ(cs:List ML)(f:Str)(to tv:aZ):bg:=fun D σ G=>tv σ G fun d G1=>to σ G1 fun x G2=>match x with
 | .ref a=>match G2 a with
  | some (.ins C L ds)=>(C∈cs/\L.length < 1000)/\D.nx σ (gset G2 a (.ins C (iZ L f) (gW L ds f (val d))))
  | _=>False
 | _=>False
def em(cs:List (ML×cS))(m:Str)(dds:List D)(to:aZ)(ta:jN):aZ:=fun σ G Q=>to σ G fun x G1=>match x with
 | .ref a=>match G1 a with
  | some (.ins C L _)=>m∉L/\∃ sp,(C,sp)∈cs/\ta σ G1 fun ds G2=>sp (.ref a::(ds ++ dds)) G2 Q
  | _=>False
 | _=>False
section
variable{X:Cx}{o e:M9}{es:List M9}{to te:aZ}{t:jN}{pos apos:Pos}{k:Nat}{m:Str}{dds:List D}{sp:cS}
theorem bz(tab:∀ C∈cs,Cls X.K C/\cC X.K C f)(ho:PE X o (az X.K to))(hb:Oi o f X.env (eval o X.env)=eval o X.env:=by rfl):PE X (.Attribute o f pos) (az X.K (bn cs f to)):=
 (Ef ho hb).imp fun τ H Q zz=>by
 obtain⟨σ,G,Q3,rs,rg,h,kk⟩:=zz;exact (
  ⟨σ,G,_,rs,rg,h,fun d G1 v H1 q k1 rg1 re=>by
    cases d with
    | ref a=>
     dsimp only at q;split at q
     ·rename_i C L ds hg;obtain⟨hc,q⟩:=q;split at q
      ·rename_i d hd;obtain⟨ho,e1,ro⟩:=rg1 a _ hg;cases ho with
       | ins C2 dx gs=>
        obtain⟨rfl,r2,r3⟩:=ro;subst r2;obtain⟨w,hw,rd⟩:=tN r3 hd;exact⟨a,_,dx,gs,w,re.ref,e1,(tab _ hc).1,(tab _ hc).2,hw,kk _ G1 _ H1 q k1 rg1 (.of rd)⟩
       | _=>exact ro.elim
      ·exact q.elim
     ·exact q.elim
    | _=>exact q.elim⟩)
theorem gV(tab:∀ C∈cs,Cls X.K C/\cC X.K C f)(ho:PE X o (az X.K to))(hv:PE X e (az X.K te))(hs:N9 e (some (.Attribute o f pos')) pos.line X.env=pure false:=by rfl):
  PS X (.Assign [.Attribute o f pos'] e pos) (bB X.K (iQ cs f to te)):=
 (Az ho (eg hv) hs).imp fun Dd τ H zz=>by
 obtain⟨σ,G,D3,rs,rg,h,kk⟩:=zz;exact (
  ⟨σ,G,_,rs,rg,h,fun d G1 v H1 q1 k1 rg1 rd=>⟨σ,G1,_,rs.mono (k1.stb rg),rg1,q1,fun x G2 u H2 q2 k2 rg2 re=>by
    cases x with
    | ref a=>
     dsimp only at q2;split at q2
     ·rename_i C L ds hg;obtain⟨⟨hc,hl⟩,q2⟩:=q2;obtain⟨ho,e1,ro⟩:=rg2 a _ hg;cases ho with
      | ins C2 dx gs=>
       obtain⟨rfl,r2,r3⟩:=ro;subst r2;have rd2:=RD.mono (k2.stb rg1) _ _ rd;obtain⟨kp,rg3⟩:=Aw (gs':=fe f v gs) (L':=iZ (gs.map (·.1)) f) (ds':=gW (gs.map (·.1)) ds f (val d)) rg2 e1 yK (yL r3 rd2) (by rw[hg];exact fun z=>nomatch z)
       exact⟨a,_,dx,gs,re.ref,e1,(tab _ hc).1,(tab _ hc).2,by simpa using hl,kk.nx _ _ _ _ q2 ((k1.trans k2).trans kp) rg3 (rs.mono ((((k1.trans k2).trans kp)).stb rg))⟩
      | _=>exact ro.elim
     ·exact q2.elim
    | _=>exact q2.elim⟩⟩)
theorem f7{pl:Sem Bool}{cs:List (ML×cS)}(tab:∀ c∈cs,∃ k',k'<=k/\Mt3 X.prog X.w X.K X.mg X.base k' c.1 m dds c.2)(hr:Room k X.A)(ho:PE X o (az X.K to))
  (ht:eval (.Call (.Attribute o m apos) [] [] pos) X.env=(do
   let ov <- eval o X.env
   Ph apos.atName
   let (f,first) <- holding [ov] (Pf ov m pl)
   Qi pos f first (NS pos (MU [] X.env)) (Pq pos (OA [] X.env))):=by rfl):
  PE X (.Call (.Attribute o m apos) [] [] pos) (az X.K (em cs m dds to au)):=by
 rintro pins s τ H Q I ⟨σ,G,Q3,rs,rg,h,kk⟩
 refine PP (pl:=pl) (bZ (dB ho I rs rg h) fun u s1 zz=>?_) ht;obtain⟨x,H1,I1,rx,d,G1,q,k1,rg1,rd⟩:=zz;cases d with
 | ref a=>
  simp only[val,RD]at rd;subst rd;obtain rfl:u=Value.ref a:=rx;dsimp only at q;split at q
  ·rename_i C L ds hg;obtain⟨hL,sp,hc,q⟩:=q;obtain⟨k',hk,F⟩:=tab _ hc;obtain⟨f,fd,ps,ds',dvs,ok,hm,hb,hv,hd⟩:=F.ex;obtain⟨ho,e1,ro⟩:=rg1 a _ hg;cases ho with
   | ins C2 dx gs=>
    obtain⟨rfl,r2,r3⟩:=ro;refine mU I1 e1 F.cl hm (lq (K:=X.K) r2 hL) ?_;exact PySem.W.callWith_K0 (first:=[.ref a]) I1.kIn hm.kp (r9 (us:=[.ref a]) (vs:=[.ref a]) ok (hr.mono hk) hb hv vo I1 (.cons rfl .nil) ⟨.ref a::([] ++ dds),G1,Q3,RDs.cons fH (hd H1),rg1,q,kk.base k1⟩)
   | _=>exact ro.elim
  ·exact q.elim
 | _=>exact q.elim
structure Cf3(P:MY)(w:M7)(K:Ps)(mg:Str->Option MI)(base:M5)(k:Nat)(x m:Str)(dds:List D)(sp:cS):Prop where
 ex:∃ C f fd ps ds dvs,FnOk P w K mg base oV k f fd ps (bP K sp)/\mg x=some (.ref C)/\QM K (.ref C) "__getattribute__"=some (some (.builtin "type.__getattribute__"))/\PySem.W.readsIn K C (.type "type")=true/\
  PySem.W.findCls K (.ref C) (.type "type") m=some (.val (.ref f))/\Qw K (.ref f)=true/\dj K fd ps ds/\Vals dvs ds/\∀ H,RDs K H dds dvs
theorem lb{pl:Sem Bool}{x:Str}{p:Pos}(F:Cf3 X.prog X.w X.K X.mg X.base k x m dds sp)(hr:Room k X.A)(hg:Gl X x)(ha:PA X (e::es) (dD X.K t))(hdb:(x == ("__debug__":Str))=false:=by decide)
  (hst:MU (e::es) X.env=(false,eval e X.env)::MU es X.env:=by rfl) (hpl:(NS pos (MU es X.env)).any (·.1)=false:=by rfl)
  (ht:eval (.Call (.Attribute (.Name x p) m apos) (e::es) [] pos) X.env=(do
   let ov <- eval (.Name x p) X.env
   Ph apos.atName
   let (f,first) <- holding [ov] (Pf ov m pl)
   Qi pos f first (NS pos (MU (e::es) X.env)) (Pq pos (OA [] X.env))):=by rfl):
  PE X (.Call (.Attribute (.Name x p) m apos) (e::es) [] pos) (az X.K (aP sp dds t)):=by
 obtain⟨C,f,fd,ps,ds,dvs,ok,hm,hga,hrd,hfc,hk,hb,hv,hd⟩:=F.ex;intro pins s τ H Q I h;refine PP (pl:=pl) (bZ (Bz (v:=.ref C) hg hm rfl hdb pins s τ H (fun v H1=>v=.ref C/\H1=H) I ⟨rfl,rfl⟩) fun u s1 zz=>?_) ht;obtain⟨v,H1,I1,rx,e1,e2⟩:=zz;subst e1 e2;obtain rfl:u=Value.ref C:=rx;refine PySem.W.method_cls I1.kIn hga (PySem.W.cls_value I1.kIn hrd hfc rfl ?_);have I2:=I1.tok (s1.toks+1);obtain⟨σ,G,Q3,rs,rg,h,kk⟩:=h;refine Py (first:=[]) (h₀:=X.base) I.ok.mod.kin hk (bZ (ha pos pins _ τ H1 (fun vs H2=>∃ ds G1,sp (ds ++ dds) G1 Q3/\Kp G H1 G1 H2/\RG X.K H2 G1/\RDs X.K H2 ds vs) I2 ⟨σ,G,_,rs,rg,h,fun ds G1 vs H2 q k1 rg1 rds=>⟨ds,G1,q,k1,rg1,rds⟩⟩) fun us s2 ⟨vs,H2,I3,r,ds1,G1,q2,k1,rg1,rds⟩=>⟨I3.kIn,?_⟩) hst hpl
 exact r9 (us:=us) (vs:=vs) ok hr hb hv vo I3 r ⟨ds1 ++ dds,G1,Q3,rds.append (hd _),rg1,q2,kk.base k1⟩
end
end L3
theorem L3.all_cons{α:Type}{p:α->Prop}{a:α}{l:List α}(h:p a)(t:∀ x∈l,p x):∀ x∈a::l,p x:=fun x hx=>by
 rcases Nr.mp hx with rfl|hx
 ·exact h
 ·exact t x hx
namespace L3
open PySem PySem.Spec PyProof.Rows L2 PySem.SeqAt PySem.W
def tw:D->Bool
 | .non=>true
 | _=>false
def Gg:R3:=fun x y G Q=>match y with
 | .non=>Q (.bl (tw x)) G
 | _=>False
def yU:R3:=fun x y G Q=>match y with
 | .non=>Q (.bl (!tw x)) G
 | _=>False
section
variable{X:Cx}
theorem yH{K:Ps}{G0 G:Gp}{H0 H:Hp}{x:D}{v:V}{u:MI}(r:RE K G0 H0 G H x v)(l:aD v u):(u == Value.none)=tw x:=by
 cases x with
 | non=>rw[r.non]at l;cases l;rfl
 | fl ds=>
  obtain⟨p,xs,rfl,_⟩:=r.fl;cases l;rfl
 | lst ds=>
  obtain⟨a,xs,rfl,_⟩:=r.lst;cases l;rfl
 | tup ds=>
  obtain⟨a,xs,rfl,_⟩:=r.tup;cases l;rfl
 | int i=>rw[r.int]at l;obtain⟨t,rfl⟩:=l;rfl
 | str i=>rw[r.str]at l;obtain⟨t,rfl⟩:=l;rfl
 | bl i=>rw[r.bl]at l;cases l;rfl
 | ref a=>rw[r.ref]at l;cases l;rfl
 | ty T=>
  have:=r.rd (by intro ds z;cases z)
  simp only[RD]at this;subst this;cases l;rfl
theorem JK:gL X (Nv .Is) (cR X.K Gg):=by
 rintro pins s σ H v u v' u' Q I rv ru ⟨x,y,G0,H0,G,Q3,rx,ry,rg,h,k⟩
 unfold Gg at h;split at h
 ·rw[ry.non]at ru;cases ru;refine is_none_gen ?_;rw[yH rx rv];exact⟨.bl _,H,I,rfl,k _ G _ H h Kp.refl rg (.of fc)⟩
 ·exact h.elim
theorem HM:gL X (Nv .IsNot) (cR X.K yU):=by
 rintro pins s σ H v u v' u' Q I rv ru ⟨x,y,G0,H0,G,Q3,rx,ry,rg,h,k⟩
 unfold yU at h;split at h
 ·rw[ry.non]at ru;cases ru;refine isnot_none_gen ?_;rw[yH rx rv];exact⟨.bl _,H,I,rfl,k _ G _ H h Kp.refl rg (.of fc)⟩
 ·exact h.elim
end
section
variable{X:Cx}{o i:M9}{to ti:aZ}{pos:Pos}
theorem AD(hu:X.A.units+8 < ND)(hi:PE X i (az X.K ti))(ho:PE X o (az X.K to))(hm:Oh .In o=false:=by rfl):PT X (.Compare i [.In] [o] pos) (cz X.K (bJ (xn (aG X.prog X.w) ti to))):=by
 refine (DY (op:=.In) (t:=az X.K (xn (aG X.prog X.w) ti to)) (fun pins s τ H Q I ⟨σ,G,Q3,rs,rg,h,k⟩=>?_) hm).imp fun τ H Q h=>v0 h;refine bZ (dB hi I rs rg h) fun iv s1 zz=>?_;obtain⟨iy,H1,I1,riy,y,G1,q1,k1,rg1,rd1⟩:=zz;refine bZ (dB ho I1 (rs.mono (k1.stb rg)) rg1 q1) fun ov s2 zz=>?_;obtain⟨ox,H2,I2,rox,x,G2,q2,k2,rg2,rd2⟩:=zz;obtain⟨r,l,q2⟩:=q2;exact HD (by walk_at "o") I2 rg2 l rd2 rox (RD.mono (k2.stb rg1) _ _ rd1) riy fun s3 I3=>⟨.bl r.isSome,H2,I3,rfl,k _ G2 _ H2 q2 (k1.trans k2) rg2 (.of fc)⟩
theorem Co(hu:X.A.units+8 < ND)(hi:PE X i (az X.K ti))(ho:PE X o (az X.K to))(hm:Oh .NotIn o=false:=by rfl):PT X (.Compare i [.NotIn] [o] pos) (cz X.K (bJ (oK (aG X.prog X.w) ti to))):=by
 refine (DY (op:=.NotIn) (t:=az X.K (oK (aG X.prog X.w) ti to)) (fun pins s τ H Q I ⟨σ,G,Q3,rs,rg,h,k⟩=>?_) hm).imp fun τ H Q h=>v0 h;refine bZ (dB hi I rs rg h) fun iv s1 zz=>?_;obtain⟨iy,H1,I1,riy,y,G1,q1,k1,rg1,rd1⟩:=zz;refine bZ (dB ho I1 (rs.mono (k1.stb rg)) rg1 q1) fun ov s2 zz=>?_;obtain⟨ox,H2,I2,rox,x,G2,q2,k2,rg2,rd2⟩:=zz;obtain⟨r,l,q2⟩:=q2;exact E2 (by walk_at "o") I2 rg2 l rd2 rox (RD.mono (k2.stb rg1) _ _ rd1) riy fun s3 I3=>⟨.bl (!r.isSome),H2,I3,rfl,k _ G2 _ H2 q2 (k1.trans k2) rg2 (.of fc)⟩
end
def A5(hw:List aE->Int)(tk tv:aZ):aZ:=fun σ G Q=>∀ p,G p=none->tk σ (gset G p (.dT hw [])) fun x G1=>tv σ G1 fun y G2=>match G2 p with
 | some (.dT hw' [])=>hw'=hw/\∃ ks,ow (val x)=some ks/\Q (.ref p) (gset G2 p (.dT hw [(ks,val y)]))
 | _=>False
section
variable{X:Cx}{pos:Pos}
theorem F9(hu:X.A.units+8 < ND)(hk:PE X k (az X.K tk))(hv:PE X v (az X.K tv)):PE X (.Dict [some k] [v] pos) (az X.K (A5 (aG X.prog X.w) tk tv)):=fun pins s τ H Q I zz=>by
 obtain⟨σ,G,Q3,rs,rg,h,kk⟩:=zz;have hf:H s.heap.objs.size=none:=I.hok.fresh (le_refl _);obtain⟨kp,rg2⟩:=GB (o:=.dT (aG X.prog X.w) []) (ho:=.ext (xL (aG X.prog X.w) s.heap.objs.size [])) rg hf fun H' _=>⟨[],rfl,.nil,QN,NC _⟩;have hd:(s.heap.objs.size == NM)=false:=beq_eq_false_iff_ne.mpr (Ne.symm (Na I.big));have I1:=I.laid (a:=s.heap.objs.size) (t':=s.toks) (fun _ _ q=>MM _ q) (le_refl _) (pY (P:=X.prog) (w:=X.w) (hw:=aG X.prog X.w) (xs:=[]) ⟨hd,_,#[],0,MQ (h:=s.heap) (o:={ cls:=.type "dict",data:=.dict #[] }) rfl,⟨rfl,rfl,rfl⟩,rfl,rfl⟩);refine wpAny_Dict_any (by rfl) (by rfl) (by simp) (by simp) ?_
 refine pairTrees_cons_walk (bZ (dB hk I1 (rs.mono (kp.stb rg)) rg2 (h _ (rg.free hf))) fun kv s1 zz=>?_);obtain⟨ox,H1,I2,rox,x,G1,q1,k1,rg1,rd1⟩:=zz;refine bZ (dB hv I2 (rs.mono ((kp.trans k1).stb rg)) rg1 q1) fun vv s2 zz=>?_;obtain⟨oy,H2,I3,roy,y,G2,q2,k2,rgb,rd2⟩:=zz;refine pairTrees_nil_walk ?_;unfold storeAll;rw[O2];split at q2
 ·rename_i hw' hg;obtain⟨rfl,ks,hks,q2⟩:=q2;have Uf:=RD.mono (k2.stb rg1) _ _ rd1;obtain⟨b,rfl,sq⟩:=rE hks Uf;cases rox;obtain⟨ho,e,r⟩:=rgb _ _ hg;cases ho with
  | ext φ=>
   obtain⟨xs,rfl,rt,nd,_⟩:=r;have e0:xs=[]:=by
    have:=rt.length;exact List.length_eq_zero_iff.mp this.symm
   subst e0;obtain⟨hd2,dd⟩:=xp I3 e rt nd;refine MH (MH (Sf (hsz:=NC _) (show X.A.units < ND by walk_at "o") (key_at I3 sq) dd fun h' dd' hs=>MJ ?_))
   dsimp only;rw[PU];refine MJ ?_;obtain⟨q,es,ep,hq,h2,h3,h4,_,h5⟩:=dd';obtain⟨kp3,rg3⟩:=xc (a:=s.heap.objs.size) (o:=.dT (aG X.prog X.w) (bu [] ks (val y))) (ho:=.ext (xL (aG X.prog X.w) s.heap.objs.size (Ql [] ks b vv))) rgb (by rw[hg];exact fun z=>nomatch z)
    fun H' st=>⟨_,rfl,(rt.put ks sq rd2 roy).mono st,mK ks (val y) nd,by have:=eV ([]:List (List aE×D)) ks (val y);have hs:=al;simp only[Nj]at this;omega⟩
   exact⟨.ref _,_,rH I3 (by rw[e];exact True.intro) hs ⟨q,hq⟩ (pY ⟨hd2,q,es,ep,hq,h2,h3,h4⟩),rfl,kk _ _ _ _ q2 (kp.trans (k1.trans (k2.trans kp3))) rg3 (.of fH)⟩
  | _=>exact r.elim
 ·exact q2.elim
end
def EG(x:D):List D->Nat
 | []=>0
 | d::r=>if eA d x then 0 else EG x r+1
def Ji(to:aZ)(ta:jN):aZ:=fun σ G Q=>to σ G fun x G1=>match x with
 | .lst ds=>ta σ G1 fun es G2=>match es with
  | [y]=>(pl 7 y/\(∀ d∈ds,pl 7 d)/\y∈ds)/\Q (.int (EG y ds)) G2
  | _=>False
 | _=>False
def Jg(sp:cS)(to:aZ):aZ:=fun σ G Q=>to σ G fun x G1=>match tY G1 (val x) with
 | some ds=>∃ ks r,SortBy sp G1 ds ks r/\∀ p:List Nat,p.Perm (List.range ds.length)->(p.map r).Pairwise (·<=·)->Q (.fl (p.map fun i=>ds.getD i .non)) G1
 | none=>False
section
variable{X:Cx}{pins:List (ML×Obj)}{τ:St}{H H0:Hp}{s:MK}{G:Gp}{E:MI->MK->Prop}
 {k:Nat} {f:ML} {fd:NR} {ps:List Str} {sp:cS} {ds ks:List D} {r:Nat->Nat} {vs:List V} {us:List MI}
end
def tm(c:Bool):Nat:=if c then 31 else 7
def Tb(c:Bool)(pl:Array Nat)(led plain:Bool):SetTable:={ mask:=tm c,place:=pl,dummies:=#[],finger:=0,led:=led,moves:=if c then 1 else 0,plain:=plain }
abbrev Pb:=SetTable.Probe
def fm(m i:Nat):Nat:=(i*5+1) % (m+1)
def look(c:Bool)(pl:Array Nat)(hs:Nat->Int)(same:Nat->Bool)(h:Int):Nat->Pb->Option (Option Nat)
 | 0,_=>none
 | f+1,p=>match (Tb c pl false false).probe hs h p with
  | none=>none
  | some (.empty j _)=>some (some j)
  | some (.candidate _ i next)=>if same i then some none else look c pl hs same h f next
def Mr(es:Array (Int×MI))(ep:Nat)(t:SetTable):Obj:={ cls:=.type "set",dict:=none,data:=.set es ep t }
section
variable{prog:MY}{w:M7}{κ:Type}[DecidableEq κ]{kn:KeyKind prog w κ}{A:M3}{E:MI->MK->Prop}{s:MK}{a b:ML}
abbrev hK(kn:KeyKind prog w κ):List κ->Int:=tupleKeyHash kn
def My(kn:KeyKind prog w κ)(xs:List (List κ×ML)):Array (Int×MI):=(xs.map fun x=>(hK kn x.1,Value.ref x.2)).toArray
end
set_option maxRecDepth 100000
def MF(first:MI)(i n ep:Nat)(S:ML):Obj:={ cls:=.type "set_iterator",data:=.fields #[first,.int i 0,.ref S,.int n 0,.int ep 0] }
set_option maxRecDepth 100000
set_option maxRecDepth 100000
set_option maxRecDepth 100000
def zY(x:Str×Int):D:=.tup [.str x.1,.int x.2]
def Hr(a b:Str×Int):Bool:=if a.1=b.1 then decide (a.2 < b.2)else decide (a.1.cps.toList < b.1.cps.toList)
theorem v4:STO (fun a b:List Nat=>decide (a < b)):=by
 have e:(fun a b:List Nat=>decide (a < b))=sR wQ:=by funext a b;exact (oa a b).symm
 rw[e];exact wV wP
theorem AA:STO Hr where
 irrefl:=fun a=>by simp[Hr]
 trans:=fun a b c h1 h2=>by
  unfold Hr at *
  by_cases p1:a.1=b.1
  ·rw[if_pos p1]at h1
   by_cases p2:b.1=c.1
   ·rw[if_pos p2]at h2;rw[if_pos (p1.trans p2)];simp only[decide_eq_true_eq]at *
    omega
   ·rw[if_neg p2]at h2;rw[p1,if_neg p2];exact h2
  ·rw[if_neg p1]at h1
   by_cases p2:b.1=c.1
   ·rw[<- p2,if_neg p1];exact h1
   ·rw[if_neg p2]at h2;have h3:=v4.trans _ _ _ h1 h2;rw[if_neg (fun e=>by rw[e,v4.irrefl]at h3;cases h3)]
    exact h3
 tot:=fun a b h1 h2=>by
  unfold Hr at *
  by_cases p1:a.1=b.1
  ·rw[if_pos p1]at h1;rw[if_pos p1.symm]at h2;simp only[decide_eq_false_iff_not]at *
   exact Prod.ext p1 (by walk_at "o")
  ·rw[if_neg p1]at h1;rw[if_neg (Ne.symm p1)]at h2;have e:a.1.cps=b.1.cps:=Array.toList_inj.mp (v4.tot _ _ h1 h2);refine absurd ?_ p1;cases h:a.1;cases h':b.1;rw[h,h']at e;simp only at e;rw[e]
theorem J8(a b:Str×Int):h_ 4 (zY a) (zY b)=Hr a b:=by
 show cA (h_ 3) [.str a.1,.int a.2] [.str b.1,.int b.2]=_
 unfold Hr
 by_cases p:a.1=b.1
 ·rw[if_pos p];have e:eA (.str a.1) (.str b.1)=true:=xl (by rw[p])
  by_cases n:a.2=b.2
  ·have e2:eA (.int a.2) (.int b.2)=true:=xl (by rw[n])
   show (if eA (.str a.1) (.str b.1)=true then (if eA (.int a.2) (.int b.2)=true then cA (h_ 3) [] []else _)else _)=_
   rw[if_pos e,if_pos e2,n];simp[cA]
  ·have e2:eA (.int a.2) (.int b.2)=false:=bf fun z=>n (by injection z)
   simp[cA,e,e2,h_]
 ·rw[if_neg p];have e:eA (.str a.1) (.str b.1)=false:=bf fun z=>p (by injection z)
  simp[cA,e,h_]
theorem J9(a b:Str×Int):z0 4 (zY a) (zY b):=by
 show Jm 3 (z0 3) [.str a.1,.int a.2] [.str b.1,.int b.2]
 exact⟨⟨trivial,trivial⟩,fun _=>trivial,⟨trivial,trivial⟩,fun _=>trivial,trivial⟩
def Srt(l:List (Str×Int)):Prop:=l.Pairwise fun a b=>Hr b a=false
theorem srt_uniq:∀ {L M:List (Str×Int)},L.Perm M->Srt L->Srt M->L=M
 | [],M,p,_,_=>(List.nil_perm.mp p).symm
 | a::L,[],p,_,_=>absurd p.length_eq (by simp)
 | a::L,b::M,p,h1,h2=>by
  unfold Srt at h1 h2;rw[List.pairwise_cons]at h1 h2;have e:a=b:=by
   rcases Nr.mp (p.mem_iff.mp MZ)with e|m1
   ·exact e
   ·rcases Nr.mp (p.mem_iff.mpr MZ)with e|m2
    ·exact e.symm
    ·exact AA.tot _ _ (h2.1 a m1) (h1.1 b m2)
  subst e;rw[srt_uniq ((List.perm_cons a).mp p) h1.2 h2.2]
def Aj(l:List (Str×Int)):List (Str×Int):=Classical.epsilon fun L=>L.Perm l/\Srt L
theorem FC(h:M.Perm l)(s:Srt M):Aj l=M:=by
 have e:=Classical.epsilon_spec (p:=fun L:List (Str×Int)=>L.Perm l/\Srt L) ⟨M,h,s⟩;exact srt_uniq (e.1.trans h.symm) e.2 s
section
variable{X:Cx}{pins:List (ML×Obj)}{τ:St}{H H0:Hp}{s:MK}{G:Gp}
def EB(d:D):Prop:=∃ t r,d=.tup (.str t::r)
theorem K3(I:L2.Inv X pins τ H s)(hu:A.units+4 < ND)(cp:z0 4 kx ky)(hx:EB kx)(hy:EB ky)(rx:RD X.K H kx v)(ry:RD X.K H ky u)(lx:aD v v')(ly:aD u u')(q:C (h_ 4 kx ky) s):MP (MR X.prog X.w) A (keyLt' (Sz true) v' u') C E s:=by
 obtain⟨i,r,rfl⟩:=hx;obtain⟨j,t,rfl⟩:=hy;simp only[RD]at rx ry;obtain⟨a,xs,rfl,s1,r1⟩:=rx;obtain⟨b,ys,rfl,s2,r2⟩:=ry;cases lx;cases ly;obtain⟨its,w1,⟨o1,h1,c1,n1,d1⟩,z1⟩:=I.tuple s1;obtain⟨its2,w2,⟨o2,h2,c2,n2,d2⟩,z2⟩:=I.tuple s2;refine kat_lt h1 d1 h2 d2 ?_;have l1:=w1.length;have l1':=r1.length;have l2:=w2.length;have l2':=r2.length;obtain⟨x1,t1,e1,g1,g2⟩:=RDs.inv_cons (d:=.str i) (ds:=r) r1;subst e1;obtain⟨x2,t2,e2,f1,f2⟩:=RDs.inv_cons (d:=.str j) (ds:=t) r2;subst e2;simp only[RD]at g1 f1;subst g1 f1;cases w1 with
 | @cons _ u1 _ m1 k1 w1=>
 cases w2 with
 | @cons _ u2 _ m2 k2 w2=>
  obtain⟨tk,rfl⟩:=k1;obtain⟨tk',rfl⟩:=k2;obtain⟨p,c,z⟩:=(show Jm 3 (z0 3) (.str i::r) (.str j::t)from cp)
  have q':C (cA (h_ 3) (.str i::r) (.str j::t)) s:=q;show KatLex _ _ _ _ _ _ ((_::m1).zip (_::m2)) 0 s
  rw[OU];refine kat_cons ((vK I 3 (x:=.str i) (y:=.str j) (v:=.str i) (u:=.str j) p.1 p.2 iA iA ⟨tk,rfl⟩ ⟨tk',rfl⟩ (by walk_at "o")).eq X.prog X.w _ _ (kat_go (fun e=>kat_yes ?_) fun e=>kat_no ?_))
  ·rw[show cA (h_ 3) (.str i::r) (.str j::t)=cA (h_ 3) r t by simp[cA,e]]at q'
   simp only[M1]at l1 l1' l2 l2';exact ED I (by walk_at "o") (by simp) z g2 f2 w1 w2 (by simp only[MV,M1];omega) q'
  ·rw[show cA (h_ 3) (.str i::r) (.str j::t)=h_ 3 (.str i) (.str j)by simp[cA,e]]at q'
   show MP _ _ (oneLt' true _ _) _ _ _
   exact oneLt_str q'
theorem IP(I:L2.Inv X pins τ H s)(hk:∀ d∈ks,EB d)(r:RDs X.K H ks kv)(w:Vals kv ku)(hn:0 < ks.length)(q:Q (Sz true) s):
  MP (MR X.prog X.w) A (keyKind' ku.toArray) Q E s:=by
 have go:∀ {ks:List D} {kv:List V} {ku:List MI},(∀ d∈ks,EB d)->RDs X.K H ks kv->Vals kv ku->∃ fs,KatTups s.heap ku fs/\fs.length=ks.length/\∀ v∈fs,∃ i t,v=Value.str i t:=by
  intro ks
  induction ks with
  | nil=>
   intro kv ku _ r w;rw[r.inv_nil]at w;cases w;exact⟨[],KatTups.nil,rfl,fun v hv=>by simp at hv⟩
  | cons d t ih=>
   intro kv ku hk r w;obtain⟨x1,t1,e1,g1,g2⟩:=r.inv_cons;subst e1;cases w with
   | cons k1 w=>
    obtain⟨fs,h1,h2,h3⟩:=ih (fun d hd=>hk d (MW _ hd)) g2 w;obtain⟨i,rr,rfl⟩:=hk d MZ;simp only[RD]at g1;obtain⟨a,xs,rfl,s1,r1⟩:=g1;cases k1;obtain⟨its,w1,⟨o1,e1,c1,n1,d1⟩,z1⟩:=I.tuple s1;obtain⟨y1,u1,e2,g3,_⟩:=RDs.inv_cons (d:=.str i) (ds:=rr) r1;subst e2;simp only[RD]at g3;subst g3;cases w1 with
    | cons k2 w1=>
     obtain⟨tk,rfl⟩:=k2;refine⟨.str i tk::fs,KatTups.cons e1 c1 d1 (by simp) h1,by simp[h2],fun v hv=>?_⟩
     rcases Nr.mp hv with rfl|hv
     ·exact⟨i,tk,rfl⟩
     ·exact h3 v hv
 obtain⟨fs,h1,h2,h3⟩:=go hk r w;refine kat_kind (T:=.type "str") h1 (by walk_at "o") (fun v hv=>?_) (by decide) ?_
 ·obtain⟨i,t,rfl⟩:=h3 v hv;exact Looks.of_pure rfl
 ·rw[show (Value.type "str" != Value.type "tuple")=true by decide]
  exact q
end
section
variable{X:Cx}{pins:List (ML×Obj)}{τ:St}{H H0:Hp}{s:MK}{G:Gp}{D0:ML}{A:M3}{E:MI->MK->Prop}{P:PySem.Fin->MK->Prop}{ds:List D}{r:Nat->Nat}{vs:List V}{us:List MI}
theorem B3(I:L2.Inv X pins τ H s)(rg:RG X.K H G)(kp:Kp G H0 G H)(nD:H0 D0=none)(gD:G D0=none)(hu:A.units+4 < ND)(eD:H D0=some (XO D0 (NK "list" us.toArray n)))(rd:RDs X.K H ds vs)(wv:Vals vs us)(few:ds.length < 64)(hk:∀ d∈ds,EB d)(hc:∀ a∈ds,∀ b∈ds,z0 4 a b)(hr:∀ i j a b,ds[i]?=some a->ds[j]?=some b->h_ 4 a b=decide (r i < r j))(q:∀ (p:List Nat) H' s',p.Perm (List.range ds.length)->(p.map r).Pairwise (·<=·)->L2.Inv X pins τ H' s'->Kp G H0 G H'->RG X.K H' G->H' D0=some (.lst (p.map fun i=>vs.getD i .non))->Stb X.K H H'->P (.done (.ret .none)) s'):
  MP (MR X.prog X.w) A (Builtin.«list.sort» ⟨[.ref D0],[]⟩) P E s:=by
 have l1:=rd.length;have l2:=wv.length;have oD:=hJ I eD;have mu:C8 (H D0):=by rw[eD];exact trivial
 have e2:=O0 oD (fun _=>(#[]:Array MI));generalize (if ((#[]:Array MI).size == us.toArray.size)=true then n else n+1)=e1 at e2
 have I1:=oA (t':=s.toks) I eD e2;have I2:L2.Inv X pins τ (aS H D0 (XO D0 (NK "list" #[] e1))) { s with heap:=((s.heap.update D0 (NB fun _=>(#[]:Array MI))).push (NK "tuple" us.toArray 0)).push (NK "list" #[] 0) }:=I1.kept (t':=s.toks) fun b u e=>MM _ (MM _ e)
 have st1:Stb X.K H (aS H D0 (XO D0 (NK "list" #[] e1))):=iw mu;have rd2:=RDs.mono st1 _ _ rd;have eD2:(aS H D0 (XO D0 (NK "list" #[] e1))) D0=some (XO D0 (NK "list" #[] e1)):=aB;have mu2:C8 ((aS H D0 (XO D0 (NK "list" #[] e1))) D0):=by rw[eD2];exact trivial
 have fin:∀ (p:List Nat) (st:SortSt),p.Perm (List.range ds.length)->(p.map r).Pairwise (·<=·)->(arrOf st).map (·.2)=(p.map fun i=>us.getD i Value.none).toArray->Rc st=none->
   MP (MR X.prog X.w) A (do
    let touched:=(<- seqEpoch D0) != e1
    Ru (.ref D0) fun _=>(arrOf st).map (·.2)
    if let some e:=Rc st then rule "list.sort.comparison-raised";throw e
    if touched then rule "list.sort.modified";raiseError "ValueError" "list modified during sort"
    ret .none) P E { s with heap:=((s.heap.update D0 (NB fun _=>(#[]:Array MI))).push (NK "tuple" us.toArray 0)).push (NK "list" #[] 0) }:=by
  intro p st hp hs ha hf;have oD2:=hJ I2 eD2;have inr:∀ i∈p,i < vs.length:=fun i hi=>by rw[<- l1];exact mem_range.mp (hp.mem_iff.mp hi)
  have lp:p.length=ds.length:=by rw[hp.length_eq,List.length_range]
  have hv:Vals (p.map fun i=>vs.getD i .non) (p.map fun i=>us.getD i Value.none):=sP wv inr;have e3:=O0 oD2 (fun _=>(p.map fun i=>us.getD i Value.none).toArray);rw[ha,hf];refine MH (QS oD2 rfl ?_);refine MH (Pk oD2 rfl ?_ (NC _) (by rw[MV,MO,lp,Nk];omega))
  simp only[bne_self_eq_false,Bool.false_eq_true,if_false];have I3:=I2.write (x:=D0) (e:=D0) (o:=.lst (p.map fun i=>vs.getD i .non)) (t':=s.toks) mu2 (.inl rfl) (fun b u hb hu=>(M_ _ (NB fun _=>(p.map fun i=>us.getD i Value.none).toArray) (Ne.symm hb)).trans hu) ⟨_,e3⟩ ⟨by rw[MO,lp,Nk];omega,_,_,hv,e3⟩
  refine MJ (q p _ _ hp hs I3 (tq (tq kp nD) nD) (vj (vj rg gD mu) gD mu2) aB ?_);exact⟨fun b xs z=>(iw mu2).t _ _ (st1.t _ _ z),fun b xs z=>(iw mu2).l _ _ (st1.l _ _ z)⟩
 rw[list_sort_plain];refine MH (RB oD rfl ?_);refine MH (Pk oD rfl ?_ (by rw[MV,Nk];omega) (NC _))
 refine MH (QS e2 rfl ?_);refine MH (Pu ?_ (by show us.length<=_;rw[Nk];omega))
 refine MH (Qs ?_ (NC _));refine Nf ?_;dsimp only
 by_cases h2:us.length < 2
 ·have hs:us.toArray.size < 2:=by rw[MV];exact h2
  rw[if_pos hs,if_pos hs];refine MH (MJ ?_);refine MH (MJ ?_);refine fin (List.range ds.length) (SortSt.mk' general' (us.toArray.zip us.toArray) #[] 7 none) (List.Perm.refl _) ?_ ?_ rfl
  ·have:ds.length=0\/ds.length=1:=by walk_at "o"
   rcases this with e|e<;>rw[e]<;>simp[List.range_succ]
  ·apply Array.toList_inj.mp;show ((us.toArray.zip us.toArray).map (·.2)).toList=_
   rw[Array.toList_map,ksk_zip,show ds.length=us.length by walk_at "o",range_getD]
   simp[List.map_snd_zip]
 ·have hs:¬ us.toArray.size < 2:=by rw[MV];exact h2
  rw[if_neg hs,if_neg hs];obtain⟨p,ep,hp,adj⟩:=Bq r us.length (by walk_at "o")
  refine MH (IP I2 hk rd2 wv (by walk_at "o") ?_)
  refine MH (Nh (kat_run (Q:=fun st' s'=>∃ p':Array Nat,arrOf st'=p'.map (kas_item (us.toArray.zip us.toArray))/\Rc st'=none/\s'={ s with heap:=((s.heap.update D0 (NB fun _=>(#[]:Array MI))).push (NK "tuple" us.toArray 0)).push (NK "list" #[] 0) }/\p'=p) rfl (by walk_at "o") (by walk_at "o") (G:=fun p' s'=>s'={ s with heap:=((s.heap.update D0 (NB fun _=>(#[]:Array MI))).push (NK "tuple" us.toArray 0)).push (NK "list" #[] 0) }/\p'=p)
   (fun p' st' s' a1 a2 a3 a4=>⟨p',a2,a3,a4.1,a4.2⟩) ?_) ?_ fun _ _ x=>x)
  ·refine KasT.walked (lt:=lC r) (J:=fun s'=>s'={ s with heap:=((s.heap.update D0 (NB fun _=>(#[]:Array MI))).push (NK "tuple" us.toArray 0)).push (NK "list" #[] 0) }) (fun i j C s' hi hj e c=>?_) _ _ (Br (by walk_at "o")) rfl fun s' e _=>⟨e,ep⟩
   subst e;unfold kas_ask;obtain⟨v1,f1,g1⟩:=Vals.getV (i:=i) (u:=us[i]'(by walk_at "o")) wv (by simp)
   obtain⟨v2,f2,g2⟩:=Vals.getV (i:=j) (u:=us[j]'(by walk_at "o")) wv (by simp)
   obtain⟨d1,b1,c1⟩:=RDs.getV rd2 f1;obtain⟨d2,b2,c2⟩:=RDs.getV rd2 f2;have m1:=M6 b1;have m2:=M6 b2;rw[show us.getD i Value.none=us[i]'(by walk_at "o")by simp[show i < us.length by walk_at "o"],show us.getD j Value.none=us[j]'(by walk_at "o")by simp[show j < us.length by walk_at "o"]]
   refine K3 I2 hu (hc _ m1 _ m2) (hk _ m1) (hk _ m2) c1 c2 g1 g2 ?_;rw[hr i j d1 d2 b1 b2];exact c _ rfl
  ·rintro⟨⟨⟩,st'⟩ s' ⟨p',har,hf,rfl,rfl⟩
   dsimp only;refine fin p'.toList st' (by rw[show ds.length=us.length by walk_at "o"];exact hp) ?_ (kat_snds rfl har) hf
   have lp:p'.toList.length=us.length:=by rw[hp.length_eq,List.length_range]
   rw[Pt,List.pairwise_iff_getElem];intro i j hi hj hij;have h:=adj.le (le_of_lt hij) (by walk_at "o")
   unfold RR at h;have gi:p'.getD i 0=p'.toList[i]:=by
    have:i < p'.size:=by simpa using hi
    simp[Array.getD,this]
   have gj:p'.getD j 0=p'.toList[j]:=by
    have:j < p'.size:=by simpa using hj
    simp[Array.getD,this]
   rw[gi,gj]at h;exact h
end
structure InsAsk(K:Ps)(C:ML):Prop where
 cl:Cls K C
 ca:Qf K (.ref C) "__class__"=some (some (.builtin "object.__class__"))
 gs:QM K (.builtin "object.__class__") "__get__"=some (some (.builtin "getset_descriptor.__get__"))
 tk:Uz K (.builtin "object.__class__")=some true
 mo:Uu K C (.type "object")=some true
def xz(cs:List (ML×Bool))(c:ML):Bb:=fun ds G Q=>match ds with
 | [.ref a,.ref c']=>c'=c/\match G a with
  | some (.ins C _ _)=>∃ b,(C,b)∈cs/\Q (.bl b) G
  | _=>False
 | _=>False
theorem wK(hg:Gl X nm)(hm:X.mg nm=some (.ref C))(hd:(nm == ("__debug__":Str))=false:=by decide):PE X (.Name nm pos) (az X.K (eC (.ref C))):=wJ (v:=.ref C) hg hm rfl (fun _=>by simp only[RD]) hd
theorem BP(tab:∀ p∈cs,InsAsk X.K p.1/\ST X.K (.ref p.1) (.ref c)=some p.2):eF X (.builtin "isinstance") (n_ X.K (xz cs c)):=by
 rintro pins s σ H vs us Q I rv ⟨ds,G,Q3,rds,rg,h,kk⟩
 unfold xz at h;split at h
 ·rename_i a c';obtain⟨rfl,h⟩:=h;split at h
  ·rename_i C L es hg;obtain⟨b,hb,hq⟩:=h;obtain⟨v,t,e,h1,h2⟩:=rds.inv_cons;obtain⟨u2,e2,h3⟩:=fT h2;simp only[RD]at h1 h3;subst e e2 h1 h3;obtain⟨u,w',rfl,ru,rw'⟩:=Hf rv;cases ru;cases rw';obtain⟨ho,e1,ro⟩:=rg a _ hg;cases ho with
   | ins C2 dx gs=>
    obtain⟨rfl,r2,r3⟩:=ro;obtain⟨t1,t2⟩:=tab _ hb;exact CG (x:=V.ref a) I rfl (TyOf.ins e1 t1.cl t1.ca t1.gs t1.tk t1.mo) t2 fun tk=>⟨.bl _,H,I.tok tk,rfl,kk _ G _ H hq Kp.refl rg (.of fc)⟩
   | _=>exact ro.elim
  ·exact h.elim
 ·exact h.elim
end L3
namespace RQ
open PySem PySem.Spec PyProof.Rows L2 L3
structure Rw where
 pen:Str
 num:Int
 time:Int
 act:D
instance:Inhabited Rw:=⟨⟨"",0,0,.non⟩⟩
def Rw.d(r:Rw):D:=.tup [.tup [.str r.pen,.int r.num],.int r.time,r.act]
def Rw.key(r:Rw):D:=.tup [.int r.time,.tup [.str r.pen,.int r.num]]
def Rw.ok(r:Rw):Prop:=pl 4 r.act
def Rw.lt(a b:Rw):Bool:=if a.time=b.time then (if a.pen=b.pen then decide (a.num < b.num)else decide (a.pen.cps.toList < b.pen.cps.toList))else decide (a.time < b.time)
def dZ(rs:List Rw):Prop:=rs.Pairwise fun a b=>a.lt b=true
def jR(a b:Rw):Prop:=¬ (a.pen=b.pen/\a.num=b.num)
def lD(rs:List Rw):Prop:=∀ a∈rs,∀ b∈rs,a.pen=b.pen->a.num=b.num->a=b
abbrev HW:=List aE->Int
open PySem.W (SWO STO sR wQ wP wV oa rankIn rank_lt)
theorem xt:STO (fun a b:List Nat=>decide (a < b)):=by
 have e:(fun a b:List Nat=>decide (a < b))=sR wQ:=by funext a b;exact (oa a b).symm
 rw[e];exact wV wP
theorem GQ{x y:Str}(h:x.cps.toList=y.cps.toList):x=y:=by
 cases x;cases y;simp only at h;rw[Array.toList_inj.mp h]
theorem lt_irrefl(a:Rw):a.lt a=false:=by simp[Rw.lt]
theorem lt_trans(a b c:Rw)(h1:a.lt b=true)(h2:b.lt c=true):a.lt c=true:=by
 unfold Rw.lt at *
 by_cases e1:a.time=b.time
 ·rw[if_pos e1]at h1
  by_cases e2:b.time=c.time
  ·rw[if_pos e2]at h2;rw[if_pos (e1.trans e2)]
   by_cases p1:a.pen=b.pen
   ·rw[if_pos p1]at h1
    by_cases p2:b.pen=c.pen
    ·rw[if_pos p2]at h2;rw[if_pos (p1.trans p2)];simp only[decide_eq_true_eq]at *
     omega
    ·rw[if_neg p2]at h2;rw[p1,if_neg p2];exact h2
   ·rw[if_neg p1]at h1
    by_cases p2:b.pen=c.pen
    ·rw[<- p2,if_neg p1];exact h1
    ·rw[if_neg p2]at h2;have h3:=xt.trans _ _ _ h1 h2;rw[if_neg (fun e=>by rw[e,xt.irrefl]at h3;cases h3)]
     exact h3
  ·rw[if_neg e2]at h2;rw[e1,if_neg e2];exact h2
 ·rw[if_neg e1]at h1
  by_cases e2:b.time=c.time
  ·rw[<- e2,if_neg e1];exact h1
  ·rw[if_neg e2]at h2;simp only[decide_eq_true_eq]at *
   rw[if_neg (by walk_at "o")]
   simp only[decide_eq_true_eq];omega
theorem Eu(a b:Rw)(h1:a.lt b=false)(h2:b.lt a=false):a.pen=b.pen/\a.num=b.num/\a.time=b.time:=by
 unfold Rw.lt at *
 by_cases e1:a.time=b.time
 ·rw[if_pos e1]at h1;rw[if_pos e1.symm]at h2
  by_cases p1:a.pen=b.pen
  ·rw[if_pos p1]at h1;rw[if_pos p1.symm]at h2;simp only[decide_eq_false_iff_not]at *
   exact⟨p1,by walk_at "o",e1⟩
  ·rw[if_neg p1]at h1;rw[if_neg (Ne.symm p1)]at h2;exact absurd (GQ (xt.tot _ _ h1 h2)) p1
 ·rw[if_neg e1]at h1;rw[if_neg (Ne.symm e1)]at h2;simp only[decide_eq_false_iff_not]at *
  omega
theorem Ew{a b:Rw}(h:a.lt b=true):b.lt a=false:=by
 cases e:b.lt a with
 | false=>rfl
 | true=>have:=lt_trans _ _ _ h e;rw[lt_irrefl]at this;cases this
theorem Gn{a b c:Rw}(p:a.pen=b.pen)(n:a.num=b.num)(t:a.time=b.time):a.lt c=b.lt c/\c.lt a=c.lt b:=by
 unfold Rw.lt;rw[p,n,t];exact⟨rfl,rfl⟩
theorem DG:SWO Rw.lt where
 irrefl:=lt_irrefl
 trans:=lt_trans
 neg:=fun a b c h=>by
  cases e:a.lt b with
  | true=>exact .inl rfl
  | false=>
   cases e2:b.lt c with
   | true=>exact .inr rfl
   | false=>
    cases e3:b.lt a with
    | true=>have:=lt_trans _ _ _ e3 h;rw[e2]at this;cases this
    | false=>
     obtain⟨p,n,t⟩:=Eu a b e e3;rw[(Gn (c:=c) p n t).1,e2]at h;cases h
theorem iu:∀ {xs ys:List Rw},dZ xs->dZ ys->(∀ r,r∈xs↔r∈ys)->xs=ys
 | [],ys,_,_,h=>by
  cases ys with
  | nil=>rfl
  | cons y t=>have:=(h y).mpr MZ;simp at this
 | x::xs,[],_,_,h=>by have:=(h x).mp MZ;simp at this
 | x::xs,y::ys,h1,h2,h=>by
  unfold dZ at h1 h2;rw[List.pairwise_cons]at h1 h2;have hxy:x=y:=by
   rcases Nr.mp ((h x).mp MZ)with e|m1
   ·exact e
   ·rcases Nr.mp ((h y).mpr MZ)with e|m2
    ·exact e.symm
    ·have a1:=h2.1 x m1;have a2:=h1.1 y m2;rw[Ew a1]at a2;cases a2
  subst hxy;have nx:x∉xs:=fun m=>by have:=h1.1 x m;rw[lt_irrefl]at this;cases this
  have ny:x∉ys:=fun m=>by have:=h2.1 x m;rw[lt_irrefl]at this;cases this
  rw[iu h1.2 h2.2 fun r=>⟨fun m=>?_,fun m=>?_⟩]
  ·rcases Nr.mp ((h r).mp (MW _ m))with e|m'
   ·subst e;exact absurd m nx
   ·exact m'
  ·rcases Nr.mp ((h r).mpr (MW _ m))with e|m'
   ·subst e;exact absurd m ny
   ·exact m'
theorem e7(h:dZ xs):xs.Nodup:=List.Pairwise.imp (fun {a b} q e=>by subst e;rw[lt_irrefl]at q;cases q) h
theorem qE{xs:List Rw}(h:xs.Pairwise jR):xs.Nodup:=List.Pairwise.imp (fun {a b} q e=>by subst e;exact q ⟨rfl,rfl⟩) h
open Classical in
theorem f9:∀ {xs ys:List Rw},xs.Nodup->(∀ r∈xs,r∈ys)->xs.length<=ys.length
 | [],_,_,_=>NC _
 | x::xs,ys,h,s=>by
  rw[Om]at h;have hx:=s x MZ;have:=f9 (ys:=ys.erase x) h.2 fun r hr=>(List.mem_erase_of_ne (fun e=>by subst e;exact h.1 hr)).mpr (s r (MW _ hr))
  rw[List.length_erase_of_mem hx]at this;have hp:0 < ys.length:=List.length_pos_of_mem hx;rw[M1];omega
theorem vS(h:rs.Pairwise jR):lD rs:=by
 induction h with
 | nil=>intro a ha;simp at ha
 | @cons x xs h1 h2 ih=>
  intro a ha b hb p n;rcases Nr.mp ha with e|ha
  ·rcases Nr.mp hb with e'|hb
   ·rw[e,e']
   ·rw[e]at p n;exact absurd ⟨p,n⟩ (h1 b hb)
  ·rcases Nr.mp hb with e|hb
   ·rw[e]at p n;exact absurd ⟨p.symm,n.symm⟩ (h1 a ha)
   ·exact ih a ha b hb p n
theorem IT(a b:Rw):h_ 4 a.key b.key=a.lt b:=by
 show cA (h_ 3) [.int a.time,.tup [.str a.pen,.int a.num]] [.int b.time,.tup [.str b.pen,.int b.num]]=_
 unfold Rw.lt
 by_cases e:a.time=b.time
 ·rw[if_pos e];have h1:eA (.int a.time) (.int b.time)=true:=by rw[e];exact bX _
  rw[show cA (h_ 3) [.int a.time,.tup [.str a.pen,.int a.num]] [.int b.time,.tup [.str b.pen,.int b.num]]=cA (h_ 3) [.tup [.str a.pen,.int a.num]] [.tup [.str b.pen,.int b.num]]by simp[cA,h1]]
  have inner:h_ 3 (.tup [.str a.pen,.int a.num]) (.tup [.str b.pen,.int b.num])=if a.pen=b.pen then decide (a.num < b.num)else decide (a.pen.cps.toList < b.pen.cps.toList):=by
   show cA (h_ 2) [.str a.pen,.int a.num] [.str b.pen,.int b.num]=_
   by_cases p:a.pen=b.pen
   ·have h2:eA (.str a.pen) (.str b.pen)=true:=by rw[p];exact bX _
    rw[if_pos p]
    by_cases n:a.num=b.num
    ·have h3:eA (.int a.num) (.int b.num)=true:=by rw[n];exact bX _
     simp[cA,h2,n,bX]
    ·have h3:eA (.int a.num) (.int b.num)=false:=bf (by simpa using n)
     simp[cA,h2,h3,h_]
   ·have h2:eA (.str a.pen) (.str b.pen)=false:=bf (by simpa using p)
    rw[if_neg p];simp[cA,h2,h_]
  by_cases t:(D.tup [.str a.pen,.int a.num])=.tup [.str b.pen,.int b.num]
  ·have h2:=xl t;simp only[D.tup.injEq,List.cons.injEq,D.str.injEq,D.int.injEq,and_true]at t;simp[cA,t.1,t.2,bX]
  ·rw[<- inner];simp[cA,bf t]
 ·rw[if_neg e];have h1:eA (.int a.time) (.int b.time)=false:=bf (by simpa using e)
  simp[cA,h1,h_]
theorem IW(a b:Rw):z0 4 a.key b.key:=by
 refine⟨⟨trivial,trivial⟩,fun _=>trivial,⟨fun d hd=>?_,fun d hd=>?_⟩,fun _=>?_,trivial⟩
 ·simp only[Nr,Nq,or_false]at hd;rcases hd with rfl|rfl<;>trivial
 ·simp only[Nr,Nq,or_false]at hd;rcases hd with rfl|rfl<;>trivial
 ·exact⟨⟨trivial,trivial⟩,fun _=>trivial,⟨trivial,trivial⟩,fun _=>trivial,trivial⟩
def qu(r:Rw):List aE:=[.inr r.pen,.inl r.num]
def pN(r:Rw):List aE×D:=(qu r,r.d)
theorem vy:qu a=qu b↔a.pen=b.pen/\a.num=b.num:=by
 simp[qu]
theorem Ij{vs:List Rw}{r:Rw}(h:r∈vs)(o:∀ a∈vs,a.pen=r.pen->a.num=r.num->a=r):bu (vs.map pN) (qu r) r.d=vs.map pN:=by
 unfold bu;rw[if_pos (by rw[List.any_eq_true];exact⟨pN r,List.mem_map_of_mem h,decide_eq_true rfl⟩),NH]
 refine N5 fun a ha=>?_;simp only[Function.comp_apply];split
 ·rename_i e;obtain⟨p,n⟩:=vy.mp e;have:=o a ha p n;subst this;rfl
 ·rfl
theorem put_new(h:∀ a∈vs,jR a r):bu (vs.map pN) (qu r) r.d=(vs ++ [r]).map pN:=by
 unfold bu;rw[if_neg]
 ·rw[NN];rfl
 ·rw[Bool.not_eq_true,List.any_eq_false];intro kv hkv;obtain⟨a,ha,rfl⟩:=mem_map.mp hkv;simp only[decide_eq_true_eq];intro e;exact h a ha (vy.mp e)
theorem Dz{vs:List Rw}(hv:vs.Pairwise jR){p:List Nat}(hp:p.Perm (List.range vs.length))(hs:(p.map fun i=>rankIn Rw.lt vs (vs.getD i default)).Pairwise (·<=·)):
  dZ (p.map fun i=>vs.getD i default)/\∀ r,r∈(p.map fun i=>vs.getD i default)↔r∈vs:=by
 have inr:∀ i∈p,i < vs.length:=fun i hi=>mem_range.mp (hp.mem_iff.mp hi);have gm:∀ i,i < vs.length->vs.getD i default∈vs:=fun i hi=>by rw[M4,MX hi];exact Po hi
 constructor
 ·unfold dZ;rw[Pt]at hs ⊢;have nd:p.Nodup:=hp.nodup_iff.mpr List.nodup_range;refine (hs.and nd).imp_of_mem fun {i j} hi hj h=>?_;have li:=inr i hi;have lj:=inr j hj;have nlt:(vs.getD j default).lt (vs.getD i default)=false:=by
   rw[rank_lt DG (gm j lj),decide_eq_false_iff_not,not_lt];exact h.1
  cases e:(vs.getD i default).lt (vs.getD j default) with
  | true=>rfl
  | false=>
   obtain⟨pp,nn,_⟩:=Eu _ _ e nlt;have ap:jR (vs.getD i default) (vs.getD j default):=by
    rw[M4,M4,MX li,MX lj];rcases Nat.lt_or_gt_of_ne h.2 with l|l
    ·exact List.pairwise_iff_getElem.mp hv i j li lj l
    ·exact fun z=>List.pairwise_iff_getElem.mp hv j i lj li l ⟨z.1.symm,z.2.symm⟩
   exact absurd ⟨pp,nn⟩ ap
 ·intro r;have e:((List.range vs.length).map fun i=>vs.getD i default)=vs:=L3.range_getD vs default;have q:=hp.map fun i=>vs.getD i default;rw[e]at q;exact q.mem_iff
theorem ir{κ:Type}[DecidableEq κ](k k':κ)(v:D):∀ kvs:List (κ×D),dF (bu kvs k v) k'=if k'=k then some v else dF kvs k':=by
 have go:∀ kvs:List (κ×D),(kvs.any fun kv=>decide (kv.1=k))=true->dF (kvs.map fun kv=>if kv.1=k then (kv.1,v)else kv) k'=if k'=k then some v else dF kvs k':=by
  intro kvs
  induction kvs with
  | nil=>intro h;simp at h
  | cons p r ih=>
   intro h
   by_cases e:p.1=k
   ·by_cases e':k'=k
    ·rw[if_pos e'];simp[dF,No,e,e']
    ·rw[if_neg e'];have n1:¬ k=k':=fun z=>e' z.symm;have skip:∀ q:List (κ×D),dF (((p.1,v):κ×D)::q) k'=dF q k':=fun q=>by simp[dF,No,e,n1]
     have T3:dF (p::r) k'=dF r k':=by simp[dF,No,e,n1]
     rw[M8,if_pos e,skip,T3]
     by_cases hr:(r.any fun kv=>decide (kv.1=k))=true
     ·have:=ih hr;rw[if_neg e']at this;exact this
     ·have:r.map (fun kv=>if kv.1=k then (kv.1,v)else kv)=r:=by
       rw[Bool.not_eq_true,List.any_eq_false]at hr
       conv=>rhs;rw[<- List.map_id r]
       refine N5 fun a ha=>?_;have:=hr a ha;simp only[decide_eq_true_eq]at this;rw[if_neg this];rfl
      rw[this]
   ·have hr:(r.any fun kv=>decide (kv.1=k))=true:=by simpa[e]using h
    rw[M8,if_neg e]
    by_cases e2:p.1=k'
    ·have n1:¬ k'=k:=fun z=>e (e2.trans z);rw[if_neg n1];simp[dF,No,e2]
    ·have s1:∀ q:List (κ×D),dF (p::q) k'=dF q k':=fun q=>by simp[dF,No,e2]
     rw[s1,s1];exact ih hr
 intro kvs;unfold bu
 by_cases h:(kvs.any fun kv=>decide (kv.1=k))=true
 ·rw[if_pos h];exact go kvs h
 ·rw[if_neg h]
  by_cases e':k'=k
  ·rw[if_pos e'];subst e';have hn:dF kvs k'=none:=by
    have:=oO k' kvs;rw[Bool.not_eq_true]at h;rw[h]at this;cases q:dF kvs k' with
    | none=>rfl
    | some _=>rw[q]at this;cases this
   unfold dF at hn ⊢;rw[List.find?_append];cases q:kvs.find? fun kv=>decide (kv.1=k') with
   | none=>simp
   | some z=>rw[q]at hn;cases hn
  ·rw[if_neg e'];unfold dF;rw[List.find?_append];cases q:kvs.find? fun kv=>decide (kv.1=k') with
   | none=>simp;exact fun z=>e' z.symm
   | some z=>rfl
set_option genInjectivity false in
structure Sl where
 pen:Str
 n:Int
 k:Int
deriving DecidableEq
instance:Inhabited Sl:=⟨⟨"",0,0⟩⟩
def Sl.d(s:Sl):D:=.tup [.str s.pen,.int s.n,.int s.k]
def Sl.key(s:Sl):List aE:=[.inr s.pen,.inl s.n,.inl s.k]
theorem Sl.key_inj{a b:Sl}(h:a.key=b.key):a=b:=by
 obtain⟨a1,a2,a3⟩:=a;obtain⟨b1,b2,b3⟩:=b;simp only[Sl.key,List.cons.injEq,Sum.inr.injEq,Sum.inl.injEq,and_true]at h;obtain⟨rfl,rfl,rfl⟩:=h;rfl
theorem Sl.d_inj{a b:Sl}(h:a.d=b.d):a=b:=by
 obtain⟨a1,a2,a3⟩:=a;obtain⟨b1,b2,b3⟩:=b;simp only[Sl.d,D.tup.injEq,List.cons.injEq,D.str.injEq,D.int.injEq,and_true]at h;obtain⟨rfl,rfl,rfl⟩:=h;rfl
theorem xa(s:Sl):ow s.d=some s.key:=rfl
def aA:Sl:=⟨MN "",0,0⟩
set_option genInjectivity false in
inductive Act where
 | put (a:Sl) (x:Str)
 | strike (ns:List Sl)
 | dress (ns:List Sl) (w:Str)
 | move (ns:List Sl) (a:Sl)
def Act.d:Act->D
 | .put a x=>.tup [.str "put",a.d,.str x]
 | .strike ns=>.tup [.str "strike",.tup (ns.map Sl.d)]
 | .dress ns w=>.tup [.str "dress",.tup (ns.map Sl.d),.str w]
 | .move ns a=>.tup [.str "move",.tup (ns.map Sl.d),a.d]
def Act.many:Act->Nat
 | .put _ x=>x.length
 | .move ns _=>ns.length
 | _=>0
def Act.anch:Act->Sl
 | .put a _=>a
 | .move _ a=>a
 | _=>aA
set_option genInjectivity false in
structure Sk where
 pen:Str
 num:Int
 time:Int
 act:Act
instance:Inhabited Sk:=⟨⟨"",0,0,.strike []⟩⟩
def Sk.rw(s:Sk):Rw:=⟨s.pen,s.num,s.time,s.act.d⟩
def Sk.d(s:Sk):D:=.tup [.tup [.str s.pen,.int s.num],.int s.time,s.act.d]
def Sk.ok(s:Sk):Prop:=1<=s.num/\s.act.many<=1000
def dh(pen:Str)(n:Int)(m:Nat):List Sl:=(List.range m).map fun (k:Nat)=>⟨pen,n,(k:Int)+1⟩
def made(s:Sk):List Sl:=dh s.pen s.num s.act.many
def fK(m:Nat):List Sl:=dh (MN "") 0 m
theorem aY(p:Str)(n:Int)(m:Nat):(dh p n m).length=m:=by simp[dh]
theorem dU(p:Str)(n:Int)(m:Nat):(dh p n m).Nodup:=by
 unfold dh List.Nodup;rw[Pt];refine List.Pairwise.imp ?_ (List.nodup_range (n:=m));intro a b h e;injection e with e1 e2 e3
 exact h (by walk_at "o")
theorem d6(h:x∈dh p n m):x.pen=p/\x.n=n/\1<=x.k:=by
 unfold dh at h;obtain⟨k,_,rfl⟩:=mem_map.mp h;exact⟨rfl,rfl,by show 1<=(k:Int)+1;omega⟩
def Dg:List Sl->D
 | []=>.non
 | s::_=>s.d
def nx:List Sl->Sl->D
 | [],_=>.non
 | a::t,c=>if a=c then Dg t else nx t c
def jX:List Sl->Sl->Sl->List Sl
 | [],_,_=>[]
 | a::t,b,x=>if a=b then a::x::t else a::jX t b x
def bp:List Sl->Sl->List Sl->List Sl
 | W,_,[]=>W
 | W,b,x::t=>bp (jX W b x) x t
theorem dW(hb:b∈W):∀ c,c∈jX W b x↔c∈W\/c=x:=by
 induction W with
 | nil=>simp at hb
 | cons a t ih=>
  intro c;unfold jX
  by_cases e:a=b
  ·rw[if_pos e];simp only[Nr];constructor
   ·rintro (h|h|h)
    ·exact .inl (.inl h)
    ·exact .inr h
    ·exact .inl (.inr h)
   ·rintro ((h|h)|h)
    ·exact .inl h
    ·exact .inr (.inr h)
    ·exact .inr (.inl h)
  ·rw[if_neg e];have hb':b∈t:=by
    rcases Nr.mp hb with z|z
    ·exact absurd z.symm e
    ·exact z
   simp only[Nr,ih hb' c];constructor
   ·rintro (h|h|h)
    ·exact .inl (.inl h)
    ·exact .inl (.inr h)
    ·exact .inr h
   ·rintro ((h|h)|h)
    ·exact .inl h
    ·exact .inr (.inl h)
    ·exact .inr (.inr h)
theorem kS(hb:b∈W):(jX W b x).length=W.length+1:=by
 induction W with
 | nil=>simp at hb
 | cons a t ih=>
  unfold jX
  by_cases e:a=b
  ·rw[if_pos e];simp
  ·rw[if_neg e];have hb':b∈t:=by
    rcases Nr.mp hb with z|z
    ·exact absurd z.symm e
    ·exact z
   simp[ih hb']
theorem tE(hW:W.Nodup)(hx:x∉W)(hb:b∈W):(jX W b x).Nodup:=by
 induction W with
 | nil=>simp at hb
 | cons a t ih=>
  unfold jX;rw[Om]at hW
  by_cases e:a=b
  ·rw[if_pos e,Om,Om];simp only[Nr,not_or]at hx;refine⟨?_,hx.2,hW.2⟩;rw[Nr,not_or];exact⟨Ne.symm hx.1,hW.1⟩
  ·rw[if_neg e];have hb':b∈t:=by
    rcases Nr.mp hb with z|z
    ·exact absurd z.symm e
    ·exact z
   simp only[Nr,not_or]at hx;rw[Om];refine⟨fun z=>?_,ih hW.2 hx.2 hb'⟩;rcases (dW hb' a).mp z with z|z
   ·exact hW.1 z
   ·exact hx.1 z.symm
theorem EF:Dg (jX W b x)=Dg W:=by
 cases W with
 | nil=>rfl
 | cons a t=>
  unfold jX;split<;>rfl
theorem Gz(hW:W.Nodup)(hx:x∉W)(hb:b∈W):∀ c,nx (jX W b x) c=if c=x then nx W b else if c=b then x.d else nx W c:=by
 induction W with
 | nil=>simp at hb
 | cons a t ih=>
  intro c;rw[Om]at hW;simp only[Nr,not_or]at hx;unfold jX
  by_cases e:a=b
  ·subst e;rw[if_pos rfl];simp only[nx]
   by_cases c1:c=x
   ·subst c1;rw[if_neg (Ne.symm hx.1),if_pos rfl,if_pos rfl];simp
   ·rw[if_neg c1]
    by_cases c2:c=a
    ·subst c2;simp[Dg]
    ·rw[if_neg (Ne.symm c2),if_neg (fun z=>c1 z.symm),if_neg c2,if_neg (Ne.symm c2)]
  ·rw[if_neg e];have hb':b∈t:=by
    rcases Nr.mp hb with z|z
    ·exact absurd z.symm e
    ·exact z
   simp only[nx];rw[EF,ih hW.2 hx.2 hb' c]
   by_cases c0:a=c
   ·subst c0;rw[if_pos rfl,if_neg (fun z=>hx.1 z.symm),if_neg e,if_pos rfl]
   ·rw[if_neg c0,if_neg c0,if_neg e]
def Db(kvs:List (List aE×D))(W:List Sl):Prop:=W.Nodup/\kvs.length=W.length/\(∀ s,s∉W->dF kvs s.key=none)/\∀ s∈W,dF kvs s.key=some (nx W s)
theorem yM{κ:Type}[DecidableEq κ]{kvs:List (κ×D)}{k:κ}{v:D}:(bu kvs k v).length=if (dF kvs k).isSome=true then kvs.length else kvs.length+1:=by
 unfold bu;rw[oO];split<;>simp
theorem ES(h:Db kvs W)(hb:b∈W)(hx:x∉W):Db (bu (bu kvs x.key (nx W b)) b.key x.d) (jX W b x):=by
 obtain⟨h1,h2,h3,h4⟩:=h;have hne:b≠x:=fun z=>hx (z ▸ hb);have at2:∀ c:Sl,dF (bu (bu kvs x.key (nx W b)) b.key x.d) c.key=if c=b then some x.d else if c=x then some (nx W b)else dF kvs c.key:=fun c=>by
  rw[ir,ir]
  by_cases e1:c=b
  ·subst e1;rw[if_pos rfl,if_pos rfl]
  ·rw[if_neg (fun z=>e1 (Sl.key_inj z)),if_neg e1]
   by_cases e2:c=x
   ·subst e2;rw[if_pos rfl,if_pos rfl]
   ·rw[if_neg (fun z=>e2 (Sl.key_inj z)),if_neg e2]
 refine⟨tE h1 hx hb,?_,fun c hc=>?_,fun c hc=>?_⟩
 ·rw[yM,yM,h3 x hx,ir,if_neg (fun z=>hne (Sl.key_inj z)),h4 b hb,kS hb,h2];simp
 ·have hc':c∉W/\c≠x:=⟨fun z=>hc ((dW hb c).mpr (.inl z)),fun z=>hc ((dW hb c).mpr (.inr z))⟩;rw[at2,if_neg (fun (z:c=b)=>hc'.1 (by rw[z];exact hb)),if_neg hc'.2]
  exact h3 c hc'.1
 ·rw[at2,Gz h1 hx hb]
  by_cases e1:c=b
  ·subst e1;rw[if_pos rfl,if_neg hne,if_pos rfl]
  ·rw[if_neg e1]
   by_cases e2:c=x
   ·rw[if_pos e2,if_pos e2]
   ·rw[if_neg e2,if_neg e2,if_neg e1];rcases (dW hb c).mp hc with z|z
    ·exact h4 c z
    ·exact absurd z e2
theorem CN(v:List Sl->Prop):Db [(aA.key,.non)] [aA]:=by
 refine⟨by simp,rfl,fun s hs=>?_,fun s hs=>?_⟩
 ·have:s≠aA:=by simpa using hs
  simp only[dF,No,List.find?_nil];rw[decide_eq_false (fun z=>this (Sl.key_inj z).symm)];rfl
 ·have:s=aA:=by simpa using hs
  subst this;simp[dF,nx,Dg]
def dG(W:List Sl)(s:Sk):List Sl:=if s.act.anch∈W then bp W s.act.anch (made s)else W
def mE(n:Nat)(out:List Sk):List Sl:=out.foldl dG (bp [aA] aA (fK n))
theorem tD:∀ {ss W:List Sl} {b:Sl},b∈W->∀ c,c∈bp W b ss↔c∈W\/c∈ss
 | [],W,b,hb,c=>by simp[bp]
 | x::t,W,b,hb,c=>by
  unfold bp;rw[tD (ss:=t) ((dW hb x).mpr (.inr rfl)) c,dW hb c,Nr];constructor
  ·rintro ((h|h)|h)
   ·exact .inl h
   ·exact .inr (.inl h)
   ·exact .inr (.inr h)
  ·rintro (h|h|h)
   ·exact .inl (.inl h)
   ·exact .inl (.inr h)
   ·exact .inr h
theorem ml:∀ {ss W:List Sl} {b:Sl},b∈W->(bp W b ss).length=W.length+ss.length
 | [],W,b,hb=>by simp[bp]
 | x::t,W,b,hb=>by
  unfold bp;rw[ml (ss:=t) ((dW hb x).mpr (.inr rfl)),kS hb,M1];omega
theorem AU(h:b∉pre):jX (pre ++ b::post) b x=pre ++ b::x::post:=by
 induction pre with
 | nil=>simp[jX]
 | cons a t ih=>
  simp only[Nr,not_or]at h;simp only[OB,jX];rw[if_neg (Ne.symm h.1),ih h.2]
theorem oB:∀ {ss pre post:List Sl} {b:Sl},b∉pre->ss.Nodup->(∀ x∈ss,x∉pre/\x≠b)->bp (pre ++ b::post) b ss=pre ++ b::(ss ++ post)
 | [],pre,post,b,_,_,_=>by simp[bp]
 | x::t,pre,post,b,h,nd,hs=>by
  unfold bp;rw[AU h];rw[Om]at nd;have hx:=hs x MZ;have e:pre ++ b::x::post=(pre ++ [b]) ++ x::post:=by simp
  rw[e,oB (ss:=t) (pre:=pre ++ [b]) (post:=post) (b:=x) (by simp[hx.1,hx.2]) nd.2 (fun y hy=>?_)]
  ·simp
  ·have hy':=hs y (MW _ hy);refine⟨by simp[hy'.1,hy'.2],fun z=>nd.1 (z ▸ hy)⟩
def zT(done:List Sk)(W:List Sl):Prop:=∀ x∈W,x.n=0\/∃ s∈done,x.pen=s.pen/\x.n=s.num
theorem zr(h:zT done W)(hs:1<=s.num)(ap:∀ r∈done,¬ (r.pen=s.pen/\r.num=s.num)):∀ x∈made s,x∉W:=fun x hx hW=>by
 obtain⟨p1,p2,_⟩:=d6 hx;rcases h x hW with z|⟨r,hr,z1,z2⟩
 ·omega
 ·exact ap r hr ⟨z1.symm.trans p1,z2.symm.trans p2⟩
theorem vE(h:zT done W):zT (done ++ [s]) (dG W s):=fun x hx=>by
 unfold dG at hx;have up:x∈W->x.n=0\/∃ r∈done ++ [s],x.pen=r.pen/\x.n=r.num:=fun z=>by
  rcases h x z with q|⟨r,hr,q⟩
  ·exact .inl q
  ·exact .inr ⟨r,List.mem_append_left _ hr,q⟩
 split at hx
 ·rename_i ha;rcases (tD ha x).mp hx with z|z
  ·exact up z
  ·obtain⟨p1,p2,_⟩:=d6 z;exact .inr ⟨s,by simp,p1,p2⟩
 ·exact up hx
theorem cF(n:Nat):bp [aA] aA (fK n)=aA::fK n:=by
 have:=oB (ss:=fK n) (pre:=[]) (post:=[]) (b:=aA) (by simp) (dU _ _ _) (fun x hx=>⟨by simp,fun z=>by
  obtain⟨_,_,h⟩:=d6 hx;rw[z]at h;exact absurd h (by decide)⟩)
 simpa using this
theorem tI(n:Nat):zT [] (bp [aA] aA (fK n)):=fun x hx=>by
 rw[cF]at hx;rcases Nr.mp hx with z|z
 ·subst z;exact .inl rfl
 ·exact .inl (d6 z).2.1
theorem zq(n:Nat):∀ (out done:List Sk) (W:List Sl),zT done W->zT (done ++ out) (out.foldl dG W)
 | [],done,W,h=>by simpa using h
 | s::t,done,W,h=>by
  have:=zq n t (done ++ [s]) (dG W s) (vE h)
  simpa using this
theorem B5(h:W=aA::R):∃ R',dG W s=aA::R':=by
 unfold dG;split
 ·rename_i ha;clear ha;generalize made s=ss;generalize s.act.anch=b
  induction ss generalizing W b R with
  | nil=>exact⟨R,h⟩
  | cons x t ih=>
   unfold bp;subst h;unfold jX;split
   ·exact ih rfl _
   ·exact ih rfl _
 ·exact⟨R,h⟩
theorem yB(n:Nat):∀ (out:List Sk) (W R:List Sl),W=aA::R->∃ R',out.foldl dG W=aA::R'
 | [],W,R,h=>⟨R,h⟩
 | s::t,W,R,h=>by
  obtain⟨R',h'⟩:=B5 (s:=s) h;exact yB n t _ R' h'
def gP(n:Nat)(out:List Sk):List Sl:=(mE n out).tail
theorem rC(n:Nat)(out:List Sk):mE n out=aA::gP n out:=by
 obtain⟨R,h⟩:=yB n out _ (fK n) (cF n);unfold gP;have:mE n out=aA::R:=h;rw[this];rfl
theorem vi(n:Nat)(out:List Sk)(s:Sk):mE n (out ++ [s])=dG (mE n out) s:=by simp[mE]
theorem wM(W:List Sl):val (Dg W)=Dg W:=by cases W<;>rfl
theorem IL(W:List Sl)(c:Sl):val (nx W c)=nx W c:=by
 induction W with
 | nil=>rfl
 | cons a t ih=>
  unfold nx;split
  ·exact wM t
  ·exact ih
end RQ
open RQ
namespace L3
open PySem PySem.Spec PyProof.Rows L2 PySem.SeqAt PySem.W
end L3
namespace L3
open PySem PySem.Spec PyProof.Rows L2 PySem.SeqAt PySem.W
def C9(h:M5)(d:ML)(vs:List MI)(ep:Nat):Prop:=∃ o es,h.get? d=some o/\o.ExactDict/\o.data=.dict es ep/\es.toList.map (·.key)=vs
section
variable{prog:MY}{w:M7}{A:M3}{E:MI->MK->Prop}{s:MK}{d r it:ML}{vs:List MI}{ep i:Nat}
theorem C9.ty(x:C9 s.heap d vs ep):s.TypeIs (.ref d) "dict":=let ⟨o,_,e,z,_⟩:=x;⟨o,e,z.1⟩
theorem DS(hi:s.heap.IsKeyIter it d i vs.length ep)(x:C9 s.heap d vs ep)(hv:vs[i]?=some v)(q:∀ h',h'.IsKeyIter it d (i+1) vs.length ep->Oe it s.heap h'->Q (some v) { s with heap:=h' }):MP (MR prog w) A (Ob (.ref it)) Q E s:=by
 obtain⟨o,e1,c1,d1⟩:=id hi;obtain⟨od,es,e2,c2,d2,rfl⟩:=x;unfold Ob;refine MH (N0 (Nz (name:=MN "__next__") hi.typeIs OI (Ny OI hi.typeIs QX ?_ (QQ _))));refine MH (MJ ?_);refine MH ?_;refine MH ?_
 first|refine MH (Oy hi.typeIs (MJ ?_))|refine MH (OW hi.typeIs (MJ ?_))
 refine MH (O5 e1 d1 ?_);have own:NI "dict_keyiterator"=false:=by decide
 simp only[own,Bool.false_eq_true,if_false];show MP _ _ (if (Value.ref d == Value.none)=true then _ else _) _ _ s;rw[if_neg (show ¬ ((Value.ref d == Value.none)=true)from Bool.false_ne_true)]
 refine MH (MJ ?_);refine MH (N8 e2 d2 ?_);have z:es.size=(es.toList.map (·.key)).length:=by simp
 rw[if_neg (by rw[z];simp)];refine MH (MJ ?_);refine MH (Op e2 d2 ?_)
 rw[if_neg (by simp)];refine MJ ?_
 have lt:i < es.size:=by
  rw[z];rcases OO i (es.toList.map (·.key)).length with h|h
  ·exact h
  ·rw[Ov h]at hv;cases hv
 have val:es[i].key=v:=by
  rw[Nc]at hv
  simpa[lt]using hv
 simp only[show ¬ ((i:Int) < 0)from by walk_at "o",if_false,Int.toNat_natCast,Array.getElem?_eq_getElem lt];refine MH ?_
 first|refine MH (Oy hi.typeIs (MJ ?_))|refine MH (OW hi.typeIs (MJ ?_))
 refine MH (RU hi.typeIs ?_);show MP _ _ (Qd (.ref it) 1 (N4 ((i:Int)+1)) >>= _) _ _ s;refine MH (Ou e1 d1 (by simp) ?_)
 have hi':(s.heap.update it (NE (·.setIfInBounds 1 (N4 ((i:Int)+1))))).IsKeyIter it d (i+1) (es.toList.map (·.key)).length ep:=
  ⟨_,Nx _ e1 (Oo (NP d1 _)),(PL ..).trans c1,by rw[NP d1];simp[N4]⟩
 refine MH (Nf ?_);refine MH (RU (s:={ s with heap:=s.heap.update it (NE (·.setIfInBounds 1 (N4 ((i:Int)+1)))) }) hi'.typeIs ?_)
 show MP _ _ (pure es[i].key) _ _ _
 exact MJ (MJ ⟨_,rfl,MJ (val ▸ q _ hi' (OS ..))⟩)
theorem FM(hh:A.handled=none)(hi:s.heap.IsKeyIter it d i vs.length ep)(x:C9 s.heap d vs ep)(hv:vs[i]?=none)(q:∀ h',R5 it s.heap h'->Q none { s with heap:=h' }):MP (MR prog w) A (Ob (.ref it)) Q E s:=by
 obtain⟨o,e1,c1,d1⟩:=id hi;obtain⟨od,es,e2,c2,d2,rfl⟩:=x;unfold Ob;refine MH (N0 (Nz (name:=MN "__next__") hi.typeIs OI (Ny OI hi.typeIs QX ?_ (QQ _))));refine MH (MJ ?_);refine MH ?_;refine MH ?_
 first|refine MH (Oy hi.typeIs (MJ ?_))|refine MH (OW hi.typeIs (MJ ?_))
 refine MH (O5 e1 d1 ?_);have own:NI "dict_keyiterator"=false:=by decide
 simp only[own,Bool.false_eq_true,if_false];show MP _ _ (if (Value.ref d == Value.none)=true then _ else _) _ _ s;rw[if_neg (show ¬ ((Value.ref d == Value.none)=true)from Bool.false_ne_true)]
 refine MH (MJ ?_);refine MH (N8 e2 d2 ?_);have z:es.size=(es.toList.map (·.key)).length:=by simp
 rw[if_neg (by rw[z];simp)];refine MH (MJ ?_);refine MH (Op e2 d2 ?_)
 rw[if_neg (by simp)];refine MJ ?_
 have ge:es.size<=i:=by rw[z];simpa using hv
 simp only[show ¬ ((i:Int) < 0)from by walk_at "o",if_false,Int.toNat_natCast,Array.getElem?_eq_none ge];refine MH ?_
 first|refine MH (Oy hi.typeIs (MJ ?_))|refine MH (OW hi.typeIs (MJ ?_))
 show MP _ _ (Qd (.ref it) 0 .none >>= _) _ _ s;refine MH (Ou e1 d1 (by simp) ?_)
 show MP _ _ (RA (.type "StopIteration") [] >>= _) _ _ _;refine MH ?_
 simp only[RA,newTuple];refine MH (Nd ?_ (by size_fits))
 refine MH (m:=O7 _ _) (RW (a:=Value.none) (by first|rfl|(simp only[O7];rfl)) ?_);refine Nd ?_ (by size_fits)
 simp only[raiseNew];refine MH (Rg ?_);rw[show A.in1.handled=none from hh]
 refine MH (MJ (RV ?_));refine MH (Pc (T:="StopIteration") (b:=true) ⟨_,MQ _ rfl,rfl⟩ Qe ?_);exact MJ (q _ (((OS ..).extBut.push _).push _))
end
open HT
section
variable{X:Cx}{prog:MY}{w:M7}{A:M3}{E:MI->MK->Prop}{s:MK}
def Mq:K7:=fun x lo hi G Q=>match x with
 | .tup ds=>Q (.tup (cutD ds lo hi)) G
 | _=>False
end
def JA(te:aZ)(t:jN):jN:=fun σ G Q=>af te t σ G Q\/te σ G fun x G1=>match x with
 | .fl ds=>∀ p,G1 p=none->t σ (gset G1 p (.lst ds)) fun es G2=>Q (.ref p::es) G2
 | _=>False
end L3
namespace L2
open PySem PySem.Spec PyProof.Rows
end L2
namespace L3
open PySem PySem.Spec PyProof.Rows L2
theorem RDs.bls_inv{K:Ps}{H:Hp}:∀ (ns:List Bool) {xs:List V},RDs K H (ns.map D.bl) xs->xs=ns.map V.bl
 | [],xs,h=>h.inv_nil
 | n::r,xs,h=>by
  obtain⟨x,t,e,h1,h2⟩:=RDs.inv_cons (d:=.bl n) (ds:=r.map D.bl) h;simp only[RD]at h1;subst e h1;rw[RDs.bls_inv r h2];rfl
theorem zK:∀ {ns:List Bool} {us:List MI},Vals (ns.map V.bl) us->us=ns.map Value.bool
 | [],us,w=>by cases w;rfl
 | n::r,us,w=>by
  rw[M8]at w;cases w with
  | cons h w=>
   cases h;rw[zK w];rfl
def BQ:Bb:=fun ds G Q=>match ds with
 | [d]=>∃ bs:List Bool,tY G d=some (bs.map D.bl)/\Q (.bl (bs.all id)) G
 | _=>False
theorem vT:∀ (bs:List Bool),(List.range bs.length).all (fun i=>bs.getD i false)=bs.all id
 | []=>rfl
 | b::r=>by
  rw[M1,List.range_succ_eq_map,List.all_cons,List.all_cons,List.all_map];have:=vT r;rw[<- this];rfl
theorem Jw(hc:X.calm=true):eF X (.builtin "all") (n_ X.K BQ):=by
 rintro pins s σ H vs us Q I rv ⟨ds,G,Q3,rds,rg,h,kk⟩
 unfold BQ at h;split at h
 ·rename_i d;obtain⟨v,rfl,rd⟩:=fT rds;obtain⟨bs,he,h⟩:=h;obtain⟨a,xs,rfl,sq,r⟩:=p5 (G:=G) (H:=H) he (.of rd) rg;obtain⟨u,rfl,ru⟩:=xR rv;cases ru;rw[RDs.bls_inv bs r]at sq;obtain⟨its,w,pl,hz⟩:=I.list sq;have ei:its=bs.map Value.bool:=zK w;have ll:a < s.heap.objs.size:=let ⟨o,e,_⟩:=pl.isList;MS e;refine call_all_walk (PH pl.isList ?_);refine⟨s.heap.objs.size,_,_,_,_,_,fun i=>bs.getD i false,rfl,Walks.list (A:=X.A.in1) (I.ok.hd hc) _ a (Na ll) its.toArray,⟨⟨_,MQ _ rfl,rfl,rfl⟩,pl.isList.push _⟩,fun i v s Q E hP hQ=>?_,fun h' tk hk=>?_⟩
  ·have e:v=.bool (bs.getD i false):=by
    have hP':its[i]?=some v:=by simpa using hP
    rw[ei,Nc]at hP';cases hb:bs[i]? with
    | none=>rw[hb]at hP';cases hP'
    | some b=>
     rw[hb]at hP';cases hP';rw[M4,hb];rfl
   rw[e];exact N7 hQ
  ·have el:its.toArray.size=bs.length:=by rw[MV,ei,MO]
   rw[el,vT];refine⟨.bl _,H,I.kept fun b o e=>hk b o (fun z=>?_) (MM _ e),rfl,kk _ G _ H h Kp.refl rg (.of fc)⟩;rw[Qt.mp z]at e;exact absurd (MS e) (Nat.lt_irrefl _)
 ·exact h.elim
end L3
namespace L2
open PySem PySem.Spec PyProof.Rows
abbrev gc(h:M5)(z TI TO:ML)(f0 f1:MI):Prop:=
 h.get? z=some { cls:=.type "zip",dict:=none,data:=.fields #[f0,f1,.bool false,.ref TI,.ref TO],slots:=#[] }
def rq(f0:MI):Prop:=f0=.none\/∃ T:ML,f0=N4 T
structure ZApart(z TI TO i1 i2:ML)(fp1 fp2:List ML):Prop where
 a1:TI≠z
 a2:TO≠z
 a3:i1≠z
 a4:i2≠z
 a5:TI≠TO
 a6:TI≠i1
 a7:TI≠i2
 a8:TO≠i1
 a9:TO≠i2
 a10:i1≠i2
 f1:∀ b∈fp1,b≠z/\b≠TO/\b≠i2
 f2:∀ b∈fp2,b≠z/\b≠TO/\b≠i1
section
variable{prog:MY}{w:M7}{A:M3}{E:MI->MK->Prop}{s:MK}
theorem xQ{α:Type}{M:R4}{a:ML}{k:Option Obj->Sem α}{Q:α->MK->Prop}(h:MP M A (k (s.heap.get? a)) Q E s):MP M A (QV a >>= k) Q E s:=fun Γ p hΓ=>by
 have e:(QV a >>= k)=Sem.loadIfAlive a k:=rfl;rw[e,Sem.wp_loadIfAlive];exact h Γ p hΓ
theorem xM{z TI TO:ML}{f0 f1:MI}{Q:Bool->MK->Prop}(hz:gc s.heap z TI TO f0 f1)(hf:rq f0)(q1:Q true s)
  (q2:∀ h' f1',gc h' z TI TO f0 f1'->Oe z s.heap h'->Q false { s with heap:=h' }):MP (MR prog w) A (Oj (.ref z)) Q E s:=by
 unfold Oj;refine MH (Nw hz rfl (x:=f0) rfl ?_);rcases hf with rfl|⟨T,rfl⟩
 ·exact MJ q1
 ·show MP _ _ (QV _ >>= _) _ _ _;refine xQ ?_;cases hT:s.heap.get? (Int.toNat (T:Int)) with
  | none=>exact MJ q1
  | some o=>
   show MP _ _ (SE (.ref z) 1 >>= _) _ _ _
   refine MH (Nw hz rfl (x:=f1) rfl ?_)
   by_cases e:(f1 != Value.bool true)=true
   ·rw[if_pos e];exact MH (Ni hz (by simp) fun h1 hz1 hs1=>MJ (q2 h1 _ hz1 hs1))
   ·rw[if_neg e];exact MH (MJ (MJ (q2 s.heap f1 hz (QF ..))))
theorem xN{z TI TO i1 i2:ML}{f0 f1 a b:MI}{i:Nat}{fp1 fp2:List ML}{n1 n2:Nat}{P1 P2:Nat->MI->Prop}{St1 St2:Nat->M5->Prop}{Q:Option MI->MK->Prop}
  (D1:SJ prog w A.in1 i1 fp1 n1 P1 St1) (D2:SJ prog w A.in1 i2 fp2 n2 P2 St2) (D:ZApart z TI TO i1 i2 fp1 fp2) (hz:gc s.heap z TI TO f0 f1) (hf:rq f0) (hTI:OP s.heap TI (.ref i1) (.ref i2)) (hTO:OP s.heap TO a b)
  (h1:St1 i s.heap) (h2:St2 i s.heap) (l1:i < n1) (l2:i < n2)
  (hQ:∀ h' tk x y f0' f1' a' b',P1 i x->P2 i y->rq f0'->gc h' z TI TO f0' f1'->OP h' TO a' b'->St1 (i+1) h'->St2 (i+1) h'->OP h' s.heap.objs.size x y->h'.objs.size=s.heap.objs.size+1->
   (∀ c o,c≠z->c≠TO->c≠i1->c≠i2->s.heap.get? c=some o->h'.get? c=some o)->Q (some (.ref s.heap.objs.size)) { s with heap:=h',toks:=tk }):
  MP (MR prog w) A (Ob (.ref z)) Q E s:=by
 have hT:s.TypeIs (.ref z) "zip":=⟨_,hz,rfl⟩;unfold Ob;refine MH (N0 (Nz (name:=MN "__next__") hT P7 (Ny P7 hT F.entry_zip_next ?_ (SI _))));show MP _ _ (SE (.ref z) 2 >>= _) _ _ _;refine MH (Nw hz rfl (x:=.bool false) rfl ?_)
 show MP _ _ (SE (.ref z) 3 >>= _) _ _ _;refine MH (Nw hz rfl (x:=.ref TI) rfl ?_)
 refine MH (OL hTI rfl ?_);show MP _ _ (Oj (.ref z) >>= _) _ _ _;refine MH (xM hz hf ?_ fun h0 f1' hz0 hs0=>?_)
 ·simp only[if_true];refine MH (PX ?_);refine MH (Nw hz rfl (x:=.ref TO) rfl ?_);refine MH (Ni hz (by simp) fun g1 z1 s1=>?_)
  replace z1:gc g1 z TI TO .ellipsis f1:=z1
  refine MH ?_;simp only[List.zipIdx_cons,List.zipIdx_nil,O2,PU];refine MH (MH (PN ?_));show MP _ _ (NG (.ref i1) >>= _) _ _ _;refine MH (D1.item i { s with heap:=g1 } _ _ l1 (D1.frame i _ _ h1 fun b hb o e=>s1.extBut _ _ (D.f1 b hb).1 e) fun x g2 t2 p1 st1 s2=>MJ ?_)
  have o2:OP g2 TO a b:=s2.extBut _ _ D.a8 (s1.extBut _ _ D.a2 hTO);refine MH (OL o2 rfl ?_);refine MH (Qa o2 fun g3 o3 s3=>?_)
  replace o3:OP g3 TO x b:=o3
  refine MH (Qb (MJ ?_));refine MH (MH (PN ?_));show MP _ _ (NG (.ref i2) >>= _) _ _ _;refine MH (D2.item i { s with heap:=g3,toks:=t2 } _ _ l2 (D2.frame i _ _ h2 fun b hb o e=>s3.extBut _ _ (D.f2 b hb).2.1 (s2.extBut _ _ (D.f2 b hb).2.2 (s1.extBut _ _ (D.f2 b hb).1 e))) fun y g4 t4 p2 st2 s4=>MJ ?_)
  have o4:OP g4 TO x b:=s4.extBut _ _ D.a9 o3;refine MH (OL o4 rfl ?_);refine MH (Qa o4 fun g5 o5 s5=>?_)
  replace o5:OP g5 TO x y:=o5
  refine MH (Qb (MJ (MJ ?_)));refine MH (OL o5 rfl ?_);refine MH (Pu ?_);have sz:g5.objs.size=s.heap.objs.size:=by rw[s5.1,s4.1,s3.1,s2.1,s1.1]
  have z5:gc g5 z TI TO .ellipsis f1:=s5.extBut _ _ D.a2.symm (s4.extBut _ _ D.a4.symm (s3.extBut _ _ D.a2.symm (s2.extBut _ _ D.a3.symm z1)));have k5:∀ c o,c≠z->c≠TO->c≠i1->c≠i2->s.heap.get? c=some o->g5.get? c=some o:=fun c o c1 c2 c3 c4 e=>s5.extBut _ _ c2 (s4.extBut _ _ c4 (s3.extBut _ _ c2 (s2.extBut _ _ c3 (s1.extBut _ _ c1 e))));have lz:z < g5.objs.size:=MS z5;show MP _ _ (Qr (.ref z) (.ref g5.objs.size) >>= _) _ _ _;refine MH ?_;unfold Qr
  have z6:gc (g5.push { cls:=.type "tuple",data:=.seq #[x,y] }) z TI TO .ellipsis f1:=MM _ z5;refine MH (Ni z6 (by simp) fun g7 z7 s7=>?_)
  replace z7:gc g7 z TI TO (N4 g5.objs.size) f1:=z7
  refine Ni z7 (by simp) fun g8 z8 s8=>?_
  replace z8:gc g8 z TI TO (N4 g5.objs.size) (.bool false):=z8
  have up:∀ c o,c≠z->g5.get? c=some o->g8.get? c=some o:=fun c o c1 e=>s8.extBut _ _ c1 (s7.extBut _ _ c1 (MM _ e));have t8:OP g8 g5.objs.size x y:=s8.extBut _ _ (ON lz) (s7.extBut _ _ (ON lz) (MQ _ rfl));have sz8:g8.objs.size=g5.objs.size+1:=by rw[s8.1,s7.1,NT]
  have r1:St1 (i+1) g8:=D1.frame _ _ _ st1 fun b hb o e=>up b o (D.f1 b hb).1 (s5.extBut _ _ (D.f1 b hb).2.1 (s4.extBut _ _ (D.f1 b hb).2.2 (s3.extBut _ _ (D.f1 b hb).2.1 e)));have r2:St2 (i+1) g8:=D2.frame _ _ _ st2 fun b hb o e=>up b o (D.f2 b hb).1 (s5.extBut _ _ (D.f2 b hb).2.1 e);rw[sz]at z8 t8 sz8;refine MJ ⟨.ref g5.objs.size,rfl,MJ ?_⟩;rw[sz];exact hQ g8 t4 x y _ _ x y p1 p2 (.inr ⟨_,rfl⟩) z8 (up _ _ D.a2 o5) r1 r2 t8 sz8 fun c o c1 c2 c3 c4 e=>up c o c1 (k5 c o c1 c2 c3 c4 e)
 ·simp only[Bool.false_eq_true,if_false];rw[<- Array.forIn_toList];simp only[O2,PU];refine MH (MH (MH (Nf ?_)));show MP _ _ (NG (.ref i1) >>= _) _ _ _
  refine MH (D1.item i { s with heap:=h0 } _ _ l1 (D1.frame i _ _ h1 fun b hb o e=>hs0.extBut _ _ (D.f1 b hb).1 e) fun x g2 t2 p1 st1 s2=>MJ (MJ ?_))
  refine MH (MH (Nf ?_));show MP _ _ (NG (.ref i2) >>= _) _ _ _
  refine MH (D2.item i { s with heap:=g2,toks:=t2 } _ _ l2 (D2.frame i _ _ h2 fun b hb o e=>s2.extBut _ _ (D.f2 b hb).2.2 (hs0.extBut _ _ (D.f2 b hb).1 e)) fun y g4 t4 p2 st2 s4=>MJ (MJ (MJ ?_)))
  refine MH (Pu ?_ (by show 2<=MT;decide))
  have sz:g4.objs.size=s.heap.objs.size:=by rw[s4.1,s2.1,hs0.1]
  have k4:∀ c o,c≠z->c≠TO->c≠i1->c≠i2->s.heap.get? c=some o->g4.get? c=some o:=fun c o c1 _ c3 c4 e=>s4.extBut _ _ c4 (s2.extBut _ _ c3 (hs0.extBut _ _ c1 e));have z4:gc g4 z TI TO f0 f1':=s4.extBut _ _ D.a4.symm (s2.extBut _ _ D.a3.symm hz0);have o4:OP g4 TO a b:=s4.extBut _ _ D.a9 (s2.extBut _ _ D.a8 (hs0.extBut _ _ D.a2 hTO));refine MJ ⟨.ref g4.objs.size,rfl,MJ ?_⟩;have up:∀ c o,g4.get? c=some o->(g4.push { cls:=.type "tuple",data:=.seq #[x,y] }).get? c=some o:=fun c o e=>MM _ e;have t8:OP (g4.push { cls:=.type "tuple",data:=.seq #[x,y] }) g4.objs.size x y:=MQ _ rfl;have sz8:(g4.push { cls:=.type "tuple",data:=.seq #[x,y] }).objs.size=g4.objs.size+1:=NT ..;rw[sz]at t8 sz8 ⊢;exact hQ _ t4 x y _ _ a b p1 p2 hf (up _ _ z4) (up _ _ o4) (D1.frame _ _ _ st1 fun b hb o e=>up _ _ (s4.extBut _ _ (D.f1 b hb).2.2 e)) (D2.frame _ _ _ st2 fun b _ o e=>up b o e) t8 sz8 fun c o c1 c2 c3 c4 e=>up _ _ (k4 c o c1 c2 c3 c4 e)
theorem z_{z TI TO i1 i2:ML}{f0 f1 a b:MI}{i:Nat}{fp1 fp2:List ML}{n1 n2:Nat}{P1 P2:Nat->MI->Prop}{St1 St2:Nat->M5->Prop}{Q:Option MI->MK->Prop}
  (D1:SJ prog w A.in1 i1 fp1 n1 P1 St1) (D2:SJ prog w A.in1 i2 fp2 n2 P2 St2) (D:ZApart z TI TO i1 i2 fp1 fp2) (hz:gc s.heap z TI TO f0 f1) (hf:rq f0) (hTI:OP s.heap TI (.ref i1) (.ref i2)) (hTO:OP s.heap TO a b)
  (h1:St1 i s.heap) (h2:St2 i s.heap) (le:i=n1\/(i < n1/\i=n2))
  (hQ:∀ h' tk,(∀ c o,c≠z->c≠TO->c≠i1->c≠i2->s.heap.get? c=some o->h'.get? c=some o)->Q none { s with heap:=h',toks:=tk }):
  MP (MR prog w) A (Ob (.ref z)) Q E s:=by
 have hT:s.TypeIs (.ref z) "zip":=⟨_,hz,rfl⟩;unfold Ob;have fin:∀ {h':M5} {tk:Nat} {e:ML},(∀ c o,c≠z->c≠TO->c≠i1->c≠i2->s.heap.get? c=some o->h'.get? c=some o)->(∃ o,h'.get? e=some o/\o.cls=.type "StopIteration")->
   MP (MR prog w) A (do if <- Qx (.ref e) (.type "StopIteration")then pure none else throw (.ref e)) Q E { s with heap:=h',toks:=tk }:=fun hk ⟨o,ho,hc⟩=>
  MH (Pc (T:="StopIteration") (b:=true) ⟨o,ho,hc⟩ Qe (MJ (hQ _ _ hk)))
 refine MH (N0 (Nz (name:=MN "__next__") hT P7 (Ny P7 hT F.entry_zip_next ?_ (SI _))));show MP _ _ (SE (.ref z) 2 >>= _) _ _ _;refine MH (Nw hz rfl (x:=.bool false) rfl ?_)
 show MP _ _ (SE (.ref z) 3 >>= _) _ _ _;refine MH (Nw hz rfl (x:=.ref TI) rfl ?_)
 refine MH (OL hTI rfl ?_);show MP _ _ (Oj (.ref z) >>= _) _ _ _;refine MH (xM hz hf ?_ fun h0 f1' hz0 hs0=>?_)
 ·simp only[if_true];refine MH (PX ?_);refine MH (Nw hz rfl (x:=.ref TO) rfl ?_);refine MH (Ni hz (by simp) fun g1 z1 s1=>?_)
  replace z1:gc g1 z TI TO .ellipsis f1:=z1
  refine MH ?_;simp only[List.zipIdx_cons,List.zipIdx_nil,O2,PU];refine MH (MH (PN ?_));show MP _ _ (NG (.ref i1) >>= _) _ _ _;have st0:St1 i g1:=D1.frame i _ _ h1 fun b hb o e=>s1.extBut _ _ (D.f1 b hb).1 e;rcases le with rfl|⟨l1,rfl⟩
  ·refine MH (D1.done { s with heap:=g1 } _ _ st0 fun g2 e s2 he=>?_)
   obtain⟨oe,hoe,hce⟩:=he;have z2:gc g2 z TI TO .ellipsis f1:=s2 _ _ D.a3.symm z1;have hez:e≠z:=fun x=>by subst x;rw[z2]at hoe;cases hoe;simp at hce
   exact Ni z2 (by simp) fun g3 _ s3=>fin (tk:=s.toks) (fun c o c1 _ c3 _ x=>s3.extBut _ _ c1 (s2 _ _ c3 (s1.extBut _ _ c1 x))) ⟨oe,s3.extBut _ _ hez hoe,hce⟩
  ·refine MH (D1.item i { s with heap:=g1 } _ _ l1 st0 fun x g2 t2 p1 st1 s2=>MJ ?_)
   have o2:OP g2 TO a b:=s2.extBut _ _ D.a8 (s1.extBut _ _ D.a2 hTO);refine MH (OL o2 rfl ?_);refine MH (Qa o2 fun g3 o3 s3=>?_);refine MH (Qb (MJ ?_));refine MH (MH (PN ?_));show MP _ _ (NG (.ref i2) >>= _) _ _ _;refine MH (D2.done { s with heap:=g3,toks:=t2 } _ _ (D2.frame i _ _ h2 fun b hb o e=>s3.extBut _ _ (D.f2 b hb).2.1 (s2.extBut _ _ (D.f2 b hb).2.2 (s1.extBut _ _ (D.f2 b hb).1 e))) fun g4 e s4 he=>?_)
   obtain⟨oe,hoe,hce⟩:=he;have z4:gc g4 z TI TO .ellipsis f1:=s4 _ _ D.a4.symm (s3.extBut _ _ D.a2.symm (s2.extBut _ _ D.a3.symm z1));have hez:e≠z:=fun x=>by subst x;rw[z4]at hoe;cases hoe;simp at hce
   exact Ni z4 (by simp) fun g5 _ s5=>fin (tk:=t2) (fun c o c1 c2 c3 c4 x=>s5.extBut _ _ c1 (s4 _ _ c4 (s3.extBut _ _ c2 (s2.extBut _ _ c3 (s1.extBut _ _ c1 x))))) ⟨oe,s5.extBut _ _ hez hoe,hce⟩
 ·simp only[Bool.false_eq_true,if_false];rw[<- Array.forIn_toList];simp only[O2,PU];refine MH (MH (MH (Nf ?_)));show MP _ _ (NG (.ref i1) >>= _) _ _ _
  have st0:St1 i h0:=D1.frame i _ _ h1 fun b hb o e=>hs0.extBut _ _ (D.f1 b hb).1 e;rcases le with rfl|⟨l1,rfl⟩
  ·exact MH (D1.done { s with heap:=h0 } _ _ st0 fun g2 e s2 he=>fin (tk:=s.toks) (fun c o c1 _ c3 _ x=>s2 _ _ c3 (hs0.extBut _ _ c1 x)) he)
  ·refine MH (D1.item i { s with heap:=h0 } _ _ l1 st0 fun x g2 t2 p1 st1 s2=>MJ (MJ ?_))
   refine MH (MH (Nf ?_));show MP _ _ (NG (.ref i2) >>= _) _ _ _
   exact MH (D2.done { s with heap:=g2,toks:=t2 } _ _ (D2.frame i _ _ h2 fun b hb o e=>s2.extBut _ _ (D.f2 b hb).2.2 (hs0.extBut _ _ (D.f2 b hb).1 e)) fun g4 e s4 he=>fin (tk:=t2) (fun c o c1 _ c3 c4 x=>s4 _ _ c4 (s2.extBut _ _ c3 (hs0.extBut _ _ c1 x))) he)
theorem HJ{tg:M9}{z TI TO:ML}{f0 f1 u:MI}{Q:Unit->MK->Prop}(hz:gc s.heap z TI TO f0 f1)(hf:rq f0)
  (hQ:∀ h' f0',rq f0'->gc h' z TI TO f0' f1->Oe z s.heap h'->Q () { s with heap:=h' }):MP (MR prog w) A (OZ tg (.ref z) u) Q E s:=by
 have same:Q () s:=hQ s.heap f0 hf hz (QF ..);unfold OZ;cases tg<;>first
  | exact MJ same
  | (cases u<;>first
    | exact MJ same
    | (refine MH (Sc hz ?_)
       dsimp only;split
       ·refine MH (PX ?_);exact Ni hz (by simp) fun h1 z1 s1=>hQ h1 _ (.inl rfl) z1 s1
       ·exact MJ same))
end
set_option genInjectivity false in
inductive Zk where
 | lst (l:ML) (xs:List V)
 | txt (z:Str) (t:Tok)
def Zk.vs:Zk->List V
 | .lst _ xs=>xs
 | .txt z _=>de z
def Zk.val:Zk->MI
 | .lst l _=>.ref l
 | .txt z t=>.str z t
def Zk.here(K:Ps)(H:Hp):Zk->Prop
 | .lst l xs=>jP K H l xs
 | .txt _ _=>True
def Zk.ready(h:M5):Zk->Prop
 | .lst l xs=>∃ us,Vals xs us/\h.IsList l us.toArray
 | .txt _ _=>True
def Zk.it(it:ML)(i:Nat)(h:M5):Zk->Prop
 | .lst l _=>h.IsListIter it l i
 | .txt z t=>h.IsStrIter it (PK z) z t i
theorem mz(z:Str):PK z="str_ascii_iterator"\/PK z="str_iterator":=by unfold PK;split;exact .inl rfl;exact .inr rfl
theorem Zk.obj{k:Zk}{it:ML}{i:Nat}{h:M5}(x:k.it it i h):∃ o,h.get? it=some o/\(∀ v,o.data≠.cell v)/\o.cls≠.type "list"/\o.cls≠.type "tuple"/\o.cls≠.type "zip":=by
 cases k with
 | lst l xs=>
  obtain⟨o,e,c,d⟩:=x;exact⟨o,e,(fun v z=>by rw[d]at z;cases z),by rw[c];decide,by rw[c];decide,by rw[c];decide⟩
 | txt z t=>
  obtain⟨o,e,c,d⟩:=x;refine⟨o,e,(fun v z=>by rw[d]at z;cases z),?_⟩
  rw[c];rcases mz z with q|q<;>rw[q]<;>decide
theorem Zk.keep{k:Zk}{it:ML}{i:Nat}{h h':M5}(x:k.it it i h)(q:∀ o,h.get? it=some o->h'.get? it=some o):k.it it i h':=by
 cases k with
 | lst l xs=>exact x.at fun o e=>q o e
 | txt z t=>
  obtain⟨o,e,c⟩:=x;exact⟨o,q o e,c⟩
theorem Zk.of{X:Cx}{pins:List (ML×Obj)}{σ:St}{H:Hp}{s:MK}{k:Zk}(I:Inv X pins σ H s)(x:k.here X.K H):k.ready s.heap:=by
 cases k with
 | lst l xs=>
  obtain⟨its,rv,p,_⟩:=I.list x;exact⟨its,rv,p.isList⟩
 | txt z t=>exact True.intro
theorem Zk.draws{P:MY}{w:M7}{k:Zk}{it:ML}{h:M5}{j:Nat}(x:k.ready h)(y:k.it it j h):∃ (fp:List ML) (Pv:Nat->MI->Prop) (St:Nat->M5->Prop),(∀ A:M3,A.handled=none->SJ P w A it fp k.vs.length Pv St)/\(∀ i v,Pv i v->∃ u,k.vs[i]?=some u/\aD u v)/\
  (∀ i,k.it it i h->St i h)/\(∀ i h',St i h'->k.it it i h')/\∀ b∈fp,b=it\/∃ o,h.get? b=some o/\o.cls=.type "list":=by
 cases k with
 | lst l xs=>
  obtain⟨us,rv,p⟩:=x;obtain⟨o,e,c,d⟩:=id y;obtain⟨o',e',c',d'⟩:=id p;have hne:l≠it:=fun z=>by subst z;rw[e]at e';cases e';rw[c]at c';exact absurd c' (by decide)
  have hl:us.toArray.size=xs.length:=by rw[MV];exact rv.length.symm
  refine⟨[it,l],fun i v=>us.toArray[i]?=some v,fun i h=>h.IsListIter it l i/\h.IsList l us.toArray,fun A hh=>?_,fun i v q=>?_,fun i q=>⟨q,p⟩,fun i h' q=>q.1,fun b hb=>?_⟩
  ·have:=Draws.list (prog:=P) (w:=w) hh it l hne us.toArray;rw[hl]at this;exact this
  ·have q':us[i]?=some v:=by simpa using q
   obtain⟨u,e1,r⟩:=L3.Vals.getV rv q';exact⟨u,e1,r⟩
  ·have hb':b=it\/b=l:=by simpa using hb
   rcases hb' with rfl|rfl
   ·exact .inl rfl
   ·exact .inr ⟨o',e',c'⟩
 | txt z t=>
  have hz:(de z).length=z.cps.size:=by simp[de]
  refine⟨[it],fun i v=>∃ c u,z.cps[i]?=some c/\v=.str ⟨#[c]⟩ u,fun i h=>h.IsStrIter it (PK z) z t i,fun A hh=>?_,fun i v q=>?_,fun i q=>q,fun i h' q=>q,fun b hb=>.inl (by simpa using hb)⟩
  ·show SJ P w A it [it] (de z).length _ _;rw[hz];rcases mz z with q|q<;>rw[q]
   ·exact Draws.strAscii hh it z t
   ·exact Draws.strWide hh it z t
  ·obtain⟨c,u,e1,rfl⟩:=q;have e2:z.cps.toList[i]?=some c:=by simpa using e1
   exact⟨.str ⟨#[c]⟩,by simp[Zk.vs,de,e2],⟨u,rfl⟩⟩
def BW(k1 k2:Zk)(z TI TO i1 i2:ML)(i:Nat)(h:M5):Prop:=
 (∃ f0 f1,rq f0/\gc h z TI TO f0 f1)/\OP h TI (.ref i1) (.ref i2)/\(∃ a b,OP h TO a b)/\k1.it i1 i h/\k2.it i2 i h
structure ZAp(z TI TO i1 i2:ML):Prop where
 t:TI≠TO
 i:i1≠i2
theorem BW.apart{k1 k2:Zk}{z TI TO i1 i2:ML}{i:Nat}{h:M5}{fp1 fp2:List ML}(D:ZAp z TI TO i1 i2)(x:BW k1 k2 z TI TO i1 i2 i h)(q1:∀ b∈fp1,b=i1\/∃ o,h.get? b=some o/\o.cls=.type "list")(q2:∀ b∈fp2,b=i2\/∃ o,h.get? b=some o/\o.cls=.type "list"):ZApart z TI TO i1 i2 fp1 fp2:=by
 obtain⟨⟨f0,f1,_,hz⟩,hTI,⟨a,b,hTO⟩,h1,h2⟩:=x;obtain⟨o1,e1,_,c1,c2,c3⟩:=Zk.obj h1;obtain⟨o2,e2,_,d1,d2,d3⟩:=Zk.obj h2;have ne:∀ {a b:ML} {o o':Obj},h.get? a=some o->h.get? b=some o'->o.cls≠o'.cls->a≠b:=fun ha hb hc z=>by subst z;rw[ha]at hb;cases hb;exact hc rfl
 have y1:i1≠z:=ne e1 hz c3;have y2:i2≠z:=ne e2 hz d3;have y3:TO≠i1:=(ne e1 hTO c2).symm;have y4:TO≠i2:=(ne e2 hTO d2).symm;have tz:Value.type "tuple"≠Value.type "zip":=by decide
 have lz:Value.type "list"≠Value.type "zip":=by decide
 have lt:Value.type "list"≠Value.type "tuple":=by decide
 refine⟨ne hTI hz tz,ne hTO hz tz,y1,y2,D.t,(ne e1 hTI c2).symm,(ne e2 hTI d2).symm,y3,y4,D.i,fun b hb=>?_,fun b hb=>?_⟩
 ·rcases q1 b hb with rfl|⟨o,e,c⟩
  ·exact⟨y1,y3.symm,D.i⟩
  ·exact⟨ne e hz (by rw[c];exact lz),ne e hTO (by rw[c];exact lt),ne e e2 (by rw[c];exact d1.symm)⟩
 ·rcases q2 b hb with rfl|⟨o,e,c⟩
  ·exact⟨y2,y4.symm,D.i.symm⟩
  ·exact⟨ne e hz (by rw[c];exact lz),ne e hTO (by rw[c];exact lt),ne e e1 (by rw[c];exact c1.symm)⟩
section
variable{prog:MY}{w:M7}{A:M3}{E:MI->MK->Prop}{s:MK}{k1 k2:Zk}{z TI TO i1 i2:ML}{i:Nat}
theorem Bg(hh:A.in1.handled=none)(D:ZAp z TI TO i1 i2)(x:BW k1 k2 z TI TO i1 i2 i s.heap)(r1:k1.ready s.heap)(r2:k2.ready s.heap)(l1:i < k1.vs.length)(l2:i < k2.vs.length)(hQ:∀ h' tk x y u v,k1.vs[i]?=some u->k2.vs[i]?=some v->aD u x->aD v y->BW k1 k2 z TI TO i1 i2 (i+1) h'->OP h' s.heap.objs.size x y->h'.objs.size=s.heap.objs.size+1->
   (∀ c o,c∉[z,TI,TO,i1,i2]->s.heap.get? c=some o->h'.get? c=some o)->Q (some (.ref s.heap.objs.size)) { s with heap:=h',toks:=tk }):MP (MR prog w) A (Ob (.ref z)) Q E s:=by
 obtain⟨fp1,P1,St1,D1,v1,t1,b1,q1⟩:=Zk.draws (P:=prog) (w:=w) r1 x.2.2.2.1;obtain⟨fp2,P2,St2,D2,v2,t2,b2,q2⟩:=Zk.draws (P:=prog) (w:=w) r2 x.2.2.2.2;have ap:=x.apart D q1 q2;obtain⟨⟨f0,f1,hf,hz⟩,hTI,⟨a,b,hTO⟩,h1,h2⟩:=x;refine xN (D1 _ hh) (D2 _ hh) ap hz hf hTI hTO (t1 i h1) (t2 i h2) l1 l2 fun h' tk x y f0' f1' a' b' p1 p2 hf' z' o' s1 s2 tp sz kp=>?_;obtain⟨u,e1,ru⟩:=v1 i x p1;obtain⟨v,e2,rv⟩:=v2 i y p2;exact hQ h' tk x y u v e1 e2 ru rv ⟨⟨f0',f1',hf',z'⟩,kp _ _ ap.a1 ap.a5 ap.a6 ap.a7 hTI,⟨a',b',o'⟩,b1 _ _ s1,b2 _ _ s2⟩ tp sz fun c o hc e=>kp c o (fun q=>hc (by simp[q])) (fun q=>hc (by simp[q])) (fun q=>hc (by simp[q])) (fun q=>hc (by simp[q])) e
theorem Di(hh:A.in1.handled=none)(D:ZAp z TI TO i1 i2)(x:BW k1 k2 z TI TO i1 i2 i s.heap)(r1:k1.ready s.heap)(r2:k2.ready s.heap)(l:i=min k1.vs.length k2.vs.length)(hQ:∀ h' tk,(∀ c o,c∉[z,TI,TO,i1,i2]->s.heap.get? c=some o->h'.get? c=some o)->Q none { s with heap:=h',toks:=tk }):MP (MR prog w) A (Ob (.ref z)) Q E s:=by
 obtain⟨fp1,P1,St1,D1,v1,t1,b1,q1⟩:=Zk.draws (P:=prog) (w:=w) r1 x.2.2.2.1;obtain⟨fp2,P2,St2,D2,v2,t2,b2,q2⟩:=Zk.draws (P:=prog) (w:=w) r2 x.2.2.2.2;have ap:=x.apart D q1 q2;obtain⟨⟨f0,f1,hf,hz⟩,hTI,⟨a,b,hTO⟩,h1,h2⟩:=x;exact z_ (D1 _ hh) (D2 _ hh) ap hz hf hTI hTO (t1 i h1) (t2 i h2) (by walk_at "o") fun h' tk kp=>hQ h' tk fun c o hc e=>kp c o (fun q=>hc (by simp[q])) (fun q=>hc (by simp[q])) (fun q=>hc (by simp[q])) (fun q=>hc (by simp[q])) e
theorem BW.keep(x:BW k1 k2 z TI TO i1 i2 i h)(q:∀ b∈[z,TI,TO,i1,i2],∀ o,h.get? b=some o->h'.get? b=some o):BW k1 k2 z TI TO i1 i2 i h':=by
 obtain⟨⟨f0,f1,hf,hz⟩,hTI,⟨a,b,hTO⟩,h1,h2⟩:=x;exact⟨⟨f0,f1,hf,q z (by simp) _ hz⟩,q TI (by simp) _ hTI,⟨a,b,q TO (by simp) _ hTO⟩,Zk.keep h1 fun o e=>q i1 (by simp) o e,Zk.keep h2 fun o e=>q i2 (by simp) o e⟩
end
def Mm(K:Ps)(k1 k2:Zk):It:=
 ⟨fun i H=>(i < k1.vs.length/\i < k2.vs.length)/\k1.here K H/\k2.here K H,fun i H x H'=>∃ p u v,H p=none/\x=.ref p/\H'=aS H p (.tup [u,v])/\k1.vs[i]?=some u/\k2.vs[i]?=some v,fun i H=>i=min k1.vs.length k2.vs.length/\k1.here K H/\k2.here K H⟩
theorem rM{P:MY}{w:M7}{K:Ps}{tg:M9}(k1 k2:Zk)(z TI TO i1 i2:ML)(D:ZAp z TI TO i1 i2):Turn P w K tg (Mm K k1 k2) [z,TI,TO,i1,i2] z (BW k1 k2 z TI TO i1 i2) where
 mem:=by simp
 obj:=fun i h st b hb=>by
  obtain⟨⟨f0,f1,hf,hz⟩,hTI,⟨a,b',hTO⟩,h1,h2⟩:=st;obtain⟨o1,e1,c1,_⟩:=Zk.obj h1;obtain⟨o2,e2,c2,_⟩:=Zk.obj h2;simp only[Nr,Nq,or_false]at hb;rcases hb with rfl|rfl|rfl|rfl|rfl
  ·exact⟨_,hz,fun v q=>by cases q⟩
  ·exact⟨_,hTI,fun v q=>by cases q⟩
  ·exact⟨_,hTO,fun v q=>by cases q⟩
  ·exact⟨o1,e1,c1⟩
  ·exact⟨o2,e2,c2⟩
 keep:=fun i h h' st q=>st.keep q
 item:=by
  intro X hP hw hK hc i pins s σ H E I hf st hg;subst hP hw hK;obtain⟨⟨l1,l2⟩,e1,e2⟩:=hg;refine Bg (I.ok.hd hc) D st (Zk.of I e1) (Zk.of I e2) l1 l2 fun h' tk x y u v q1 q2 ru rv st' tp sz kp=>?_;refine⟨_,rfl,?_⟩;obtain⟨⟨f0,f1,hl,hz⟩,hTI,⟨a,b,hTO⟩,h1,h2⟩:=id st';refine HJ (s:={ s with heap:=h',toks:=tk }) hz hl fun h2' f0' hl' hz' sb=>?_
  have hn:H s.heap.objs.size=none:=I.hok.fresh (le_refl _);have lt:∀ b∈[z,TI,TO,i1,i2],b≠s.heap.objs.size:=fun b hb=>by
   obtain⟨o,e,_⟩:=(show ∃ o,s.heap.get? b=some o/\True from by
    obtain⟨⟨g0,g1,_,gz⟩,gTI,⟨ga,gb,gTO⟩,k1',k2'⟩:=st;obtain⟨o1,x1,_⟩:=Zk.obj k1';obtain⟨o2,x2,_⟩:=Zk.obj k2';simp only[Nr,Nq,or_false]at hb;rcases hb with rfl|rfl|rfl|rfl|rfl
    ·exact⟨_,gz,True.intro⟩
    ·exact⟨_,gTI,True.intro⟩
    ·exact⟨_,gTO,True.intro⟩
    ·exact⟨_,x1,True.intro⟩
    ·exact⟨_,x2,True.intro⟩)
   exact Na (MS e)
  have up:∀ c o,c≠z->h'.get? c=some o->h2'.get? c=some o:=fun c o hc e=>sb.extBut _ _ hc e;have hzs:z≠s.heap.objs.size:=lt z (by simp)
  have I0:Inv X pins σ (aS H s.heap.objs.size (.tup [u,v])) { s with heap:=s.heap.push { cls:=.type "tuple",data:=.seq #[x,y] },toks:=s.toks }:=by
   refine I.laid (t':=s.toks) (fun b v q=>MM _ q) (le_refl _) ?_;exact⟨by show 2<=MT;decide,[x,y],.cons ru (.cons rv .nil),tZ.new _ _⟩
  have I1:Inv X pins σ (aS H s.heap.objs.size (.tup [u,v])) { s with heap:=h2',toks:=tk }:=by
   have:=Inv.turnedL (s:={ s with heap:=s.heap.push { cls:=.type "tuple",data:=.seq #[x,y] },toks:=s.toks }) (h':=h2') (t':=tk) (fp:=[z,TI,TO,i1,i2]) I0 (fun b o hb q=>?_) fun b hb=>?_
   ·exact this
   ·have hbz:b≠z:=fun q=>hb (by simp[q])
    have q':(s.heap.push { cls:=.type "tuple",data:=.seq #[x,y] }).get? b=some o:=q
    by_cases hbs:b=s.heap.objs.size
    ·subst hbs;rw[MQ _ rfl]at q';cases q';exact up _ _ hbz tp
    ·rw[QE _ _ _ hbs]at q';exact up _ _ hbz (kp b o hb q')
   ·obtain⟨g0,g1,g2,g3,g4,g5⟩:=hf b hb;exact⟨by rw[aq (lt b hb)];exact g0,g1,g2,g3,g4,g5⟩
  have ap:=st'.apart (fp1:=[]) (fp2:=[]) D (fun b hb=>by simp at hb) fun b hb=>by simp at hb
  refine⟨.ref s.heap.objs.size,_,I1,rfl,⟨_,u,v,hn,rfl,rfl,q1,q2⟩,⟨⟨f0',f1,hl',hz'⟩,up _ _ ap.a1 hTI,⟨a,b,up _ _ ap.a2 hTO⟩,Zk.keep h1 fun o e=>up _ _ ap.a3 e,Zk.keep h2 fun o e=>up _ _ ap.a4 e⟩,fun b hb=>?_⟩;rw[aq (lt b hb)];exact (hf b hb).1
 done:=by
  intro X hP hw hK hc i pins s σ H E I hf st hg;subst hP hw hK;obtain⟨l,e1,e2⟩:=hg;exact Di (I.ok.hd hc) D st (Zk.of I e1) (Zk.of I e2) l fun h' tk kp=>⟨rfl,I.turnedL (t':=tk) (fp:=[z,TI,TO,i1,i2]) kp hf⟩
 self:=fun _ _ _ _ _ st h=>by
  obtain⟨⟨f0,f1,_,hz⟩,_⟩:=st;have hT:=(⟨_,hz,rfl⟩:Rj _ (.ref z) "zip");refine QA hT F.slot_zip_iter (Ny F.slot_zip_iter hT F.entry_zip_iter ?_ (F.args_zip_iter_1 _));show MP _ _ (ret (.ref z)) _ _ _
  exact MJ ⟨_,rfl,"zip",_,hT,P7.lookup,h⟩
def Zk.itObj:Zk->Obj
 | .lst l _=>{ cls:=.type "list_iterator",data:=.fields #[.ref l,.int 0 0] }
 | .txt z t=>{ cls:=.type (PK z),data:=.fields #[.str z t,.int 0 0] }
theorem Zk.iter{prog:MY}{w:M7}{A:M3}{E:MI->MK->Prop}{s:MK}{k:Zk}{Q:MI->MK->Prop}(r:k.ready s.heap)(hQ:Q (.ref s.heap.objs.size) { s with heap:=s.heap.push k.itObj }):MP (MR prog w) A (Pw k.val) Q E s:=by
 cases k with
 | lst l xs=>
  obtain⟨us,_,p⟩:=r;exact PH p hQ
 | txt z t=>exact wpAny_pyIter_strU hQ
theorem Zk.grow{k:Zk}{h h':M5}(r:k.ready h)(q:∀ c o,h.get? c=some o->h'.get? c=some o):k.ready h':=by
 cases k with
 | lst l xs=>
  obtain⟨us,rv,p⟩:=r;exact⟨us,rv,p.at fun o e=>q l o e⟩
 | txt z t=>exact True.intro
theorem Zk.it0{k:Zk}{h:M5}{it:ML}(e:h.get? it=some k.itObj):k.it it 0 h:=by
 cases k with
 | lst l xs=>exact⟨_,e,rfl,rfl⟩
 | txt z t=>exact⟨_,e,rfl,rfl⟩
theorem Zk.alive{k:Zk}{h:M5}:(h.push k.itObj).get? h.objs.size=some k.itObj:=by
 cases k with
 | lst l xs=>exact MQ _ rfl
 | txt z t=>exact MQ _ rfl
abbrev Fu(h:M5)(k1:Zk):M5:=h.push k1.itObj
abbrev Ft(h:M5)(k1 k2:Zk):M5:=(Fu h k1).push k2.itObj
abbrev Fs(h:M5)(k1 k2:Zk):M5:=(Ft h k1 k2).push { cls:=.type "tuple",data:=.seq #[.ref h.objs.size,.ref (Fu h k1).objs.size] }
abbrev Fq(h:M5)(k1 k2:Zk):M5:=(Fs h k1 k2).push { cls:=.type "tuple",data:=.seq #[.none,.none] }
abbrev z9(h:M5)(k1 k2:Zk):M5:=(Fq h k1 k2).push { cls:=.type "zip",data:=.fields #[.none,.bool false,.bool false,.ref (Ft h k1 k2).objs.size,.ref (Fs h k1 k2).objs.size] }
theorem AK(k1 k2:Zk):Meets (Builtin.«zip.__new__» ⟨[.type "zip",k1.val,k2.val],[]⟩) (fun _ R s=>k1.ready s.heap/\k2.ready s.heap/\R (.ok (.ret (.ref (Fq s.heap k1 k2).objs.size))) { s with heap:=z9 s.heap k1 k2 }):=
 .of_wp fun prog w A R s h=>by
  obtain⟨hp,g,d,tk,os⟩:=s;obtain⟨r1,r2,h⟩:=h;have hsub:=sub_zip;have q2:k2.ready (Shared.heap ⟨hp.push k1.itObj,g,d,tk,os⟩):=Zk.grow r2 fun c o e=>MM _ e
  wp_walk using Zk.iter (k:=k1) (s:=⟨hp,g,d,tk,os⟩) r1,Zk.iter (k:=k2) (s:=⟨hp.push k1.itObj,g,d,tk,os⟩) q2
  exact⟨_,rfl,h⟩
theorem vL(r1:k1.ready s.heap)(r2:k2.ready s.heap)(h:∀ h',BW k1 k2 (s.heap.objs.size+4) (s.heap.objs.size+2) (s.heap.objs.size+3) s.heap.objs.size (s.heap.objs.size+1) 0 h'->h'.objs.size=s.heap.objs.size+5->
   (∀ c o,s.heap.get? c=some o->h'.get? c=some o)->Q (.ref (s.heap.objs.size+4)) { s with heap:=h' }):MP (MR prog w) A (call (.type "zip") [k1.val,k2.val]) Q E s:=by
 refine callType_new F.called_zip (by decide) (F.typeCall_zip_2 _ _) (F.newCall_zip_2 _ _) (fun obj=>F.args_object_init_3 obj _ _) F.entry_zip_new (AK k1 k2) ⟨r1,r2,?_⟩
 have z1:(Fu s.heap k1).objs.size=s.heap.objs.size+1:=NT ..;have z2:(Ft s.heap k1 k2).objs.size=s.heap.objs.size+2:=by rw[NT,z1]
 have z3:(Fs s.heap k1 k2).objs.size=s.heap.objs.size+3:=by rw[NT,z2]
 have z4:(Fq s.heap k1 k2).objs.size=s.heap.objs.size+4:=by rw[NT,z3]
 have z5:(z9 s.heap k1 k2).objs.size=s.heap.objs.size+5:=by rw[NT,z4]
 have u:∀ {h:M5} {c:ML} {o o':Obj},h.get? c=some o->(h.push o').get? c=some o:=fun e=>MM _ e;have g5:(z9 s.heap k1 k2).get? (Fq s.heap k1 k2).objs.size=some _:=MQ _ rfl;have g4:(z9 s.heap k1 k2).get? (Fs s.heap k1 k2).objs.size=some _:=u (MQ _ rfl);have g3:(z9 s.heap k1 k2).get? (Ft s.heap k1 k2).objs.size=some _:=u (u (MQ _ rfl));have g2:(z9 s.heap k1 k2).get? (Fu s.heap k1).objs.size=some k2.itObj:=u (u (u Zk.alive));have g1:(z9 s.heap k1 k2).get? s.heap.objs.size=some k1.itObj:=u (u (u (u Zk.alive)));show _/\_
 rw[z2,z3,z4]at g5;rw[z1,z2]at g3;rw[z3]at g4;rw[z1]at g2;rw[z4];exact⟨⟨_,g5,rfl⟩,h _ ⟨⟨_,_,.inl rfl,g5⟩,g3,⟨_,_,g4⟩,Zk.it0 g1,Zk.it0 g2⟩ z5 fun c o x=>u (u (u (u (u x))))⟩
end L2
namespace L3
open PySem PySem.Spec PyProof.Rows L2
def fy:D->Option (List D)
 | .lst ds=>some ds
 | .str x=>some (signs x)
 | _=>none
def m5:List D->List D->List D
 | a::r,b::t=>.tup [a,b]::m5 r t
 | _,_=>[]
theorem j5:∀ (a b:List D),(m5 a b).length=min a.length b.length
 | [],_=>by simp[m5]
 | _::_,[]=>by simp[m5]
 | _::r,_::t=>by simp only[m5,M1,j5 r t];omega
theorem rJ:∀ {a b:List D} {i:Nat} {x y:D},a[i]?=some x->b[i]?=some y->(m5 a b)[i]?=some (.tup [x,y])
 | _::_,_::_,0,_,_,h,h'=>by simp at h h';subst h h';rfl
 | _::r,_::t,i+1,_,_,h,h'=>by simp only[Nu]at h h';simpa[m5]using rJ h h'
 | [],_,_,_,_,h,_=>by simp at h
 | _::_,[],_,_,_,_,h=>by simp at h
theorem u_{K:Ps}{H:Hp}(z:Str):RDs K H (signs z) (de z):=by
 have e1:signs z=(z.cps.toList.map fun c=>(⟨#[c]⟩:Str)).map D.str:=by simp[signs]
 have e2:de z=(z.cps.toList.map fun c=>(⟨#[c]⟩:Str)).map V.str:=by simp[de]
 rw[e1,e2];exact RDs.strs _
theorem Bh{K:Ps}{H:Hp}{d:D}{v:V}{u:MI}{ds:List D}(e:fy d=some ds)(r:RD K H d v)(ru:aD v u):
  ∃ k:Zk,u=k.val/\RDs K H ds k.vs/\∀ (G:Gp) (G':Gp) (H':Hp),RG K H G->Kp G H G' H'->k.here K H'/\RDs K H' ds k.vs:=by
 cases d with
 | lst es=>
  simp only[fy,Option.some.injEq]at e;subst e;simp only[RD]at r;obtain⟨a,xs,rfl,f,rr⟩:=r;cases ru;exact⟨.lst a xs,rfl,rr,fun G G' H' rg k=>⟨((k.stb rg).l _ _ f).sq,RDs.mono (k.stb rg) _ _ rr⟩⟩
 | str z=>
  simp only[fy,Option.some.injEq]at e;subst e;simp only[RD]at r;subst r;obtain⟨t,rfl⟩:=ru;exact⟨.txt z t,rfl,u_ z,fun _ _ _ _ _=>⟨True.intro,u_ z⟩⟩
 | _=>simp[fy]at e
theorem Ja{K:Ps}{G0:Gp}{H0:Hp}{ds es:List D}{k1 k2:Zk}(rg0:RG K H0 G0)(r1:∀ (G:Gp) (G':Gp) (H':Hp),RG K H0 G->Kp G H0 G' H'->k1.here K H'/\RDs K H' ds k1.vs)(r2:∀ (G:Gp) (G':Gp) (H':Hp),RG K H0 G->Kp G H0 G' H'->k2.here K H'/\RDs K H' es k2.vs):
  xF K G0 H0 (m5 ds es) (Mm K k1 k2):=fun i G H k rg=>by
 obtain⟨a1,q1⟩:=r1 G0 G H rg0 k;obtain⟨a2,q2⟩:=r2 G0 G H rg0 k;have n1:=q1.length;have n2:=q2.length;rw[j5];refine⟨fun hi=>⟨⟨⟨by walk_at "o",by walk_at "o"⟩,a1,a2⟩,fun x H' y=>?_⟩,fun e=>⟨by walk_at "o",a1,a2⟩⟩
 obtain⟨p,u,v,hn,rfl,rfl,e1,e2⟩:=y;have i1:i < ds.length:=by walk_at "o"
 have i2:i < es.length:=by walk_at "o"
 obtain⟨u',f1,g1⟩:=q1.get (MX i1);obtain⟨v',f2,g2⟩:=q2.get (MX i2);rw[e1]at f1;cases f1;rw[e2]at f2;cases f2;exact⟨Kp.laid hn,rg.laid hn,_,rJ (MX i1) (MX i2),k_ rg hn (RDs.cons g1 (RDs.cons g2 RDs.nil))⟩
def CI(ta:jN):Fn:=fun σ G Q=>ta σ G fun ds G'=>match ds with
 | [x,y]=>∃ a b,(fy x=some a/\fy y=some b)/\Q (m5 a b) G'
 | _=>False
theorem zJ:N3 "zip"=some (.type "zip"):=by kernel_rfl
theorem vY{K:Ps}{H:Hp}{x y:D}{vs:List V}(h:RDs K H [x,y] vs):∃ v u,vs=[v,u]/\RD K H x v/\RD K H y u:=by
 obtain⟨v,t,rfl,h1,h2⟩:=h.inv_cons;obtain⟨u,rfl,h3⟩:=fT h2;exact⟨v,u,rfl,h1,h3⟩
end L3
namespace L2
open PySem PySem.Spec PyProof.Rows
theorem wT:PZ (.type "list") "keys"=pure none:=by rw[Q4,P_];kernel_rfl
theorem za:PZ (.type "zip") "keys"=pure none:=by rw[Q4,P_];kernel_rfl
theorem oY:PZ (.type "zip") "__getattr__"=pure none:=by rw[Q4,P_];kernel_rfl
theorem xm:entryFor table "zip.__getattribute__"=some Builtin.«object.__getattribute__»:=entryFor_alias (id':="object.__getattribute__") (by kernel_rfl) (by first|rfl|decide +kernel) (by decide +kernel) (by kernel_rfl)
theorem Cs:(["__module__","__name__","__qualname__","__doc__","__annotations__"]:List Str).contains (MN "keys")=false:=by decide +kernel
theorem u8:(MN "keys").length+100<=MT:=by rw[Nk];decide +kernel
theorem sO(a:ML)(vs:Array MI)(u:Tok):Meets (Builtin.«object.__getattribute__» ⟨[.ref a,.str "keys" u],[]⟩) (fun A R s=>s.heap.get? a=some { cls:=.type "zip",dict:=none,data:=.fields vs,slots:=#[] }/\raisesAttr (.ref a) "keys" A R s):=
 Meets.of_wp fun prog w A R s hs=>by
  obtain⟨hp,g,d,tk,os⟩:=s;obtain⟨hx,hs⟩:=hs;have hT:(⟨hp,g,d,tk,os⟩:MK).TypeIs (.ref a) "zip":=⟨_,hx,rfl⟩;have f4:=za;unfold Builtin.«object.__getattribute__»
  repeat (any_goals (first|assumption|wp_step))
  exact wpAny_raiseAttrError hs.1 hs.2 (attrMsg_fits (by decide +kernel) u8)
section
variable{prog:MY}{w:M7}{A:M3}{E:MI->MK->Prop}{s:MK}{a:ML}{Q:Option MI->MK->Prop}
theorem wN(hx:s.heap.get? a=some { cls:=.type "list",dict:=none,data:=.seq xs k,slots:=sl })(hA:A.in1.handled=none)(h:∀ h' tk,(∀ c o,s.heap.get? c=some o->h'.get? c=some o)->Q none { s with heap:=h',toks:=tk }):MP (MR prog w) A (PR (.ref a) "keys") Q E s:=by
 obtain⟨hp,g,d,tk,os⟩:=s;have hT:∀ tk',(⟨hp,g,d,tk',os⟩:MK).TypeIs (.ref a) "list":=fun _=>⟨_,hx,rfl⟩;have f1:=Si;have f3:=F.slot_list_getattribute.lookup;have f4:=F.slot_list_getattribute.bind (.ref a);have f5:=am_list_getattr_none;unfold PR Sn
 repeat (any_goals (first|assumption|exact hT _|((with_reducible show MP _ _ (call _ _ _) _ _ _);refine Ss F.slot_list_getattribute (hT _) am_entry_list_getattribute (F.args_list_getattribute_2 _ _) (meets_getattribute_miss_list a xs k sl _ _ wT Cs u8) ⟨hx,hA,fun h' t' e hx'=>?_⟩)|wp_step))
 obtain⟨t1,u1,he⟩:=hx'.there;show MP _ _ (Px _ _ _ _ _ _ _) _ _ _
 unfold Px
 repeat (any_goals (first|assumption|wp_step))
 exact h _ _ hx'.keeps
theorem yW(hx:s.heap.get? a=some { cls:=.type "zip",dict:=none,data:=.fields vs,slots:=#[] })(hA:A.in1.handled=none)(h:∀ h' tk,(∀ c o,s.heap.get? c=some o->h'.get? c=some o)->Q none { s with heap:=h',toks:=tk }):MP (MR prog w) A (PR (.ref a) "keys") Q E s:=by
 obtain⟨hp,g,d,tk,os⟩:=s;have hT:∀ tk',(⟨hp,g,d,tk',os⟩:MK).TypeIs (.ref a) "zip":=fun _=>⟨_,hx,rfl⟩;have f1:=Si;have f3:=F.slot_zip_getattribute.lookup;have f4:=F.slot_zip_getattribute.bind (.ref a);have f5:=oY;unfold PR Sn
 repeat (any_goals (first|assumption|exact hT _|((with_reducible show MP _ _ (call _ _ _) _ _ _);refine Ss F.slot_zip_getattribute (hT _) xm (F.args_zip_getattribute_2 _ _) (sO a vs _) ⟨hx,hA,fun h' t' e hx'=>?_⟩)|wp_step))
 obtain⟨t1,u1,he⟩:=hx'.there;show MP _ _ (Px _ _ _ _ _ _ _) _ _ _
 unfold Px
 repeat (any_goals (first|assumption|wp_step))
 exact h _ _ hx'.keeps
end
structure PWalk(prog:MY)(w:M7)(A:M3)(it:ML)(wr:List ML)(n:Nat)(Pv:Nat->MI->MI->Prop)(St:Nat->M5->Prop):Prop where
 frame:∀ i h h',St i h->(∀ c o,o.cls≠.type "dict"->h.get? c=some o->h'.get? c=some o)->St i h'
 item:∀ i (s:MK) (Q:Option MI->MK->Prop) (E:MI->MK->Prop),i < n->St i s.heap->
  (∀ h' tk p k v,Pv i k v->(∃ o m,h'.get? p=some o/\o.cls=.type "tuple"/\o.data=.seq #[k,v] m)->St (i+1) h'->(∀ c o,c∉wr->s.heap.get? c=some o->h'.get? c=some o)->Q (some (.ref p)) { s with heap:=h',toks:=tk })->
  MP (MR prog w) A (Ob (.ref it)) Q E s
 done:∀ (s:MK) (Q:Option MI->MK->Prop) (E:MI->MK->Prop),St n s.heap->(∀ h' tk,(∀ c o,c∉wr->s.heap.get? c=some o->h'.get? c=some o)->Q none { s with heap:=h',toks:=tk })->
  MP (MR prog w) A (Ob (.ref it)) Q E s
theorem fg:plainId "dict.update.loop"=true:=by decide +kernel
theorem kW:entryFor table "dict.update.loop"=some Builtin.«dict.update.loop»:=entryFor_of_tree (by kernel_rfl)
section
variable{prog:MY}{w:M7}{A:M3}{it d:ML}{wr:List ML}{n:Nat}{Pv:Nat->MI->MI->Prop}{St:Nat->M5->Prop}{R:Pz->MK->Prop}{h0:M5}
def Lc(prog:MY)(w:M7)(h:M5)(d:ML)(xs:List (List aE×ML×MI)):Prop:=
 ∃ o es ep,h.get? d=some o/\o.ExactDict/\o.data=.dict es ep/\es.toList=xs.map (entryOfKey (NZ (aI prog w)))/\(xs.map (·.1)).Nodup
theorem AC(h:∃ o m,s.heap.get? p=some o/\o.cls=.type "tuple"/\o.data=.seq #[k,v] m)(q:Q [k,v] s):MP (MR prog w) A (RM (.ref p)) Q E s:=by
 obtain⟨o,m,e,c,dt⟩:=h;unfold RM;refine MH (PV (T:="tuple") ⟨o,e,c⟩ ?_);rw[if_pos (by decide)]
 exact MH (OL e dt (MJ q))
theorem Dq(W:PWalk prog w A.in1 it wr n Pv St)(hu:A.units+1 < ND)(hd:d∉wr)(hn:n<=MT)(Acc:Nat->List (List aE×ML×MI)->Prop)(hk:∀ i k v xs,Pv i k v->Acc i xs->∃ ks b,k=.ref b/\Acc (i+1) (Ql xs ks b v)/\∀ h,(∀ c o,c∉wr->c≠d->h0.get? c=some o->h.get? c=some o)->(NZ (aI prog w)).is h ks b)(hx:∀ i xs,Acc i xs->xs.length<=i/\∀ x∈xs,∀ h,(∀ c o,c∉wr->c≠d->h0.get? c=some o->h.get? c=some o)->(NZ (aI prog w)).is h x.1 x.2.1):
  ∀ (k i:Nat) (s:MK) (xs:List (List aE×ML×MI)),n - i=k->i<=n->St i s.heap->(∀ c o,c∉wr->c≠d->h0.get? c=some o->s.heap.get? c=some o)->Lc prog w s.heap d xs->Acc i xs->
   (∀ h' tk ys,(∀ c o,c∉wr->c≠d->h0.get? c=some o->h'.get? c=some o)->(∀ c o,c∉wr->c≠d->s.heap.get? c=some o->h'.get? c=some o)->Lc prog w h' d ys->Acc n ys->R (.ok (.ret .none)) { s with heap:=h',toks:=tk })->
   Oa (MR prog w) A (.builtin "dict.update.loop" ⟨[.ref d,.ref it,N4 i,.none],[]⟩) R s:=by
 intro k
 induction k with
 | zero=>
  intro i s xs hk' hi st keep dr ac hR;have hin:i=n:=by walk_at "o"
  subst hin;refine O1 kW ?_;rw[Os fg _];show MP _ A.in1 (Ob (.ref it) >>= _) _ _ s
  refine MH (W.done s _ _ st fun h' tk kp=>?_);show MP _ _ (Builtin.Dict.addKeywords d [] >>= _) _ _ _
  refine MH (MJ (MJ ?_));obtain⟨o,es,ep,e,r⟩:=dr;exact hR h' tk xs (fun c o hc hcd q=>kp c o hc (keep c o hc hcd q)) (fun c o hc _ q=>kp c o hc q) ⟨o,es,ep,kp d o hd e,r⟩ ac
 | succ k ih=>
  intro i s xs hk' hi st keep dr ac hR;have hlt:i < n:=by walk_at "o"
  refine O1 kW ?_;rw[Os fg _];show MP _ A.in1 (Ob (.ref it) >>= _) _ _ s
  refine MH (W.item i s _ _ hlt st fun h1 t1 p kv vv pv tp st1 kp=>?_);obtain⟨ks,b,rfl,ac',key⟩:=hk i kv vv xs pv ac;refine MH (Nf (MH (wpAny_tryCatch (AC tp ?_))));refine Nf ?_;obtain⟨o,es,ep,e,r1,r2,r3,r4⟩:=dr;have Td:∀ c o,c∉wr->c≠d->h0.get? c=some o->h1.get? c=some o:=fun c o hc hcd q=>kp c o hc (keep c o hc hcd q);obtain⟨len,keys⟩:=hx i xs ac;have dd:Heap.DictOfH (NZ (aI prog w)) h1 d xs:=⟨o,es,ep,kp d o hd e,r1,r2,r3,fun x hx'=>keys x hx' h1 Td,r4⟩;refine Sf (s:={ s with heap:=h1,toks:=t1 }) (hsz:=by walk_at "o") (show A.in1.units < ND from hu) (key h1 Td) dd fun h2 dd2 sb=>?_
  obtain⟨o2,es2,ep2,e2,q1,q2,q3,_,q4⟩:=dd2;have up:∀ c o,c≠d->h1.get? c=some o->h2.get? c=some o:=fun c o hc q=>sb.extBut _ _ hc q;have kpd:h1.get? d=some o:=kp d o hd e;refine MJ ⟨Pi fg _,?_⟩;have:=ih (i+1) { s with heap:=h2,toks:=t1+(NZ (aI prog w)).draws ks } (Ql xs ks b vv) (by walk_at "o") hlt (W.frame _ _ _ st1 fun c o' hc q=>up c o' (fun z=>by subst z;rw[kpd]at q;cases q;exact hc r1.1) q) (fun c o hc hcd q=>up c o hcd (Td c o hc hcd q)) ⟨o2,es2,ep2,e2,q1,q2,q3,q4⟩ ac'
   fun h' tk ys k1 k2 k3 k4=>hR h' tk ys k1 (fun c o hc hcd q=>k2 c o hc hcd (up c o hcd (kp c o hc q))) k3 k4
  exact this
end
end L2
namespace L3
open PySem PySem.Spec PyProof.Rows L2
def yS(kv:List aE×D):D:=.tup [.tup (kv.1.map kD),kv.2]
def dictOf(kvs:List (List aE×D)):List (List aE×D):=kvs.foldl (fun a kv=>bu a kv.1 kv.2) []
theorem oF(kvs:List (List aE×D)):∀ a:List (List aE×D),(kvs.foldl (fun a kv=>bu a kv.1 kv.2) a).length<=a.length+kvs.length:=by
 induction kvs with
 | nil=>intro a;exact le_refl _
 | cons kv r ih=>
  intro a;have h1:=ih (bu a kv.1 kv.2);have h2:=eV a kv.1 kv.2;simp only[P5,M1];omega
theorem zB{kvs:List (List aE×D)}{i:Nat}{kv:List aE×D}(h:kvs[i]?=some kv):dictOf (kvs.take (i+1))=bu (dictOf (kvs.take i)) kv.1 kv.2:=by
 unfold dictOf;rw[NU,h,List.foldl_append];rfl
theorem xq(kvs:List (List aE×D)):((dictOf kvs).map (·.1)).Nodup:=by
 unfold dictOf
 suffices h:∀ a:List (List aE×D),(a.map (·.1)).Nodup->((kvs.foldl (fun a kv=>bu a kv.1 kv.2) a).map (·.1)).Nodup from h [] QN
 induction kvs with
 | nil=>intro a h;exact h
 | cons kv r ih=>intro a h;exact ih _ (mK kv.1 kv.2 h)
theorem CQ(hT:∃ o,s.heap.get? src=some o/\o.cls=.type T)(hne:(Value.type T != Value.type "dict")=true)(hno:∀ (s':MK) (Q':Option MI->MK->Prop) (E':MI->MK->Prop),(∀ c o,s.heap.get? c=some o->s'.heap.get? c=some o)->(∀ h' tk,(∀ c o,s'.heap.get? c=some o->h'.get? c=some o)->Q' none { s' with heap:=h',toks:=tk })->MP (MR prog w) A.in1.in1 (PR (.ref src) "keys") Q' E' s')(h:∀ h' tk,(∀ c o,s.heap.get? c=some o->h'.get? c=some o)->h'.get? s.heap.objs.size=some { cls:=.type "dict",data:=.dict #[] }->
   MP (MR prog w) A.in1.in1 (Pw (.ref src)) (fun it s2=>Oa (MR prog w) A.in1 (.builtin "dict.update.loop" ⟨[.ref s.heap.objs.size,it,N4 0,.none],[]⟩) (wants (fun r s₂=>r=.none/\Q (.ref s.heap.objs.size) s₂) E) s2) (fun e s'=>wants (fun r s₂=>r=.none/\Q (.ref s.heap.objs.size) s₂) E (.error e) s') { s with heap:=h',toks:=tk }):
  MP (MR prog w) A (call (.type "dict") [.ref src]) Q E s:=by
 refine callType_codes (Q₁:=fun obj s₁=>obj=.ref s.heap.objs.size/\s₁={ s with heap:=s.heap.push { cls:=.type "dict",data:=.dict #[] } }) F.kt_called_dict (F.kt_typeCall_dict_1 _) F.entry_dict_init (kt_code_dict_new _ ⟨rfl,rfl⟩) ?_
 rintro obj s₁ ⟨rfl,rfl⟩
 have hd:(s.heap.push { cls:=.type "dict",data:=.dict #[] }).get? s.heap.objs.size=some { cls:=.type "dict",data:=.dict #[] }:=MQ _ rfl;have tyd:Rj { s with heap:=s.heap.push { cls:=.type "dict",data:=.dict #[] } } (.ref s.heap.objs.size) "dict":=⟨_,hd,rfl⟩
 obtain⟨o,e,c⟩:=hT;have up:∀ c o,s.heap.get? c=some o->(s.heap.push { cls:=.type "dict",data:=.dict #[] }).get? c=some o:=fun c o e=>MM _ e;refine⟨tyd,F.args_dict_init_2 _ _,?_⟩;unfold Builtin.«dict.__init__»;refine MH ?_;unfold Builtin.Dict.selfAndRest;refine MH (P8 tyd ?_);show MP _ _ (pure (s.heap.objs.size,[Value.ref src])) _ _ _;refine MJ ?_
 show MP _ _ (Rv "dict.__init__" s.heap.objs.size (.ref src) [] .none) _ _ _
 unfold Rv;refine MH (PV (T:=T) ⟨o,up _ _ e,c⟩ ?_);rw[if_pos hne];refine MH (hno _ _ _ up fun h' tk kp=>?_);simp only[Option.isNone_none,if_true];refine MH (PX ?_);refine MH (Nh (h h' tk (fun c o e=>kp c o (up c o e)) (kp _ _ hd)) (fun it s2 q=>MJ ⟨Pi fg _,q⟩) fun _ _ q=>q)
section
variable{X:Cx}{pins:List (ML×Obj)}{τ:St}{H1:Hp}{s1:MK}{G1:Gp}
theorem zA(hu:X.A.units+8 < ND)(I1:L2.Inv X pins τ H1 s1)(rg1:RG X.K H1 G1)(hz:kvs.length<=900000)(hT:∃ o,s1.heap.get? src=some o/\o.cls=.type T)(hne:(Value.type T != Value.type "dict")=true)(hno:∀ (s':MK) (Q':Option MI->MK->Prop) (E':MI->MK->Prop),(∀ c o,s1.heap.get? c=some o->s'.heap.get? c=some o)->(∀ h' tk,(∀ c o,s'.heap.get? c=some o->h'.get? c=some o)->Q' none { s' with heap:=h',toks:=tk })->MP (MR X.prog X.w) X.A.in1.in1 (PR (.ref src) "keys") Q' E' s')(hit:∀ (h2:M5) (tk2:Nat) (Q':MI->MK->Prop) (E':MI->MK->Prop),(∀ c o,s1.heap.get? c=some o->h2.get? c=some o)->s1.heap.objs.size < h2.objs.size->
   (∀ it wr Pv St h3,PWalk X.prog X.w X.A.in1.in1 it wr kvs.length Pv St->St 0 h3->(∀ c o,h2.get? c=some o->h3.get? c=some o)->(∀ b∈wr,k9 X pins H1 b/\b≠s1.heap.objs.size)->
    (∀ i k v,Pv i k v->∃ kv b x,kvs[i]?=some kv/\k=.ref b/\jO X.K H1 b (kv.1.map kV)/\RD X.K H1 kv.2 x/\aD x v)->Q' (.ref it) { s1 with heap:=h3,toks:=tk2 })->
   MP (MR X.prog X.w) X.A.in1.in1 (Pw (.ref src)) Q' E' { s1 with heap:=h2,toks:=tk2 })(q:∀ s' H',L2.Inv X pins τ H' s'->H1 s1.heap.objs.size=none->Kp G1 H1 (gset G1 s1.heap.objs.size (.dT (aG X.prog X.w) (dictOf kvs))) H'->RG X.K H' (gset G1 s1.heap.objs.size (.dT (aG X.prog X.w) (dictOf kvs)))->Q (.ref s1.heap.objs.size) s'):
  MP (MR X.prog X.w) X.A (call (.type "dict") [.ref src]) Q X.xe s1:=by
 have hsl:=al;have sle:=Nk;refine CQ hT hne hno fun h2 tk2 kp2 hd2=>?_;refine hit h2 tk2 _ _ kp2 (MS hd2) fun it wr Pv St h3 W st0 kp3 hwr hpv=>?_;have hf:H1 s1.heap.objs.size=none:=I1.hok.fresh (le_refl _);have hdw:s1.heap.objs.size∉wr:=fun z=>(hwr _ z).2 rfl;have ltk:∀ {b:ML} {ks:List aE},jO X.K H1 b (ks.map kV)->b∉wr/\b≠s1.heap.objs.size/\∀ h:M5,(∀ c o,c∉wr->c≠s1.heap.objs.size->s1.heap.get? c=some o->h.get? c=some o)->(NZ (aI X.prog X.w)).is h ks b:=fun {b ks} sq=>by
  have key:=key_at I1 sq;obtain⟨o,its,n,e,c,dd,ii⟩:=id key;have hb1:b≠s1.heap.objs.size:=Na (MS e);have hb2:b∉wr:=fun z=>by
   obtain⟨⟨g0,g1,g2,g3,g4,g5⟩,_⟩:=hwr b z;rcases sq with (e1|⟨o',e1⟩)|⟨o',its',n',kl,_⟩
   ·rw[g0]at e1;cases e1
   ·rw[g0]at e1;cases e1
   ·have e2:X.base.get? b=some o':=I1.mod.kin b o' kl;rcases g3 with g3|g3
    ·exact I1.ok.noex b o' e2 g3
    ·exact absurd (MS (I1.ok.bs b o' e2).1) (not_lt.mpr g3)
  exact⟨hb2,hb1,fun h kp=>⟨o,its,n,kp b o hb2 hb1 e,c,dd,ii⟩⟩
 have Us:∀ {i:Nat} {xs:List (List aE×ML×MI)},oX X.K H1 (dictOf (kvs.take i)) xs->xs.length<=i/\∀ x∈xs,jO X.K H1 x.2.1 (x.1.map kV):=fun {i xs} r=>by
  refine⟨?_,?_⟩
  ·rw[<- r.length];have:=oF (kvs.take i) [];rw[NV]at this;unfold dictOf;simp only[Nj]at this;omega
  ·unfold oX at r;generalize dictOf (kvs.take i)=ks at r
   induction r with
   | nil=>intro x hx;exact nomatch hx
   | @cons p q ps qs hq t ih=>
    intro x hx;rcases Nr.mp hx with e|hx
    ·subst e;rw[<- hq.1];exact hq.2.1
    ·exact ih x hx
 refine Dq (A:=X.A.in1) (h0:=s1.heap) (d:=s1.heap.objs.size) W (show X.A.units+1+1 < ND by walk_at "o") hdw (by walk_at "o") (fun i xs=>oX X.K H1 (dictOf (kvs.take i)) xs) (fun i k v xs pv ac=>?_) (fun i xs ac=>?_) kvs.length 0 { s1 with heap:=h3,toks:=tk2 } [] (Nat.sub_zero _) (NC _) st0 (fun c o _ _ e=>kp3 c o (kp2 c o e)) ⟨_,#[],0,kp3 _ _ hd2,⟨rfl,rfl,rfl⟩,rfl,rfl,QN⟩ .nil fun h' tk ys k1 k2 dr ac=>?_
 ·obtain⟨kv,b,x,e,rfl,sq,rd,rv⟩:=hpv i k v pv;refine⟨kv.1,b,rfl,?_,(ltk sq).2.2⟩;show oX X.K H1 (dictOf (kvs.take (i+1))) _
  rw[zB e];exact oX.put ac kv.1 sq rd rv
 ·obtain⟨len,ks⟩:=Us ac;exact⟨len,fun x hx h kp=>(ltk (ks x hx)).2.2 h kp⟩
 ·rw[NF]at ac;obtain⟨o,es,ep,e,r1,r2,r3,r4⟩:=dr;have hsm:(s1.heap.objs.size == NM)=false:=beq_eq_false_iff_ne.mpr (Ne.symm (Na I1.big));have fd:o.isFreed=false:=by
   obtain⟨c,dd,dt,sl⟩:=o;have r2':dt=.dict es ep:=r2;subst r2';rfl
  obtain⟨kpp,rg2⟩:=GB (o:=.dT (aG X.prog X.w) (dictOf kvs)) (ho:=.ext (xL (aG X.prog X.w) s1.heap.objs.size ys)) rg1 hf fun H' st=>⟨ys,rfl,ac.mono st,xq kvs,by
   have:=oF kvs [];unfold dictOf;simp only[Nj]at this;omega⟩
  have I2:L2.Inv X pins τ (aS H1 s1.heap.objs.size (.ext (xL (aG X.prog X.w) s1.heap.objs.size ys))) { s1 with heap:=s1.heap.push o,toks:=s1.toks }:=
   I1.laid (fun _ _ q=>MM _ q) (le_refl _) (pY ⟨hsm,o,es,ep,MQ _ fd,r1,r2,r3⟩)
  have I3:=Inv.turnedL (s:={ s1 with heap:=s1.heap.push o,toks:=s1.toks }) (h':=h') (t':=tk) (fp:=wr) I2 (fun b o' hb qb=>by
   have qb':(s1.heap.push o).get? b=some o':=qb
   by_cases hbs:b=s1.heap.objs.size
   ·subst hbs;rw[MQ _ fd]at qb';cases qb';exact e
   ·rw[QE _ _ _ hbs]at qb';exact k1 b o' hb hbs qb') fun b hb=>by
   obtain⟨⟨g0,g1,g2,g3,g4,g5⟩,nb⟩:=hwr b hb;exact⟨by rw[aq nb];exact g0,g1,g2,g3,g4,g5⟩
  exact⟨rfl,q _ _ I3 hf kpp rg2⟩
end
end L3
namespace L2
open PySem PySem.Spec PyProof.Rows
theorem Av{prog:MY}{w:M7}{A:M3}{it l:ML}{us:List MI}{Pv:Nat->MI->MI->Prop}(hh:A.handled=none):
  PWalk prog w A it [it] us.length Pv (fun i h=>h.IsListIter it l i/\h.IsList l us.toArray/\∀ j u,us[j]?=some u->∃ p kk vv,u=.ref p/\(∃ o m,h.get? p=some o/\o.cls=.type "tuple"/\o.data=.seq #[kk,vv] m)/\Pv j kk vv) where
 frame:=fun i h h' ⟨⟨o1,e1,c1,d1⟩,⟨o2,e2,c2,d2⟩,ps⟩ kp=>⟨⟨o1,kp _ _ (by rw[c1];decide) e1,c1,d1⟩,⟨o2,kp _ _ (by rw[c2];decide) e2,c2,d2⟩,fun j u hu=>by
  obtain⟨p,kk,vv,e,⟨o,m,g,c,dt⟩,pv⟩:=ps j u hu;exact⟨p,kk,vv,e,⟨o,m,kp _ _ (by rw[c];decide) g,c,dt⟩,pv⟩⟩
 item:=fun i s Q E hi ⟨x1,x2,ps⟩ q=>by
  have hu:us[i]?=some us[i]:=MX hi;obtain⟨p,kk,vv,e,tp,pv⟩:=ps i _ hu;refine Rx x1 x2 (x:=us[i]) (by simpa using hu) fun h' st' sb=>?_
  obtain⟨o1,e1,c1,_⟩:=x1;obtain⟨o2,e2,c2,_⟩:=id x2;have ne:∀ {b:ML} {o:Obj} {T:String},s.heap.get? b=some o->o.cls=.type T->Value.type T≠.type "list_iterator"->b≠it:=fun hb hc hT z=>by subst z;rw[e1]at hb;cases hb;rw[c1]at hc;exact hT hc.symm
  have lk:∀ {p:ML} {kk vv:MI},(∃ o m,s.heap.get? p=some o/\o.cls=.type "tuple"/\o.data=.seq #[kk,vv] m)->∃ o m,h'.get? p=some o/\o.cls=.type "tuple"/\o.data=.seq #[kk,vv] m:=fun⟨o,m,g,c,dt⟩=>⟨o,m,(sb.2 _ (ne g c (by decide))).trans g,c,dt⟩
  rw[e];refine q h' s.toks p kk vv pv (lk tp) ⟨st',x2.at fun o g=>(sb.2 l (ne e2 c2 (by decide))).trans g,fun j u hu=>?_⟩ fun c o hc g=>(sb.2 c (fun z=>hc (by simp[z]))).trans g
  obtain⟨p',k',v',e',tp',pv'⟩:=ps j u hu;exact⟨p',k',v',e',lk tp',pv'⟩
 done:=fun s Q E ⟨x1,x2,ps⟩ q=>RP hh x1 x2 (by simp) fun h' eb=>q h' s.toks fun c o hc g=>eb c o (fun z=>hc (by simp[z])) g
theorem BW.wr{k1 k2:Zk}{z TI TO i1 i2:ML}{i:Nat}{h:M5}(x:BW k1 k2 z TI TO i1 i2 i h):∀ b∈[z,TI,TO,i1,i2],∃ o,h.get? b=some o/\o.cls≠.type "list"/\o.cls≠.type "dict":=by
 obtain⟨⟨f0,f1,_,hz⟩,hTI,⟨a,b',hTO⟩,h1,h2⟩:=x;have nd:∀ {k:Zk} {it:ML},k.it it i h->∃ o,h.get? it=some o/\o.cls≠.type "list"/\o.cls≠.type "dict":=fun {k it} y=>by
  cases k with
  | lst l xs=>
   obtain⟨o,e,c,_⟩:=y;exact⟨o,e,by rw[c];decide,by rw[c];decide⟩
  | txt z t=>
   obtain⟨o,e,c,_⟩:=y;refine⟨o,e,?_⟩;rw[c];rcases mz z with q|q<;>rw[q]<;>decide
 intro b hb;simp only[Nr,Nq,or_false]at hb;rcases hb with rfl|rfl|rfl|rfl|rfl
 ·exact⟨_,hz,by show Value.type "zip"≠_;decide,by show Value.type "zip"≠_;decide⟩
 ·exact⟨_,hTI,by show Value.type "tuple"≠_;decide,by show Value.type "tuple"≠_;decide⟩
 ·exact⟨_,hTO,by show Value.type "tuple"≠_;decide,by show Value.type "tuple"≠_;decide⟩
 ·exact nd h1
 ·exact nd h2
theorem Zk.stay{k:Zk}{h h':M5}(r:k.ready h)(q:∀ c o,o.cls=.type "list"->h.get? c=some o->h'.get? c=some o):k.ready h':=by
 cases k with
 | lst l xs=>
  obtain⟨us,rv,o,e,c,d⟩:=r;exact⟨us,rv,o,q l o c e,c,d⟩
 | txt z t=>exact True.intro
theorem Cb{prog:MY}{w:M7}{A:M3}{k1 k2:Zk}{z TI TO i1 i2:ML}(hh:A.in1.handled=none)(D:ZAp z TI TO i1 i2):
  PWalk prog w A z [z,TI,TO,i1,i2] (min k1.vs.length k2.vs.length) (fun i k v=>∃ u x,k1.vs[i]?=some u/\k2.vs[i]?=some x/\aD u k/\aD x v) (fun i h=>BW k1 k2 z TI TO i1 i2 i h/\k1.ready h/\k2.ready h) where
 frame:=fun i h h' ⟨st,r1,r2⟩ kp=>⟨st.keep fun b hb o e=>by
  obtain⟨o',e',_,c⟩:=st.wr b hb;rw[e]at e';cases e';exact kp b o c e,Zk.stay r1 fun c o hc e=>kp c o (by rw[hc];decide) e,Zk.stay r2 fun c o hc e=>kp c o (by rw[hc];decide) e⟩
 item:=fun i s Q E hi ⟨st,r1,r2⟩ q=>by
  refine Bg hh D st r1 r2 (by walk_at "o") (by walk_at "o") fun h' tk x y u v e1 e2 ru rv st' tp sz kp=>?_
  have ls:∀ c o,o.cls=.type "list"->s.heap.get? c=some o->h'.get? c=some o:=fun c o hc e=>kp c o (fun hb=>by
   obtain⟨o',e',c',_⟩:=st.wr c hb;rw[e]at e';cases e';exact c' hc) e
  exact q h' tk _ x y ⟨u,v,e1,e2,ru,rv⟩ ⟨_,_,tp,rfl,rfl⟩ ⟨st',Zk.stay r1 ls,Zk.stay r2 ls⟩ kp
 done:=fun s Q E ⟨st,r1,r2⟩ q=>Di hh D st r1 r2 rfl fun h' tk kp=>q h' tk kp
end L2
namespace L3
open PySem PySem.Spec PyProof.Rows L2
theorem vN:N3 "dict"=some (.type "dict"):=by kernel_rfl
theorem HC{X:Cx}{tg:M9}{a b:M9}{ta:jN}{p pos:Pos}(hg:Gl X "zip")(hm:X.mg "zip"=none)(ha:PA X [a,b] (dD X.K ta))(hs:MU [a,b] X.env=[(false,eval a X.env),(false,eval b X.env)]:=by rfl)(hs2:MU [b] X.env=[(false,eval b X.env)]:=by rfl):
  PI X tg (.Call (.Name "zip" p) [a,b] [] pos) (qw X.K (CI ta)):=by
 intro pins s τ H R I h;obtain⟨σ,G,Q3,rs,rg,hq,k⟩:=h;refine SK (g_ I hg hm zJ (PyProof.Rows.callWith_type1 (bZ (ha pos pins s τ H (fun vs H1=>∃ ds G1,(match ds with|[x,y]=>∃ a b,(fy x=some a/\fy y=some b)/\Q3 (m5 a b) G1|_=>False)/\Kp G H G1 H1/\RG X.K H1 G1/\RDs X.K H1 ds vs) I
  ⟨σ,G,_,rs,rg,hq,fun ds G1 vs H1 q k1 rg1 rds=>⟨ds,G1,q,k1,rg1,rds⟩⟩) fun us s1 ⟨vs,H1,I1,r1,q1⟩=>?_) (by rw[hs,hs2]) (by rw[hs2];rfl)))
 obtain⟨ds,G1,q,k1,rg1,rds⟩:=q1;split at q
 ·rename_i x y;obtain⟨as,bs,⟨ea,eb⟩,q⟩:=q;obtain⟨v,v',rfl,rd1,rd2⟩:=vY rds;obtain⟨u,u',rfl,ru1,ru2⟩:=Hf r1;obtain⟨z1,rfl,_,w1⟩:=Bh ea rd1 ru1;obtain⟨z2,rfl,_,w2⟩:=Bh eb rd2 ru2;have hr1:=(w1 G1 G1 H1 rg1 Kp.refl).1;have hr2:=(w2 G1 G1 H1 rg1 Kp.refl).1;refine vL (Zk.of I1 hr1) (Zk.of I1 hr2) fun h' zs hsz kp=>?_;have D:ZAp (s1.heap.objs.size+4) (s1.heap.objs.size+2) (s1.heap.objs.size+3) s1.heap.objs.size (s1.heap.objs.size+1):=⟨Na (OE (s1.heap.objs.size+2)),Na (OE s1.heap.objs.size)⟩;refine (rM (P:=X.prog) (w:=X.w) (K:=X.K) (tg:=tg) z1 z2 _ _ _ _ _ D).self _ 0 _ _ _ zs ?_;refine⟨s1.heap.objs.size+4,[s1.heap.objs.size+4,s1.heap.objs.size+2,s1.heap.objs.size+3,s1.heap.objs.size,s1.heap.objs.size+1],_,_,H1,rfl,I1.kept (t':=s1.toks) kp,rM z1 z2 _ _ _ _ _ D,zs,fun c hc=>?_,k _ G1 _ H1 q k1 rg1 (Ja rg1 w1 w2)⟩;have hc':s1.heap.objs.size<=c:=by
   simp only[Nr,Nq,or_false]at hc;rcases hc with rfl|rfl|rfl|rfl|rfl<;>first|exact le_refl _|exact Nat.le_add_right _ _
  exact I1.fpOk hc' (I1.hok.fresh hc')
 ·exact q.elim
def A4(hw:List aE->Int)(te:aZ):aZ:=fun σ G Q=>te σ G fun x G1=>match tY G1 (val x) with
 | some ds=>∃ kvs:List (List aE×D),(ds=kvs.map yS/\kvs.length<=900000)/\∀ p,G1 p=none->Q (.ref p) (gset G1 p (.dT hw (dictOf kvs)))
 | none=>False
def A3(hw:List aE->Int)(ta:jN):aZ:=fun σ G Q=>ta σ G fun ds G1=>match ds with
 | [x,y]=>∃ a b,∃ kvs:List (List aE×D),(fy x=some a/\fy y=some b/\m5 a b=kvs.map yS/\kvs.length<=900000)/\∀ p,G1 p=none->Q (.ref p) (gset G1 p (.dT hw (dictOf kvs)))
 | _=>False
theorem HA{K:Ps}{H:Hp}{ks:List aE}{v:V}(r:RD K H (.tup (ks.map kD)) v):∃ b,v=.ref b/\jO K H b (ks.map kV):=rE (d:=.tup (ks.map kD)) (BG ks) r
theorem F8(hu:X.A.units+8 < ND)(hc:X.calm=true)(hg:Gl X "dict")(hm:X.mg "dict"=none)(he:PE X e (az X.K te))(hs:MU [e] X.env=[(false,eval e X.env)]:=by rfl):
  PE X (.Call (.Name "dict" p1) [e] [] pos) (az X.K (A4 (aG X.prog X.w) te)):=by
 rintro pins s τ H Q I ⟨σ,G,Q3,rs,rg,h,k⟩
 refine SK (g_ I hg hm vN (PyProof.Rows.callWith_type1 ?_ hs rfl) (by decide) (by decide))
 rw[show NS pos (MU [e] X.env)=[(false,eval e X.env)]by rw[hs];rfl]
 refine On (bZ (dB he I rs rg h) fun ov s1 ⟨ox,H1,I1,rox,x,G1,q1,k1,rg1,rd1⟩=>OK ?_);split at q1
 ·rename_i ds hq;obtain⟨kvs,⟨rfl,hz⟩,q1⟩:=q1;obtain⟨l,xs,rfl,sq,r⟩:=p5 (G:=G1) (H:=H1) hq (.of rd1) rg1;cases rox;obtain⟨its,rv,pl,_⟩:=I1.list sq;have n1:=r.length;have n2:=rv.length;rw[MO]at n1;obtain⟨lo,ln,le,lc,ld,ldat⟩:=id pl;have tps:∀ (j:Nat) u,its[j]?=some u->∃ p kk vv,u=.ref p/\(∃ o m,s1.heap.get? p=some o/\o.cls=.type "tuple"/\o.data=.seq #[kk,vv] m)/\∃ kv b x,kvs[j]?=some kv/\kk=.ref b/\jO X.K H1 b (kv.1.map kV)/\RD X.K H1 kv.2 x/\aD x vv:=fun j u hu=>by
   obtain⟨v,e1,ru⟩:=Vals.getV rv hu;obtain⟨d,e2,rd⟩:=RDs.getV r e1;rw[Nc]at e2;cases hkv:kvs[j]? with
   | none=>rw[hkv]at e2;cases e2
   | some kv=>
    rw[hkv]at e2;cases e2;unfold yS at rd;simp only[RD]at rd;obtain⟨p,ys,rfl,sqp,ry⟩:=rd;obtain⟨y1,y2,rfl,ra,rb⟩:=vY ry;obtain⟨b,rfl,sb⟩:=HA (ks:=kv.1) (by simpa only[RD]using ra)
    cases ru;obtain⟨its2,rv2,tp,_⟩:=I1.tuple sqp;obtain⟨o,g1,g2,m,g3⟩:=tp;obtain⟨w1,w2,rfl,rw1,rw2⟩:=Hf rv2;cases rw1;exact⟨p,_,w2,rfl,⟨o,m,g1,g2,by simpa using g3⟩,kv,b,y2,rfl,rfl,sb,rb,rw2⟩
  refine zA (T:="list") (kvs:=kvs) hu I1 rg1 hz ⟨lo,le,lc⟩ (by decide) (fun s' Q' E' kp q'=>?_) (fun h2 tk2 Q' E' kp hlt q'=>?_) fun s' H' I' hf kp rg'=>⟨.ref s1.heap.objs.size,H',I',rfl,k _ _ _ H' (q1 _ (rg1.free hf)) (k1.trans kp) rg' (.of fH)⟩
  ·obtain⟨c0,d0,t0,s0⟩:=lo;simp only at lc ld ldat;subst lc ld ldat;exact wN (kp _ _ le) (I.ok.hd hc) q'
  ·refine PH (pl.isList.at fun o e=>kp _ _ e) ?_;have hln:kvs.length=its.length:=n1.trans n2;have W:=Av (prog:=X.prog) (w:=X.w) (A:=X.A.in1.in1) (it:=h2.objs.size) (l:=l) (us:=its) (Pv:=fun (j:Nat) (kk vv:MI)=>∃ (kv:List aE×D) (b:ML) (x:V),kvs[j]?=some kv/\kk=Value.ref b/\jO X.K H1 b (kv.1.map kV)/\RD X.K H1 kv.2 x/\aD x vv) (I.ok.hd hc);rw[<- hln]at W;refine q' h2.objs.size [h2.objs.size] _ _ _ W ⟨⟨_,MQ _ rfl,rfl,rfl⟩,(pl.isList.at fun o e=>kp _ _ e).push _,fun j u hu=>?_⟩ (fun c o e=>MM _ e) (fun b hb=>?_) fun i k v pv=>pv
   ·obtain⟨p,kk,vv,e,⟨o,m,g1,g2,g3⟩,pv⟩:=tps j u hu;exact⟨p,kk,vv,e,⟨o,m,MM _ (kp _ _ g1),g2,g3⟩,pv⟩
   ·have e:=Qt.mp hb;subst e;exact⟨I1.fpOk (le_of_lt hlt) (I1.hok.fresh (le_of_lt hlt)),ON hlt⟩
 ·exact q1.elim
theorem F7{X:Cx}{a b:M9}{ta:jN}{p1 p2 pos S2:Pos}(hu:X.A.units+8 < ND)(hc:X.calm=true)(hg1:Gl X "dict")(hm1:X.mg "dict"=none)(hg2:Gl X "zip")(hm2:X.mg "zip"=none)(ha:PA X [a,b] (dD X.K ta))
  (hs:MU [a,b] X.env=[(false,eval a X.env),(false,eval b X.env)]:=by rfl) (hs2:MU [b] X.env=[(false,eval b X.env)]:=by rfl):
  PE X (.Call (.Name "dict" p1) [.Call (.Name "zip" p2) [a,b] [] S2] [] pos) (az X.K (A3 (aG X.prog X.w) ta)):=by
 rintro pins s τ H Q I ⟨σ,G,Q3,rs,rg,h,k⟩
 refine SK (g_ I hg1 hm1 vN (PyProof.Rows.callWith_type1 ?_ rfl rfl) (by decide) (by decide))
 show MP _ _ (spliced [(false,eval (.Call (.Name "zip" p2) [a,b] [] S2) X.env)]) _ _ _
 refine On (SK (g_ I hg2 hm2 zJ (PyProof.Rows.callWith_type1 (bZ (ha S2 pins s τ H (fun vs H1=>∃ ds G1,(match ds with|[x,y]=>∃ a b,∃ kvs:List (List aE×D),(fy x=some a/\fy y=some b/\m5 a b=kvs.map yS/\kvs.length<=900000)/\∀ p,G1 p=none->Q3 (.ref p) (gset G1 p (.dT (aG X.prog X.w) (dictOf kvs)))|_=>False)/\Kp G H G1 H1/\RG X.K H1 G1/\RDs X.K H1 ds vs) I
  ⟨σ,G,_,rs,rg,h,fun ds G1 vs H1 q k1 rg1 rds=>⟨ds,G1,q,k1,rg1,rds⟩⟩) fun us s1 ⟨vs,H1,I1,r1,q1⟩=>?_) (by rw[hs,hs2]) (by rw[hs2];rfl)) (by decide) (by decide)))
 obtain⟨ds,G1,q,k1,rg1,rds⟩:=q1;split at q
 ·rename_i x y;obtain⟨as,bs,kvs,⟨ea,eb,ez,hz⟩,q⟩:=q;obtain⟨v,v',rfl,rd1,rd2⟩:=vY rds;obtain⟨u,u',rfl,ru1,ru2⟩:=Hf r1;obtain⟨z1,rfl,t1,w1⟩:=Bh ea rd1 ru1;obtain⟨z2,rfl,t2,w2⟩:=Bh eb rd2 ru2;have n1:=t1.length;have n2:=t2.length;have hr1:=(w1 G1 G1 H1 rg1 Kp.refl).1;have hr2:=(w2 G1 G1 H1 rg1 Kp.refl).1;refine vL (Zk.of I1 hr1) (Zk.of I1 hr2) fun h' zs hsz kp=>OK ?_;have I2:L2.Inv X pins τ H1 { s1 with heap:=h' }:=I1.kept (t':=s1.toks) kp
  have DZ:ZAp (s1.heap.objs.size+4) (s1.heap.objs.size+2) (s1.heap.objs.size+3) s1.heap.objs.size (s1.heap.objs.size+1):=⟨Na (OE (s1.heap.objs.size+2)),Na (OE s1.heap.objs.size)⟩;obtain⟨f0,f1,_,hzo⟩:=zs.1;have hlen:kvs.length=min z1.vs.length z2.vs.length:=by
   have:=j5 as bs;rw[ez,MO]at this;omega
  refine zA (s1:={ s1 with heap:=h' }) (T:="zip") (kvs:=kvs) hu I2 rg1 hz ⟨_,hzo,rfl⟩ (by decide) (fun s' Q' E' kp' q'=>yW (kp' _ _ hzo) (I.ok.hd hc) q') (fun h2 tk2 Q' E' kp2 hlt q'=>?_) fun s' H' I' hf kp' rg'=>⟨.ref h'.objs.size,H',I',rfl,k _ _ _ H' (q _ (rg1.free hf)) (k1.trans kp') rg' (.of fH)⟩
  have zs2:BW z1 z2 (s1.heap.objs.size+4) (s1.heap.objs.size+2) (s1.heap.objs.size+3) s1.heap.objs.size (s1.heap.objs.size+1) 0 h2:=zs.keep fun b _ o e=>kp2 b o e;refine (rM (P:=X.prog) (w:=X.w) (K:=X.K) (tg:=.Name "" pos) z1 z2 _ _ _ _ _ DZ).self _ 0 { s1 with heap:=h2,toks:=tk2 } _ _ zs2 ?_
  have W:=Cb (prog:=X.prog) (w:=X.w) (A:=X.A.in1.in1) (k1:=z1) (k2:=z2) (I.ok.hd hc) DZ;rw[<- hlen]at W;refine q' _ _ _ _ _ W ⟨zs2,Zk.grow (Zk.of I1 hr1) fun c o e=>kp2 c o (kp c o e),Zk.grow (Zk.of I1 hr2) fun c o e=>kp2 c o (kp c o e)⟩ (fun _ _ e=>e) (fun c hc=>?_) fun i kk vv pv=>?_
  ·have hc':s1.heap.objs.size<=c/\c≠s1.heap.objs.size+5:=by
    simp only[Nr,Nq,or_false]at hc;rcases hc with rfl|rfl|rfl|rfl|rfl
    ·exact⟨Nat.le_add_right _ _,Na (Nat.add_lt_add_left (by decide) _)⟩
    ·exact⟨Nat.le_add_right _ _,Na (Nat.add_lt_add_left (by decide) _)⟩
    ·exact⟨Nat.le_add_right _ _,Na (Nat.add_lt_add_left (by decide) _)⟩
    ·exact⟨le_refl _,Na (Nat.lt_add_of_pos_right (by decide))⟩
    ·exact⟨Nat.le_add_right _ _,Na (Nat.add_lt_add_left (by decide) _)⟩
   refine⟨I1.fpOk hc'.1 (I1.hok.fresh hc'.1),?_⟩;show c≠h'.objs.size
   rw[hsz];exact hc'.2
  ·obtain⟨u,x,e1,e2,ru,rx⟩:=pv;obtain⟨d1,g1,r1⟩:=RDs.getV t1 e1;obtain⟨d2,g2,r2⟩:=RDs.getV t2 e2;have e3:=rJ g1 g2;rw[ez,Nc]at e3;cases hkv:kvs[i]? with
   | none=>rw[hkv]at e3;cases e3
   | some kv=>
    rw[hkv]at e3;simp only[Option.map_some,Option.some.injEq,yS,D.tup.injEq,List.cons.injEq,and_true]at e3;obtain⟨rfl,rfl⟩:=e3;obtain⟨b,rfl,sb⟩:=HA r1;cases ru;exact⟨kv,b,x,rfl,rfl,sb,r2,rx⟩
 ·exact q.elim
def EC(kv:List aE×D):D:=.tup (kv.1.map kD)
def DF(te:aZ)(g:uj)(tb:bg):bg:=fun E σ G=>te σ G fun d G1=>match d with
 | .ref a=>∃ hw kvs,G1 a=some (.dT hw kvs)/\ForIn g tb { nx:=fun σ' G'=>E.nx σ' (gset G' a (.dT hw kvs)),rt:=fun _ _=>False } σ (kvs.map EC) (fL G1 a)
 | _=>False
theorem CD(hd:(d == NM)=false)(x:C9 s.heap d vs ep)(q:Q (.ref s.heap.objs.size) { s with heap:=s.heap.push { cls:=.type "dict_keyiterator",data:=.fields #[.ref d,.int 0 0,.int vs.length 0,.int ep 0] } }):MP (MR prog w) A (Pw (.ref d)) Q E s:=by
 obtain⟨o,es,ho,hc,hdat,rfl⟩:=id x;refine QA x.ty PySem.F.slot_dict_iter (Ny PySem.F.slot_dict_iter x.ty PySem.F.entry_dict_iter ?_ (PySem.F.args_dict_iter_1 _));unfold Builtin.«dict.__iter__»;refine MH ?_;unfold Builtin.Dict.dictSlotNone;refine MH (P8 x.ty ?_);show MP _ _ (pure (Value.ref d)) _ _ s;refine MJ ?_
 show MP _ _ (Pa d >>= _) _ _ s;unfold Pa;rw[if_neg (by rw[hd];exact Bool.false_ne_true)]
 refine MH (MJ ?_);refine MH (N8 ho hdat ?_);refine MH (Op ho hdat ?_);refine MH (Nd (MJ ⟨_,rfl,"dict_keyiterator",_,⟨_,MQ _ rfl,rfl⟩,PySem.F.slot_dict_keyiterator_next.lookup,?_⟩))
 simpa[N4]using q
theorem As{K:Ps}{H:Hp}:∀ ks:List aE,RDs K H (ks.map kD) (ks.map kV)
 | []=>RDs.nil
 | .inl i::r=>RDs.cons ef (As r)
 | .inr x::r=>RDs.cons iA (As r)
theorem oX.at{K:Ps}{H:Hp}{kvs:List (List aE×D)}{xs:List (List aE×ML×MI)}(r:oX K H kvs xs):∀ {i:Nat} {kv:List aE×D},kvs[i]?=some kv->∃ x,xs[i]?=some x/\RD K H (EC kv) (.ref x.2.1):=by
 unfold oX at r
 induction r with
 | nil=>intro i kv h;simp at h
 | @cons p q ps qs hq t ih=>
  intro i kv h;cases i with
  | zero=>
   simp only[Nn,Option.some.injEq]at h;subst h;refine⟨q,rfl,?_⟩;unfold EC;simp only[RD];exact⟨q.2.1,_,rfl,hq.2.1,As _⟩
  | succ i=>
   simp only[Nu]at h ⊢;exact ih h
abbrev EX(a:ML)(o:Obj):HO:=.ext fun h=>h.get? a=some o
theorem Kz(e:h.get? a=some o):bC P w H h a (EX a o):=⟨e,⟨o,e⟩,fun _ _ q k=>k o q⟩
theorem Ig(hp:Qq (MR X.prog X.w) X.A X.env X.xe)(hc:X.calm=true)(hi:PE X iter (az X.K te))(hg:PG X tg (i7 X.K g))(hb:je X body (bB X.K tb))(hs:∀ x,NW iter X.env x=pure x:=by intro _;rfl):PS X (.For tg iter body [] pos) (bB X.K (DF te g tb)):=by
 rintro pins s τ H Dd I ⟨σ,G,D3,rs,rg,h,k⟩
 refine wpAny_For (bZ (dB hi I rs rg h) fun v s1 ⟨ox,H1,I1,rox,d,G1,q1,k1,rg1,rd1⟩=>?_) hs;cases d with
 | ref a=>
  obtain⟨hw,kvs,hga,Pv,p0,step,fin⟩:=q1;simp only[val,RD]at rd1;subst rd1;cases rox;obtain⟨hob,eo,ro⟩:=rg1 a _ hga;cases hob with
  | ext φ=>
   obtain⟨xs,rfl,rt,nd,len⟩:=ro;obtain⟨hsm,o1,es,ep,g1,g2,g3,g4⟩:=(show bC X.prog X.w H1 s1.heap a (.ext (xL hw a xs))from I1.hok a _ eo).1
   have raw:∀ {h:M5},h.get? a=some o1->C9 h a (xs.map fun x=>Value.ref x.2.1) ep:=fun e=>⟨o1,es,e,g2,g3,by rw[g4,NH];rfl⟩
   have lx:=rt.length;refine CD hsm (raw g1) ?_;have hita:a≠s1.heap.objs.size:=Na (MS g1);have kpA:Kp G1 H1 (fL G1 a) (aS H1 a (EX a o1)):=fun b u e n=>by
    have hb:b≠a:=fun z=>by subst z;rw[hga]at n;cases n
    exact⟨by rw[aq hb];exact e,by rw[d_ hb];exact n⟩
   have rg2:RG X.K (aS H1 a (EX a o1)) (fL G1 a):=fun b u e=>by
    have hb:b≠a:=fun z=>by subst z;rw[d9]at e;cases e
    rw[d_ hb]at e;obtain⟨ho,e1,r1⟩:=rg1 b u e;exact⟨ho,by rw[aq hb];exact e1,r1.mono (kpA.stb rg1)⟩
   have I1':L2.Inv X pins τ (aS H1 a (EX a o1)) { s1 with heap:=s1.heap,toks:=s1.toks }:=I1.write (x:=a) (e:=a) (by rw[eo];exact True.intro) (.inl rfl) (fun _ _ _ q=>q) ⟨o1,g1⟩ (Kz g1)
   have I2:L2.Inv X pins τ (aS H1 a (EX a o1)) { s1 with heap:=s1.heap.push { cls:=.type "dict_keyiterator",data:=.fields #[.ref a,.int 0 0,.int (xs.map fun x=>Value.ref x.2.1).length 0,.int ep 0] } }:=I1'.kept (t':=s1.toks) fun _ _ q=>MM _ q
   have fit:k9 X pins (aS H1 a (EX a o1)) s1.heap.objs.size:=I1.fpOk (le_refl _) (by rw[aq hita.symm];exact I1.hok.fresh (le_refl _))
   have back:∀ {τ':St} {H':Hp} {G':Gp} {σ':eE} {s':MK},L2.Inv X pins τ' H' s'->Kp (fL G1 a) (aS H1 a (EX a o1)) G' H'->RS X.K H' σ' τ'->RG X.K H' G'->D3.nx σ' (gset G' a (.dT hw kvs))->∃ τ'' H'',L2.Inv X pins τ'' H'' s'/\Dd.nx τ'' H'':=fun {τ' H' G' σ' s'} I' kk rs' rg' q=>by
    obtain⟨e1,e2⟩:=kk a _ aB d9;have e3:s'.heap.get? a=some o1:=(show bC X.prog X.w H' s'.heap a (EX a o1)from I'.hok a _ e1).1
    have I'':L2.Inv X pins τ' (aS H' a (.ext (xL hw a xs))) { s' with heap:=s'.heap,toks:=s'.toks }:=I'.write (x:=a) (e:=a) (by rw[e1];exact True.intro) (.inl rfl) (fun _ _ _ q=>q) ⟨o1,e3⟩ (pY ⟨hsm,o1,es,ep,e3,g2,g3,g4⟩)
    have st1:=(kpA.stb rg1);have st2:=(kk.stb rg2);have st3:Stb X.K H' (aS H' a (.ext (xL hw a xs))):=⟨fun b ys y=>by
     rcases y with (y|⟨o',y⟩)|y
     ·exact .inl (.inl (by rw[aq (fun z=>by rw[z,e1]at y;cases y)];exact y))
     ·exact .inl (.inr ⟨o',by rw[aq (fun z=>by rw[z,e1]at y;cases y)];exact y⟩)
     ·exact .inr y,fun b ys y=>by
     rcases y with ⟨o',y⟩|y
     ·exact .inl ⟨o',by rw[aq (fun z=>by rw[z,e1]at y;cases y)];exact y⟩
     ·exact .inr y⟩
    have rg3:RG X.K (aS H' a (.ext (xL hw a xs))) (gset G' a (.dT hw kvs)):=fun b u e=>by
     by_cases hb:b=a
     ·subst hb;rw[av]at e;cases e;exact⟨_,aB,xs,rfl,((rt.mono st1).mono st2).mono st3,nd,len⟩
     ·rw[am hb]at e;obtain⟨ho,e4,r4⟩:=rg' b u e;exact⟨ho,by rw[aq hb];exact e4,r4.mono st3⟩
    have kpC:Kp G H (gset G' a (.dT hw kvs)) (aS H' a (.ext (xL hw a xs))):=fun b u e n=>by
     obtain⟨e4,n4⟩:=k1 b u e n;have hb:b≠a:=fun z=>by subst z;rw[hga]at n4;cases n4
     obtain⟨e5,n5⟩:=kk b u (by rw[aq hb];exact e4) (by rw[d_ hb];exact n4)
     exact⟨by rw[aq hb];exact e5,by rw[am hb];exact n5⟩
    exact⟨τ',_,I'',k.nx σ' _ τ' _ q kpC rg3 (rs'.mono st3)⟩
   refine R8 (fun n s'=>∃ i σ' τ' G' H',L2.Inv X pins τ' H' s'/\s'.heap.IsKeyIter s1.heap.objs.size a i (xs.map fun x=>Value.ref x.2.1).length ep/\H' s1.heap.objs.size=none/\RS X.K H' σ' τ'/\RG X.K H' G'/\Pv i σ' G'/\Kp (fL G1 a) (aS H1 a (EX a o1)) G' H'/\i<=kvs.length/\n=kvs.length - i) ?_ kvs.length
    ⟨0,σ,τ,fL G1 a,_,I2,⟨_,MQ _ rfl,rfl,rfl⟩,fit.1,rs.mono ((k1.trans kpA).stb rg),rg2,p0,Kp.refl,NC _,rfl⟩
   rintro n s3 ⟨i,σ3,τ3,G3,H3,I3,ki,fr3,rs3,rg3,pv,kk,hil,rfl⟩
   obtain⟨e1,e2⟩:=kk a _ aB d9;have e3:s3.heap.get? a=some o1:=(show bC X.prog X.w H3 s3.heap a (EX a o1)from I3.hok a _ e1).1
   by_cases hlt:i < kvs.length
   ·obtain⟨x,hx,rd⟩:=((rt.mono (kpA.stb rg1)).mono (kk.stb rg2)).at (MX hlt);refine NQ hp (DS ki (raw e3) (v:=.ref x.2.1) (by rw[Nc,hx];rfl) fun h4 ki4 sb=>?_)
    have I4:L2.Inv X pins τ3 H3 { s3 with heap:=h4,toks:=s3.toks }:=I3.turned (fun b o hb e=>(sb.2 b hb).trans e) fr3 fit.2.1 fit.2.2.2.1 fit.2.2.2.2.1 fit.2.2.2.2.2
    obtain⟨oi,ei,ci,di⟩:=id ki4;refine NQ hp (zo (s:={ s3 with heap:=h4 }) ei ci di (by decide) ?_)
    have I4':=I4.pinned (fp:=[s1.heap.objs.size]) (fun b hb=>by rw[Qt.mp hb];exact⟨fr3,fit.2⟩) fun b hb=>by rw[Qt.mp hb];exact⟨oi,ei,fun v z=>by rw[di]at z;cases z⟩
    refine NQ hp (bZ (hg _ _ τ3 H3 (.ref x.2.1) (.ref x.2.1) (fun τ2 H2=>bB X.K tb { nx:=fun τ' H'=>∃ σ' G',RS X.K H' σ' τ'/\RG X.K H' G'/\Pv (i+1) σ' G'/\Kp (fL G1 a) (aS H1 a (EX a o1)) G' H',ct:=fun τ' H'=>∃ σ' G',RS X.K H' σ' τ'/\RG X.K H' G'/\Pv (i+1) σ' G'/\Kp (fL G1 a) (aS H1 a (EX a o1)) G' H',bk:=fun τ' H'=>∃ σ' G',RS X.K H' σ' τ'/\RG X.K H' G'/\D3.nx σ' (gset G' a (.dT hw kvs))/\Kp (fL G1 a) (aS H1 a (EX a o1)) G' H',rt:=fun _ _=>False } τ2 H2) I4' rfl
     ⟨EC kvs[i],σ3,G3,_,rd,rs3,rg3,step i _ σ3 G3 (by rw[Nc,MX hlt];rfl) pv,fun σ5 G5 τ5 H5 q5 k5 rg5 rs5=>⟨σ5,G5,_,rs5,rg5,q5,⟨fun σ6 G6 τ6 H6 q6 k6 rg6 rs6=>⟨σ6,G6,rs6,rg6,q6,kk.trans (k5.trans k6)⟩,fun _ _ _ _ q _ _ _=>q.elim,fun σ6 G6 τ6 H6 q6 k6 rg6 rs6=>⟨σ6,G6,rs6,rg6,q6,kk.trans (k5.trans k6)⟩,fun σ6 G6 τ6 H6 q6 k6 rg6 rs6=>⟨σ6,G6,rs6,rg6,q6,kk.trans (k5.trans k6)⟩⟩⟩⟩) fun _ s6 ⟨σ6,H6,I6,q6⟩=>?_)
    refine NQ hp (bZ (hb _ s6 σ6 H6 _ I6 q6) fun f s7 q7=>?_);have again:∀ {τ7:St} {H7:Hp},L2.Inv X (pins ++ pD [s1.heap.objs.size] h4) τ7 H7 s7->(∃ σ' G',RS X.K H7 σ' τ7/\RG X.K H7 G'/\Pv (i+1) σ' G'/\Kp (fL G1 a) (aS H1 a (EX a o1)) G' H7)->∃ m,m < kvs.length - i/\∃ i σ' τ' G' H',L2.Inv X pins τ' H' s7/\s7.heap.IsKeyIter s1.heap.objs.size a i (xs.map fun x=>Value.ref x.2.1).length ep/\H' s1.heap.objs.size=none/\RS X.K H' σ' τ'/\RG X.K H' G'/\Pv i σ' G'/\Kp (fL G1 a) (aS H1 a (EX a o1)) G' H'/\i<=kvs.length/\m=kvs.length - i:=fun {τ7 H7} I7 ⟨σ7,G7,rs7,rg7,pv7,k7⟩=>by
     have pin:=I7.pin (s1.heap.objs.size,oi) (NA _ (NA _ (gZ (by simp) ei)))
     exact⟨kvs.length - (i+1),by walk_at "o",i+1,σ7,τ7,G7,H7,I7.unpinned,⟨oi,pin.1,ci,di⟩,pin.2.1,rs7,rg7,pv7,k7,hlt,rfl⟩
    cases f with
    | next=>obtain⟨σ7,H7,I7,n7⟩:=q7;exact again I7 n7
    | cont=>obtain⟨σ7,H7,I7,n7⟩:=q7;exact again I7 n7
    | brk=>
     obtain⟨σ7,H7,I7,σ8,G8,rs8,rg8,q8,k8⟩:=q7;exact back I7.unpinned k8 rs8 rg8 q8
    | ret v=>obtain⟨x7,σ7,H7,I7,r7,q7⟩:=q7;exact q7.elim
   ·have ei:i=kvs.length:=by walk_at "o"
    subst ei;refine NQ hp (FM (I.ok.hd hc) ki (raw e3) (by rw[Nc,Ov (by walk_at "o")];rfl) fun h4 eb=>OG ?_)
    have I4:L2.Inv X pins τ3 H3 { s3 with heap:=h4,toks:=s3.toks }:=I3.turned (fun b o hb e=>eb b o hb e) fr3 fit.2.1 fit.2.2.2.1 fit.2.2.2.2.1 fit.2.2.2.2.2
    exact back I4 kk rs3 rg3 (fin σ3 G3 (by rw[MO];exact pv))
  | _=>exact ro.elim
 | _=>exact q1.elim
open HT PySem.SeqAt
def KA(te:aZ)(tl th ts:JC):aZ:=fun σ G Q=>te σ G fun x G1=>tl σ G1 fun l G2=>th σ G2 fun u G3=>ts σ G3 fun st G4=>match x with
 | .tup ds=>(l=none/\u=none/\st=some (-1))/\Q (.tup ds.reverse) G4
 | _=>False
def GI(to:aZ)(ta:jN):aZ:=fun σ G Q=>to σ G fun x G1=>match x with
 | .tup ds=>ta σ G1 fun es G2=>match es with
  | [y]=>(pl 7 y/\(∀ d∈ds,pl 7 d)/\y∈ds)/\Q (.int (EG y ds)) G2
  | _=>False
 | _=>False
def JH(a:ML)(k:Nat)(g:uj)(tt:oP)(te:aZ)(σ:eE)(ds:List D)(G1:Gp)(Q:i_):Prop:=ds.length<=MT/\∃ Pv:Nat->List D->Gp->Prop,Pv 0 [] G1/\(∀ i acc G',Pv i acc G'->G' a=some (.lst ds))/\
 (∀ (i:Nat) d acc G',ds[i]?=some d->Pv i acc G'->g d (List.replicate k none ++ σ) G' fun σ2 G2=>(k<=σ2.length/\σ2.drop k=σ)/\tt σ2 G2 fun b G3=>if b=true then te σ2 G3 fun y G4=>Pv (i+1) (acc ++ [val y]) G4 else Pv (i+1) acc G3)/\
 ∀ acc G',Pv ds.length acc G'->Q (.fl acc) G'
def xo(k:Nat)(tl:aZ)(g:uj)(tt:oP)(te:aZ):aZ:=fun σ G Q=>tl σ G fun d G1=>match d with
 | .ref a=>∃ ds,G1 a=some (.lst ds)/\JH a k g tt te σ ds G1 Q
 | d=>match eK d with
  | some ds=>xJ k g tt te σ ds G1 Q
  | none=>False
section
variable{X:Cx}{elt tg iter:M9}{ifs:List M9}{scope:O9}{T M:List Str}{pos:Pos}{tl:aZ}{g:uj}{tt:oP}{te:aZ}
theorem i8{K:Ps}{τ:St}{σ:eE}{G G1:Gp}{H H1:Hp}{Q:VK}{Q3:i_}{ds:List D}{J:It}{Pv:Nat->List D->Gp->Prop}(rs:RS K H σ τ)(rg:RG K H G)(k:∀ d G' v H',Q3 d G'->Kp G H G' H'->RG K H' G'->RE K G H G' H' d v->Q v H')(k1:Kp G H G1 H1)(rg1:RG K H1 G1)
  (p0:Pv 0 [] G1) (it:∀ i acc G' H',Pv i acc G'->Kp G1 H1 G' H'->RG K H' G'->(i < ds.length->J.go i H'/\∀ x H2,J.yld i H' x H2->Kp G' H' G' H2/\RG K H2 G'/\∃ d,ds[i]?=some d/\RD K H2 d x)/\(i=ds.length->J.stop i H'))
  (step:∀ (i:Nat) d acc G',ds[i]?=some d->Pv i acc G'->g d (List.replicate T.length none ++ σ) G' fun σ2 G2=>(T.length<=σ2.length/\σ2.drop T.length=σ)/\tt σ2 G2 fun b G3=>if b=true then te σ2 G3 fun y G4=>Pv (i+1) (acc ++ [val y]) G4 else Pv (i+1) acc G3)
  (fin:∀ acc G',Pv ds.length acc G'->Q3 (.fl acc) G') (hsz:ds.length<=MT):
  ∀ Da,H1 Da=none->∃ W:Nat->Nat->List V->St->Hp->Prop,(∃ m,W 0 m [] (ent T τ) (aS H1 Da (.lst [])))/\
   ∀ i m ys σ1 H2,W i m ys σ1 H2->H2 Da=some (.lst ys)/\((J.stop i H2/\Q (.ref Da) H2)\/(J.go i H2/\∃ N:List V->St->Hp->Prop,(∀ ys' σ' H',N ys' σ' H'->∃ m',m' < m/\W (i+1) m' ys' σ' H')/\
    ∀ x H',J.yld i H2 x H'->i7 K g x σ1 H' fun σ2 H3=>cz K tt σ2 H3 fun b H4=>if b=true then vB K te σ2 H4 fun y H5=>H5 Da=some (.lst ys)/\ys.length < MT/\N (ys ++ [y]) σ2 (aS H5 Da (.lst (ys ++ [y])))else N ys σ2 H4)):=by
 intro Da hD;have kD:Kp G1 H1 G1 (aS H1 Da (.lst [])):=Kp.laid hD;have rgD:RG K (aS H1 Da (.lst [])) G1:=rg1.laid hD;have gD:G1 Da=none:=rg1.free hD;refine⟨fun i m ys τ2 H2=>m=ds.length - i/\i<=ds.length/\∃ acc G2,H2 Da=some (.lst ys)/\G2 Da=none/\RG K H2 G2/\RS K H2 (List.replicate T.length none ++ σ) τ2/\RDs K H2 acc ys/\acc.length<=i/\Pv i acc G2/\(∀ a h,a≠Da->H1 a=some h->G1 a=none->H2 a=some h/\G2 a=none),
  ⟨ds.length,rfl,NC _,[],G1,aB,gD,rgD,DJ T (rs.mono ((k1.trans kD).stb rg)),RDs.nil,le_refl _,p0,fun a h ha e n=>⟨by rw[aq ha];exact e,n⟩⟩,?_⟩
 rintro i m ys τ2 H2 ⟨rfl,hi',acc,G2,eD,nD,rg2,rs2,ra,la,pv,k2⟩
 have k2':Kp G1 H1 G2 H2:=fun a h e n=>k2 a h (bA e hD) e n;refine⟨eD,?_⟩;obtain⟨hgo,hstop⟩:=it i acc G2 H2 pv k2' rg2
 by_cases hlt:i < ds.length
 ·obtain⟨go,yld⟩:=hgo hlt;refine .inr ⟨go,fun ys' τ' H'=>∃ acc G',H' Da=some (.lst ys')/\G' Da=none/\RG K H' G'/\RS K H' (List.replicate T.length none ++ σ) τ'/\RDs K H' acc ys'/\acc.length<=i+1/\Pv (i+1) acc G'/\(∀ a h,a≠Da->H1 a=some h->G1 a=none->H' a=some h/\G' a=none),
   fun ys' τ' H' q'=>⟨ds.length - (i+1),by walk_at "o",rfl,hlt,q'⟩,fun x H3 y=>?_⟩
  obtain⟨ky,rgy,d,hd,rd⟩:=yld x H3 y;refine⟨d,List.replicate T.length none ++ σ,G2,_,rd,rs2.mono (ky.stb rg2),rgy,step i d acc G2 hd pv,fun σ4 G4 τ4 H4 q4 k4 rg4 rs4=>?_⟩;obtain⟨⟨hlen,hdrop⟩,q4⟩:=q4;have rs4':RS K H4 (List.replicate T.length none ++ σ) τ4:=by
   have:=pf T.length hlen rs4;rw[hdrop]at this;exact this
  refine⟨σ4,G4,_,rs4,rg4,q4,fun b G5 H5 q5 k5 rg5=>?_⟩;have e3:H3 Da=some (.lst ys):=(ky Da _ eD nD).1;have e4:=k4 Da _ e3 nD;have e5:=k5 Da _ e4.1 e4.2;have kk:∀ {G6:Gp} {H6:Hp},Kp G5 H5 G6 H6->∀ a h,a≠Da->H1 a=some h->G1 a=none->H6 a=some h/\G6 a=none:=fun k6 a h ha e n=>((((Kp.trans k2' ky).trans k4).trans k5).trans k6) a h e n;cases b with
  | false=>
   refine iteF ⟨acc,G5,e5.1,e5.2,rg5,rs4'.mono (k5.stb rg4),RDs.mono (((ky.trans k4).trans k5).stb rg2) _ _ ra,by walk_at "o",q5,kk Kp.refl⟩
  | true=>
   refine iteT ⟨σ4,G5,_,rs4.mono (k5.stb rg4),rg5,q5,fun yv G6 v H6 q6 k6 rg6 rd6=>?_⟩;have e6:=k6 Da _ e5.1 e5.2;have la':=ra.length;have st:Stb K H6 (aS H6 Da (.lst (ys ++ [v]))):=by
    constructor
    ·intro a zs q;rcases q with (q|⟨o,q⟩)|q
     ·exact .inl (.inl (by rw[aq (fun z=>by subst z;rw[e6.1]at q;cases q)];exact q))
     ·exact .inl (.inr ⟨o,by rw[aq (fun z=>by subst z;rw[e6.1]at q;cases q)];exact q⟩)
     ·exact .inr q
    ·intro a zs q;rcases q with ⟨o,q⟩|q
     ·exact .inl ⟨o,by rw[aq (fun z=>by subst z;rw[e6.1]at q;cases q)];exact q⟩
     ·exact .inr q
   refine⟨e6.1,by walk_at "o",acc ++ [val yv],G6,aB,e6.2,fun a o q=>?_,(rs4'.mono ((k5.trans k6).stb rg4)).mono st,?_,by simp;omega,q6,fun a h ha e n=>?_⟩
   ·obtain⟨h',q1,q2⟩:=rg6 a o q;exact⟨h',by rw[aq (fun z=>by subst z;rw[e6.2]at q;cases q)];exact q1,q2.mono st⟩
   ·exact RDs.append (RDs.mono st _ _ (RDs.mono ((((ky.trans k4).trans k5).trans k6).stb rg2) _ _ ra)) (RDs.cons (RD.mono st _ _ rd6) RDs.nil)
   ·rw[aq ha];exact kk k6 a h ha e n
 ·have e:i=ds.length:=by walk_at "o"
  refine .inl ⟨hstop e,k _ G2 _ H2 (fin acc G2 (by rw[<- e];exact pv)) (k1.trans k2') rg2 (.inl ⟨acc,Da,ys,rfl,rfl,eD,nD,ra,?_⟩)⟩
  exact k1.fr (oE hD)
def Ks(K:Ps)(te:aZ):TI:=fun τ H R=>∃ σ G Q3,RS K H σ τ/\RG K H G/\te σ G Q3/\∀ d G1 H1,Q3 d G1->Kp G H G1 H1->RG K H1 G1->match d with
  | .ref a=>(∃ ds,G1 a=some (.lst ds))/\R (K_ K a) H1
  | d=>∃ ds,eK d=some ds/\∀ J,xF K G1 H1 ds J->R J H1
theorem FX(h:PE X e (az X.K te)):PI X tg e (Ks X.K te):=Bx h
theorem A6{K:Ps}{τ:St}{H:Hp}{Q:VK}(h:az K (xo T.length tl g tt te) τ H Q):Bp (ent T) (Ks K tl) (i7 K g) (cz K tt) (vB K te) τ H Q:=by
 obtain⟨σ,G,Q3,rs,rg,h,k⟩:=h;refine⟨σ,G,_,rs,rg,h,fun d G1 H1 q k1 rg1=>?_⟩;cases d with
 | ref a=>
  obtain⟨ds,hg,hsz,Pv,p0,live,step,fin⟩:=q;refine⟨⟨ds,hg⟩,i8 rs rg k k1 rg1 p0 (fun i acc G' H' pv k' rg'=>?_) step fin hsz⟩;obtain⟨xs,e1,r⟩:=sQ rg' (live i acc G' pv);have hl:=r.length;refine⟨fun hi=>⟨⟨xs,xs[i]'(by walk_at "o"),jP.of e1,by simp[show i < xs.length by walk_at "o"]⟩,fun x H2 y=>?_⟩,fun e=>⟨xs,jP.of e1,by walk_at "o"⟩⟩
  obtain⟨rfl,hx⟩:=y;refine⟨Kp.refl,rg',ds[i],by simp[hi],?_⟩
  obtain⟨y,e,q⟩:=r.get (i:=i) (d:=ds[i]) (by simp[hi])
  rw[hx xs (jP.of e1)]at e;cases e;exact q
 | lst ds=>
  obtain⟨hsz,Pv,p0,step,fin⟩:=q;exact⟨_,rfl,fun J it=>i8 rs rg k k1 rg1 p0 (fun i acc G' H' _ k' rg'=>it i G' H' k' rg') step fin hsz⟩
 | fl ds=>
  obtain⟨hsz,Pv,p0,step,fin⟩:=q;exact⟨_,rfl,fun J it=>i8 rs rg k k1 rg1 p0 (fun i acc G' H' _ k' rg'=>it i G' H' k' rg') step fin hsz⟩
 | tup ds=>
  obtain⟨hsz,Pv,p0,step,fin⟩:=q;exact⟨_,rfl,fun J it=>i8 rs rg k k1 rg1 p0 (fun i acc G' H' _ k' rg'=>it i G' H' k' rg') step fin hsz⟩
 | str z=>
  obtain⟨hsz,Pv,p0,step,fin⟩:=q;exact⟨_,rfl,fun J it=>i8 rs rg k k1 rg1 p0 (fun i acc G' H' _ k' rg'=>it i G' H' k' rg') step fin hsz⟩
 | _=>exact q.elim
theorem F_(ok:CompOk X scope T M)(hin:∀ cl C s₀ H₀ fp,PG (bq X (T ++ M) scope cl C s₀ H₀ fp) tg (i7 X.K g)/\Fp (bq X (T ++ M) scope cl C s₀ H₀ fp) ifs (cz X.K tt)/\PE (bq X (T ++ M) scope cl C s₀ H₀ fp) elt (az X.K te))(hi:PE X iter (az X.K tl))(hs:∀ x,NW iter X.env x=pure x:=by intro _;rfl):PE X (.ListComp elt [⟨tg,iter,ifs,0⟩] scope pos) (az X.K (xo T.length tl g tt te)):=
 (BA ok (fun cl C s₀ H₀ fp=>let ⟨a,b,c⟩:=hin cl C s₀ H₀ fp;⟨a,b,eg c⟩) (FX hi) hs).imp fun _ _ _ h=>A6 h
end
open PySem.W
abbrev jt(C t:ML):Obj:={ cls:=.ref C,data:=.fields #[.ref t,.none,.none,.none,.bool false,.none] }
abbrev gJ(h:M5)(C:ML)(c7:List MI):M5:=(h.push { cls:=.type "tuple",data:=.seq c7.toArray }).push (jt C h.objs.size)
section
variable{prog:MY}{w:M7}{A:M3}{K:Ps}{h:M5}{g:Array GenState}{d:Drawn}{t:Nat}{os:OsState}{R:Pz->MK->Prop}
variable{nm q:Str}{C N fI:ML}{bs bm bmB:List MI}{hdct:Bool}{sn:List Str}{sub:List MI}{ab:Bool}{col:Option Bool}{dd:Option ML}{k0 k1 k2 k3 k5:Option MI}{B newId TW:String}{c7:List MI}
theorem GD(F:ExcBaseFacts B newId TW bmB)(T:OwnTail h bmB bm)(hC:h.get? C=some (R0 nm q C N bs bm hdct sn sub ab col dd k0 k1 k2 k3 k5 newId))(X:K.In h)(hi:Qf K (.ref C) "__init__"=some (some (.ref fI)))(hf:typeIn K (.ref fI)=some (.type "function"))(Tg:c7.length<=MT)(hq:Oa (MR prog w) (A.under (.builtin "type.__call__" ⟨.ref C::c7,[]⟩)) (.call (.ref fI) ⟨.ref (h.objs.size+1)::c7,[]⟩) (InitBack (h.objs.size+1) R) ⟨gJ h C c7,g,d,t,os⟩):
  Oa (MR prog w) A (.call (.ref C) ⟨c7,[]⟩) R ⟨h,g,d,t,os⟩:=by
 have f1:=tc_lookup;have f2:=tc_bind (.ref C);have hT:(⟨h,g,d,t,os⟩:MK).TypeIs (.ref C) "type":=⟨_,hC,rfl⟩;refine codeAny_of_tree ?_;show MP _ _ (callAny (.ref C) _) _ _ _
 repeat (any_goals (first|assumption|with_reducible refine PJ hC ?_|wp_step))
 refine⟨rfl,?_⟩;refine codeAny_call_builtin_at (Sx _ (by decide +kernel)) entry_typeCall (wpAny_check_type_call_sub hC ?_)
 repeat (first|with_reducible refine PJ hC ?_|with_reducible refine wpAny_madeBy_exc hC ?_|wp_step)
 refine codeAny_call_builtin_code (Sx _ F.quiet) (wpAny_check_new_subT F T hC ?_);refine codeAny_exc_new_subT F T hC ?_ Tg;show MP (MR prog w) (A.under (.builtin "type.__call__" ⟨.ref C::c7,[]⟩)) _ _ _ ⟨gJ h C c7,g,d,t,os⟩
 have k:∀ b o,h.get? b=some o->(gJ h C c7).get? b=some o:=fun b o e=>MM _ (MM _ e);have hx:(gJ h C c7).get? (h.objs.size+1)=some (jt C h.objs.size):=by heap_get
 have hC1:=k _ _ hC;have hcC:(Value.ref C::bm).contains (.ref C)=true:=by simp
 have i1:QW (MR prog w) (gJ h C c7) (PZ (.ref C) "__init__") (some (.ref fI)):=(QC X hi).keeps k;have b1:QW (MR prog w) (gJ h C c7) (bindSpecial (.ref fI) (.ref (h.objs.size+1))) (.ref fI,[.ref (h.objs.size+1)]):=(bind_fn X _ hf).keeps k;have t1:QW (MR prog w) (gJ h C c7) (typeOf (.ref (h.objs.size+1))) (.ref C):=(Looks.ld hx).andThen .now;have s1:QW (MR prog w) (gJ h C c7) (isSubtype (.ref C) (.ref C)) true:=fun A Q E s kk qq=>by
  obtain⟨hh,g',d',t',os'⟩:=s;refine R7 (kk _ _ hC1) ?_;rw[hcC];exact qq
 unfold Qx callSpecial? specialOf
 repeat (first|with_reducible refine Pd ?_|simp only[hcC,Bool.not_true,Bool.false_eq_true,if_false]|lk)
 refine Od hq fun r s' z=>?_;rcases r with e|(v|_|_|_)<;>first|exact z|exact z.elim|skip
 obtain⟨rfl,z⟩:=z;exact MJ (MJ z)
end
section
open Builtin Builtin.ObjectAttr
variable{prog:MY}{w:M7}{A:M3}{K:Ps}{s:MK}{x C:ML}{o:Obj}{cd:ClassData}{name:Str}{v:MI}
theorem Ga(X:K.In s.heap)(I:UB s.heap x o C none)(hc:clsIn K C=some cd)(hp:refuseLoop (.ref x) "__setattr__" cd.mro=pure ())(ho:cd.mro.contains (.type "object")=true)(ne:cd.mro.isEmpty=false)(ht:takerIn K C name=some none)(h:∀ b,MP (MR prog w) A.in1 (storeInOwnDict (.ref x) (.ref C) (.str name tk) name v b) (fun fin s'=>match fin with|.done f=>R (.ok f) s'|.again c'=>c'.quiet=true/\Oa (MR prog w) A c' R s') (fun e s'=>R (.error e) s') s):
  Oa (MR prog w) A (.call (.builtin "object.__setattr__") ⟨[.ref x,.str name tk,v],[]⟩) R s:=by
 have SF:=PySem.F.store_object;have isO:QW (MR prog w) s.heap (Qx (.ref x) (.type "object")) true:=I.type.andThen (RY X (by unfold mroIn;rw[hc,Option.bind_some,if_neg (by rw[ne];decide),ho]))
 refine Qh SF.slot.plain SF.entry (@Sr (MR prog w) _ _ s "object.__setattr__" "object" "__setattr__" (.ref x) [.str name tk,v] [] _ SF.kind SF.split isO (SF.args (.ref x) (.str name tk) v) ?_);obtain⟨attr,ha,hr⟩:=Option.bind_eq_some_iff.mp ht;have mro:QW (MR prog w) s.heap (mroOf (.ref C)) cd.mro:=(looks_clsIn X hc).andThen .now;have tak:QW (MR prog w) s.heap (storeTaker? attr) none:=by
  cases attr with
  | none=>exact .now
  | some a=>
   obtain⟨b,hb,e⟩:=Option.map_eq_some_iff.mp hr;refine (looks_takesIn X hb).andThen ?_;cases b with
   | true=>cases e
   | false=>exact .now
 rw[osa_eq,refuse_eq];refine MH (MH (I.type.here (MH (mro.here ?_))));rw[hp];exact MJ (MH (I.type.here (MH ((QC X ha).here (MH (tak.here (h _)))))))
theorem set_exc(X:K.In s.heap)(hx:s.heap.get? x=some o)(hcl:o.cls=.ref C)(hno:notCls o=true)(hdn:o.dict=none)(hs:Qf K (.ref C) "__setattr__"=some (some (.builtin "object.__setattr__")))(hc:clsIn K C=some cd)(hd:cd.hasDict=true)(hp:refuseLoop (.ref x) "__setattr__" cd.mro=pure ())(ho:cd.mro.contains (.type "object")=true)(ne:cd.mro.isEmpty=false)(ht:takerIn K C name=some none)(h:∀ h' tk,h'.get? x=some { o with dict:=some s.heap.objs.size }->h'.Ns1 s.heap.objs.size (fun y=>if y=name then some v else none)->(∀ b ob,b≠x->s.heap.get? b=some ob->h'.get? b=some ob)->Q () { s with heap:=h',toks:=tk }):
  MP (MR prog w) A (SC (.ref x) name v) Q E s:=by
 have I:UB s.heap x o C none:=⟨hx,hcl,hno,by rw[hdn];trivial⟩
 have hnc:∀ c,o.data≠.cls c:=fun c e=>by unfold notCls at hno;rw[e]at hno;cases hno
 refine set_plain X I hs (Ga (s:={ s with toks:=s.toks+1 }) X I hc hp ho ne ht fun b=>?_)
 have hx1:(s.heap.push { cls:=.type "dict",data:=.dict #[] }).get? x=some o:=MM _ hx;have hxs:x≠s.heap.objs.size:=Na (MS hx);have fin:MP (MR prog w) A.in1 (storeInDict s.heap.objs.size (.str name s.toks) name v) (fun fin s'=>match fin with
   | .done f=>(match (Except.ok f:Pz) with|.ok (.ret _)=>Q () s'|.ok _=>False|.error e=>E e s')
   | .again c'=>c'.quiet=true/\Oa (MR prog w) A c' (fun r s'=>match r with|.ok (.ret _)=>Q () s'|.ok _=>False|.error e=>E e s') s')
   (fun e s'=>match (Except.error e:Pz) with|.ok (.ret _)=>Q () s'|.ok _=>False|.error e=>E e s')
   { s with heap:=(s.heap.push { cls:=.type "dict",data:=.dict #[] }).update x fun o=>{ o with dict:=some s.heap.objs.size },toks:=s.toks+1 }:=by
  have gd:((s.heap.push { cls:=.type "dict",data:=.dict #[] }).update x fun o=>{ o with dict:=some s.heap.objs.size }).get? s.heap.objs.size=some { cls:=.type "dict",data:=.dict #[] }:=
   (R9 _ _ _ _ hxs.symm).trans (Heap.get?_push_at rfl rfl)
  have nd:((s.heap.push { cls:=.type "dict",data:=.dict #[] }).update x fun o=>{ o with dict:=some s.heap.objs.size }).Ns s.heap.objs.size (fun _=>none):=⟨_,#[],_,gd,rfl,fun e he=>absurd he (by simp),fun _=>rfl⟩
  unfold storeInDict newKeyGuard;refine MH (MJ (MH (wpAny_nsSet1 (SG nd) fun h' hn' hs'=>?_)));obtain⟨oD,esD,epD,hoD,hdD,hcD⟩:=hn'.count (Within.cons name v Within.nil);refine MH (wpAny_lookBehind hoD (by rw[hdD];exact pastItsLine_dict (le_trans hcD (by rw[M1,Nj,Nk];omega))) ?_)
  refine MJ (h h' _ ?_ hn' fun b ob hb e=>?_)
  ·refine (hs'.2 x hxs).trans (Nx _ hx1 ?_);have hfr:=(Heap.get?_some_iff.mp hx).2;obtain⟨oc,od,odt,osl⟩:=o;cases odt<;>first|rfl|exact hfr
  ·exact (hs'.2 b (Na (MS e))).trans ((R9 _ _ _ _ hb).trans (MM _ e))
 obtain⟨oc,od,odt,osl⟩:=o;dsimp only at hcl hdn;subst hcl hdn;unfold storeInOwnDict;refine MH (MJ ?_);show MP _ _ (ownDictForStores (.ref x) >>= _) _ _ _
 refine MH ?_;unfold ownDictForStores instanceDict;refine MH (Ra hx ?_);dsimp only;refine MH (Looks.here (s:={ s with toks:=s.toks+1 }) (looks_clsIn X hc) ?_)
 rw[hd,if_neg (by decide),if_neg (by simp[typeHasDict])]
 split
 ·exact absurd rfl (hnc _)
 ·refine MH (wpAny_alloc ?_);refine MH (wpAny_update (s:={ s with heap:=s.heap.push { cls:=.type "dict",data:=.dict #[] },toks:=s.toks+1 }) hx1 ?_)
  exact MJ fin
end
section
variable{M:R4}{A:M3}{E:MI->MK->Prop}{env:Env}{nm q:Str}{C N:ML}{bs bm:List MI}{hdct:Bool}{sn:List Str}{sub:List MI}{ab:Bool}{col:Option Bool}{dd:Option ML}{k0 k1 k2 k3 k5:Option MI}{newId:String}
theorem Ca(SQ:bm.contains (.type "BaseException")=true)(hh:A.handled=none)(h:MP M A x (fun v s₁=>∃ e t dx,v=.ref e/\s₁.heap.get? C=some (R0 nm q C N bs bm hdct sn sub ab col dd k0 k1 k2 k3 k5 newId)/\s₁.heap.get? e=some { cls:=.ref C,dict:=dx,data:=.fields #[.ref t,.none,.none,.none,.bool false,.none] }/\E (.ref e) s₁) E s):
  MP M A (raiseStmt env (some x) none) Q E s:=by
 have isB:(Value.ref C::bm).contains (.type "BaseException")=true:=by rw[List.contains_cons,SQ,Bool.or_true]
 unfold raiseStmt;refine MH (Nh h (fun v s₁ h₁=>?_) fun _ _ x=>x);obtain⟨e,t,dx,rfl,hC,he,hE⟩:=h₁;obtain⟨hp,g,d,tk,os⟩:=s₁
 repeat (first|with_reducible refine PJ he ?_|with_reducible refine PJ hC ?_|(with_reducible refine R7 hC ?_;rw[isB])|wp_step)
 exact wpAny_raiseNew_none hh hE
end
end L3
namespace L2
open PySem PySem.Spec PyProof.Rows
structure Noted(fs:List ML)(x:ML)(oe:Obj)(vs:Array MI)(h h':M5):Prop where
 keep:∀ b o,b∉fs->b≠x->(∀ T,vs[1]?=some (.ref T)->b≠T)->h.get? b=some o->h'.get? b=some o
 slot:∀ b o,b∈fs->h.get? b=some o->∃ sl,h'.get? b=some { o with slots:=sl }
 there:∀ b o,h.get? b=some o->∃ o',h'.get? b=some o'
 exc:∃ T oT ts,h'.get? x=some (oe.mapFields (·.setIfInBounds 1 (.ref T)))/\h.objs.size<=T/\T≠x/\h'.get? T=some oT/\oT.data=.fields ts/\ts[3]?=some .none
section
variable{M:R4}{A:M3}{E:MI->MK->Prop}{s:MK}
theorem tQ(hfr:A.frames=some (env::outer))(hl:s.heap.FunFrames base (env::outer))(hf:env.frame=some L)(he:s.heap.get? x=some oe)(hd:oe.data=.fields vs)(hsz:1 < vs.size)(h:∀ h',Noted ((env::outer).filterMap (·.frame)) x oe #[] s.heap h'->Q () { s with heap:=h' }):
  MP M A (do let a <- frameOf env;let pl <- entryPlaceOf L To;let b <- Sa head a .none (N4 L) .none pl;Qd (.ref x) 1 b) (fun _ s'=>MP M A (Rm (.ref x) none) Q E s') E s:=by
 have T_:x∉(env::outer).filterMap (·.frame):=fun hm=>by
  obtain⟨_,o,ho,hnf⟩:=hl.mem hm;rw[he]at ho;injection ho with ho;subst ho;exact hnf vs hd
 refine MH (wpAny_frameOf_fun hfr hl hf fun h₁ hs₁=>?_);refine MH (wpAny_entryPlaceOf fun pl hpl=>?_);unfold Sa newFields;refine MH (Nd ?_ (hpl.sizeOk5 _ _ _ _ _));have he₁:h₁.get? x=some oe:=(hs₁.2.1 x T_).trans he;generalize hob:({ cls:=.type "traceback",dict:=none,data:=.fields ([head,.ref L,.none,N4 L,.none] ++ (if pl.isEmpty then List.replicate 6 Value.none else pl)).toArray }:Obj)=ob
 have hod:ob.data=.fields ([head,.ref L,.none,N4 L,.none] ++ (if pl.isEmpty then List.replicate 6 Value.none else pl)).toArray:=by rw[<- hob]
 have Up:ob.isFreed=false:=Oo hod;have he₂:=MM (h:=h₁) ob he₁;refine Ou he₂ hd hsz ?_;have hTe:h₁.objs.size≠x:=ON (MS he₁);have hd₃:=NP hd (·.setIfInBounds 1 (Value.ref h₁.objs.size));have he₃:=Nx (NE (·.setIfInBounds 1 (Value.ref h₁.objs.size))) he₂ (Oo hd₃);have hT₃:=(M_ (h₁.push ob) (NE (·.setIfInBounds 1 (Value.ref h₁.objs.size))) (Ne.symm hTe)).trans (MQ h₁ Up);have hs3:3 < ([head,.ref L,.none,N4 L,.none] ++ (if pl.isEmpty then List.replicate 6 Value.none else pl)).toArray.size:=by
  simp only[MV,Nl,M1,Nj];omega
 unfold Rm;refine MH (Nw he₃ hd₃ (x:=.ref h₁.objs.size) (by simp[hsz]) ?_)
 rw[if_pos (show (Value.ref h₁.objs.size != Value.none)=true from by simp)]
 refine Ou hT₃ hod hs3 (h _ ?_);have keep:∀ b o,b≠x->h₁.get? b=some o->
   (((h₁.push ob).update x (NE (·.setIfInBounds 1 (Value.ref h₁.objs.size)))).update h₁.objs.size (NE (·.setIfInBounds 3 ((none:Option ML).elim Value.none fun f=>N4 f)))).get? b=some o:=fun b o hbe hb=>by
  have hbT:h₁.objs.size≠b:=ON (MS hb);rw[M_ _ _ hbT,M_ _ _ (Ne.symm hbe)];exact MM _ hb
 have hx':(((h₁.push ob).update x (NE (·.setIfInBounds 1 (Value.ref h₁.objs.size)))).update h₁.objs.size (NE (·.setIfInBounds 3 ((none:Option ML).elim Value.none fun f=>N4 f)))).get? x=some (oe.mapFields (·.setIfInBounds 1 (.ref h₁.objs.size))):=by
  rw[M_ _ _ hTe];exact he₃
 refine⟨fun b o hb hbx _ e=>keep b o hbx ((hs₁.2.1 b hb).trans e),fun b o hb e=>?_,fun b o e=>?_,h₁.objs.size,_,_,hx',PQ hs₁.1.symm,hTe,Nx _ hT₃ (Oo (NP hod _)),NP hod _,?_⟩
 ·obtain⟨sl,hsl⟩:=hs₁.2.2 b o e;exact⟨sl,keep b _ (fun z=>T_ (z ▸ hb)) hsl⟩
 ·by_cases hbx:b=x
  ·exact⟨_,by rw[hbx];exact hx'⟩
  ·obtain⟨sl,hsl⟩:=hs₁.2.2 b o e;exact⟨_,keep b _ hbx hsl⟩
 ·rw[Array.getElem?_setIfInBounds_self_of_lt hs3];rfl
def Bd(h:M5)(x:ML)(vs:Array MI):Prop:=vs[1]?=some .none\/∃ T oT ts,vs[1]?=some (.ref T)/\T≠x/\h.get? T=some oT/\oT.data=.fields ts/\ts[3]?=some .none
theorem vt(hfr:A.frames=some (env::outer))(hl:s.heap.FunFrames base (env::outer))(hf:env.frame=some L)(he:s.heap.get? x=some oe)(hd:oe.data=.fields vs)(hH:Bd s.heap x vs)(h:∀ h',Noted ((env::outer).filterMap (·.frame)) x oe vs s.heap h'->Q () { s with heap:=h' }):
  MP M A (noteFrame (.ref x) env) (fun _ s'=>MP M A (Rm (.ref x) none) Q E s') E s:=by
 unfold noteFrame;simp only[hf];rcases hH with h1|⟨T,oT,ts,h1,hTx,hT,hTd,h3⟩
 ·have hsz:1 < vs.size:=(Array.getElem?_eq_some_iff.mp h1).1;refine MH (Nw he hd h1 ?_);rw[if_neg (by decide)]
  exact tQ hfr hl hf he hd hsz fun h' N=>h h' ⟨fun b o hb hx _ e=>N.keep b o hb hx (fun T z=>by simp at z) e,N.slot,N.there,N.exc⟩
 ·have hsz:1 < vs.size:=(Array.getElem?_eq_some_iff.mp h1).1;have hs3:3 < ts.size:=(Array.getElem?_eq_some_iff.mp h3).1;refine MH (Nw he hd h1 ?_);rw[if_pos (show (Value.ref T != Value.none)=true from by simp)]
  refine MH (Nw hT hTd h3 ?_);rw[if_neg (by simp[N4])]
  refine MH (Ou hT hTd hs3 ?_);have hdT:=NP hTd (·.setIfInBounds 3 Value.none);have kT:∀ b o,b≠T->s.heap.get? b=some o->(s.heap.update T (NE (·.setIfInBounds 3 Value.none))).get? b=some o:=fun b o hb e=>(M_ _ _ (Ne.symm hb)).trans e;have hTT:=Nx (NE (·.setIfInBounds 3 Value.none)) hT (Oo hdT);have nf:∀ b,b∈(env::outer).filterMap (·.frame)->b≠T:=fun b hb z=>by
   obtain⟨_,o,ho,hnf⟩:=hl.mem hb;rw[z,hT]at ho;injection ho with ho;subst ho;exact hnf ts hTd
  have hl':(s.heap.update T (NE (·.setIfInBounds 3 Value.none))).FunFrames base (env::outer):=hl.of_keeps fun b o hb hnf=>⟨o,kT b o (fun z=>by rw[z,hT]at hb;injection hb with hb;subst hb;exact hnf ts hTd) hb,rfl⟩
  refine tQ (s:={ s with heap:=s.heap.update T (NE (·.setIfInBounds 3 Value.none)) }) hfr hl' hf (kT x oe (Ne.symm hTx) he) hd hsz fun h' N=>h h' ⟨fun b o hb hx ht e=>N.keep b o hb hx (fun _ z=>by simp at z) (kT b o (ht T h1) e),fun b o hb e=>N.slot b o hb (kT b o (nf b hb) e),fun b o e=>?_,?_⟩
  ·by_cases hb:b=T
   ·exact N.there b _ (by rw[hb];exact hTT)
   ·exact N.there b o (kT b o hb e)
  ·obtain⟨T',oT',ts',q1,q2,q3⟩:=N.exc;exact⟨T',oT',ts',q1,le_trans (PQ (Heap.size_update ..).symm) q2,q3⟩
end
def Mg(n:Nat)(H:Hp)(h:M5)(x C dx:ML):Prop:=n<=x/\H x=none/\∃ oe vs,h.get? x=some oe/\oe.cls=.ref C/\oe.dict=some dx/\oe.data=.fields vs/\
 (vs[1]?=some .none\/∃ T oT ts,vs[1]?=some (.ref T)/\T≠x/\n<=T/\H T=none/\h.get? T=some oT/\oT.data=.fields ts/\ts[3]?=some .none)
def vW(P:MY)(w:M7):Dh:=fun outer H s E e s'=>∃ x C dx H',e=.ref x/\s'.os=s.os/\PM s'.gens/\Un (xf outer) [] H H' s.heap s'.heap/\lE P w H' s'.heap/\Mg s.heap.objs.size H' s'.heap x C dx/\s.heap.get? dx=none/\E (.ref C) (some dx) H'
theorem kP{o:Obj}{vs:Array MI}{f:Array MI->Array MI}(hd:o.data=.fields vs):(o.mapFields f).dict=o.dict:=by
 obtain⟨c,d,dt,sl⟩:=o;obtain rfl:dt=.fields vs:=hd;rfl
section
variable{X:Cx}{pins:List (ML×Obj)}{σ:St}{H:Hp}{s:MK}{E:XK}{x C dx:ML}
theorem BD(hf:env.frame=some L)(h:b∈(env::outer).filterMap (·.frame)):b=L\/b∈xf outer:=by
 rw[NO,hf]at h;exact Nr.mp h
theorem Inv.noted(I:Inv X pins σ H s)(N:Noted (xf X.stack) x oe vs s.heap h')(hn:n<=s.heap.objs.size)(h0:n<=x)(hx:H x=none)(he:s.heap.get? x=some oe)(hc:oe.cls=.ref C)(hdx:oe.dict=some dx)(hd:oe.data=.fields vs)(hsz:1 < vs.size)(hT:∀ T,vs[1]?=some (.ref T)->H T=none):lE X.prog X.w H h'/\Mg n H h' x C dx:=by
 refine⟨fun b u e=>?_,h0,hx,?_⟩
 ·have un:∀ c v,H c=some v->c∉xf X.stack/\c≠x/\∀ T,vs[1]?=some (.ref T)->c≠T:=fun c v q=>
   ⟨(fun z=>by rw[I.stkFree c z]at q;cases q),(fun z=>by rw[z,hx]at q;cases q),(fun T t z=>by rw[z,hT T t]at q;cases q)⟩
  refine (I.hok b u e).stay (fun c v hc' q=>?_) (fun _ q=>q) fun _ _ q=>q;rcases hc' with z|z
  ·obtain⟨a1,a2,a3⟩:=un b u e;rw[z]at q ⊢;exact N.keep b v a1 a2 a3 q
  ·obtain⟨a1,a2,a3⟩:=un c _ z;exact N.keep c v a1 a2 a3 q
 ·obtain⟨T,oT,ts,q1,q2,q3,q4,q5,q6⟩:=N.exc;refine⟨_,_,q1,(PL _ _).trans hc,(kP hd).trans hdx,NP hd _,.inr ⟨T,oT,ts,by simp[hsz],q3,le_trans hn q2,I.hok.fresh q2,q4,q5,q6⟩⟩
theorem zg(I:Inv X pins σ H s)(hst:X.stack=X.env::X.outer)(hf:X.env.frame=some X.env.locals)(hex:X.ex=[])(F:Mg X.s₀.heap.objs.size H s.heap x C dx)(TY:X.s₀.heap.get? dx=none)(q:E (.ref C) (some dx) H):
  MP (MR X.prog X.w) X.A (RC X.env (.ref x)) (fun _ s''=>vW X.prog X.w X.outer X.H₀ X.s₀ E (.ref x) s'') (fun e' s''=>vW X.prog X.w X.outer X.H₀ X.s₀ E e' s'') s:=by
 obtain⟨h0,hx,oe,vs,he,hc,hdx,hd,hh⟩:=F;have hsz:1 < vs.size:=by
  rcases hh with z|⟨T,_,_,z,_⟩
  ·exact (Array.getElem?_eq_some_iff.mp z).1
  ·exact (Array.getElem?_eq_some_iff.mp z).1
 have hH:Bd s.heap x vs:=by
  rcases hh with z|⟨T,oT,ts,z1,z2,z3,z4,z5,z6,z7⟩
  ·exact .inl z
  ·exact .inr ⟨T,oT,ts,z1,z2,z5,z6,z7⟩
 have hTn:∀ T,vs[1]?=some (.ref T)->X.s₀.heap.objs.size<=T/\H T=none:=fun T z=>by
  rcases hh with z1|⟨T',oT,ts,z1,z2,z3,z4,z5,z6,z7⟩
  ·rw[z1]at z;cases z
  ·rw[z1]at z;cases z;exact⟨z3,z4⟩
 have Tf:=I.stack;rw[hst]at Tf;unfold RC;refine MH (vt (base:=X.base) (by rw[I.ok.frames,hst]) Tf hf he hd hH fun h' N=>?_)
 have N':Noted (xf X.stack) x oe vs s.heap h':=by rw[hst];exact N
 obtain⟨hok,fly⟩:=I.noted N' I.sz h0 hx he hc hdx hd hsz fun T z=>(hTn T z).2;have hL:X.s₀.heap.objs.size<=X.env.locals:=I.ok.above;refine⟨x,C,dx,H,rfl,I.os,I.bare,⟨fun b o e n nf _=>?_,fun b o e n nf _=>?_,fun b o e n _=>I.base.free b o e n (by rw[hex];simp),fun b o e _=>?_,I.base.tups,I.base.frzs,I.base.tbls⟩,hok,fly,TY,q⟩
 ·have lt:b < X.s₀.heap.objs.size:=MS e;refine N.keep b o (fun z=>?_) (fun z=>not_lt.mpr h0 (z ▸ lt)) (fun T z w=>not_lt.mpr (hTn T z).1 (w ▸ lt)) (I.base.keep b o e n nf (by rw[hex];simp))
  rcases BD hf z with z|z
  ·exact not_lt.mpr hL (z ▸ lt)
  ·exact nf z
 ·obtain⟨sl,e1⟩:=I.base.slot b o e n nf (by rw[hex];simp)
  obtain⟨sl',e2⟩:=N.slot b _ (by rw[NO,hf];exact MW _ nf) e1
  exact⟨sl',e2⟩
 ·obtain⟨o',e1⟩:=I.base.there b o e (by rw[hex];simp)
  exact N.there b o' e1
theorem vn(hst:X.stack=X.env::X.outer)(hf:X.env.frame=some X.env.locals)(hex:X.ex=[])(hxe:X.xe=fun e s'=>MP (MR X.prog X.w) X.A (RC X.env e) (fun _ s''=>vW X.prog X.w X.outer X.H₀ X.s₀ E e s'') (fun e' s''=>vW X.prog X.w X.outer X.H₀ X.s₀ E e' s'') s')(h:∀ c d H',E' c d H'->E c d H'):kZ (vW X.prog X.w) X E':=fun pins σ H s e s' I q=>by
 obtain⟨x,C,dx,H',rfl,os,bare,un,hok,fly,hd0,q⟩:=q;have TY:X.s₀.heap.get? dx=none:=by
  cases z:X.s₀.heap.get? dx with
  | none=>rfl
  | some o=>
   obtain⟨o',z'⟩:=I.base.there dx o z (by rw[hex];simp)
   rw[hd0]at z';cases z'
 have J:Inv X pins σ H' s':=I.call' os un hok bare (fun b z=>absurd z (by simp))
 rw[hxe];obtain⟨h0,hx,oe,vs,he,hc,hdx,hd,hh⟩:=fly;have sz:=I.sz;refine zg J hst hf hex ⟨le_trans sz h0,hx,oe,vs,he,hc,hdx,hd,?_⟩ TY (h _ _ _ q);rcases hh with z|⟨T,oT,ts,z1,z2,z3,z4,z5,z6,z7⟩
 ·exact .inl z
 ·exact .inr ⟨T,oT,ts,z1,z2,le_trans sz z3,z4,z5,z6,z7⟩
end
open L3
def veMro:List MI:=[.type "ValueError",.type "Exception",.type "BaseException",.type "object"]
structure XMk(K:Ps)(C f:ML)(a:Str):Prop where
 obj:∃ nm q N bs bm hdct sn sub ab col dd k0 k1 k2 k3 k5,K.lookup C=some (R0 nm q C N bs bm hdct sn sub ab col dd k0 k1 k2 k3 k5 "ValueError.__new__")/\tailIn K veMro bm=true/\bm.contains (.type "BaseException")=true
 init:Qf K (.ref C) "__init__"=some (some (.ref f))
 fn:UD K (.ref f)=some (.type "function")
 kp:Qw K (.ref C)=true
 sa:Qf K (.ref C) "__setattr__"=some (some (.builtin "object.__setattr__"))
 cls:∃ cd,PySem.W.clsIn K C=some cd/\cd.hasDict=true/\(∀ x,PySem.refuseLoop (.ref x) "__setattr__" cd.mro=pure ())/\cd.mro.contains (.type "object")=true/\cd.mro.isEmpty=false
 tk:Uw K C a=some none
abbrev js(C t dx:ML):Obj:={ cls:=.ref C,dict:=some dx,data:=.fields #[.ref t,.none,.none,.none,.bool false,.none] }
def iF(H:Hp)(a:ML):Hp:=fun b=>if b=a then none else H b
theorem lA:iF H a a=none:=by unfold iF;rw[if_pos rfl]
theorem b8(h:b≠a):iF H a b=H b:=by unfold iF;rw[if_neg h]
section
variable{X:Cx}{pins:List (ML×Obj)}{σ:St}{H:Hp}{s:MK}
theorem Inv.drop(I:Inv X pins σ H s)(e:H x=some (.ext φ))(hn:X.s₀.heap.objs.size<=x):Inv X pins σ (iF H x) s:=by
 have non:∀ b,H b=none->iF H x b=none:=fun b q=>by unfold iF;split;rfl;exact q
 refine⟨I.ok,I.os,I.bare,⟨I.base.keep,I.base.slot,fun b o q n z=>non b (I.base.free b o q n z),I.base.there,fun b xs q=>?_,fun b o u q=>?_,fun b ps q=>?_⟩,I.loc,I.cell,non _ I.free,fun y c q=>non c (I.freeC y c q),fun p hp=>?_,fun b u q=>?_,I.len⟩
 ·have:=I.base.tups b xs q;rw[b8 (fun z=>by rw[z,e]at this;cases this)];exact this
 ·have:=I.base.frzs b o u q;rw[b8 (fun z=>by rw[z,e]at this;cases this)];exact this
 ·obtain⟨more,this⟩:=I.base.tbls b ps q;exact⟨more,by rw[b8 (fun z=>by rw[z,e]at this;cases this)];exact this⟩
 ·obtain⟨a,b,c⟩:=I.pin p hp;exact⟨a,non _ b,c⟩
 ·have hb:b≠x:=fun z=>by rw[z,lA]at q;cases q
  rw[b8 hb]at q;refine (I.hok b u q).stay (fun _ _ _ z=>z) (fun c z=>?_) fun c ys z=>?_
  ·rw[b8 (fun y=>by rw[y,e]at z;cases z)];exact z
  ·rw[b8 (fun y=>by rw[y,e]at z;cases z)];exact z
theorem Inv.xset(M:XMk X.K C f a)(I:Inv X pins σ H s)(e:H x=some (XO x (jt C t)))(r:aD v u)(h:∀ dx s',H dx=none->dx≠x->Inv X pins σ (aS (aS H dx (.xd [(a,v)])) x (XO x (js C t dx))) s'->Q () s'):MP (MR X.prog X.w) X.A (SC (.ref x) a u) Q E s:=by
 obtain⟨cd,c1,c2,c3,c4,c5⟩:=M.cls;have hx:=hJ I e;refine L3.set_exc I.kIn hx rfl rfl rfl M.sa c1 c2 (c3 x) c4 c5 M.tk fun h' tk g1 g2 g3=>?_;have fr:H s.heap.objs.size=none:=I.hok.fresh (le_refl _);have lx:x < s.heap.objs.size:=MS hx;have nx:s.heap.objs.size≠x:=ON lx;refine h s.heap.objs.size _ fr nx (I.un (h':=h') (t':=tk) ⟨fun b o q n _ _=>?_,fun b o q n _ _=>?_,fun b o q n _=>?_,fun b o q _=>?_,fun b xs q=>?_,fun b o w q=>?_,fun b ps q=>?_⟩ fun b w q=>?_)
 ·exact g3 b o (fun z=>by rw[z,e]at n;cases n) q
 ·exact⟨o.slots,g3 b o (fun z=>by rw[z,e]at n;cases n) q⟩
 ·rw[aq (fun z=>by rw[z,e]at n;cases n),aq (fun z=>Nat.lt_irrefl _ (z ▸ (MS q:b < _)))];exact n
 ·by_cases hb:b=x
  ·exact⟨_,by rw[hb];exact g1⟩
  ·exact⟨o,g3 b o hb q⟩
 ·rw[aq (fun z=>by rw[z,e]at q;cases q),aq (fun z=>by rw[z,fr]at q;cases q)];exact q
 ·rw[aq (fun z=>by rw[z,e]at q;cases q),aq (fun z=>by rw[z,fr]at q;cases q)];exact q
 ·exact⟨#[],by rw[aq (fun z=>by rw[z,e]at q;cases q),aq (fun z=>by rw[z,fr]at q;cases q)];simpa using q⟩
 ·by_cases hb:b=x
  ·subst hb;rw[aB]at q;cases q;exact Dj g1
  ·rw[aq hb]at q
   by_cases hb2:b=s.heap.objs.size
   ·subst hb2;rw[aB]at q;cases q;refine⟨_,g2,fun f=>?_⟩
    by_cases hf:f=a
    ·subst hf;simp only[List.lookup,beq_self_eq_true,if_true];exact r
    ·have:(f == a)=false:=by simpa using hf
     simp only[List.lookup,this,if_neg hf];trivial
   ·rw[aq hb2]at q;refine (I.hok b w q).stay (fun c o hc z=>g3 c o (fun y=>?_) z) (fun c z=>?_) fun c ys z=>?_
    ·rcases hc with w'|w'
     ·exact hb (w' ▸ y)
     ·rw[y,e]at w';cases w'
    ·rw[aq (fun y=>by rw[y,e]at z;cases z),aq (fun y=>by rw[y,fr]at z;cases z)];exact z
    ·rw[aq (fun y=>by rw[y,e]at z;cases z),aq (fun y=>by rw[y,fr]at z;cases z)];exact z
end
section
variable{X:Cx}{C f:ML}{a:Str}
def JM(C:ML)(a:Str)(to tv:TE):TS:=fun D σ H=>tv σ H fun v H1=>to σ H1 fun y H2=>∃ x t,y=.ref x/\H2 x=some (XO x (jt C t))/\∀ dx,H2 dx=none->dx≠x->D.nx σ (aS (aS H2 dx (.xd [(a,v)])) x (XO x (js C t dx)))
theorem FT(M:XMk X.K C f a)(ho:PE X o to)(hv:PE X value tv)(hs:N9 value (some (.Attribute o a pos')) pos.line X.env=pure false:=by rfl):PS X (.Assign [.Attribute o a pos'] value pos) (JM C a to tv):=by
 intro pins s σ H D I h;refine QI (bZ (hv pins s σ H _ I h) fun u s1 zz=>?_) hs;obtain⟨y,H1,I1,ry,q⟩:=zz;refine bZ (ho pins s1 σ H1 _ I1 q) fun ov s2 zz=>?_;obtain⟨y2,H2,I2,rx,q2⟩:=zz;obtain⟨x,t,ex,ea,q3⟩:=q2;subst ex;obtain rfl:ov=Value.ref x:=rx;exact I2.xset M ea ry fun dx s3 n1 n2 I3=>⟨σ,_,I3,q3 dx n1 n2⟩
def rN(C:ML)(a:Str):Sp:=fun vs H Q _=>∃ x v t,vs=[.ref x,v]/\H x=some (XO x (jt C t))/\∀ dx,H dx=none->dx≠x->Q .non (aS (aS H dx (.xd [(a,v)])) x (XO x (js C t dx)))
theorem FI{pins:List (ML×Obj)}{σ:St}{H:Hp}{s:MK}{v:V}{u:MI}{R:MI->MK->Prop}{fd:NR}{ps:List Str}{k:Nat}(M:XMk X.K C f a)(F:FnOk X.prog X.w X.K X.mg X.base oV k f fd ps (rN C a))(hr:Room (k+1) X.A)(hb:dj X.K fd ps [])
  (I:Inv X pins σ H s) (r:aD v u) (h:∀ x t dx s',X.s₀.heap.objs.size<=x->H dx=none->H x=none->dx≠x->s.heap.get? dx=none->Inv X pins σ (aS H dx (.xd [(a,v)])) s'->s'.heap.get? x=some (js C t dx)->R (.ref x) s'):
  MP (MR X.prog X.w) X.A (call (.ref C) [u]) R X.xe s:=by
 obtain⟨nm,q,N,bs,bm,hdct,sn,sub,ab,col,dd,k0,k1,k2,k3,k5,lk,tl,SQ⟩:=M.obj;have fx:H (s.heap.objs.size+1)=none:=I.hok.fresh (QD _);have I1:Inv X pins σ H { s with heap:=s.heap.push { cls:=.type "tuple",data:=.seq #[u] },toks:=s.toks }:=I.kept fun b o e=>MM _ e
 have sz:(s.heap.push { cls:=.type "tuple",data:=.seq #[u] }).objs.size=s.heap.objs.size+1:=NT ..;have I2:Inv X pins σ (aS H (s.heap.objs.size+1) (XO (s.heap.objs.size+1) (jt C s.heap.objs.size))) { s with heap:=gJ s.heap C [u],toks:=s.toks }:=lu (s:={ s with heap:=s.heap.push { cls:=.type "tuple",data:=.seq #[u] },toks:=s.toks }) I1 sz rfl
 have r2:Vals [V.ref (s.heap.objs.size+1),v] [Value.ref (s.heap.objs.size+1),u]:=.cons rfl (.cons r .nil);have sp0:rN C a [V.ref (s.heap.objs.size+1),v] (aS H (s.heap.objs.size+1) (XO (s.heap.objs.size+1) (jt C s.heap.objs.size))) (fun v' H'=>v'=.non/\∃ dx,H dx=none/\dx≠s.heap.objs.size+1/\H'=aS (aS (aS H (s.heap.objs.size+1) (XO (s.heap.objs.size+1) (jt C s.heap.objs.size))) dx (.xd [(a,v)])) (s.heap.objs.size+1) (XO (s.heap.objs.size+1) (js C s.heap.objs.size dx))) E0:=
  ⟨_,v,_,rfl,aB,fun dx n1 n2=>⟨rfl,dx,by rw[aq n2]at n1;exact n1,n2,rfl⟩⟩
 have hl:([Value.ref (s.heap.objs.size+1),u] ++ []).length=ps.length:=(F.len _ _ _ _ sp0);obtain⟨hp,g,d,tk,os⟩:=s;refine Pd (GD PySem.F.excBase_ValueError (PySem.W.tail_of_in I.kIn tl) (I.kIn _ _ lk) I.kIn M.init M.fn (by show 1<=MT;decide) (Od (F.run _ X.stack _ _ ⟨[.ref (hp.objs.size+1),u],[]⟩ [.ref (hp.objs.size+1),u] _ _ E0 (hr.make C [u] []) (I2.env0.make C [u] []) (hb _ [.ref (hp.objs.size+1),u] I2.kIn hl) r2 sp0) fun r s' hq'=>?_))
 cases r with
 | error e=>exact False.elim hq'
 | ok fl=>
  cases fl with
  | ret u'=>
   obtain⟨v',H',os1,bare1,un,hok,rv,⟨ev,dx,n1,n2,eH⟩⟩:=hq';have I3:=I2.call' os1 un hok bare1 (fun b z=>absurd z (by simp))
   have n0:hp.get? dx=none:=by
    cases z:hp.get? dx with
    | none=>rfl
    | some o=>
     have z1:=un.free dx o (MM _ (MM _ z)) (by rw[aq n2];exact n1) (by simp)
     rw[eH,aq n2,aB]at z1;cases z1
   subst ev eH;have hx:=hJ I3 aB;have I4:=I3.drop (x:=hp.objs.size+1) aB (le_trans I.sz (QD _));have eq:iF (aS (aS (aS H (hp.objs.size+1) (XO (hp.objs.size+1) (jt C hp.objs.size))) dx (.xd [(a,v)])) (hp.objs.size+1) (XO (hp.objs.size+1) (js C hp.objs.size dx))) (hp.objs.size+1)=aS H dx (.xd [(a,v)]):=by
    funext b
    by_cases hb1:b=hp.objs.size+1
    ·rw[hb1,lA,aq (Ne.symm n2)];exact fx.symm
    ·rw[b8 hb1,aq hb1]
     by_cases hb2:b=dx
     ·rw[hb2,aB,aB]
     ·rw[aq hb2,aq hb2,aq hb1]
   rw[eq]at I4;exact⟨rv,h _ _ dx _ (le_trans I.sz (QD _)) n1 fx n2 n0 I4 hx⟩
  | next=>exact False.elim hq'
  | brk=>exact False.elim hq'
  | cont=>exact False.elim hq'
def HU(t:TA)(Ex:V->Hp->Prop):TS:=fun _ σ H=>t σ H fun vs H1=>∃ v,vs=[v]/\Ex v H1
theorem D7{nm:Str}{e:M9}{t:TA}{Ex:V->Hp->Prop}{p pos S2:Pos}{fd:NR}{ps:List Str}{k:Nat}(M:XMk X.K C f a)(F:FnOk X.prog X.w X.K X.mg X.base oV k f fd ps (rN C a))(hr:Room (k+1) X.A)(hb:dj X.K fd ps [])(hc:X.calm=true)(hex:X.ex=[])(hg:Gl X nm)(hm:X.mg nm=some (.ref C))(ha:PA X [e] t)
  (hX:∀ pins σ H s x t' dx v,Inv X pins σ (aS H dx (.xd [(a,v)])) s->H dx=none->H x=none->X.s₀.heap.objs.size<=x->dx≠x->X.s₀.heap.get? dx=none->s.heap.get? x=some (js C t' dx)->Ex v H->X.xe (.ref x) s)
  (hdb:(nm == ("__debug__":Str))=false:=by decide) (he:MU [e] X.env=(false,eval e X.env)::MU [] X.env:=by rfl) (hpl:(NS pos (MU [] X.env)).any (·.1)=false:=by rfl):
  PS X (.Raise (some (.Call (.Name nm p) [e] [] pos)) none S2) (HU t Ex):=by
 intro pins s σ H D I h;obtain⟨nm',q,N,bs,bm,hdct,sn,sub,ab,col,dd,k0,k1,k2,k3,k5,lk,tl,SQ⟩:=M.obj;rw[arm_exec_Raise];refine MH (Pg ?_);refine Ca (nm:=nm') (q:=q) (C:=C) (N:=N) (bs:=bs) (bm:=bm) (hdct:=hdct) (sn:=sn) (sub:=sub) (ab:=ab) (col:=col) (dd:=dd) (k0:=k0) (k1:=k1) (k2:=k2) (k3:=k3) (k5:=k5) (newId:="ValueError.__new__") SQ (I.ok.hd hc) ?_;refine MH ?_;refine NY (jr I hg hm ?_ hdb);refine Py (h₀:=X.base) I.ok.mod.kin M.kp (bZ (ha pos pins s σ H _ I h) fun us s1 ⟨vs,H1,I1,r,q1⟩=>⟨I1.kIn,?_⟩) he hpl;obtain⟨v,rfl,q1⟩:=q1;cases r with
 | cons r rr=>
  cases rr;refine FI M F hr hb I1 r fun x t' dx s' n0 n1 n2 n3 n4 I2 hx=>?_;have n5:X.s₀.heap.get? dx=none:=by
   cases z:X.s₀.heap.get? dx with
   | none=>rfl
   | some o=>
    obtain⟨o',z'⟩:=I1.base.there dx o z (by rw[hex];simp)
    rw[n4]at z';cases z'
  refine MH (Pg (MJ ?_));exact⟨x,t',some dx,rfl,I2.kIn _ _ lk,hx,hX _ _ _ _ _ _ _ _ I2 n1 n2 n0 n3 n5 hx q1⟩
end
open PySem.W
section
variable{prog:MY}{w:M7}{A:M3}{E:MI->MK->Prop}{s:MK}{K:Ps}{x C:ML}{ox:Obj}{od:Option Obj}{name:Str}
structure XGet(K:Ps)(C:ML):Prop where
 ga:Qf K (.ref C) "__getattribute__"=some (some (.builtin "BaseException.__getattribute__"))
 gt:Qf K (.ref C) "__getattr__"=some none
 be:mroIn K C (.type "BaseException")=some true
 hd:hasDictIn K C=true
theorem tW:plainId "BaseException.__getattribute__"=true:=by decide +kernel
theorem BZ(X:K.In s.heap)(G:XGet K C)(I:InstAt s.heap x ox C od)(hf:SD K C od name=some (.value v))(h:R (.ok (.ret v)) s):
  Oa (MR prog w) A (.call (.builtin "BaseException.__getattribute__") ⟨[.ref x,.str name tk],[]⟩) R s:=by
 obtain⟨hh,g,d,t,os⟩:=s;have hk:builtinKind "BaseException.__getattribute__"=some .slot:=by decide +kernel
 have S4:splitId "BaseException.__getattribute__"=some ("BaseException","__getattribute__"):=by decide +kernel
 have L0:=I.type (M:=MR prog w);have isB:QW (MR prog w) hh (Qx (.ref x) (.type "BaseException")) true:=L0.andThen (RY X G.be);have L1:=looks_find (M:=MR prog w) X I hf;refine Qh tW PySem.F.entry_bexc_ga (@Sr (MR prog w) _ _ ⟨hh,g,d,t,os⟩ "BaseException.__getattribute__" "BaseException" "__getattribute__" (.ref x) [.str name tk] [] _ hk S4 isB (PySem.F.args_bexc_ga (.ref x) (.str name tk)) ?_);refine MH (MJ ?_);refine MH (MJ ?_);refine MH (L0.at (MH (L1.at ?_)));exact MJ h
theorem Aa(X:K.In s.heap)(G:XGet K C)(I:InstAt s.heap x ox C od)(hf:SD K C od name=some (.bind g a))(h:MP (MR prog w) A.in1 (call g [a,.ref x,.ref C]) (fun v s'=>R (.ok (.ret v)) s') (fun e s'=>R (.error e) s') s):
  Oa (MR prog w) A (.call (.builtin "BaseException.__getattribute__") ⟨[.ref x,.str name tk],[]⟩) R s:=by
 obtain⟨hh,gg,d,t,os⟩:=s;have hk:builtinKind "BaseException.__getattribute__"=some .slot:=by decide +kernel
 have S4:splitId "BaseException.__getattribute__"=some ("BaseException","__getattribute__"):=by decide +kernel
 have L0:=I.type (M:=MR prog w);have isB:QW (MR prog w) hh (Qx (.ref x) (.type "BaseException")) true:=L0.andThen (RY X G.be);have L1:=looks_find (M:=MR prog w) X I hf;refine Qh tW PySem.F.entry_bexc_ga (@Sr (MR prog w) _ _ ⟨hh,gg,d,t,os⟩ "BaseException.__getattribute__" "BaseException" "__getattribute__" (.ref x) [.str name tk] [] _ hk S4 isB (PySem.F.args_bexc_ga (.ref x) (.str name tk)) ?_);refine MH (MJ ?_);refine MH (MJ ?_);refine MH (L0.at (MH (L1.at ?_)));show MP _ _ (holding [a] (call g [a,.ref x,.ref C]) >>= ret) _ _ _
 exact MH (Nf (Nh h (fun v s' z=>MJ z) fun _ _ z=>z))
theorem CY(o:MI):bindSpecial (.builtin "BaseException.__getattribute__") o=pure (.builtin "BaseException.__getattribute__",[o]):=by kernel_rfl
theorem Bi{tk:Tok}{fill expr:Bool}{Q:MI->MK->Prop}(X:K.In s.heap)(G:XGet K C)(I:InstAt s.heap x ox C od)
  (h:Oa (MR prog w) A (.call (.builtin "BaseException.__getattribute__") ⟨[.ref x,.str name tk],[]⟩) (fun r s'=>match r with|.ok (.ret v)=>MP (MR prog w) A (handedOut v) Q E s'|_=>False) s):
  MP (MR prog w) A (getAttrBy (.ref x) (.str name tk) fill expr) Q E s:=by
 obtain⟨hh,gg,d,t,os⟩:=s;have L0:=I.type (M:=MR prog w);have L1:=QC (M:=MR prog w) X G.ga;have L2:=QC (M:=MR prog w) X G.gt;have hx2:(Value.builtin "BaseException.__getattribute__" == Value.builtin "object.__getattribute__")=false:=by decide +kernel
 unfold getAttrBy;refine Nf (MH (L0.at (MH (L1.at ?_))));dsimp only;rw[if_neg (by rw[hx2,Bool.and_false];decide)]
 unfold getAttrByItsOwn hookBefore;rw[if_pos (show onTheHeap (Value.ref C)=true from rfl)]
 refine MH (L2.at ?_);unfold callGetattribute;rw[if_neg (by cases expr<;>decide)]
 refine MH (N0 (Nf ?_));unfold boundAndCalled;rw[CY];refine MH (MJ (Pd (Od h fun r s' z=>?_)));rcases r with e|(v|_|_|_)<;>first|exact z|exact z.elim
theorem Lh(X:K.In s.heap)(G:XGet K C)(I:InstAt s.heap x ox C od)(hf:SD K C od name=some (.value v))(hv:handedIn v=true)(h:Q v { s with toks:=s.toks+1 }):
  MP (MR prog w) A (RH (.ref x) name expr) Q E s:=by
 unfold RH;refine MH (wpAny_mkText ?_);refine Bi (s:={ s with toks:=s.toks+1 }) X G I (BZ (s:={ s with toks:=s.toks+1 }) X G I hf ?_)
 show MP _ _ (handedOut v) _ _ _
 rw[handedOut_of hv];exact MJ h
theorem HK{od:Obj}{Q:Option MI->MK->Prop}(X:K.In s.heap)(G:XGet K C)(I:InstAt s.heap x ox C (some od))(ha:Qf K (.ref C) "__class__"=some (some (.builtin "object.__class__")))
  (hn:QM K (.builtin "object.__class__") "__get__"=some (some (.builtin "getset_descriptor.__get__"))) (htk:takesIn K (.builtin "object.__class__")=some true) (hm:mroIn K C (.type "object")=some true)
  (h:Q (some (.ref C)) { s with toks:=s.toks+1 }):MP (MR prog w) A (PR (.ref x) "__class__") Q E s:=by
 have hf:SD K C (some od) "__class__"=some (.bind (.builtin "getset_descriptor.__get__") (.builtin "object.__class__")):=findObj_data (by obtain⟨cd,hc,_⟩:=any_some G.hd;rw[hc];rfl) ha hn htk
 unfold PR Sn;refine MH (wpAny_mkText ?_);refine MH (N0 (Bi (s:={ s with toks:=s.toks+1 }) X G I (Aa (s:={ s with toks:=s.toks+1 }) X G I hf ?_)))
 refine Pd (class_get (s:={ s with toks:=s.toks+1 }) (ox:=ox) (od:=some od) X I hm ?_)
 show MP _ _ (handedOut (.ref C)) _ _ _
 rw[handedOut_of rfl];exact MJ (MJ h)
theorem EA{od:Obj}(G:XGet K C)(ha:Qf K (.ref C) "__class__"=some (some (.builtin "object.__class__")))
  (hn:QM K (.builtin "object.__class__") "__get__"=some (some (.builtin "getset_descriptor.__get__"))) (htk:takesIn K (.builtin "object.__class__")=some true) (hm:mroIn K C (.type "object")=some true):
  KitX K (.ref x) (.ref C) (fun h=>InstAt h x ox C (some od)) where
 ty:=fun _ _ _ I=>I.type
 it:=fun _ _ X _=>by
  obtain⟨cdD,hcD,_⟩:=any_some G.hd;unfold clsIn at hcD;split at hcD
  ·rename_i c' d' cd' sl' ho;intro A' Q' E' s' k q;unfold isType loadHead;exact MH (Ra (k _ _ (X _ _ ho)) (MJ q))
  ·cases hcD
 ne:=fun h tp dd its n sl X htp=>by
  obtain⟨cdD,hcD,_⟩:=any_some G.hd;refine Bool.eq_false_iff.mpr fun q=>?_;have e:C=tp:=Value.ref.inj (beq_iff_eq.mp q);subst e;unfold clsIn at hcD;split at hcD
  ·rename_i c' d' cd' sl' ho;have z:=(X _ _ ho).symm.trans htp;cases z
  ·cases hcD
 ca:=fun X I k=>HK X G I ha hn htk hm k
end
section
variable{X:Cx}{pins:List (ML×Obj)}{σ:St}{H:Hp}{s:MK}
theorem B1(I:Inv X pins σ H s)(hN:X.N.Nodup)(hi:X.N[i]?=some n)(hk:X.env.scope.names.lookup n=some .local)(hv:σ[i]?=some (some v))(h:∀ s',Inv X pins (σ.set i none) H s'->Q () s'):MP (MR X.prog X.w) A (unbindName X.env n) Q E s:=by
 obtain⟨m,hn,hl⟩:=id I.loc;have T0:(X.env.scope.kind == .class || (X.env.scope.kind == .module && X.env.locals != X.env.globals))=false:=by rw[I.ok.kind];rfl
 have hiσ:i < σ.length:=by rw[I.len];exact (List.getElem?_eq_some_iff.mp hi).1
 have cne:=I.cne;obtain⟨u,ru,q⟩:=hl i n v hi hv (.inl hk);have hm:m n=some u:=by
  rcases q with ⟨_,q⟩|⟨k,_⟩
  ·exact q
  ·have hk':X.env.kindOf n=some .local:=hk;rcases k with k|k<;>(rw[hk']at k;cases k)
 refine wpAny_unbindName_local hk hn hm T0 fun h' u' hn' hs=>?_;obtain⟨oL,_,_,hoL,_⟩:=id hn;have tracked:lE X.prog X.w H h':=fun b ob e=>by
  refine (I.hok b ob e).stay (fun c w' hc q=>(hs.2 c ?_).trans q) (fun _ q=>q) fun _ _ q=>q
  rintro rfl
  rcases hc with z|hc
  ·rw[<- z,I.free]at e;cases e
  ·rw[I.free]at hc;cases hc
 refine h _ ⟨I.ok,I.os,I.bare,⟨fun b o e n hb hx=>?_,fun b o e n hb hx=>?_,I.base.free,fun b o e hx=>?_,I.base.tups,I.base.frzs,I.base.tbls⟩,⟨_,hn',fun j y v' e1 e2 e3=>?_⟩,fun y c e=>?_,I.free,I.freeC,fun p hp=>?_,tracked,by simpa using I.len⟩
 ·exact (hs.2 b (Na (Nb (MS e) I.ok.above))).trans (I.base.keep b o e n hb hx)
 ·obtain⟨sl,e1⟩:=I.base.slot b o e n hb hx;exact⟨sl,(hs.2 b (Na (Nb (MS e) I.ok.above))).trans e1⟩
 ·obtain⟨o',e1⟩:=I.base.there b o e hx;exact⟨o',(hs.2 b (Na (Nb (MS e) I.ok.above))).trans e1⟩
 ·by_cases hj:j=i
  ·subst hj;rw[N_ hiσ]at e2;cases e2
  ·rw[Oq (Ne.symm hj)]at e2;obtain⟨u',r',q⟩:=hl j y v' e1 e2 e3;refine⟨u',r',?_⟩;rcases q with ⟨k,e⟩|⟨k,c,e,z⟩
   ·refine .inl ⟨k,?_⟩;have:y≠n:=fun e=>hj (sJ hN e1 (e ▸ hi));simp[this,e]
   ·exact .inr ⟨k,c,e,z.sameBut hs (cne y c e)⟩
 ·obtain⟨w',z⟩:=I.cell y c e;exact⟨w',z.sameBut hs (cne y c e)⟩
 ·obtain⟨e,n,ne,nf,d⟩:=I.pin p hp;exact⟨(hs.2 p.1 ne).trans e,n,ne,nf,d⟩
abbrev zZ(X:Cx)(x:ML)(o:Obj):Cx:={ X with A:=X.A.mark (some (.ref x)),calm:=false,pn:=(x,o)::X.pn,xe:=fun _ _=>False }
theorem Inv.toH(I:Inv X pins σ H s)(hx:s.heap.get? x=some o)(hn:H x=none)(hl:x≠X.env.locals)(hf:x∉X.fs)(hc:∀ v,o.data≠.cell v):Inv (zZ X x o) pins σ H s:=
 ⟨⟨I.ok.mod,I.ok.kind,I.ok.glob,I.ok.blt,I.ok.above,I.ok.inj,I.ok.has,I.ok.cab,(fun z=>nomatch z),I.ok.frames,I.ok.stk,I.ok.exf,I.ok.bs,I.ok.bsz,I.ok.noex,I.ok.exfs,I.ok.funs,I.ok.frf⟩,
  I.os,I.bare,I.base,I.loc,I.cell,I.free,I.freeC,fun p hp=>by
   rcases Nr.mp hp with z|z
   ·subst z;exact⟨hx,hn,hl,hf,hc⟩
   ·exact I.pin p z,I.hok,I.len⟩
theorem Inv.ofH(ok:X.Ok)(I:Inv (zZ X x o) pins σ H s):Inv X pins σ H s:=
 ⟨ok,I.os,I.bare,I.base,I.loc,I.cell,I.free,I.freeC,fun p hp=>I.pin p (MW _ hp),I.hok,I.len⟩
end
section
variable{prog:MY}{w:M7}{A:M3}{E:MI->MK->Prop}{s:MK}{env:Env}
theorem CK{e:ML}{t:M9}{n:Str}{b₀:Ng}{SV:List Ng}{pos:Pos}{c7:List ExceptHandler}{Q:Flow->MK->Prop}
  (h:MP (MR prog w) (A.mark (some (.ref e))) (eval t env) (fun c s₁=>MP (MR prog w) (A.mark (some (.ref e))) (excMatches (.ref e) c) (fun b s₂=>b=true/\
   MP (MR prog w) (A.mark (some (.ref e))) (Rm (.ref e) none) (fun _ s₃=>MP (MR prog w) (A.mark (some (.ref e))) (storeName env n (.ref e)) (fun _ s₄=>
    MP (MR prog w) (A.mark (some (.ref e))) (execs (b₀::SV) env) (fun f s₅=>MP (MR prog w) A (do bindName env n .none;Qc env n pos) (fun _ s₆=>Q f s₆) E s₅) (fun _ _=>False) s₄) (fun _ _=>False) s₃) (fun _ _=>False) s₂) (fun _ _=>False) s₁) (fun _ _=>False) s):
  MP (MR prog w) A (handleBy (.ref e) env (.ExceptHandler (some t) (some n) (b₀::SV) pos::c7)) Q E s:=by
 refine wpAny_handleBy_cons (codeAny_handlers_test (Nh h (fun c s₁ h₁=>Nh h₁ (fun b s₂ h₂=>?_) fun _ _ z=>z.elim) fun _ _ z=>z.elim)) (by intro q;cases q)
 obtain⟨rfl,h₂⟩:=h₂;exact codeAny_handlers_suite_as (Nh h₂ (fun _ s₃ h₃=>Nh h₃ (fun _ s₄ h₄=>Nh h₄ (fun f s₅ h₅=>h₅) fun _ _ z=>z.elim) fun _ _ z=>z.elim) fun _ _ z=>z.elim)
end
section
variable{X:Cx}{pins:List (ML×Obj)}{σ:St}{H:Hp}{s:MK}
theorem Inv.rec_ne(I:Inv X pins σ H s)(e:s.heap.get? b=some o)(hd:o.data=.fields vs):b≠X.env.locals/\∀ y c,X.env.cells.lookup y=some c->c≠b:=by
 refine⟨fun z=>?_,fun y c q z=>?_⟩
 ·obtain⟨m,⟨oL,es,ep,hL,hLd,_⟩,_⟩:=I.loc;rw[z,hL]at e;cases e;rw[hLd]at hd;cases hd
 ·obtain⟨v,oc,hc,hcd⟩:=I.cell y c q;rw[z,e]at hc;cases hc;rw[hd]at hcd;cases hcd
theorem Inv.note(I:Inv X pins σ H s)(hst:X.stack=X.env::X.outer)(hf:X.env.frame=some X.env.locals)(N:Noted (xf X.stack) x oe vs s.heap h')(hok:lE X.prog X.w H h')(he:s.heap.get? x=some oe)(hd:oe.data=.fields vs)(hn:X.s₀.heap.objs.size<=n)(h0:n<=x)(hp:∀ p∈X.pn ++ pins,p.1 < n)(hT:∀ T,vs[1]?=some (.ref T)->n<=T/\∃ oT ts,s.heap.get? T=some oT/\oT.data=.fields ts):Inv X pins σ H { s with heap:=h' }:=by
 obtain⟨x1,x2⟩:=I.rec_ne he hd;obtain⟨ch,hch⟩:∃ ch:List ML,∀ b,b∈ch↔b=x\/vs[1]?=some (.ref b):=by
  cases hv:vs[1]? with
  | none=>exact⟨[x],fun b=>by simp⟩
  | some v=>
   cases v with
   | ref T=>exact⟨[x,T],fun b=>by simp[eq_comm]⟩
   | _=>exact⟨[x],fun b=>by simp⟩
 have T5:∀ b,b∉ch->b≠x/\∀ T,vs[1]?=some (.ref T)->b≠T:=fun b hb=>⟨fun z=>hb ((hch b).mpr (.inl z)),fun T t z=>hb ((hch b).mpr (.inr (z ▸ t)))⟩;have nst:∀ b,b≠X.env.locals->b∉X.fs->b∉xf X.stack:=fun b h1 h2 z=>by
  rw[hst]at z;rcases BD hf z with z|z
  ·exact h1 z
  ·exact h2 z
 refine I.step (g':=s.gens) (t':=s.toks) (d':=s.drawn) (ch:=ch) (fun b hb=>?_) (fun b o h1 h2 h3 e _=>N.keep b o (nst b h1 h2) (T5 b h3).1 (T5 b h3).2 e) (fun b o _ h2 _ e _=>N.slot b o (by rw[hst];show b∈(X.env::X.outer).filterMap _;rw[NO,hf];exact MW _ h2) e) (fun _ _ _ _ z=>z) (fun b o _ e=>N.there b o e)
  (fun _ _ z=>z) (fun _ _ _ z=>z) (fun _ ps z=>⟨#[],by simpa using z⟩) (fun m hm=>?_) hok I.bare
 ·rcases (hch b).mp hb with z|z
  ·subst z;exact⟨.inr (le_trans hn h0),x1,x2,fun p q w=>not_lt.mpr h0 (w ▸ hp p q)⟩
  ·obtain⟨t1,oT,ts,t2,t3⟩:=hT b z;obtain⟨y1,y2⟩:=I.rec_ne t2 t3;exact⟨.inr (le_trans hn t1),y1,y2,fun p q w=>not_lt.mpr t1 (w ▸ hp p q)⟩
 ·obtain⟨o,es,ep,ho,r⟩:=hm;obtain⟨sl,e⟩:=N.slot _ o (by rw[hst];show X.env.locals∈(X.env::X.outer).filterMap _;rw[NO,hf];exact MZ) ho
  exact⟨_,es,ep,e,r⟩
end
theorem Em(x:bC P w H h a o):∃ ob,h.get? a=some ob:=by
 cases o with
 | lst xs=>obtain⟨_,_,_,_,e⟩:=x;exact⟨_,e⟩
 | tup xs=>obtain⟨z,its,r,ob,e,c⟩:=x;exact⟨_,e⟩
 | dK kvs=>obtain⟨_,_,_,_,o,_,_,e,_⟩:=x;exact⟨_,e⟩
 | dT kvs=>obtain⟨_,_,_,_,o,_,_,e,_⟩:=x;exact⟨_,e⟩
 | set S n=>obtain⟨o,_,_,_,e,_⟩:=x;exact⟨_,e⟩
 | ins C dx fs=>obtain⟨_,_,_,e,_⟩:=x;exact⟨_,e⟩
 | own y=>obtain⟨_,e⟩:=x;exact⟨_,e⟩
 | xd fs=>obtain⟨_,⟨_,_,_,e,_⟩,_⟩:=x;exact⟨_,e⟩
 | rng lo hi=>obtain⟨_,_,_,e⟩:=x;exact⟨_,e⟩
 | frz ob u=>obtain⟨e,_⟩:=x;exact⟨_,e⟩
 | tbl ps=>exact⟨_,x⟩
 | met f y=>exact⟨_,x⟩
 | ext φ=>obtain⟨_,⟨_,e⟩,_⟩:=x;exact⟨_,e⟩
section
variable{X:Cx}{pins:List (ML×Obj)}{σ:St}{H:Hp}{s:MK}
theorem Inv.dropX(I:Inv X pins σ H s)(e:H x=some (.xd gs)):Inv X pins σ (iF H x) s:=by
 have non:∀ b,H b=none->iF H x b=none:=fun b q=>by unfold iF;split;rfl;exact q
 refine⟨I.ok,I.os,I.bare,⟨I.base.keep,I.base.slot,fun b o q n z=>non b (I.base.free b o q n z),I.base.there,fun b xs q=>?_,fun b o u q=>?_,fun b ps q=>?_⟩,I.loc,I.cell,non _ I.free,fun y c q=>non c (I.freeC y c q),fun p hp=>?_,fun b u q=>?_,I.len⟩
 ·have:=I.base.tups b xs q;rw[b8 (fun z=>by rw[z,e]at this;cases this)];exact this
 ·have:=I.base.frzs b o u q;rw[b8 (fun z=>by rw[z,e]at this;cases this)];exact this
 ·obtain⟨more,this⟩:=I.base.tbls b ps q;exact⟨more,by rw[b8 (fun z=>by rw[z,e]at this;cases this)];exact this⟩
 ·obtain⟨a,b,c⟩:=I.pin p hp;exact⟨a,non _ b,c⟩
 ·have hb:b≠x:=fun z=>by rw[z,lA]at q;cases q
  rw[b8 hb]at q;refine (I.hok b u q).stay (fun _ _ _ z=>z) (fun c z=>?_) fun c ys z=>?_
  ·rw[b8 (fun y=>by rw[y,e]at z;cases z)];exact z
  ·rw[b8 (fun y=>by rw[y,e]at z;cases z)];exact z
abbrev yR(X:Cx)(dx:ML)(od:Obj):Cx:={ X with pn:=(dx,od)::X.pn }
theorem Inv.toP(I:Inv X pins σ H s)(hx:s.heap.get? dx=some od)(hn:H dx=none)(hl:dx≠X.env.locals)(hf:dx∉X.fs)(hc:∀ v,od.data≠.cell v):Inv (yR X dx od) pins σ H s:=
 ⟨⟨I.ok.mod,I.ok.kind,I.ok.glob,I.ok.blt,I.ok.above,I.ok.inj,I.ok.has,I.ok.cab,I.ok.hd,I.ok.frames,I.ok.stk,I.ok.exf,I.ok.bs,I.ok.bsz,I.ok.noex,I.ok.exfs,I.ok.funs,I.ok.frf⟩,
  I.os,I.bare,I.base,I.loc,I.cell,I.free,I.freeC,fun p hp=>by
   rcases Nr.mp hp with z|z
   ·subst z;exact⟨hx,hn,hl,hf,hc⟩
   ·exact I.pin p z,I.hok,I.len⟩
theorem Inv.ofP(ok:X.Ok)(I:Inv (yR X dx od) pins σ H s):Inv X pins σ H s:=
 ⟨ok,I.os,I.bare,I.base,I.loc,I.cell,I.free,I.freeC,fun p hp=>I.pin p (MW _ hp),I.hok,I.len⟩
end
structure XIs(C:ML)(o:Obj)(dx:ML)(od:Obj)(a:Str)(v:V):Prop where
 cls:o.cls=.ref C
 dict:o.dict=some dx
 data:∃ vs,o.data=.fields vs
 look:∃ u,lookIn a od=some (some u)/\aD v u
def Ends.un(i:Nat)(D:Ends):Ends:={ nx:=fun σ H=>D.nx (σ.set i none) H,rt:=D.rt,bk:=fun σ H=>D.bk (σ.set i none) H,ct:=fun σ H=>D.ct (σ.set i none) H }
def Du(K:Ps)(sp:Sp)(t:TA)(CB:ML)(i:Nat)(th:ML->Str->V->ML->TS):TS:=fun D σ H=>t σ H fun vs H1=>sp vs H1 (fun _ H2=>D.nx σ H2) (fun cls dxo H2=>∃ C dx a v,cls=.ref C/\dxo=some dx/\H2 dx=some (.xd [(a,v)])/\exmOne K (.ref C) (.ref CB)=some true/\
 (H1 dx=none->∀ x,iF H2 dx x=none->th C a v x (Ends.un i D) (σ.set i (some (.ref x))) (iF H2 dx)))
theorem Ax{X:Cx}{k:Nat}{f CB:ML}{fd:NR}{ps:List Str}{sp:Sp}{nm cn n:Str}{i:Nat}{e:M9}{es:List M9}{t:TA}{th:ML->Str->V->ML->TS}{b₀:Ng}{SV:List Ng}{p p2 pos pos1 Tl Tj:Pos}
  (F:FnOk X.prog X.w X.K X.mg X.base (vW X.prog X.w) k f fd ps sp) (hr:Room k X.A) (hg:Gl X nm) (hm:X.mg nm=some (.ref f)) (hk:Qw X.K (.ref f)=true) (hb:dj X.K fd ps []) (ha:PA X.nox (e::es) t)
  (hst:X.stack=X.env::X.outer) (hf:X.env.frame=some X.env.locals) (hN:X.N.Nodup) (hi:X.N[i]?=some n) (hl:X.env.scope.names.lookup n=some .local) (hg2:Gl X cn) (hm2:X.mg cn=some (.ref CB))
  (SU:∀ C a v x o dx od,XIs C o dx od a v->je (zZ (yR X dx od) x o) (b₀::SV) (th C a v x))
  (hdb:(nm == ("__debug__":Str))=false:=by decide) (TZ:(cn == ("__debug__":Str))=false:=by decide) (he:MU (e::es) X.env=(false,eval e X.env)::MU es X.env:=by rfl) (hpl:(NS pos (MU es X.env)).any (·.1)=false:=by rfl)
  (hsw:N9 (.Call (.Name nm p) (e::es) [] pos) none pos1.line X.env=pure false:=by rfl):
  PS X (.Try [.Expr (.Call (.Name nm p) (e::es) [] pos) pos1] [.ExceptHandler (some (.Name cn p2)) (some n) (b₀::SV) Tl] [] [] Tj) (Du X.K sp t CB i th):=by
 intro pins s σ H D I h;refine wpAny_Try_except (QL (wpAny_Expr_any ?_ I.quiet hsw));refine NY (jr I hg hm ?_ hdb);refine Py (h₀:=X.base) I.ok.mod.kin hk (Nh (ha pos pins s σ H _ (I.wish _) h) (fun us s1 q0=>?_) fun _ _ z=>z.elim) he hpl;obtain⟨vs,H1,I1,r,q⟩:=q0;have I1:=I1.unwish;refine⟨I1.kIn,?_⟩;have hlen:(us ++ []).length=ps.length:=by rw[Oc,<- r.length];exact F.len _ _ _ _ q
 have hb1:=hb s1 us I1.kIn hlen;rw[Oc]at hb1;refine Pd (Od (F.run X.A X.stack s1 H1 ⟨us,[]⟩ us vs _ _ hr I1.env0 hb1 r q) fun r' s' hq=>?_);cases r' with
 | ok fl=>
  cases fl with
  | ret u=>
   obtain⟨v,H2,I2,rv,q2⟩:=I1.after hq;exact OG (OG ⟨σ,H2,I2,q2⟩)
  | next=>exact False.elim hq
  | brk=>exact False.elim hq
  | cont=>exact False.elim hq
 | error ev=>
  obtain⟨x,C,dx,H2,rfl,os,bare,un,hok,fly,hd0,C',dx',a,v,e1,e2,hxd,hexm,hth⟩:=hq;cases e1;cases e2;have Ur:H1 dx=none:=by
   cases z:H1 dx with
   | none=>rfl
   | some o=>obtain⟨ob,z'⟩:=Em (I1.hok dx o z);rw[hd0]at z';cases z'
  have J:Inv X pins σ H2 s':=I1.call' os un hok bare (fun b z=>absurd z (by simp))
  obtain⟨h0,hx,oe,vs',hex,hc,hdx,hd,hh⟩:=fly;have hsz:1 < vs'.size:=by
   rcases hh with z|⟨T,_,_,z,_⟩
   ·exact (Array.getElem?_eq_some_iff.mp z).1
   ·exact (Array.getElem?_eq_some_iff.mp z).1
  have hH:Bd s'.heap x vs':=by
   rcases hh with z|⟨T,oT,ts,z1,z2,z3,z4,z5,z6,z7⟩
   ·exact .inl z
   ·exact .inr ⟨T,oT,ts,z1,z2,z5,z6,z7⟩
  have hTn:∀ T,vs'[1]?=some (.ref T)->(s1.heap.objs.size<=T/\∃ oT ts,s'.heap.get? T=some oT/\oT.data=.fields ts)/\H2 T=none:=fun T z=>by
   rcases hh with z1|⟨T',oT,ts,z1,z2,z3,z4,z5,z6,z7⟩
   ·rw[z1]at z;cases z
   ·rw[z1]at z;cases z;exact⟨⟨z3,oT,ts,z5,z6⟩,z4⟩
  have Tf:=J.stack;rw[hst]at Tf;refine vt (base:=X.base) (by rw[J.ok.frames,hst]) Tf hf hex hd hH fun h' N=>?_
  have N':Noted (xf X.stack) x oe vs' s'.heap h':=by rw[hst];exact N
  have sz1:X.s₀.heap.objs.size<=s1.heap.objs.size:=I1.sz;obtain⟨hok2,_⟩:=J.noted N' J.sz (le_trans sz1 h0) hx hex hc hdx hd hsz fun T z=>(hTn T z).2;have J2:Inv X pins σ H2 { s' with heap:=h' }:=J.note hst hf N' hok2 hex hd sz1 h0 (fun p hp=>MS (I1.pin p hp).1) fun T z=>(hTn T z).1
  obtain⟨T',oT',ts',t1,t2,t3,t4,t5,t6⟩:=N.exc;have hd2:=NP hd (·.setIfInBounds 1 (Value.ref T'));have hc2:(oe.mapFields (·.setIfInBounds 1 (Value.ref T'))).cls=.ref C:=(PL _ _).trans hc;have Uq:(oe.mapFields (·.setIfInBounds 1 (Value.ref T'))).dict=some dx:=(kP hd).trans hdx;generalize oe.mapFields (·.setIfInBounds 1 (Value.ref T'))=o2 at *
  have T7:=J2.hok dx _ hxd;obtain⟨mA,ns,rl⟩:=T7;obtain⟨od,hod,hlk⟩:=vA ns;have hnc:∀ v,od.data≠.cell v:=fun v z=>by
   obtain⟨o',es,ep,ho',hd',_⟩:=ns;rw[hod]at ho';cases ho';rw[z]at hd';cases hd'
  have lk:∃ u,lookIn a od=some (some u)/\aD v u:=by
   have r:=rl a;simp only[List.lookup,beq_self_eq_true]at r;cases hm:mA a with
   | none=>rw[hm]at r;exact r.elim
   | some u=>rw[hm]at r;exact⟨u,by rw[hlk,hm],r⟩
  have ndx:iF H2 dx dx=none:=lA;have xdx:x≠dx:=fun z=>by rw[z,hxd]at hx;cases hx
  have hx':iF H2 dx x=none:=by rw[b8 xdx];exact hx
  have dl:dx≠X.env.locals:=fun z=>by have:=J2.free;rw[<- z,hxd]at this;cases this
  have dfs:dx∉X.fs:=fun z=>by
   have:=J2.stkFree dx (by rw[hst];show dx∈(X.env::X.outer).filterMap _;rw[NO,hf];exact MW _ z)
   rw[hxd]at this;cases this
  have JP:Inv (yR X dx od) pins σ (iF H2 dx) { s' with heap:=h' }:=(J2.dropX hxd).toP hod ndx dl dfs hnc
  have dlt:dx < s'.heap.objs.size:=(J.hok dx _ hxd).lt;obtain⟨x1,x2⟩:=J2.rec_ne t1 hd2;have xfs:x∉X.fs:=fun z=>by
   have:=(J2.ok.funs.mem (show x∈X.outer.filterMap (·.frame)from z)).2
   obtain⟨o,ho,_⟩:=this;exact not_lt.mpr (le_trans sz1 h0) (MS ho)
  have HI:Inv (zZ (yR X dx od) x o2) pins σ (iF H2 dx) { s' with heap:=h' }:=JP.toH t1 hx' x1 xfs fun v z=>by rw[hd2]at z;cases z
  have LT:QW (MR X.prog X.w) h' (typeOf (.ref x)) (.ref C):=hc2 ▸ (Looks.ld t1).andThen .now;refine CK (jr (X:=zZ (yR X dx od) x o2) HI hg2 hm2 ?_ TZ);refine (exm_one (M:=MR X.prog X.w) HI.kIn LT hexm).here (s:={ s' with heap:=h' }) ⟨rfl,?_⟩
  have hs3:3 < ts'.size:=(Array.getElem?_eq_some_iff.mp t6).1;refine wpAny_setFlight_none t1 hd2 (by simp[hsz]) t4 t5 hs3 ?_
  have szT:s'.heap.objs.size<=T':=t2;have HI3:Inv (zZ (yR X dx od) x o2) pins σ (iF H2 dx) { s' with heap:=h'.update T' (NE (·.setIfInBounds 3 Value.none)) }:=by
   obtain⟨y1,y2⟩:=J2.rec_ne t4 t5;refine Inv.turnedL (s:={ s' with heap:=h' }) (t':=s'.toks) (fp:=[T']) HI (fun b o hb q=>(M_ _ _ (fun z=>hb (by simp[z]))).trans q) fun b hb=>?_
   rw[Qt.mp hb];refine⟨(b8 (fun z:T'=dx=>not_lt.mpr szT (by rw[z];exact dlt))).trans (J.hok.fresh szT),y1,?_,.inr (le_trans J.sz szT),y2,fun p hp z=>?_⟩
   ·intro z;obtain⟨o,ho,_⟩:=(J2.ok.funs.mem (show T'∈X.outer.filterMap (·.frame)from z)).2
    exact not_lt.mpr (le_trans J.sz szT) (MS ho)
   ·rcases Nr.mp hp with w|w
    ·subst w;exact t3 z.symm
    ·rcases Nr.mp w with w|w
     ·subst w;exact not_lt.mpr szT (by rw[<- show dx=T' from z];exact dlt)
     ·exact not_lt.mpr szT (z ▸ (MS (J.pin p w).1:p.1 < _))
  refine m8 (X:=zZ (yR X dx od) x o2) HI3 hN hi (.inl hl) (v:=.ref x) rfl (fun s4 HI4=>?_) (.inr hl);refine Nh (SU C a v x o2 dx od ⟨hc2,Uq,⟨_,hd2⟩,lk⟩ pins s4 _ _ (Ends.un i D) HI4 (hth Ur x hx')) (fun fl s5 hq=>?_) fun _ _ z=>z;have fin:∀ {σ':St} {H':Hp},Inv (zZ (yR X dx od) x o2) pins σ' H' s5->(∀ s6,Inv X pins (σ'.set i none) H' s6->SP X pins D fl s6)->MP (MR X.prog X.w) X.A (do bindName X.env n .none;Qc X.env n Tl) (fun _ s6=>SP X pins D fl s6) X.xe s5:=fun {σ' H'} K5 kk=>by
   have I5:=Inv.ofP J.ok (Inv.ofH JP.ok K5);have hiσ:i < σ'.length:=by rw[I5.len];exact (List.getElem?_eq_some_iff.mp hi).1
   refine MH (wpAny_bindName (m8 I5 hN hi (.inl hl) (v:=.non) rfl (fun s6 I6=>?_) (.inr hl)));unfold Qc;refine PN (B1 I6 hN hi hl (v:=.non) (by rw[N_ hiσ]) fun s7 I7=>?_)
   rw[Rz]at I7;exact kk s7 I7
  cases fl with
  | next=>
   obtain⟨σ',H',K5,q5⟩:=hq;exact fin K5 fun s6 I6=>⟨_,_,I6,q5⟩
  | brk=>
   obtain⟨σ',H',K5,q5⟩:=hq;exact fin K5 fun s6 I6=>⟨_,_,I6,q5⟩
  | cont=>
   obtain⟨σ',H',K5,q5⟩:=hq;exact fin K5 fun s6 I6=>⟨_,_,I6,q5⟩
  | ret u=>
   obtain⟨v,σ',H',K5,rv,q5⟩:=hq;exact fin K5 fun s6 I6=>⟨v,_,_,I6,rv,q5⟩
end L2
namespace L3
open PySem PySem.Spec PyProof.Rows L2 PySem.W
abbrev XQ:=ML->Str->D->Gp->Prop
def Dc(K:Ps)(G:Gp)(H:Hp)(EQ:XQ)(E:XK):Prop:=∀ C a d G' v dx H',EQ C a d G'->Kp G H G' H'->RG K H' G'->G' dx=none->H' dx=some (.xd [(a,v)])->RD K H' d v->E (.ref C) (some dx) H'
theorem Dc.base{K:Ps}{G G1:Gp}{H H1:Hp}{EQ:XQ}{E:XK}(f:Dc K G H EQ E)(k:Kp G H G1 H1):Dc K G1 H1 EQ E:=fun C a d G' v dx H' q k'=>f C a d G' v dx H' q (k.trans k')
abbrev t7:=List D->Gp->i_->XQ->Prop
def gI(K:Ps)(sp:t7):Sp:=fun vs H Q E=>∃ ds G Q3 EQ,RDs K H ds vs/\RG K H G/\sp ds G Q3 EQ/\ub K G H Q3 Q/\Dc K G H EQ E
def eh(K:Ps)(E:XK)(EQ:XQ)(t:bg):TS:=fun D τ H=>∃ σ G D3,RS K H σ τ/\RG K H G/\Dc K G H EQ E/\t D3 σ G/\EndsOk K G H D3 D
structure CtxW(X:Cx)(E:XK):Prop where
 st:X.stack=X.env::X.outer
 fr:X.env.frame=some X.env.locals
 ex:X.ex=[]
 calm:X.calm=true
 xe:X.xe=fun e s'=>MP (MR X.prog X.w) X.A (RC X.env e) (fun _ s''=>vW X.prog X.w X.outer X.H₀ X.s₀ E e s'') (fun e' s''=>vW X.prog X.w X.outer X.H₀ X.s₀ E e' s'') s'
structure FnX(P:MY)(w:M7)(K:Ps)(mg:Str->Option MI)(base:M5)(k:Nat)(x:Str)(sp:t7):Prop where
 ex:∃ f fd ps,FnOk P w K mg base (vW P w) k f fd ps (gI K sp)/\mg x=some (.ref f)/\Qw K (.ref f)=true/\dj K fd ps []
structure ErX(P:MY)(w:M7)(K:Ps)(mg:Str->Option MI)(base:M5)(k:Nat)(x:Str)(C:ML)(a:Str):Prop where
 ex:∃ f fd ps,XMk K C f a/\mg x=some (.ref C)/\FnOk P w K mg base oV k f fd ps (rN C a)/\dj K fd ps []
def wf(C:ML)(a:Str)(ta:jN)(EQ:XQ):bg:=fun _ σ G=>ta σ G fun ds G1=>∃ d,ds=[d]/\EQ C a d G1
def iz(sp:t7)(ta:jN)(EQ:XQ):bg:=fun D σ G=>ta σ G fun ds G1=>sp ds G1 (fun _ G2=>D.nx σ G2) EQ
section
variable{X:Cx}{E:XK}{EQ:XQ}{st:Ng}{c7:List Ng}{t u:bg}{pos:Pos}
theorem Fv(h:PS X st (bB X.K t)):PS X st (eh X.K E EQ t):=h.imp fun D τ H z=>by
 obtain⟨σ,G,D3,rs,rg,_,h,k⟩:=z;exact⟨σ,G,D3,rs,rg,h,k⟩
theorem j7(h:je X c7 (bB X.K t)):je X c7 (eh X.K E EQ t):=h.imp fun D τ H z=>by
 obtain⟨σ,G,D3,rs,rg,_,h,k⟩:=z;exact⟨σ,G,D3,rs,rg,h,k⟩
theorem j6(h1:PS X st (eh X.K E EQ t)):je X [st] (eh X.K E EQ t):=wu h1
theorem eX(h1:PS X st (eh X.K E EQ t))(h2:je X c7 (eh X.K E EQ u)):je X (st::c7) (eh X.K E EQ (sSeq t u)):=(yO h1 h2).imp fun D τ H z=>by
 obtain⟨σ,G,D3,rs,rg,fx,h,k⟩:=z;exact⟨σ,G,{ D3 with nx:=u D3 },rs,rg,fx,h,⟨fun σ' G' τ' H' q k' rg' rs'=>⟨σ',G',D3,rs',rg',fx.base k',q,k.base k'⟩,k.rt,k.bk,k.ct⟩⟩
theorem Ab(hc:PT X c (cz X.K tc))(ha:je X a (eh X.K E EQ t))(hb:je X b (eh X.K E EQ u)):PS X (.If c a b pos) (eh X.K E EQ (h9 tc t u)):=
 (Hq hc ha hb).imp fun D τ H z=>by
  obtain⟨σ,G,D3,rs,rg,fx,h,k⟩:=z;refine⟨σ,G,_,rs,rg,h,fun b G' H' q k' rg'=>?_⟩;cases b with
  | true=>exact⟨σ,G',D3,rs.mono (k'.stb rg),rg',fx.base k',q,k.base k'⟩
  | false=>exact⟨σ,G',D3,rs.mono (k'.stb rg),rg',fx.base k',q,k.base k'⟩
theorem vX{C:ML}{a nm:Str}{k:Nat}{e:M9}{ta:jN}{p S2:Pos}(W:CtxW X E)(F:ErX X.prog X.w X.K X.mg X.base k nm C a)(hr:Room (k+1) X.A)(hg:Gl X nm)(ha:PA X [e] (dD X.K ta))
  (hdb:(nm == ("__debug__":Str))=false:=by decide) (he:MU [e] X.env=(false,eval e X.env)::MU [] X.env:=by rfl) (hpl:(NS pos (MU [] X.env)).any (·.1)=false:=by rfl):
  PS X (.Raise (some (.Call (.Name nm p) [e] [] pos)) none S2) (eh X.K E EQ (wf C a ta EQ)):=by
 obtain⟨f,fd,ps,M,hm,F,hb⟩:=F.ex;refine (D7 (Ex:=fun v H=>∃ d G,RD X.K H d v/\RG X.K H G/\EQ C a d G/\Dc X.K G H EQ E) M F hr hb W.calm W.ex hg hm ha (fun pins σ H s x t' dx v I n1 n2 n3 n4 n5 hx q=>?_) hdb he hpl).imp fun D τ H z=>?_
 ·obtain⟨d,G,rd,rg,q,fx⟩:=q;rw[W.xe];have lt:G dx=none:=rg.free n1;exact zg I W.st W.fr W.ex ⟨n3,by rw[aq (Ne.symm n4)];exact n2,_,_,hx,rfl,rfl,rfl,.inl rfl⟩ n5 (fx C a d G v dx _ q (Kp.laid n1) (rg.laid n1) lt aB (RD.mono ((Kp.laid (G:=G) n1).stb rg) _ _ rd))
 ·obtain⟨σ,G,D3,rs,rg,fx,h,k⟩:=z;refine⟨σ,G,_,rs,rg,h,fun ds G1 vs H1 q k1 rg1 rds=>?_⟩;obtain⟨d,rfl,q⟩:=q;obtain⟨v,rfl,rd⟩:=fT rds;exact⟨v,rfl,d,G1,rd,rg1,q,fx.base k1⟩
theorem rK{x:Str}{k:Nat}{e:M9}{es:List M9}{ta:jN}{sp:t7}{p pos1:Pos}(W:CtxW X E)(F:FnX X.prog X.w X.K X.mg X.base k x sp)(hr:Room k X.A)(hg:Gl X x)(ha:PA X (e::es) (dD X.K ta))(hdb:(x == ("__debug__":Str))=false:=by decide)
  (he:MU (e::es) X.env=(false,eval e X.env)::MU es X.env:=by rfl) (hpl:(NS pos (MU es X.env)).any (·.1)=false:=by rfl) (hs:N9 (.Call (.Name x p) (e::es) [] pos) none pos1.line X.env=pure false:=by rfl):
  PS X (.Expr (.Call (.Name x p) (e::es) [] pos) pos1) (eh X.K E EQ (iz sp ta EQ)):=by
 obtain⟨f,fd,ps,ok,hm,hk,hb⟩:=F.ex;refine (Bw (BB (dvs:=[]) (ds:=[]) ok hr hg hm hk hb .nil (vn (E:=E) (E':=E) W.st W.fr W.ex W.xe fun _ _ _ z=>z) ha hdb he hpl) hs).imp fun D τ H z=>?_;obtain⟨σ,G,D3,rs,rg,fx,h,kk⟩:=z;refine⟨σ,G,_,rs,rg,h,fun ds G1 vs H1 q k1 rg1 rds=>⟨ds,G1,_,EQ,by rw[Oc];exact rds,rg1,q,fun d G' v H' q' k' rg' _=>?_,fx.base k1⟩⟩
 exact kk.nx σ G' τ H' q' (k1.trans k') rg' (rs.mono ((k1.trans k').stb rg))
end
section
variable{P:MY}{w:M7}{K:Ps}{mg:Str->Option MI}{base:M5}
theorem fh:CtxW (uS (vW P w) P w K mg base N qual scope f cd A outer s H E) E:=⟨rfl,rfl,rfl,rfl,rfl⟩
theorem Fun3.okX{x qual:Str}{st:Ng}{f:ML}{fd:NR}{N ps:List Str}{k:Nat}{sp:t7}(F:Fun3 K x qual st f fd)(S:FnScope N ps (ah st))(len:∀ ds G Q EQ,sp ds G Q EQ->ds.length=ps.length)
  (SU:∀ (cdv:MI) (A:M3) (outer:List Env) (s:MK) (H:Hp) (E:XK) (EQ:XQ),Room k (A.deeper (O8 qual (ah st) s.heap.objs.size f cdv))->
   ∃ t:bg,je (uS (vW P w) P w K mg base N qual (ah st) f cdv A outer s H E) (cg st) (eh K E EQ t)/\∀ ds G Q,sp ds G Q EQ->t { nx:=fun _ G'=>Q .non G',rt:=Q } (cx N ds) G):FnOk P w K mg base (vW P w) (k+1) f fd ps (gI K sp):=by
 obtain⟨oc,od,dV,kV,doc,pm,an,cdv,ct,osl,rfl,lk,hcd⟩:=F.ex;refine ET lk hcd S (fun vs H Q E z=>by obtain⟨ds,G,Q3,EQ,rds,rg,h,kk⟩:=z;rw[<- rds.length];exact len ds G Q3 EQ h) fun A outer s H vs Q E hr hsp=>?_
 obtain⟨ds,G,Q3,EQ,rds,rg,h,kk,fx⟩:=hsp;obtain⟨t,ht,hq⟩:=SU cdv A outer s H E EQ hr;refine⟨eh K E EQ t,ht,cx N ds,G,{ nx:=fun _ G'=>Q3 .non G',rt:=Q3 },yA rds,rg,fx,hq ds G Q3 h,⟨fun σ' G' τ' H' q k' rg' rs'=>kk _ G' _ H' q k' rg' (.of wq),kk,fun _ _ _ _ q=>q.elim,fun _ _ _ _ q=>q.elim⟩⟩
theorem GA{x qual:Str}{st:Ng}{f C:ML}{fd:NR}{a y z:Str}{p1 p2 p3 p4:Pos}(F:Fun3 K x qual st f fd)(S:FnScope [y,z] [y,z] (ah st))(M:XMk K C f a)(hb:cg st=[.Assign [.Attribute (.Name y p1) a p2] (.Name z p3) p4])
  (hy:JB (ah st) y) (hz:JB (ah st) z) (hd1:(y == ("__debug__":Str))=false:=by decide) (hd2:(z == ("__debug__":Str))=false:=by decide) (hc1:(y == ("__classdict__":Str))=false:=by decide) (hc2:(z == ("__classdict__":Str))=false:=by decide)
  (hs:∀ env,N9 (.Name z p3) (some (.Attribute (.Name y p1) a p2)) p4.line env=pure false:=by intro _;rfl):FnOk P w K mg base oV 1 f fd [y,z] (rN C a):=by
 obtain⟨oc,od,dV,kV,doc,pm,an,cdv,ct,osl,rfl,lk,hcd⟩:=F.ex;refine ET lk hcd S (fun vs H Q E q=>by obtain⟨x,v,t,rfl,_⟩:=q;rfl) fun A outer s H vs Q E hr hsp=>?_
 obtain⟨x,v,t,rfl,e,h⟩:=hsp;rw[hb];refine⟨_,wu (FT M (wG (i:=0) rfl hy hd1 hc1) (wG (i:=1) rfl hz hd2 hc2) (hs _)),v,rfl,.ref x,rfl,x,t,rfl,e,h⟩
end
def Ends3.un(i:Nat)(D:Ends3):Ends3:={ nx:=fun σ G=>D.nx (σ.set i none) G,rt:=D.rt,bk:=fun σ G=>D.bk (σ.set i none) G,ct:=fun σ G=>D.ct (σ.set i none) G }
def DD(ok:ML->Str->Prop)(sp:t7)(ta:jN)(i:Nat)(th:ML->Str->Int->ML->bg):bg:=fun D σ G=>ta σ G fun ds G1=>sp ds G1 (fun _ G2=>D.nx σ G2) (fun C a d G2=>∃ z,d=.int z/\ok C a/\∀ x,G2 x=none->th C a z x (Ends3.un i D) (σ.set i (some (.ref x))) G2)
theorem FA{K:Ps}{H:Hp}{dx:ML}{gs:List (Str×V)}(e:H dx=some (.xd gs)):Stb K H (iF H dx) where
 t:=fun a xs q=>by
  rcases q with (q|⟨o,q⟩)|q
  ·exact .inl (.inl (by rw[b8 (fun z=>by rw[z,e]at q;cases q)];exact q))
  ·exact .inl (.inr ⟨o,by rw[b8 (fun z=>by rw[z,e]at q;cases q)];exact q⟩)
  ·exact .inr q
 l:=fun a xs q=>by
  rcases q with ⟨o,q⟩|q
  ·exact .inl ⟨o,by rw[b8 (fun z=>by rw[z,e]at q;cases q)];exact q⟩
  ·exact .inr q
theorem RS.unset{K:Ps}{H:Hp}:∀ {σ:eE} {τ:St} (i:Nat),RS K H σ τ->RS K H (σ.set i none) (τ.set i none)
 | _,_,_,.nil=>.nil
 | _,_,0,.cons _ t=>.cons (show C6 K H none none from trivial) t
 | _,_,i+1,.cons r t=>.cons r (RS.unset i t)
section
variable{X:Cx}
theorem Hn{k:Nat}{CB:ML}{sp:t7}{nm cn n:Str}{i:Nat}{e:M9}{es:List M9}{ta:jN}{th:ML->Str->Int->ML->bg}{b₀:Ng}{SV:List Ng}{p p2 pos pos1 Tl Tj:Pos}{ok:ML->Str->Prop}
  (F:FnX X.prog X.w X.K X.mg X.base k nm sp) (hr:Room k X.A) (hg:Gl X nm) (ha:PA X.nox (e::es) (dD X.K ta))
  (hst:X.stack=X.env::X.outer) (hf:X.env.frame=some X.env.locals) (hN:X.N.Nodup) (hi:X.N[i]?=some n) (hl:X.env.scope.names.lookup n=some .local) (hg2:Gl X cn) (hm2:X.mg cn=some (.ref CB)) (hok:∀ C a,ok C a->exmOne X.K (.ref C) (.ref CB)=some true)
  (SU:∀ C a z x o dx od,ok C a->XIs C o dx od a (.int z)->je (zZ (yR X dx od) x o) (b₀::SV) (bB X.K (th C a z x)))
  (hdb:(nm == ("__debug__":Str))=false:=by decide) (TZ:(cn == ("__debug__":Str))=false:=by decide) (he:MU (e::es) X.env=(false,eval e X.env)::MU es X.env:=by rfl) (hpl:(NS pos (MU es X.env)).any (·.1)=false:=by rfl)
  (hsw:N9 (.Call (.Name nm p) (e::es) [] pos) none pos1.line X.env=pure false:=by rfl):
  PS X (.Try [.Expr (.Call (.Name nm p) (e::es) [] pos) pos1] [.ExceptHandler (some (.Name cn p2)) (some n) (b₀::SV) Tl] [] [] Tj) (bB X.K (DD ok sp ta i th)):=by
 obtain⟨f,fd,ps,F,hm,hk,hb⟩:=F.ex;refine (Ax (th:=fun C a v x=>fun D σ H=>∃ z,v=.int z/\ok C a/\bB X.K (th C a z x) D σ H) F hr hg hm hk hb ha hst hf hN hi hl hg2 hm2 (fun C a v x o dx od hx=>?_) hdb TZ he hpl hsw).imp fun D τ H z=>?_
 ·intro pins s σ H D I h;obtain⟨z,rfl,hc,h⟩:=h;exact SU C a z x o dx od hc hx pins s σ H D I h
 ·obtain⟨σ,G,D3,rs,rg,h,kk⟩:=z;refine⟨σ,G,_,rs,rg,h,fun ds G1 vs H1 q k1 rg1 rds=>⟨ds,G1,_,_,rds,rg1,q,fun d G' v H' q' k' rg' _=>kk.nx σ G' τ H' q' (k1.trans k') rg' (rs.mono ((k1.trans k').stb rg)),?_⟩⟩;intro C a d G' v dx H' q' k' rg' n e rd;obtain⟨z,rfl,hc,hth⟩:=q';obtain rfl:v=.int z:=by simpa only[RD]using rd
  refine⟨C,dx,a,.int z,rfl,rfl,e,hok C a hc,fun h1 x hx=>⟨z,rfl,hc,?_⟩⟩;have rg2:RG X.K (iF H' dx) G':=fun b o q=>by
   obtain⟨ho,e1,r⟩:=rg' b o q;exact⟨ho,by rw[b8 (fun y=>by rw[y,n]at q;cases q)];exact e1,r.mono (FA e)⟩
  have kp:Kp G H G' (iF H' dx):=fun b o e0 n0=>by
   obtain⟨a1,a2⟩:=k1 b o e0 n0;obtain⟨c1,c2⟩:=k' b o a1 a2;exact⟨by rw[b8 (fun y=>by rw[y,h1]at a1;cases a1)];exact c1,c2⟩
  refine⟨_,G',_,RS.set (d:=.ref x) (by simp only[RD]) i (rs.mono (kp.stb rg)),rg2,hth x (rg2.free hx),?_⟩
  have kb:=kk.base kp;exact⟨fun σ' G2 τ' H2 q k2 r2 s2=>kb.nx _ _ _ _ q k2 r2 (RS.unset i s2),kb.rt,fun σ' G2 τ' H2 q k2 r2 s2=>kb.bk _ _ _ _ q k2 r2 (RS.unset i s2),fun σ' G2 τ' H2 q k2 r2 s2=>kb.ct _ _ _ _ q k2 r2 (RS.unset i s2)⟩
structure XAsk(K:Ps)(C:ML)(a:Str):Prop where
 g:XGet K C
 ca:Qf K (.ref C) "__class__"=some (some (.builtin "object.__class__"))
 gs:QM K (.builtin "object.__class__") "__get__"=some (some (.builtin "getset_descriptor.__get__"))
 tk:takesIn K (.builtin "object.__class__")=some true
 mo:mroIn K C (.type "object")=some true
 fa:Qf K (.ref C) a=some none
theorem GR:N3 "ValueError"=some (.type "ValueError"):=by kernel_rfl
theorem Ei(hg:Gl X nm)(hm:X.mg nm=some (.ref C))(hd:(nm == ("__debug__":Str))=false:=by decide):PE X (.Name nm pos) (az X.K (eC (.ref C))):=wJ (v:=.ref C) hg hm rfl (fun _=>by simp only[RD]) hd
def KG:D->MI
 | .ref a=>.ref a
 | .ty n=>.type n
 | _=>.none
def Fb(x:ML)(c:D)(b:Bool):Bb:=fun ds G Q=>ds=[.ref x,c]/\Q (.bl b) G
theorem xO{C x dx:ML}{o od:Obj}{a:Str}{v:V}{pins:List (ML×Obj)}{σ:St}{H:Hp}{s:MK}(hx:XIs C o dx od a v)(I:Inv (zZ (yR X dx od) x o) pins σ H s):InstAt s.heap x o C (some od):=by
 have h1:=(I.pin (x,o) (by simp)).1
 have h2:=(I.pin (dx,od) (by simp)).1
 refine⟨h1,hx.cls,?_,?_⟩
 ·obtain⟨vs,e⟩:=hx.data;unfold notCls;rw[e]
 ·rw[hx.dict];exact h2
theorem Fa(hx:XIs C o dx od a v)(A:XAsk X.K C a)(hc:(∃ y,c=.ref y)\/∃ n,c=.ty n)(e:kitOne X.K (.ref C) (KG c)=some b):eF (zZ (yR X dx od) x o) (.builtin "isinstance") (n_ X.K (Fb x c b)):=by
 intro pins s σ H vs us Q I rv h;obtain⟨ds,G,Q3,rds,rg,⟨rfl,h⟩,kk⟩:=h;obtain⟨v1,t,e1,h1,h2⟩:=rds.inv_cons;obtain⟨u2,e2,h3⟩:=fT h2;simp only[RD]at h1;subst e1 e2 h1;obtain⟨u,w',rfl,ru,rw'⟩:=Hf rv;cases ru;have eu:w'=KG c:=by
  rcases hc with ⟨y,rfl⟩|⟨n,rfl⟩
  ·simp only[RD]at h3;subst h3;exact rw'
  ·simp only[RD]at h3;subst h3;exact rw'
 subst eu;exact kia_one (EA (ox:=o) (od:=od) A.g A.ca A.gs A.tk A.mo) I.kIn (xO hx I) e (fun z=>nomatch z) fun tk=>⟨.bl b,H,I.tok tk,rfl,kk _ G _ H h Kp.refl rg (.of fc)⟩
def Jf(te:aZ)(x:ML)(z:Int):aZ:=fun σ G Q=>te σ G fun d G1=>d=.ref x/\Q (.int z) G1
theorem Kf(hx:XIs C o dx od a (.int z))(A:XAsk X.K C a)(he:PE (zZ (yR X dx od) x o) e (az X.K te))(hb:Oi e a (zZ (yR X dx od) x o).env (eval e (zZ (yR X dx od) x o).env)=eval e (zZ (yR X dx od) x o).env:=by rfl):PE (zZ (yR X dx od) x o) (.Attribute e a pos) (az X.K (Jf te x z)):=by
 intro pins s τ H Q I h;obtain⟨σ,G,Q3,rs,rg,h,kk⟩:=h;refine BR hb (bZ (he pins s τ H (fun v H1=>v=.ref x/\Q (.int z) H1) I ⟨σ,G,_,rs,rg,h,fun d G1 v H1 q k1 rg1 re=>?_⟩) fun u s1 zz=>?_)
 ·obtain⟨rfl,q⟩:=q;exact⟨re.ref,kk _ G1 _ H1 q k1 rg1 (.of ef)⟩
 ·obtain⟨v,H1,I1,rx,rfl,q⟩:=zz;obtain rfl:u=Value.ref x:=rx;obtain⟨u',hl,ru⟩:=hx.look;refine Lh I1.kIn A.g (xO hx I1) (findObj_own A.g.hd A.fa rfl hl) ?_ ⟨.int z,H1,I1.tok _,ru,q⟩;obtain⟨t,rfl⟩:=ru;rfl
end
structure MtX(P:MY)(w:M7)(K:Ps)(mg:Str->Option MI)(base:M5)(k:Nat)(C:ML)(m:Str)(sp:t7):Prop where
 cl:Cls K C
 ex:∃ f fd ps,FnOk P w K mg base (vW P w) k f fd ps (gI K sp)/\Meth K C m f/\dj K fd ps []
theorem Jd{P:MY}{w:M7}{K:Ps}{mg:Str->Option MI}{base:M5}{j k n:Nat}{f:ML}{fd:NR}{ps:List Str}{sp0:cS}{sp1:t7}(F0:FnOk P w K mg base oV j f fd ps (bP K sp0))(F1:FnOk P w K mg base (vW P w) k f fd ps (gI K sp1))(h0:j<=n)(h1:k<=n):
  FnOk P w K mg base (vW P w) n f fd ps (gI K fun ds G Q EQ=>sp0 ds G Q\/sp1 ds G Q EQ):=by
 refine⟨fun vs H Q E z=>?_,fun A outer s H args us vs Q E hr e0 hb r z=>?_⟩
 ·obtain⟨ds,G,Q3,EQ,rds,rg,h|h,kk,fx⟩:=z
  ·exact F0.len vs H Q E0 ⟨ds,G,Q3,rds,rg,h,kk⟩
  ·exact F1.len vs H Q E ⟨ds,G,Q3,EQ,rds,rg,h,kk,fx⟩
 ·obtain⟨ds,G,Q3,EQ,rds,rg,h|h,kk,fx⟩:=z
  ·refine Od ((F0.mono h0).run A outer s H args us vs Q E0 hr e0 hb r ⟨ds,G,Q3,rds,rg,h,kk⟩) fun r' s' q=>?_;cases r' with
   | error e=>exact q.elim
   | ok fl=>cases fl<;>exact q
  ·exact (F1.mono h1).run A outer s H args us vs Q E hr e0 hb r ⟨ds,G,Q3,EQ,rds,rg,h,kk,fx⟩
def A1(te:aZ):aZ:=fun σ G Q=>te σ G fun d G1=>∃ ds,d=.fl ds/\∀ p,G1 p=none->Q (.ref p) (gset G1 p (.lst ds))
theorem IB(he:PE X e (az X.K te)):PE X e (az X.K (A1 te)):=
 he.imp fun τ H Q ⟨σ,G,Q3,rs,rg,h,k⟩=>⟨σ,G,_,rs,rg,h,fun d G' v H' q k' rg' re=>by
  obtain⟨ds,rfl,q⟩:=q;obtain⟨p,xs,rfl,e1,e2,e3,e4⟩:=re.fl;exact k (.ref p) _ _ H' (q p e2) (Ek k' e4) (Ej rg' e1 e3) (.of fH)⟩
open PySem.SeqAt
def LM:R3:=fun x y G Q=>∃ ds:List D,(tY G x=some ds/\tY G y=some ds/\∀ d∈ds,pl 7 d)/\Q (.bl true) G
def LL:R3:=fun x y G Q=>∃ ds:List D,(tY G x=some ds/\tY G y=some ds/\∀ d∈ds,pl 7 d)/\Q (.bl false) G
structure FnM(K:Ps)(n q:Str)(st:Ng)(dV:MI)(f:ML):Prop where
 ex:∃ (oc:MI) (od an:Option ML) (sl:Array (Option MI)) (kV dc pm cd ct:MI),K.lookup f=some ⟨oc,od,.func (So n q (dE st) (cg st) (ah st) dV kV dc pm an cd ct),sl⟩/\RJ K cd q=true
structure FnG(K:Ps)(n:Str)(st:Ng):Prop where
 ex:∃ f,nsIn K M0 n=some (some (.ref f))/\FnM K n n st .none f/\Qw K (.ref f)=true
structure MtG(K:Ps)(C:ML)(n q:Str)(st:Ng):Prop where
 ex:∃ f,Meth K C n f/\FnM K n q st .none f
structure CfG(K:Ps)(C:ML)(n q:Str)(st:Ng):Prop where
 ex:∃ f,(QM K (.ref C) "__getattribute__"=some (some (.builtin "type.__getattribute__"))/\readsIn K C (.type "type")=true/\findCls K (.ref C) (.type "type") n=some (.val (.ref f))/\Qw K (.ref f)=true)/\FnM K n q st .none f
structure MtD(K:Ps)(C:ML)(n q:Str)(st:Ng)(x:Str):Prop where
 ex:∃ f t,Meth K C n f/\FnM K n q st (.ref t) f/\∃ (oc:MI) (od:Option ML) (tk:Tok) (nt:Nat) (sl:Array (Option MI)),K.lookup t=some ⟨oc,od,.seq #[.str x tk] nt,sl⟩
section
variable{K:Ps}{n q:Str}{st:Ng}{f C t:ML}{oc oc' dV kV dc pm cd ct:MI}{od od' an:Option ML}{sl sl':Array (Option MI)}
theorem xi(l:K.lookup f=some ⟨oc,od,.func (So n q (dE st) (cg st) (ah st) dV kV dc pm an cd ct),sl⟩)(c:RJ K cd q=true):FnM K n q st dV f:=⟨_,_,_,_,_,_,_,_,_,l,c⟩
theorem fnG_mk(a:nsIn K M0 n=some (some (.ref f)))(l:K.lookup f=some ⟨oc,od,.func (So n n (dE st) (cg st) (ah st) .none kV dc pm an cd ct),sl⟩)(c:RJ K cd n=true)(k:Qw K (.ref f)=true):FnG K n st:=⟨f,a,xi l c,k⟩
theorem mtG_mk(a:Qf K (.ref C) n=some (some (.ref f)))(i:isFn K (.ref f)=true)(l:K.lookup f=some ⟨oc,od,.func (So n q (dE st) (cg st) (ah st) .none kV dc pm an cd ct),sl⟩)(c:RJ K cd q=true)(k:Qw K (.ref f)=true):MtG K C n q st:=⟨f,⟨a,i,k⟩,xi l c⟩
theorem cfG_mk(g:QM K (.ref C) "__getattribute__"=some (some (.builtin "type.__getattribute__")))(r:readsIn K C (.type "type")=true)(a:findCls K (.ref C) (.type "type") n=some (.val (.ref f)))(l:K.lookup f=some ⟨oc,od,.func (So n q (dE st) (cg st) (ah st) .none kV dc pm an cd ct),sl⟩)(c:RJ K cd q=true)(k:Qw K (.ref f)=true):CfG K C n q st:=⟨f,⟨g,r,a,k⟩,xi l c⟩
theorem mtD_mk(a:Qf K (.ref C) n=some (some (.ref f)))(i:isFn K (.ref f)=true)(l:K.lookup f=some ⟨oc,od,.func (So n q (dE st) (cg st) (ah st) (.ref t) kV dc pm an cd ct),sl⟩)(c:RJ K cd q=true)(k:Qw K (.ref f)=true)(d:K.lookup t=some ⟨oc',od',.seq #[.str x tk] nt,sl'⟩):MtD K C n q st x:=⟨f,t,⟨a,i,k⟩,xi l c,_,_,_,_,_,d⟩
end
def Fo(n q:Str)(st:Ng)(ps:List Str):Prop:=∀ (kV dc pm:MI) (an:Option ML) (cd ct:MI) (us:List MI),us.length=ps.length->bindArgs (So n q (dE st) (cg st) (ah st) .none kV dc pm an cd ct) ⟨us,[]⟩=pure (ps.zip us)
section
variable(P:MY)(w:M7)(base:M5){K:Ps}{h:M5}{mg:Str->Option MI}{k:Nat}{n q x:Str}{st:Ng}{ps:List Str}{sp:cS}{C:ML}
theorem Mx(X:K.In h)(G:h.Ns M0 mg)(H:FnG K n st)(ok:∀ {f fd},Fun3 K n n st f fd->FnOk P w K mg base oV k f fd ps (bP K sp))(b:Fo n n st ps:=by walk_at "b"):Fn3 P w K mg base k n [] sp:=by
 obtain⟨f,a,⟨⟨_,_,_,_,_,_,_,_,_,l,c⟩⟩,kp⟩:=H.ex;exact⟨_,_,_,[],[],ok (fV l c),mg_of X G a,kp,.all (b _ _ _ _ _ _),.nil,fun _=>RDs.nil⟩
theorem Gk(cl:Cls K C)(H:MtG K C n q st)(ok:∀ {f fd},Fun3 K n q st f fd->FnOk P w K mg base oV k f fd ps (bP K sp))(b:Fo n q st ps:=by walk_at "b"):Mt3 P w K mg base k C n [] sp:=by
 obtain⟨f,a,⟨⟨_,_,_,_,_,_,_,_,_,l,c⟩⟩⟩:=H.ex;exact⟨cl,_,_,_,[],[],ok (fV l c),a,.all (b _ _ _ _ _ _),.nil,fun _=>RDs.nil⟩
theorem Kr(X:K.In h)(G:h.Ns M0 mg)(ca:nsIn K M0 x=some (some (.ref C)))(m:makesIn K C=true)(kc:Qw K (.ref C)=true)(H:MtG K C "__init__" q st)(ok:∀ {f fd},Fun3 K "__init__" q st f fd->FnOk P w K mg base oV k f fd ps (bP K sp))(b:Fo "__init__" q st ps:=by walk_at "b"):Mk3 P w K mg base k x C [] sp:=by
 obtain⟨f,a,⟨⟨_,_,_,_,_,_,_,_,_,l,c⟩⟩⟩:=H.ex;exact⟨_,_,_,[],[],⟨m,a.at_,a.fn,kc⟩,mg_of X G ca,ok (fV l c),.all (b _ _ _ _ _ _),.nil,fun _=>RDs.nil⟩
theorem MB(X:K.In h)(G:h.Ns M0 mg)(ca:nsIn K M0 x=some (some (.ref C)))(H:CfG K C n q st)(ok:∀ {f fd},Fun3 K n q st f fd->FnOk P w K mg base oV k f fd ps (bP K sp))(b:Fo n q st ps:=by walk_at "b"):Cf3 P w K mg base k x n [] sp:=by
 obtain⟨f,⟨g,r,a,kp⟩,⟨⟨_,_,_,_,_,_,_,_,_,l,c⟩⟩⟩:=H.ex;exact⟨C,_,_,_,[],[],ok (fV l c),mg_of X G ca,g,r,a,kp,.all (b _ _ _ _ _ _),.nil,fun _=>RDs.nil⟩
theorem LP(cl:Cls K C)(H:MtD K C n q st x)(b:∀ {t kV dc pm an cd ct oc od tk nt sl},K.lookup t=some ⟨oc,od,.seq #[.str x tk] nt,sl⟩->dj K (So n q (dE st) (cg st) (ah st) (.ref t) kV dc pm an cd ct) ps [])(ok:∀ {f fd},Fun3 K n q st f fd->FnOk P w K mg base oV k f fd ps (bP K sp)):Mt3 P w K mg base k C n [] sp:=by
 obtain⟨f,t,a,⟨⟨_,_,_,_,_,_,_,_,_,l,c⟩⟩,_,_,_,_,_,d⟩:=H.ex;exact⟨cl,_,_,_,[],[],ok (fV l c),a,b d,.nil,fun _=>RDs.nil⟩
end
def fG(C:ML)(L:List Str)(sp:t7)(to:aZ)(ta:jN)(EQ:XQ):bg:=fun D σ G=>to σ G fun x G1=>match x with
 | .ref a=>match G1 a with
  | some (.ins C' L' _)=>(C'=C/\L'=L)/\ta σ G1 fun ds G2=>sp (.ref a::ds) G2 D.rt EQ
  | _=>False
 | _=>False
theorem oZ{X:Cx}{E:XK}{EQ:XQ}{pl:Sem Bool}{L:List Str}{k:Nat}{C:ML}{m:Str}{sp:t7}{o e:M9}{es:List M9}{to:aZ}{t:jN}{apos pos pos1:Pos}(W:CtxW X E)(F:MtX X.prog X.w X.K X.mg X.base k C m sp)(hL:m∉L)(hr:Room k X.A)(ho:PE X o (az X.K to))(ha:PA X (e::es) (dD X.K t))
  (hst:MU (e::es) X.env=(false,eval e X.env)::MU es X.env:=by rfl) (hpl:(NS pos (MU es X.env)).any (·.1)=false:=by rfl)
  (ht:eval (.Call (.Attribute o m apos) (e::es) [] pos) X.env=(do
   let ov <- eval o X.env
   Ph apos.atName
   let (f,first) <- holding [ov] (Pf ov m pl)
   Qi pos f first (NS pos (MU (e::es) X.env)) (Pq pos (OA [] X.env))):=by rfl):
  PS X (.Return (some (.Call (.Attribute o m apos) (e::es) [] pos)) pos1) (eh X.K E EQ (fG C L sp to t EQ)):=by
 obtain⟨f,fd,ps,ok,hm,hb⟩:=F.ex;refine (Ay (By (dvs:=[]) (ds:=[]) ho F.cl hm ok hr hb .nil (vn (E:=E) (E':=E) W.st W.fr W.ex W.xe fun _ _ _ z=>z) ha hst hpl ht)).imp fun D τ H z=>?_;obtain⟨σ,G,D3,rs,rg,fx,h,kk⟩:=z;refine⟨σ,G,_,rs,rg,h,fun d G1 v H1 q k1 rg1 re=>?_⟩;cases d with
 | ref a=>
  dsimp only at q;split at q
  ·rename_i C' L' ds hg;obtain⟨⟨rfl,rfl⟩,q⟩:=q;obtain⟨ho,e1,ro⟩:=rg1 a _ hg;cases ho with
   | ins C2 dx gs=>
    obtain⟨rfl,r2,r3⟩:=ro;refine⟨a,dx,gs,re.ref,e1,lq (K:=X.K) r2 hL,σ,G1,_,rs.mono (k1.stb rg),rg1,q,fun ds' G2 vs H2 q2 k2 rg2 rds=>?_⟩;rw[re.ref];exact⟨.ref a::ds',G2,_,EQ,RDs.cons fH (by rw[Oc];exact rds),rg2,q2,(kk.base (k1.trans k2)).rt,fx.base (k1.trans k2)⟩
   | _=>exact ro.elim
  ·exact q.elim
 | _=>exact q.elim
section
variable(P:MY)(w:M7)(base:M5){K:Ps}{h:M5}{mg:Str->Option MI}{k:Nat}{n q x:Str}{st:Ng}{ps:List Str}{sp:t7}{C:ML}
theorem Ky(X:K.In h)(G:h.Ns M0 mg)(H:FnG K n st)(ok:∀ {f fd},Fun3 K n n st f fd->FnOk P w K mg base (vW P w) k f fd ps (gI K sp))(b:Fo n n st ps:=by walk_at "b"):FnX P w K mg base k n sp:=by
 obtain⟨f,a,⟨⟨_,_,_,_,_,_,_,_,_,l,c⟩⟩,kp⟩:=H.ex;exact⟨_,_,_,ok (fV l c),mg_of X G a,kp,.all (b _ _ _ _ _ _)⟩
theorem LN(cl:Cls K C)(H:MtG K C n q st)(ok:∀ {f fd},Fun3 K n q st f fd->FnOk P w K mg base (vW P w) k f fd ps (gI K sp))(b:Fo n q st ps:=by walk_at "b"):MtX P w K mg base k C n sp:=by
 obtain⟨f,a,⟨⟨_,_,_,_,_,_,_,_,_,l,c⟩⟩⟩:=H.ex;exact⟨cl,_,_,_,ok (fV l c),a,.all (b _ _ _ _ _ _)⟩
theorem LO(cl:Cls K C)(H:MtD K C n q st x)(b:∀ {t kV dc pm an cd ct oc od tk nt sl},K.lookup t=some ⟨oc,od,.seq #[.str x tk] nt,sl⟩->dj K (So n q (dE st) (cg st) (ah st) (.ref t) kV dc pm an cd ct) ps [])(ok:∀ {f fd},Fun3 K n q st f fd->FnOk P w K mg base (vW P w) k f fd ps (gI K sp)):MtX P w K mg base k C n sp:=by
 obtain⟨f,t,a,⟨⟨_,_,_,_,_,_,_,_,_,l,c⟩⟩,_,_,_,_,_,d⟩:=H.ex;exact⟨cl,_,_,_,ok (fV l c),a,b d⟩
end
theorem _root_.L2.Room.m(h:Room k A)(d:j<=k:=by decide):Room j A:=h.mono d
section
variable{P:MY}{w:M7}{base:M5}{K:Ps}{h:M5}{mg:Str->Option MI}{n q x:Str}{st:Ng}{N ps:List Str}{sp:cS}{spx:t7}{rd:bg}{rx:XQ->bg}{C f:ML}{fd:NR}
abbrev Mh(P:MY)(w:M7)(K:Ps)(mg:Str->Option MI)(base:M5)(k:Nat)(N:List Str)(q:Str)(st:Ng)(rd:bg):Prop:=∀ {f:ML} {cdv:MI} {A:M3} {outer:List Env} {s:MK} {H:Hp} {E:XK},Room k (A.deeper (O8 q (ah st) s.heap.objs.size f cdv))->(A.deeper (O8 q (ah st) s.heap.objs.size f cdv)).units+8 < ND->(A.deeper (O8 q (ah st) s.heap.objs.size f cdv)).units+4 < ND->je (uS oV P w K mg base N q (ah st) f cdv A outer s H E).nox (cg st) (bB K rd)
abbrev JG(P:MY)(w:M7)(K:Ps)(mg:Str->Option MI)(base:M5)(k:Nat)(N:List Str)(q:Str)(st:Ng)(rx:XQ->bg):Prop:=∀ {f:ML} {cdv:MI} {A:M3} {outer:List Env} {s:MK} {H:Hp} {E:XK} {EQ:XQ},Room k (A.deeper (O8 q (ah st) s.heap.objs.size f cdv))->(A.deeper (O8 q (ah st) s.heap.objs.size f cdv)).units+8 < ND->(A.deeper (O8 q (ah st) s.heap.objs.size f cdv)).units+4 < ND->je (uS (vW P w) P w K mg base N q (ah st) f cdv A outer s H E) (cg st) (eh K E EQ (rx EQ))
theorem Ct(k:Nat)(F:Fun3 K n q st f fd)(S:FnScope N ps (ah st))(len:∀ ds G Q,sp ds G Q->ds.length=ps.length)(rok:∀ ds G Q,sp ds G Q->rd { nx:=fun _ G'=>Q .non G',rt:=Q } (cx N ds) G)(d:Mh P w K mg base k N q st rd):FnOk P w K mg base oV (k+1) f fd ps (bP K sp):=
 Fun3.ok3 F S len fun _ _ _ _ _ _ hr=>⟨rd,d hr (by have:=hr.units;omega) (by have:=hr.units;omega),rok⟩
theorem Lg(k:Nat)(F:Fun3 K n q st f fd)(S:FnScope N ps (ah st))(len:∀ ds G Q EQ,spx ds G Q EQ->ds.length=ps.length)(rok:∀ EQ ds G Q,spx ds G Q EQ->rx EQ { nx:=fun _ G'=>Q .non G',rt:=Q } (cx N ds) G)(d:JG P w K mg base k N q st rx):FnOk P w K mg base (vW P w) (k+1) f fd ps (gI K spx):=
 Fun3.okX F S len fun _ _ _ _ _ _ EQ hr=>⟨rx EQ,d hr (by have:=hr.units;omega) (by have:=hr.units;omega),rok EQ⟩
variable(P w base)
theorem oW(X:K.In h)(G:h.Ns M0 mg)(H:FnG K n st)(k:Nat)(S:FnScope N ps (ah st))(len:∀ ds G Q,sp ds G Q->ds.length=ps.length)(rok:∀ ds G Q,sp ds G Q->rd { nx:=fun _ G'=>Q .non G',rt:=Q } (cx N ds) G)(d:Mh P w K mg base k N n st rd)(b:Fo n n st ps:=by walk_at "b"):Fn3 P w K mg base (k+1) n [] sp:=Mx P w base X G H (fun F=>Ct k F S len rok d) b
variable(mg) in
theorem wR(cl:Cls K C)(H:MtG K C n q st)(k:Nat)(S:FnScope N ps (ah st))(len:∀ ds G Q,sp ds G Q->ds.length=ps.length)(rok:∀ ds G Q,sp ds G Q->rd { nx:=fun _ G'=>Q .non G',rt:=Q } (cx N ds) G)(d:Mh P w K mg base k N q st rd)(b:Fo n q st ps:=by walk_at "b"):Mt3 P w K mg base (k+1) C n [] sp:=Gk P w base cl H (fun F=>Ct k F S len rok d) b
theorem Kx(X:K.In h)(G:h.Ns M0 mg)(H:FnG K n st)(k:Nat)(S:FnScope N ps (ah st))(len:∀ ds G Q EQ,spx ds G Q EQ->ds.length=ps.length)(rok:∀ EQ ds G Q,spx ds G Q EQ->rx EQ { nx:=fun _ G'=>Q .non G',rt:=Q } (cx N ds) G)(d:JG P w K mg base k N n st rx)(b:Fo n n st ps:=by walk_at "b"):FnX P w K mg base (k+1) n spx:=Ky P w base X G H (fun F=>Lg k F S len rok d) b
variable(mg) in
theorem Gj(cl:Cls K C)(H:MtG K C n q st)(k:Nat)(S:FnScope N ps (ah st))(len:∀ ds G Q EQ,spx ds G Q EQ->ds.length=ps.length)(rok:∀ EQ ds G Q,spx ds G Q EQ->rx EQ { nx:=fun _ G'=>Q .non G',rt:=Q } (cx N ds) G)(d:JG P w K mg base k N q st rx)(b:Fo n q st ps:=by walk_at "b"):MtX P w K mg base (k+1) C n spx:=LN P w base cl H (fun F=>Lg k F S len rok d) b
end
abbrev mY(h:M5)(it d:ML)(i n ep:Nat)(f0 f1 ok ov:MI):Prop:=
 h.get? it=some { cls:=.type "dict_itemiterator",dict:=none,data:=.fields #[f0,f1,.ref d,.int i 0,.int n 0,.int ep 0,ok,ov],slots:=#[] }
section
variable{prog:MY}{w:M7}{A:M3}{E:MI->MK->Prop}{s:MK}{d r it:ML}{kvs:List (aE×MI)}{ep i n:Nat}{f0 f1 ok ov:MI}
theorem Gy(hz:mY s.heap it d i n ep f0 f1 ok ov)(hf:rq f0)(q1:Q true s)(q2:∀ h' f1',mY h' it d i n ep f0 f1' ok ov->Oe it s.heap h'->Q false { s with heap:=h' }):MP (MR prog w) A (Qv (.ref it)) Q E s:=by
 unfold Qv;refine MH (Nw hz rfl (x:=f0) rfl ?_);rcases hf with rfl|⟨T,rfl⟩
 ·exact MJ q1
 ·show MP _ _ (QV _ >>= _) _ _ _;refine xQ ?_;cases hT:s.heap.get? (Int.toNat (T:Int)) with
  | none=>exact MJ q1
  | some o=>
   show MP _ _ (SE (.ref it) 1 >>= _) _ _ _
   refine MH (Nw hz rfl (x:=f1) rfl ?_)
   by_cases e:(f1 != Value.bool true)=true
   ·rw[if_pos e];exact MH (Ni hz (by simp) fun h1 hz1 hs1=>MJ (q2 h1 _ hz1 hs1))
   ·rw[if_neg e];exact MH (MJ (MJ (q2 s.heap f1 hz (QF ..))))
theorem Gx(hi:mY s.heap it d i kvs.length ep f0 f1 ok ov)(hf:rq f0)(hm:s.heap.DictAt (aI prog w) d kvs ep)(hx:kvs[i]?=some (k,v))(q:∀ key h' f0' f1' ok' ov',tu k key=true->rq f0'->mY h' it d (i+1) kvs.length ep f0' f1' ok' ov'->OP h' s.heap.objs.size key v->h'.objs.size=s.heap.objs.size+1->
   (∀ b o,b≠it->s.heap.get? b=some o->h'.get? b=some o)->Q (some (.ref s.heap.objs.size)) { s with heap:=h' }):MP (MR prog w) A (Ob (.ref it)) Q E s:=by
 obtain⟨od,es,hod,hcd,hdd,hk,hpr,hn⟩:=id hm;have hT:s.TypeIs (.ref it) "dict_itemiterator":=⟨_,hi,rfl⟩;unfold Ob;refine MH (N0 (Nz (name:=MN "__next__") hT OC (Ny OC hT QP ?_ (QK _))));refine MH (MJ ?_);refine MH ?_;refine MH ?_
 first|refine MH (Ot hT (MJ ?_))|refine MH (OQ hT (MJ ?_))
 refine MH (O5 hi rfl ?_);have own:NI "dict_itemiterator"=true:=by decide
 simp only[own,if_true];show MP _ _ (if (Value.ref d == Value.none)=true then _ else _) _ _ _;rw[if_neg (show ¬ ((Value.ref d == Value.none)=true)from Bool.false_ne_true)]
 refine MH (MJ ?_);refine MH (N8 hod hdd ?_);have z:es.size=kvs.length:=by rw[<- hpr.length];simp
 rw[if_neg (by rw[z];simp)];refine MH (MJ ?_);refine MH (Op hod hdd ?_)
 rw[if_neg (by simp)];refine MJ ?_
 have lt:i < es.size:=by
  rw[z];rcases OO i kvs.length with h|h
  ·exact h
  ·rw[Ov h]at hx;cases hx
 obtain⟨Th,hval⟩:=hpr.get? (e:=es[i]) (by simp[lt]) hx
 simp only[show ¬ ((i:Int) < 0)from by walk_at "o",if_false,Int.toNat_natCast,Array.getElem?_eq_getElem lt];refine MH ?_
 first|refine MH (Ot hT (MJ ?_))|refine MH (OQ hT (MJ ?_))
 refine MH (PY hT ?_);show MP _ _ (Qd (.ref it) 3 (N4 ((i:Int)+1)) >>= _) _ _ s;refine MH (Ni hi (by simp) fun g1 z1 s1=>?_)
 replace z1:mY g1 it d (i+1) kvs.length ep f0 f1 ok ov:=by
  have e:((i+1:Nat):Int)=(i:Int)+1:=by walk_at "o"
  unfold mY;rw[e];simpa[N4]using z1
 have hT1:Rj { s with heap:=g1 } (.ref it) "dict_itemiterator":=⟨_,z1,rfl⟩
 refine MH (Nf ?_);refine MH (PY hT1 ?_);refine MH (PY hT1 ?_);show MP _ _ (QH (.ref it) 6 es[i].key es[i].val) _ _ { s with heap:=g1 };unfold QH
 refine MH (Pu ?_);have sz:g1.objs.size=s.heap.objs.size:=s1.1;have il:it < g1.objs.size:=MS z1;have z2:mY (g1.push { cls:=.type "tuple",data:=.seq #[es[i].key,es[i].val] }) it d (i+1) kvs.length ep f0 f1 ok ov:=MM _ z1;have t2:OP (g1.push { cls:=.type "tuple",data:=.seq #[es[i].key,es[i].val] }) g1.objs.size es[i].key es[i].val:=MQ _ rfl;have fin:∀ h' f0' f1' ok' ov',rq f0'->mY h' it d (i+1) kvs.length ep f0' f1' ok' ov'->Oe it (g1.push { cls:=.type "tuple",data:=.seq #[es[i].key,es[i].val] }) h'->Q (some (.ref g1.objs.size)) { s with heap:=h' }:=fun h' f0' f1' ok' ov' l' z' s'=>by
  rw[sz];refine q es[i].key h' f0' f1' ok' ov' Th l' z' ?_ ?_ fun b o hb e=>s'.extBut _ _ hb (MM _ (s1.extBut _ _ hb e))
  ·rw[<- hval,<- sz];exact s'.extBut _ _ (ON il) t2
  ·rw[s'.1,NT,sz]
 refine MH (Gy z2 hf ?_ fun h0 f1' z3 s3=>?_)
 ·simp only[if_true];refine MH (Nw z2 rfl (x:=ok) rfl ?_);refine MH (Nw z2 rfl (x:=ov) rfl ?_);refine MH (Ni z2 (by simp) fun g3 z3 s3=>?_)
  replace z3:mY g3 it d (i+1) kvs.length ep f0 f1 es[i].key ov:=z3
  refine MH (Ni z3 (by simp) fun g4 z4 s4=>?_)
  replace z4:mY g4 it d (i+1) kvs.length ep f0 f1 es[i].key es[i].val:=z4
  refine MH (Ni z4 (by simp) fun g5 z5 s5=>?_)
  replace z5:mY g5 it d (i+1) kvs.length ep (N4 g1.objs.size) f1 es[i].key es[i].val:=z5
  refine MH (Ni z5 (by simp) fun g6 z6 s6=>?_)
  replace z6:mY g6 it d (i+1) kvs.length ep (N4 g1.objs.size) (.bool false) es[i].key es[i].val:=z6
  refine MH (Qb (MJ (MJ ⟨_,rfl,MJ (fin g6 _ _ _ _ (.inr ⟨_,rfl⟩) z6 (((s3.trans s4).trans s5).trans s6))⟩)))
 ·simp only[Bool.false_eq_true,if_false];exact MJ (MJ ⟨_,rfl,MJ (fin h0 _ _ _ _ hf z3 s3)⟩)
theorem Jb(hh:A.handled=none)(hi:mY s.heap it d i kvs.length ep f0 f1 ok ov)(hm:s.heap.DictAt (aI prog w) d kvs ep)(hx:kvs[i]?=none)(q:∀ h',R5 it s.heap h'->Q none { s with heap:=h' }):MP (MR prog w) A (Ob (.ref it)) Q E s:=by
 obtain⟨od,es,hod,hcd,hdd,hk,hpr,hn⟩:=id hm;have hT:s.TypeIs (.ref it) "dict_itemiterator":=⟨_,hi,rfl⟩;unfold Ob;refine MH (N0 (Nz (name:=MN "__next__") hT OC (Ny OC hT QP ?_ (QK _))));refine MH (MJ ?_);refine MH ?_;refine MH ?_
 first|refine MH (Ot hT (MJ ?_))|refine MH (OQ hT (MJ ?_))
 refine MH (O5 hi rfl ?_);have own:NI "dict_itemiterator"=true:=by decide
 simp only[own,if_true];show MP _ _ (if (Value.ref d == Value.none)=true then _ else _) _ _ _;rw[if_neg (show ¬ ((Value.ref d == Value.none)=true)from Bool.false_ne_true)]
 refine MH (MJ ?_);refine MH (N8 hod hdd ?_);have z:es.size=kvs.length:=by rw[<- hpr.length];simp
 rw[if_neg (by rw[z];simp)];refine MH (MJ ?_);refine MH (Op hod hdd ?_)
 rw[if_neg (by simp)];refine MJ ?_
 have ge:es.size<=i:=by rw[z];simpa using hx
 simp only[show ¬ ((i:Int) < 0)from by walk_at "o",if_false,Int.toNat_natCast,Array.getElem?_eq_none ge];refine MH ?_
 first|refine MH (Ot hT (MJ ?_))|refine MH (OQ hT (MJ ?_))
 show MP _ _ (Qd (.ref it) 2 .none >>= _) _ _ s;refine MH (Ou hi rfl (by simp) ?_)
 show MP _ _ (RA (.type "StopIteration") [] >>= _) _ _ _;refine MH ?_
 simp only[RA,newTuple];refine MH (Nd ?_ (by size_fits))
 refine MH (m:=O7 _ _) (RW (a:=Value.none) (by first|rfl|(simp only[O7];rfl)) ?_);refine Nd ?_ (by size_fits)
 simp only[raiseNew];refine MH (Rg ?_);rw[show A.in1.handled=none from hh]
 refine MH (MJ (RV ?_));refine MH (Pc (T:="StopIteration") (b:=true) ⟨_,MQ _ rfl,rfl⟩ Qe ?_);exact MJ (q _ (((OS ..).extBut.push _).push _))
theorem AV(hT:s.TypeIs (.ref r) "dict_items")(h:Q false s):MP (MR prog w) A (Q8 (.ref r)) Q E s:=by
 unfold Q8;refine MH (wpAny_specialOf hT PySem.F.slot_dict_items_len.lookup ?_);generalize hid:("dict_items.__len__":String)=id0
 wp_delta
 rw[show splitId id0=some ("dict_items","__len__")from by subst hid;decide +kernel];subst hid
 refine MH (Pc (T:="dict_items") (b:=true) hT (by rw[isSubtype_type];kernel_rfl) ?_)
 refine QZ (fun hab=>absurd hab (by decide)) (fun _=>?_);refine QZ (fun _=>?_) (fun hab=>absurd (by decide +kernel) hab)
 exact MH (PV hT (MJ h))
end
abbrev JD:List (Str×Int)->List (aE×MI)->Prop:=PB fun p q=>q.1=.inr p.1/\aD (.int p.2) q.2
theorem JD.get:∀ {ps:List (Str×Int)} {kvs:List (aE×MI)} {i:Nat} {p:Str×Int},JD ps kvs->ps[i]?=some p->∃ v,kvs[i]?=some (.inr p.1,v)/\aD (.int p.2) v
 | _,_,i,p,.nil,e=>by simp at e
 | _,_,0,p,.cons (b:=b) h t,e=>by
  cases e;exact⟨b.2,by rw[Nn,<- h.1],h.2⟩
 | _,_,i+1,p,.cons h t,e=>by
  obtain⟨v,e1,e2⟩:=JD.get t (i:=i) e;exact⟨v,e1,e2⟩
theorem D_{K:Ps}{H:Hp}:∀ {ps:List (Str×Int)} {hs:List (aE×V)} {kvs:List (aE×MI)},xD K H (ps.map fun p=>((.inr p.1:aE),D.int p.2)) hs->KV hs kvs->JD ps kvs
 | [],_,_,r,k=>by
  cases r;cases k;exact .nil
 | p::ps,_,_,r,k=>by
  cases r with
  | cons h r=>
   cases k with
   | cons h' k=>
    refine .cons ⟨h'.1.symm.trans h.1.symm,?_⟩ (D_ r k);have:=h.2;simp only[RD]at this;rw[<- this];exact h'.2
structure ItS(X:Cx)(pins:List (ML×Obj))(τ:St)(G:Gp)(H0:Hp)(S:ML)(ps:List (Str×Int))(i:Nat)(H:Hp)(s:MK)(acc:Array MI)(c:Nat)(vs:List V):Prop where
 inv:L2.Inv X pins τ H s
 kp:Kp G H0 G H
 rg:RG X.K H G
 fs:k9 X pins H S
 ls:s.heap.get? S=some { cls:=.type "list",dict:=none,data:=.seq acc c,slots:=#[] }
 rd:RDs X.K H ((ps.take i).map zY) vs
 wv:Vals vs acc.toList
theorem xg(h:k9 X pins H b)(e:b≠a):k9 X pins (aS H a o) b:=⟨by rw[aq e];exact h.1,h.2⟩
section
variable{X:Cx}{pins:List (ML×Obj)}{τ:St}{G:Gp}{H0:Hp}{S it d:ML}{ps:List (Str×Int)}{kvs:List (aE×MI)}{ep:Nat}{A:M3}{E:MI->MK->Prop}{s:MK}
theorem Gw(hh:A.handled=none)(hp:JD ps kvs)(hn:ps.length<=900000)(n1:it≠S)(n2:d≠it)(n3:d≠S)(res:MI):
  ∀ (k i:Nat) (H:Hp) (s:MK) (acc:Array MI) (c:Nat) (vs:List V) (f0 f1 ok ov:MI),ps.length - i=k->i<=ps.length->ItS X pins τ G H0 S ps i H s acc c vs->k9 X pins H it->s.heap.DictAt (aI X.prog X.w) d kvs ep->rq f0->mY s.heap it d i kvs.length ep f0 f1 ok ov->
  (∀ H' s' T1 c' vs',ItS X pins τ G H0 S ps ps.length H' s' T1 c' vs'->R (.ok (.ret res)) s')->
  Oa (MR X.prog X.w) A (.builtin "list.extend.loop" ⟨[.ref S,.ref it,res],[]⟩) R s:=by
 have hl:=hp.length;intro k
 induction k with
 | zero=>
  intro i H s acc c vs f0 f1 ok ov hk hi st fi dm lf ia hR;have e:i=ps.length:=by walk_at "o"
  subst e;refine O1 R_ ?_;rw[Os OT _];show MP _ A.in1 (Ob (.ref it) >>= _) _ _ s
  refine MH (Jb hh ia dm (by rw[hl];simp) fun h' x=>MJ (hR H _ acc c vs ?_))
  refine⟨st.inv.turnedL (t':=s.toks) (fp:=[it]) (fun b o hb e=>x b o (fun z=>hb (by rw[z];exact MZ)) e) (fun b hb=>by rw[Qt.mp hb];exact fi),st.kp,st.rg,st.fs,x _ _ n1.symm st.ls,st.rd,st.wv⟩
 | succ k ih=>
  intro i H s acc c vs f0 f1 ok ov hk hi st fi dm lf ia hR;have lt:i < ps.length:=by walk_at "o"
  have ep:ps[i]?=some ps[i]:=by simp[lt]
  obtain⟨v,ek,rv⟩:=hp.get ep;refine O1 R_ ?_;rw[Os OT _];show MP _ A.in1 (Ob (.ref it) >>= _) _ _ s
  refine MH (Gx ia lf dm ek fun key h' f0' f1' ok' ov' Th lf' ia' pr sz hk'=>?_);have la:acc.size=i:=by
   have:=st.wv.length;have h2:=st.rd.length;rw[MO,NV]at h2;rw[<- Array.length_toList];omega
  have fr:=st.inv.fresh;have rk:aD (.str ps[i].1) key:=by
   rcases cr Th with ⟨j,t,e,rfl⟩|⟨x,t,e,rfl⟩
   ·cases e
   ·cases e;exact⟨t,rfl⟩
  have vv:Vals [V.str ps[i].1,V.int ps[i].2] [key,v]:=.cons rk (.cons rv .nil);have I1:L2.Inv X pins τ (aS H s.heap.objs.size (.tup [V.str ps[i].1,V.int ps[i].2])) { s with heap:=s.heap.push { cls:=.type "tuple",data:=.seq #[key,v] } }:=
   st.inv.laid (t':=s.toks) (fun b u e=>MM _ e) (le_refl _) ⟨by rw[Nk];show 2<=_;omega,[key,v],vv,tZ.new _ _⟩
  have nS:S≠s.heap.objs.size:=Na (MS st.ls);have nI:it≠s.heap.objs.size:=Na (MS ia);have hS':=hk' S _ n1.symm st.ls;show MP _ A.in1 (updateSeq S (·.push (.ref s.heap.objs.size)) >>= _) _ _ _
  refine MH (QY hS' rfl (MJ ⟨Pi OT _,?_⟩) (by rw[la,Nk];omega) (by show (acc.push _).size<=MT+1;rw[Array.size_push,la,Nk];omega))
  have oth:∀ b o,b≠S->h'.get? b=some o->(h'.update S (NB (·.push (.ref s.heap.objs.size)))).get? b=some o:=fun b o hb e=>(M_ _ _ (Ne.symm hb)).trans e;have I2:L2.Inv X pins τ (aS H s.heap.objs.size (.tup [V.str ps[i].1,V.int ps[i].2])) { s with heap:=h'.update S (NB (·.push (.ref s.heap.objs.size))) }:=by
   refine Inv.turnedL (s:={ s with heap:=s.heap.push { cls:=.type "tuple",data:=.seq #[key,v] } }) (t':=s.toks) (fp:=[it,S]) I1 (fun b o hb e=>?_) fun b hb=>?_
   ·simp only[Nr,Nq,or_false,not_or]at hb;refine oth b o hb.2 ?_
    by_cases z:b=s.heap.objs.size
    ·subst z;rw[show (s.heap.push { cls:=.type "tuple",data:=.seq #[key,v] }).get? s.heap.objs.size=_ from MQ _ rfl]at e
     cases e;exact pr
    ·rw[QE _ _ _ z]at e;exact hk' b o hb.1 e
   ·simp only[Nr,Nq,or_false]at hb;rcases hb with rfl|rfl
    ·exact xg fi nI
    ·exact xg st.fs nS
  have kp1:Kp G H G (aS H s.heap.objs.size (.tup [V.str ps[i].1,V.int ps[i].2])):=Kp.laid fr;refine ih (i+1) _ _ (acc.push (.ref s.heap.objs.size)) _ (vs ++ [.ref s.heap.objs.size]) f0' f1' ok' ov' (by walk_at "o") lt ⟨I2,st.kp.trans kp1,st.rg.laid fr,xg st.fs nS,Nx _ hS' rfl,?_,?_⟩ (xg fi nI) ?_ lf' (oth _ _ n1 ia') hR
  ·rw[List.take_succ,ep,NN];have r1:=RDs.mono (kp1.stb st.rg) _ _ st.rd;have r2:RD X.K (aS H s.heap.objs.size (.tup [V.str ps[i].1,V.int ps[i].2])) (zY ps[i]) (.ref s.heap.objs.size):=k_ st.rg fr (RDs.cons (by simp only[RD]) (RDs.cons (by simp only[RD]) RDs.nil))
   exact RDs.append r1 (RDs.cons r2 RDs.nil)
  ·rw[Array.toList_push];exact Qk st.wv rfl
  ·obtain⟨o,es,e1,e2⟩:=dm;exact⟨o,es,oth _ _ n3 (hk' _ _ n2 e1),e2⟩
def La(X:Cx)(pins:List (ML×Obj))(τ:St)(G:Gp)(H:Hp)(S:ML)(ps:List (Str×Int))(q:Pz)(s':MK):Prop:=∃ H' acc c vs,q=.ok (.ret (.ref S))/\ItS X pins τ G H S ps ps.length H' s' acc c vs
theorem CF(hh:A.handled=none)(hp:JD ps kvs)(hn:ps.length<=900000)(I:L2.Inv X pins τ H s)(rg:RG X.K H G)(hv:s.heap.IsItemsView v d)(dm:s.heap.DictAt (aI X.prog X.w) d kvs ep)(k1:∀ b o,s.heap.get? b=some o->h1.get? b=some o)(z1:h1.objs.size=s.heap.objs.size+1)(hS₁:h1.get? s.heap.objs.size=some { cls:=.type "list",data:=.seq #[] }):
  MP (MR X.prog X.w) A.in1 (Q9 (.ref s.heap.objs.size) (.ref v) (.ref s.heap.objs.size))
   (fun fin s'=>match fin with|.done f=>La X pins τ G H s.heap.objs.size ps (.ok f) s'|.again c'=>c'.quiet=true/\Oa (MR X.prog X.w) A c' (La X pins τ G H s.heap.objs.size ps) s') (fun e s'=>La X pins τ G H s.heap.objs.size ps (.error e) s') { s with heap:=h1 }:=by
 have lv:v < s.heap.objs.size:=let ⟨_,e,_⟩:=hv;MS e;have ld:d < s.heap.objs.size:=let ⟨_,_,e,_⟩:=dm;MS e;have hv1:h1.IsItemsView v d:=let ⟨o,e,z⟩:=hv;⟨o,k1 _ _ e,z⟩;have dm1:h1.DictAt (aI X.prog X.w) d kvs ep:=let ⟨o,es,e,z⟩:=dm;⟨o,es,k1 _ _ e,z⟩;unfold Q9;refine MH (PV (T:="dict_items") (Rs (s:={ s with heap:=h1 }) hv1) ?_)
 have h1':Rk (.ref s.heap.objs.size) (.ref v)=false:=by simp[Rk,ON lv]
 have h2:(Value.type "dict_items" == Value.type "list")=false:=by decide
 have h3:(Value.type "dict_items" == Value.type "tuple")=false:=by decide
 simp only[h1',h2,h3,Bool.or_false,Bool.false_eq_true,if_false];refine MH (wpAny_pyIter_items (s:={ s with heap:=h1 }) (knd:=aI X.prog X.w) hv1 dm1 ?_)
 have hI₂:mY (h1.push { cls:=.type "dict_itemiterator",data:=.fields #[.none,.bool false,.ref d,.int 0 0,.int kvs.length 0,.int ep 0,.none,.none] }) h1.objs.size d 0 kvs.length ep .none (.bool false) .none .none:=MQ _ rfl;have k2:∀ b o,h1.get? b=some o->(h1.push { cls:=.type "dict_itemiterator",data:=.fields #[.none,.bool false,.ref d,.int 0 0,.int kvs.length 0,.int ep 0,.none,.none] }).get? b=some o:=fun b o e=>MM _ e;show MP _ _ (holding _ _ >>= _) _ _ { s with heap:=h1.push { cls:=.type "dict_itemiterator",data:=.fields #[.none,.bool false,.ref d,.int 0 0,.int kvs.length 0,.int ep 0,.none,.none] } }
 generalize h1.push { cls:=.type "dict_itemiterator",data:=.fields #[.none,.bool false,.ref d,.int 0 0,.int kvs.length 0,.int ep 0,.none,.none] }=h2' at hI₂ k2 ⊢;have hv2:h2'.IsItemsView v d:=let ⟨o,e,z⟩:=hv1;⟨o,k2 _ _ e,z⟩;refine MH (Nf (AV (Rs (s:={ s with heap:=h2' }) hv2) ?_))
 have key:∀ (h:M5) (c tk:Nat),(∀ b o,b≠s.heap.objs.size->h2'.get? b=some o->h.get? b=some o)->h.get? s.heap.objs.size=some { cls:=.type "list",data:=.seq #[] c }->
   Oa (MR X.prog X.w) A (.builtin "list.extend.loop" ⟨[.ref s.heap.objs.size,.ref h1.objs.size,.ref s.heap.objs.size],[]⟩) (La X pins τ G H s.heap.objs.size ps) { s with heap:=h,toks:=tk }:=fun h c tk hk hS=>by
  have I1:L2.Inv X pins τ H { s with heap:=h,toks:=tk }:=I.kept fun b u e=>hk b u (Na (MS e)) (k2 _ _ (k1 _ _ e))
  have fS:H s.heap.objs.size=none:=I.fresh;have fI:H h1.objs.size=none:=I.hok.fresh (by rw[z1];exact QD _)
  refine Gw (X:=X) (pins:=pins) (τ:=τ) (G:=G) (H0:=H) (ps:=ps) (kvs:=kvs) (ep:=ep) hh hp hn (by rw[z1];exact ON (OE _)) (by rw[z1];exact Na (Nat.lt_succ_of_lt ld)) (Na ld) _ ps.length 0 H _ #[] c [] .none (.bool false) .none .none (by walk_at "o") (NC _) ⟨I1,Kp.refl,rg,I.fpOk (le_refl _) fS,hS,RDs.nil,.nil⟩ (I.fpOk (by rw[z1];exact QD _) fI) ?_ (.inl rfl) ?_ fun H' s' T1 c' vs' st=>⟨H',T1,c',vs',rfl,st⟩
  ·obtain⟨o,es,e,z⟩:=dm1;exact⟨o,es,hk _ _ (Na ld) (k2 _ _ e),z⟩
  ·exact hk _ _ (by rw[z1];exact ON (OE _)) hI₂
 have hS₂:=k2 _ _ hS₁;refine QZ (fun _=>?_) (fun _=>MJ ⟨Pi OT _,key _ 0 s.toks (fun b o _ e=>e) hS₂⟩);refine MH (PX (MH ?_));show MP _ _ (updateSeq s.heap.objs.size (·.push .none) >>= fun _=>updateSeq s.heap.objs.size (·.pop)) _ _ _
 refine MH (QY hS₂ rfl ?_);have hS₃:=Nx (NB (·.push Value.none)) hS₂ rfl;refine QY (hz:=by seq_fits) hS₃ rfl ?_
 have hS₄:=Nx (NB (·.pop)) hS₃ rfl;refine MJ ⟨Pi OT _,key _ _ s.toks (fun b o hb e=>?_) hS₄⟩;exact (M_ _ _ (Ne.symm hb)).trans ((M_ _ _ (Ne.symm hb)).trans e)
theorem AS(hh:A.handled=none)(hp:JD ps kvs)(hn:ps.length<=900000)(I:L2.Inv X pins τ H s)(rg:RG X.K H G)(hv:s.heap.IsItemsView v d)(dm:s.heap.DictAt (aI X.prog X.w) d kvs ep)(q:∀ H' s' us vs,L2.Inv X pins τ H' s'->Kp G H G H'->RG X.K H' G->RDs X.K H' (ps.map zY) vs->Vals vs us->Q us s'):MP (MR X.prog X.w) A (collect (.ref v)) Q E s:=by
 unfold collect;refine MH (wpAny_runValue (O1 F.entry_proto_collect ?_));rw[Os F.plain_proto_collect _];show MP _ A.in1 (newList [] >>= fun l=>again (.builtin "list.__iadd__" ⟨[l,.ref v],[]⟩)) _ _ s
 refine MH (Nd (MJ ⟨Pi SH _,O1 F.entry_list_iadd ?_⟩));rw[Os SH _];have key:=CF (A:=A) (h1:=s.heap.push { cls:=.type "list",data:=.seq ([]:List MI).toArray }) hh hp hn I rg hv dm (fun b o e=>MM _ e) (NT ..) (MQ _ rfl);have fin:∀ f s',La X pins τ G H s.heap.objs.size ps (.ok f) s'->f=.ret (.ref s.heap.objs.size)/\MP (MR X.prog X.w) A (load s.heap.objs.size >>= fun o=>match o.data with|.seq its _=>pure its.toList|_=>unsupported "internal:collect") Q E s':=fun f s' ⟨H',acc,c,vs,e,st⟩=>by
  cases e;refine⟨rfl,MH (Sc st.ls (MJ (q H' s' _ vs st.inv st.kp st.rg ?_ st.wv)))⟩;have:=st.rd;rwa[NF]at this
 refine Nh key (fun fn s' x=>?_) fun e s' x=>?_
 ·cases fn with
  | done f=>
   obtain⟨rfl,y⟩:=fin f s' x;exact y
  | again c₁=>
   refine⟨x.1,Od x.2 fun q' s₂ y=>?_⟩;cases q' with
   | ok f=>
    obtain⟨rfl,y2⟩:=fin f s₂ y;exact y2
   | error e=>
    obtain⟨_,_,_,_,e',_⟩:=y;cases e'
 ·obtain⟨_,_,_,_,e',_⟩:=x;cases e'
theorem xX(hu:X.A.units+8 < ND)(hz:ps.length < 64)(col:∀ {E':MI->MK->Prop} {Q':List MI->MK->Prop},(∀ H' s' us vs,L2.Inv X pins τ H' s'->Kp G H G H'->RG X.K H' G->RDs X.K H' (ps.map zY) vs->Vals vs us->Q' us s')->MP (MR X.prog X.w) X.A.in1 (collect src) Q' E' s)(k:∀ D0 H' s' vs,L2.Inv X pins τ H' s'->Kp G H G H'->RG X.K H' G->G D0=none->H' D0=some (.lst vs)->HH G H D0->RDs X.K H' ((Aj ps).map zY) vs->Q (.ref D0) s'):
  MP (MR X.prog X.w) X.A (call (.builtin "sorted") [src]) Q E s:=by
 refine Calls.call_function_entry kind_sorted plain_sorted entry_sorted (args_sorted1 _) ?_;unfold Builtin.«sorted»;refine MH (m:=checkCount "sorted" 1 1 _) (MJ ?_);refine MH (col fun H1 s1 us vs I1 kp1 rg1 rd wv=>?_);have l1:=rd.length;have l2:=wv.length;rw[MO]at l1;refine MH (Qs ?_ (by rw[Nk];omega))
 have fD:=I1.fresh;have I2:=lu (t':=s1.toks) (o:=NK "list" us.toArray 0) I1 rfl rfl;have st:Stb X.K H1 (aS H1 s1.heap.objs.size (XO s1.heap.objs.size (NK "list" us.toArray 0))):=(Kp.laid (G:=G) fD).stb rg1;refine MH (Nf (Ny slot_list_sort ⟨_,hJ I2 aB,rfl⟩ entry_list_sort ?_ (args_list_sort _)));have at_:∀ (i:Nat) a,(ps.map zY)[i]?=some a->∃ x,ps[i]?=some x/\a=zY x:=fun i a e=>by
  rw[Nc]at e;cases h:ps[i]? with
  | none=>rw[h]at e;cases e
  | some x=>rw[h]at e;cases e;exact⟨x,rfl,rfl⟩
 refine B3 (A:=X.A.in1.in1) (r:=fun i=>rankIn Hr ps (ps.getD i (MN "",0))) I2 (rg1.laid fD) (Kp.laid fD) fD (rg1.free fD) (by show X.A.units+1+1+4 < ND;omega) aB (RDs.mono st _ _ rd) wv (by rw[MO];exact hz) (fun d hd=>?_) (fun a ha b hb'=>?_) (fun i j a b ha hb'=>?_) fun p H' s' hp' hs I' kp' rg' e' st'=>⟨_,rfl,?_⟩
 ·obtain⟨x,_,rfl⟩:=mem_map.mp hd;exact⟨_,_,rfl⟩
 ·obtain⟨x,_,rfl⟩:=mem_map.mp ha;obtain⟨y,_,rfl⟩:=mem_map.mp hb';exact J9 _ _
 ·obtain⟨x,ex,rfl⟩:=at_ i a ha;obtain⟨y,ey,rfl⟩:=at_ j b hb';rw[J8];have g1:ps.getD i (MN "",0)=x:=by rw[M4,ex];rfl
  have g2:ps.getD j (MN "",0)=y:=by rw[M4,ey];rfl
  rw[g1,g2];exact rank_lt AA.swo (M6 ex)
 ·rw[MO]at hp';have inr:∀ i∈p,i < ps.length:=fun i hi=>mem_range.mp (hp'.mem_iff.mp hi);have key:Aj ps=p.map fun i=>ps.getD i (MN "",0):=by
   refine FC ?_ ?_
   ·have:=hp'.map fun i=>ps.getD i (MN "",0);rwa[range_getD ps (MN "",0)]at this
   ·unfold Srt;rw[Pt]at hs ⊢;refine List.Pairwise.imp_of_mem (fun {i j} hi hj hij=>?_) hs;have m:ps.getD j (MN "",0)∈ps:=by
     rw[M4,MX (inr j hj)];exact Po _
    rw[rank_lt AA.swo m,decide_eq_false_iff_not,not_lt];exact hij
  refine MJ ⟨_,rfl,k _ H' s' _ I' (kp1.trans kp') rg' (rg1.free fD) e' (kp1.fr (oE fD)) ?_⟩;have fin:=wS (p:=p) (RDs.mono st' _ _ (RDs.mono st _ _ rd)) fun i hi=>by rw[<- l1];exact inr i hi
  have e3:(p.map fun i=>(ps.map zY).getD i .non)=(Aj ps).map zY:=by
   rw[key,NH];refine N5 fun i hi=>?_;have:=inr i hi;simp[M4,this]
  rw[e3]at fin;exact fin
end
def AZ(to:aZ):aZ:=fun σ G Q=>to σ G fun x G1=>match val x with
 | .ref a=>match G1 a with
  | some (.dK kvs)=>∃ ps:List (Str×Int),kvs=ps.map (fun p=>((.inr p.1:aE),D.int p.2))/\ps.length < 64/\Q (.fl ((Aj ps).map zY)) G1
  | _=>False
 | _=>False
theorem F6{X:Cx}{o:M9}{to:aZ}{p0 apos cpos pos:Pos}(hu:X.A.units+8 < ND)(hc:X.calm=true)(hg:Gl X "sorted")(hm:X.mg "sorted"=none)(ho:PE X o (az X.K to))
  (SQ:Oi o "items" X.env (eval o X.env)=eval o X.env:=by rfl) (SW:(apos.endLine == cpos.line)=true:=by rfl):
  PE X (.Call (.Name "sorted" p0) [.Call (.Attribute o "items" apos) [] [] cpos] [] pos) (az X.K (AZ to)):=by
 rintro pins s τ H Q I ⟨σ,G,Q3,rs,rg,h,kf⟩
 refine NY (g_ I hg hm (u:=.builtin "sorted") (by decide +kernel) ?_ (by decide) (by decide))
 refine PyProof.Rows.callWith_builtin1 ?_ (by rfl) (by rfl)
 show MP _ _ (spliced [(false,eval (.Call (.Attribute o "items" apos) [] [] cpos) X.env)]) _ _ _
 refine On (Rl SQ SW (bZ (dB ho I rs rg h) fun ov s1 ⟨ox,H1,I1,rox,x,G1,q1,k1,rg1,rd1⟩=>?_));split at q1
 ·rename_i a hx;rw[hx]at rd1;simp only[RD]at rd1;subst rd1;cases rox;split at q1
  ·rename_i kvs hga;obtain⟨ps,rfl,hz,q1⟩:=q1;obtain⟨hob,eo,ro⟩:=rg1 a _ hga;cases hob with
   | dK hs=>
    obtain⟨_,hsm,vs,kv,dof⟩:=(show bC X.prog X.w H1 s1.heap a (.dK hs)from I1.hok a _ eo)
    have hp:=D_ (show xD X.K H1 _ hs from ro) kv
    obtain⟨o1,es,ep,g1,g2,g3,g4⟩:=id dof;have dat:s1.heap.DictAt (aI X.prog X.w) a vs ep:=⟨o1,es,g1,g2,g3,g4⟩;have ty:s1.TypeIs (.ref a) "dict":=⟨o1,g1,g2.1⟩;refine⟨"dict","dict.items",PySem.F.plainAttrs_dict,PySem.F.slot_dict_items,PySem.F.type_dict_items,ty,fun b e=>?_,?_⟩
    ·cases e;exact⟨o1,g1,g2.2.1⟩
    ·refine O_ rfl (PySem.evalArgs_none (P6 PySem.F.slot_dict_items ty PySem.F.entry_dict_items (PySem.F.args_dict_items_1 _) (meets_dict_items (aI X.prog X.w) a hsm) ⟨⟨_,dof⟩,?_⟩));refine OK ?_;have I2:L2.Inv X pins τ H1 { s1 with heap:=s1.heap.push { cls:=.type "dict_items",data:=.fields #[.ref a] } }:=I1.kept (t':=s1.toks) fun b u e=>MM _ e
     refine xX hu hz (fun {E' Q'} q'=>AS (I.ok.hd hc) hp (by walk_at "o") I2 rg1 ⟨_,MQ _ rfl,rfl,rfl⟩ ⟨o1,es,MM _ g1,g2,g3,g4⟩ q') fun D0 H' s' vs I' kp' rg' n0 e' fr' rd'=>?_
     exact⟨.ref D0,H',I',rfl,kf _ G1 _ H' q1 (k1.trans kp') rg' (.inl ⟨_,D0,_,rfl,rfl,e',n0,rd',k1.fr fr'⟩)⟩
   | _=>exact ro.elim
  ·exact q1.elim
 ·exact q1.elim
end L3
namespace RQ
open PySem PySem.Spec PyProof.Rows L2 L3
section
variable{α:Type}
def ee(l:List (Sl×α))(k:Sl):Option α:=(l.find? fun p=>decide (p.1=k)).map (·.2)
def lK(l:List (Sl×α))(k:Sl)(v:α):List (Sl×α):=if (l.any fun p=>decide (p.1=k))=true then l.map (fun p=>if p.1=k then (p.1,v)else p)else l ++ [(k,v)]
def bH(l m:List (Sl×α)):List (Sl×α):=m.foldl (fun a p=>lK a p.1 p.2) l
def aM(f:α->D)(l:List (Sl×α)):List (List aE×D):=l.map fun p=>(p.1.key,f p.2)
theorem BV(f:α->D)(k:Sl):∀ l:List (Sl×α),((aM f l).any fun kv=>decide (kv.1=k.key))=l.any fun p=>decide (p.1=k)
 | []=>rfl
 | p::r=>by
  have ih:=BV f k r;unfold aM at ih ⊢;simp only[M8,Qj,ih];congr 1
  by_cases e:p.1=k
  ·rw[decide_eq_true e,decide_eq_true (by rw[e])]
  ·rw[decide_eq_false e,decide_eq_false (fun z=>e (Sl.key_inj z))]
theorem yN(f:α->D)(l:List (Sl×α))(k:Sl)(v:α):bu (aM f l) k.key (f v)=aM f (lK l k v):=by
 unfold bu lK;rw[BV];split
 ·unfold aM;rw[NH,NH];refine N5 fun p _=>?_;simp only[Function.comp]
  by_cases e:p.1=k
  ·rw[if_pos e,if_pos (by rw[e])]
  ·rw[if_neg e,if_neg (fun z=>e (Sl.key_inj z))]
 ·unfold aM;rw[NN];rfl
theorem BS(f:α->D)(k:Sl):∀ l:List (Sl×α),dF (aM f l) k.key=(ee l k).map f
 | []=>rfl
 | p::r=>by
  have ih:=BS f k r;unfold aM ee dF at *
  by_cases e:p.1=k
  ·simp[No,e]
  ·have e':¬ p.1.key=k.key:=fun z=>e (Sl.key_inj z);simp only[M8,No,decide_eq_false e,decide_eq_false e'];exact ih
theorem tT(f:α->D)(m:List (Sl×α)):dictOf (aM f m)=aM f (bH [] m):=by
 unfold dictOf bH;have:∀ (m l:List (Sl×α)),(aM f m).foldl (fun a kv=>bu a kv.1 kv.2) (aM f l)=aM f (m.foldl (fun a p=>lK a p.1 p.2) l):=by
  intro m
  induction m with
  | nil=>intro l;rfl
  | cons p r ih=>
   intro l;unfold aM at ih ⊢;simp only[M8,P5];have:=yN f l p.1 p.2;unfold aM at this;rw[this];exact ih _
 exact this m []
theorem GU(l:List (Sl×α))(k j:Sl)(v:α):ee (lK l k v) j=if j=k then some v else ee l j:=by
 unfold lK;split
 ·rename_i h
  induction l with
  | nil=>simp at h
  | cons p r ih=>
   simp only[M8,ee,No]
   by_cases e:p.1=k
   ·rw[if_pos e]
    by_cases ej:j=k
    ·rw[if_pos ej];simp[e,ej]
    ·rw[if_neg ej];have e2:¬ p.1=j:=fun z=>ej (z.symm.trans e);simp only[decide_eq_false e2];clear ih h
     induction r with
     | nil=>rfl
     | cons q t ih2=>
      simp only[M8,No]
      by_cases e3:q.1=k
      ·rw[if_pos e3];have e4:¬ q.1=j:=fun z=>ej (z.symm.trans e3);simp only[decide_eq_false e4];exact ih2
      ·rw[if_neg e3]
       by_cases e4:q.1=j
       ·simp[e4]
       ·simp only[decide_eq_false e4];exact ih2
   ·rw[if_neg e];simp only[Qj,decide_eq_false e,Bool.false_or]at h;have ih':=ih h;unfold ee at ih'
    by_cases e2:p.1=j
    ·have ej:¬ j=k:=fun z=>e (e2.trans z);rw[if_neg ej];simp[e2]
    ·simp only[decide_eq_false e2];exact ih'
 ·rename_i h;have hn:∀ p∈l,p.1≠k:=fun p hp z=>h (List.any_eq_true.mpr ⟨p,hp,decide_eq_true z⟩);unfold ee;rw[List.find?_append]
  by_cases ej:j=k
  ·rw[if_pos ej];have:l.find? (fun p=>decide (p.1=j))=none:=List.find?_eq_none.mpr fun p hp=>by simpa using fun z=>hn p hp (z.trans ej)
   rw[this];simp[ej]
  ·rw[if_neg ej];cases l.find? (fun p=>decide (p.1=j)) with
   | some p=>rfl
   | none=>
    have ek:¬ k=j:=fun z=>ej z.symm;simp[ek]
theorem DV{l:List (Sl×α)}{k:Sl}{v:α}{p:Sl×α}(h:p∈lK l k v):p∈l\/p=(k,v):=by
 unfold lK at h;split at h
 ·obtain⟨q,hq,e⟩:=mem_map.mp h;split at e
  ·rename_i z;exact .inr (by rw[<- e,z])
  ·exact .inl (e ▸ hq)
 ·rcases Sm.mp h with h|h
  ·exact .inl h
  ·exact .inr (Qt.mp h)
theorem Cd:∀ {l:List (Sl×α)} {p:Sl×α},p∈bH l m->p∈l\/p∈m:=by
 induction m with
 | nil=>intro l p h;exact .inl h
 | cons q r ih=>
  intro l p h;rcases ih (l:=lK l q.1 q.2) h with h|h
  ·rcases DV h with h|h
   ·exact .inl h
   ·exact .inr (h ▸ MZ)
  ·exact .inr (MW _ h)
theorem BU{l:List (Sl×α)}{k:Sl}{v:α}(h:ee l k=some v):(k,v)∈l:=by
 unfold ee at h;cases e:l.find? fun p=>decide (p.1=k) with
 | none=>rw[e]at h;cases h
 | some p=>
  rw[e]at h;cases h;have h1:=List.mem_of_find?_eq_some e;have h2:=List.find?_some e;have:p.1=k:=of_decide_eq_true h2;rw[<- this];exact h1
theorem Fc{l:List (Sl×α)}{p:Sl×α}(h:p∈l):∃ v,ee l p.1=some v:=by
 unfold ee;cases e:l.find? fun q=>decide (q.1=p.1) with
 | none=>exact absurd (List.find?_eq_none.mp e p h) (by simp)
 | some q=>exact⟨q.2,rfl⟩
theorem DW(l:List (Sl×α))(k:Sl)(v:α):(lK l k v).length<=l.length+1:=by
 unfold lK;split<;>simp
theorem dz(m:List (Sl×α)):∀ l:List (Sl×α),(bH l m).length<=l.length+m.length:=by
 induction m with
 | nil=>intro l;exact le_refl _
 | cons p r ih=>
  intro l;have h1:=ih (lK l p.1 p.2);have h2:=DW l p.1 p.2;show (bH (lK l p.1 p.2) r).length<=_
  rw[M1];omega
theorem ff(l a b:List (Sl×α)):bH l (a ++ b)=bH (bH l a) b:=by unfold bH;rw[List.foldl_append]
theorem mL(l a:List (Sl×α))(p:Sl×α):bH l (a ++ [p])=lK (bH l a) p.1 p.2:=by rw[ff];rfl
end
def LJ(c:Nat):Str:=⟨#[c]⟩
def B7(x:Str):List Str:=x.cps.toList.map LJ
def b9(s:Sk):List (Sl×Str):=match s.act with
 | .put _ x=>(made s).zip (B7 x)
 | _=>[]
def iL(s:Sk):List (Sl×Unit):=match s.act with
 | .strike ns=>ns.map fun n=>(n,())
 | _=>[]
def my(s:Sk):List (Sl×Sl):=match s.act with
 | .move ns _=>ns.zip (made s)
 | _=>[]
def o0(s:Sk):List (Sl×Str):=match s.act with
 | .dress ns w=>ns.map fun n=>(n,w)
 | _=>[]
def Sk.wd(s:Sk):Nat:=match s.act with
 | .put _ x=>x.length
 | .strike ns=>ns.length
 | .dress ns _=>ns.length
 | .move ns _=>ns.length
def aF(x:Str)(o:List Sk):List (Sl×Str):=bH [] ((fK x.length).zip (B7 x) ++ o.flatMap b9)
def bv(o:List Sk):List (Sl×Unit):=bH [] (o.flatMap iL)
def cN(o:List Sk):List (Sl×Sl):=bH [] (o.flatMap my)
def fY(o:List Sk):List (Sl×Str):=bH [] (o.flatMap o0)
abbrev Nm:=Str×Int
def Nm.d(n:Nm):D:=.tup [.str n.1,.int n.2]
def Nm.key(n:Nm):List aE:=[.inr n.1,.inl n.2]
def Sk.nm(s:Sk):Nm:=(s.pen,s.num)
def jl(row:List Sl)(s:Sk):Bool:=(made s).all fun x=>decide (x∈row)
def eY(out:List Sk)(names:List Nm)(row:List Sl):List Sk:=(out.filter fun s=>decide (s.nm∈names)).filter (jl row)
def cy(x:Str)(w:List Sk):List (Sl×Sl):=bH [] (((aF x w).filter fun p=>(ee (bv w) p.1).isNone).map fun p=>((ee (cN w) p.1).getD p.1,p.1))
set_option genInjectivity false in
structure Seat where
 slot:Sl
 name:Sl
 sign:Str
 word:Str
def Seat.d(s:Seat):D:=.tup [s.slot.d,s.name.d,.str s.sign,.str s.word]
def jg(x:Str)(w:List Sk)(row:List Sl):List (Sl×Sl):=row.filterMap fun s=>(ee (cy x w) s).map fun n=>(s,n)
def cH(x:Str)(out:List Sk)(names:List Nm):List Seat:=
 (jg x (eY out names (gP x.length out)) (gP x.length out)).map fun p=>⟨p.1,p.2,(ee (aF x (eY out names (gP x.length out))) p.2).getD "",(ee (fY (eY out names (gP x.length out))) p.2).getD ""⟩
def eZ(i:Nat):Ng:=PySem.Challenge.pw_redquill_k54_out_of_place.main.body.getD i (.Pass ⟨0,0,0,0⟩)
def k_START:D:=.tup [.str "",.int 0,.int 0]
def k_WAITS:D:=.str "waits"
def k_WIPED:D:=.str "wiped"
theorem tK:fw ["name","time","anchor","names"] [a0,a1,a2,a3] "name"=some a0:=by kernel_rfl
theorem tJ:fw ["name","time","anchor","names"] [a0,a1,a2,a3] "time"=some a1:=by kernel_rfl
theorem pU:fw ["name","time","anchor","names"] [a0,a1,a2,a3] "anchor"=some a2:=by kernel_rfl
theorem rm:fw ["name","time","anchor","names"] [a0,a1,a2,a3] "names"=some a3:=by kernel_rfl
theorem wz:iZ [] "name"=(["name"]:List Str):=by kernel_rfl
theorem wE:gW [] [] "name" x=[x]:=by kernel_rfl
theorem wy:iZ ["name"] "time"=(["name","time"]:List Str):=by kernel_rfl
theorem wD:gW ["name"] [a0] "time" x=[a0,x]:=by kernel_rfl
theorem wx:iZ ["name","time"] "anchor"=(["name","time","anchor"]:List Str):=by kernel_rfl
theorem wC:gW ["name","time"] [a0,a1] "anchor" x=[a0,a1,x]:=by kernel_rfl
theorem ww:iZ ["name","time","anchor"] "names"=(["name","time","anchor","names"]:List Str):=by kernel_rfl
theorem wB:gW ["name","time","anchor"] [a0,a1,a2] "names" x=[a0,a1,a2,x]:=by kernel_rfl
theorem zw:fw ["name","time","anchor","names","signs"] [a0,a1,a2,a3,a4] "name"=some a0:=by kernel_rfl
theorem zt:fw ["name","time","anchor","names","signs"] [a0,a1,a2,a3,a4] "time"=some a1:=by kernel_rfl
theorem uO:fw ["name","time","anchor","names","signs"] [a0,a1,a2,a3,a4] "anchor"=some a2:=by kernel_rfl
theorem xh:fw ["name","time","anchor","names","signs"] [a0,a1,a2,a3,a4] "signs"=some a4:=by kernel_rfl
theorem Cj:iZ ["name","time","anchor","names"] "anchor"=(["name","time","anchor","names"]:List Str):=by kernel_rfl
theorem Cm:gW ["name","time","anchor","names"] [a0,a1,a2,a3] "anchor" x=[a0,a1,x,a3]:=by kernel_rfl
theorem Ci:iZ ["name","time","anchor","names"] "signs"=(["name","time","anchor","names","signs"]:List Str):=by kernel_rfl
theorem Ck:gW ["name","time","anchor","names"] [a0,a1,a2,a3] "signs" x=[a0,a1,a2,a3,x]:=by kernel_rfl
theorem wA:iZ ["name","time","anchor","names"] "names"=(["name","time","anchor","names"]:List Str):=by kernel_rfl
theorem wF:gW ["name","time","anchor","names"] [a0,a1,a2,a3] "names" x=[a0,a1,a2,x]:=by kernel_rfl
theorem uR:fw ["name","time","anchor","names","word"] [a0,a1,a2,a3,a4] "name"=some a0:=by kernel_rfl
theorem uQ:fw ["name","time","anchor","names","word"] [a0,a1,a2,a3,a4] "time"=some a1:=by kernel_rfl
theorem tL:fw ["name","time","anchor","names","word"] [a0,a1,a2,a3,a4] "names"=some a3:=by kernel_rfl
theorem uP:fw ["name","time","anchor","names","word"] [a0,a1,a2,a3,a4] "word"=some a4:=by kernel_rfl
theorem yP:iZ ["name","time","anchor","names"] "word"=(["name","time","anchor","names","word"]:List Str):=by kernel_rfl
theorem yQ:gW ["name","time","anchor","names"] [a0,a1,a2,a3] "word" x=[a0,a1,a2,a3,x]:=by kernel_rfl
def ar:List Str:=["old","drawn","states","greatest","time"]
theorem oN:uY ar "old" 0:=oz (by decide +kernel)
theorem dY:uY ar "drawn" 1:=oz (by decide +kernel)
theorem jM:uY ar "states" 2:=oz (by decide +kernel)
theorem fj:uY ar "greatest" 3:=oz (by decide +kernel)
theorem iG:uY ar "time" 4:=oz (by decide +kernel)
theorem i6:("strokes":Str)∉ar:=by decide +kernel
theorem pG:("numbers":Str)∉ar:=by decide +kernel
theorem gY:("last_time":Str)∉ar:=by decide +kernel
theorem i5:("unwiped":Str)∉ar:=by decide +kernel
theorem mi:("view":Str)∉ar:=by decide +kernel
theorem bW:("seats":Str)∉ar:=by decide +kernel
theorem cJ:("coming_name":Str)∉ar:=by decide +kernel
theorem cI:("coming_time":Str)∉ar:=by decide +kernel
theorem fU:("draw":Str)∉ar:=by decide +kernel
theorem d7:("put":Str)∉ar:=by decide +kernel
theorem gl:("strike":Str)∉ar:=by decide +kernel
theorem kN:("dress":Str)∉ar:=by decide +kernel
theorem iE:("move":Str)∉ar:=by decide +kernel
theorem mj:("part":Str)∉ar:=by decide +kernel
abbrev bG:Ng:=aU (eZ 3) 0
theorem jj:FnScope ["self","at"] ["self","at"] (ah bG):=by walk_at "j"
abbrev qg:Ng:=eZ 7
theorem ng:FnScope ["at","length"] ["at","length"] (ah qg):=by walk_at "j"
abbrev jy:Ng:=eZ 8
theorem iM:FnScope ["at","to","length"] ["at","to","length"] (ah jy):=by walk_at "j"
abbrev nl:Ng:=eZ 11
theorem um:FnScope ["name","how_many"] ["name","how_many"] (ah nl):=by walk_at "j"
theorem qU:((["k"]:List Str) ++ (["name","how_many"]:List Str)).Nodup:=by decide +kernel
abbrev qc:Ng:=eZ 17
theorem gF:FnScope ["row","name","time","act"] ["row"] (ah qc):=by walk_at "j"
abbrev iN:Ng:=eZ 18
theorem m_:FnScope ["row"] ["row"] (ah iN):=by walk_at "j"
abbrev rX:Ng:=eZ 19
theorem kg:FnScope ["rows","by_name","row"] ["rows"] (ah rX):=by walk_at "j"
abbrev qd:Ng:=eZ 21
theorem v9:FnScope ["old"] ["old"] (ah qd):=by walk_at "j"
abbrev no:Ng:=eZ 22
theorem fQ:FnScope ["following","anchor","slots","behind","slot"] ["following","anchor","slots"] (ah no):=by walk_at "j"
abbrev ve:Ng:=eZ 23
theorem ji:FnScope ["following","row","slot"] ["following"] (ah ve):=by walk_at "j"
abbrev rW:Ng:=eZ 24
theorem ke:FnScope ["old","strokes","following","stroke"] ["old","strokes"] (ah rW):=by walk_at "j"
theorem uE:((["row"]:List Str) ++ (["old","strokes","following","stroke"]:List Str)).Nodup:=by decide +kernel
abbrev x_:Ng:=eZ 26
theorem B_:FnScope ["keys"] ["keys"] (ah x_):=by walk_at "j"
theorem yY:((["key"]:List Str) ++ (["keys"]:List Str)).Nodup:=by decide +kernel
abbrev qe:Ng:=eZ 27
theorem v_:FnScope ["stroke","in_row"] ["stroke","in_row"] (ah qe):=by walk_at "j"
theorem sK:((["slot"]:List Str) ++ (["stroke","in_row"]:List Str)).Nodup:=by decide +kernel
abbrev qf:Ng:=eZ 28
theorem jh:FnScope ["strokes","standing","in_row","stands","chosen"] ["strokes","standing","in_row"] (ah qf):=by walk_at "j"
theorem sM:((["row"]:List Str) ++ (["strokes","standing","in_row","stands","chosen"]:List Str)).Nodup:=by decide +kernel
theorem sL:((["stroke"]:List Str) ++ (["strokes","standing","in_row","stands","chosen"]:List Str)).Nodup:=by decide +kernel
abbrev jw:Ng:=eZ 29
theorem cY:FnScope ["old","strokes","brought","stroke","name","sign"] ["old","strokes"] (ah jw):=by walk_at "j"
abbrev km:Ng:=eZ 30
theorem eG:FnScope ["strokes","struck","stroke","name"] ["strokes"] (ah km):=by walk_at "j"
abbrev lS:Ng:=eZ 31
theorem dN:FnScope ["strokes","taken","stroke","name","slot"] ["strokes"] (ah lS):=by walk_at "j"
abbrev nk:Ng:=eZ 32
theorem fP:FnScope ["strokes","worn","stroke","name"] ["strokes"] (ah nk):=by walk_at "j"
abbrev x9:Ng:=eZ 33
theorem dy:FnScope ["old","strokes","standing","row","working","brought","struck","taken","worn","sitting","name","seats"] ["old","strokes","standing"] (ah x9):=by walk_at "j"
theorem yX:((["slot"]:List Str) ++ (["old","strokes","standing","row","working","brought","struck","taken","worn","sitting","name","seats"]:List Str)).Nodup:=by decide +kernel
theorem qt:((["slot","name"]:List Str) ++ (["old","strokes","standing","row","working","brought","struck","taken","worn","sitting","-name","seats"]:List Str)).Nodup:=by decide +kernel
abbrev vc:Ng:=eZ 34
theorem Am:FnScope ["old","strokes","standing"] ["old","strokes","standing"] (ah vc):=by walk_at "j"
theorem wO:((["seat"]:List Str) ++ (["old","strokes","standing"]:List Str)).Nodup:=by decide +kernel
abbrev qh:Ng:=eZ 39
theorem wa:FnScope ["seats","at"] ["seats","at"] (ah qh):=by walk_at "j"
abbrev jx:Ng:=eZ 40
theorem o8:FnScope ["seats","at","to"] ["seats","at","to"] (ah jx):=by walk_at "j"
theorem mN:((["seat"]:List Str) ++ (["seats","at","to"]:List Str)).Nodup:=by decide +kernel
abbrev ko:Ng:=eZ 43
theorem qJ:FnScope ["_law_script","_law_k"] ["_law_script","_law_k"] (ah ko):=by walk_at "j"
abbrev lT:Ng:=eZ 44
theorem dO:FnScope ["_law_cell","_law_many","_law_found","_law_number_here","_law_k"] ["_law_cell","_law_many"] (ah lT):=by walk_at "j"
abbrev lU:Ng:=eZ 45
theorem rT:FnScope ["_law_x","_law_cell","_law_many"] ["_law_x","_law_cell","_law_many"] (ah lU):=by walk_at "j"
abbrev rY:Ng:=eZ 46
theorem xZ:FnScope ["_law_word","_law_at","_law_to","_law_goal","_law_many"] ["_law_word","_law_at","_law_to","_law_goal","_law_many"] (ah rY):=by walk_at "j"
abbrev vf:Ng:=eZ 47
theorem rU:FnScope ["_law_paper","_law_word","_law_at","_law_to","_law_goal"] ["_law_paper","_law_word","_law_at","_law_to","_law_goal"] (ah vf):=by walk_at "j"
abbrev nq:Ng:=eZ 48
theorem fR:FnScope ["_law_paper","_law_word","_law_at","_law_to","_law_goal","_law_found","e"] ["_law_paper","_law_word","_law_at","_law_to","_law_goal"] (ah nq):=by walk_at "j"
abbrev lV:Ng:=eZ 49
theorem e9:FnScope ["_law_paper","_law_word","_law_at","_law_to","_law_goal","_law_found","e"] ["_law_paper","_law_word","_law_at","_law_to","_law_goal"] (ah lV):=by walk_at "j"
abbrev rZ:Ng:=eZ 50
theorem x6:FnScope ["_law_paper"] ["_law_paper"] (ah rZ):=by walk_at "j"
abbrev vd:Ng:=eZ 51
theorem e8:FnScope ["_law_script","_law_first","_law_old","_law_paper","_law_cell","_law_xs","_law_ahead","_law_many","_law_word","_law_at","_law_to","_law_goal","_law_due_here"] ["_law_script"] (ah vd):=by walk_at "j"
abbrev fb:Ng:=aU (eZ 12) 0
theorem mB:FnScope ["self","name","time"] ["self","name","time"] (ah fb):=by walk_at "j"
abbrev dP:Ng:=aU (eZ 12) 1
theorem qK:FnScope ["self"] ["self"] (ah dP):=by walk_at "j"
abbrev bN:Ng:=aU (eZ 12) 2
theorem nh:FnScope ["self"] ["self"] (ah bN):=by walk_at "j"
abbrev kq:Ng:=aU (eZ 13) 0
theorem qL:FnScope ["self","name","time","anchor","signs"] ["self","name","time","anchor","signs"] (ah kq):=by walk_at "j"
abbrev qi:Ng:=aU (eZ 13) 1
theorem wb:FnScope ["self"] ["self"] (ah qi):=by walk_at "j"
abbrev vg:Ng:=aU (eZ 13) 3
theorem An:FnScope ["self"] ["self"] (ah vg):=by walk_at "j"
abbrev ic:Ng:=aU (eZ 14) 0
theorem mC:FnScope ["self","name","time","names"] ["self","name","time","names"] (ah ic):=by walk_at "j"
abbrev nr:Ng:=aU (eZ 14) 1
theorem uo:FnScope ["self"] ["self"] (ah nr):=by walk_at "j"
abbrev iP:Ng:=aU (eZ 15) 0
theorem nj:FnScope ["self","name","time","names","word"] ["self","name","time","names","word"] (ah iP):=by walk_at "j"
abbrev qk:Ng:=aU (eZ 15) 1
theorem we:FnScope ["self"] ["self"] (ah qk):=by walk_at "j"
abbrev jC:Ng:=aU (eZ 16) 0
theorem pd:FnScope ["self","name","time","names","anchor"] ["self","name","time","names","anchor"] (ah jC):=by walk_at "j"
abbrev nA:Ng:=aU (eZ 16) 1
theorem ut:FnScope ["self"] ["self"] (ah nA):=by walk_at "j"
abbrev r0:Ng:=aU (eZ 16) 2
theorem x8:FnScope ["self"] ["self"] (ah r0):=by walk_at "j"
abbrev iO:Ng:=aU (eZ 41) 0
theorem ni:FnScope ["self","old"] ["self","old"] (ah iO):=by walk_at "j"
abbrev jA:Ng:=aU (eZ 41) 2
theorem o_:FnScope ["self"] ["self"] (ah jA):=by walk_at "j"
abbrev jB:Ng:=aU (eZ 41) 3
theorem pc:FnScope ["self"] ["self"] (ah jB):=by walk_at "j"
abbrev ie:Ng:=aU (eZ 41) 4
theorem mD:FnScope ["self"] ["self"] (ah ie):=by walk_at "j"
abbrev jz:Ng:=aU (eZ 41) 10
theorem o9:FnScope ["self"] ["self"] (ah jz):=by walk_at "j"
theorem mO:((["row"]:List Str) ++ (["self"]:List Str)).Nodup:=by decide +kernel
abbrev nu:Ng:=aU (eZ 41) 11
theorem uq:FnScope ["self"] ["self"] (ah nu):=by walk_at "j"
abbrev lW:Ng:=aU (eZ 41) 12
theorem rV:FnScope ["self"] ["self"] (ah lW):=by walk_at "j"
abbrev gB:Ng:=aU (eZ 41) 13
theorem kj:FnScope ["self","pen"] ["self","pen"] (ah gB):=by walk_at "j"
abbrev gA:Ng:=aU (eZ 41) 14
theorem kh:FnScope ["self"] ["self"] (ah gA):=by walk_at "j"
abbrev nz:Ng:=aU (eZ 41) 15
theorem ur:FnScope ["self","stroke"] ["self","stroke"] (ah nz):=by walk_at "j"
abbrev qj:Ng:=aU (eZ 41) 16
theorem gG:FnScope ["self","pen","at","signs","seats"] ["self","pen","at","signs"] (ah qj):=by walk_at "j"
abbrev kt:Ng:=aU (eZ 41) 17
theorem eJ:FnScope ["self","pen","at","to","seats"] ["self","pen","at","to"] (ah kt):=by walk_at "j"
abbrev lX:Ng:=aU (eZ 41) 18
theorem e_:FnScope ["self","pen","at","to","word","seats"] ["self","pen","at","to","word"] (ah lX):=by walk_at "j"
abbrev nw:Ng:=aU (eZ 41) 19
theorem et:FnScope ["self","pen","at","to","goal","seats","names"] ["self","pen","at","to","goal"] (ah nw):=by walk_at "j"
abbrev nv:Ng:=aU (eZ 41) 20
theorem lR:FnScope ["self","pen","at"] ["self","pen","at"] (ah nv):=by walk_at "j"
def a_(_:Zz)(_:HW):cS:=fun ds G Q=>match ds with
 | [d]=>∃ r:Rw,d=r.d/\Q r.key G
 | _=>False
def gf(G G':Gp):Prop:=∀ a o,G a=some o->G' a=some o
theorem gf.refl:gf G G:=fun _ _ h=>h
theorem gf.trans(a:gf G G1)(b:gf G1 G2):gf G G2:=fun x o h=>b x o (a x o h)
theorem gf.gset(a:gf G G1)(hp:G p=none):gf G (gset G1 p o):=fun x y h=>by
 have:x≠p:=fun z=>by subst z;rw[hp]at h;cases h
 rw[am this];exact a x y h
def dJ(_:Zz)(_:HW):cS:=fun ds G Q=>match ds with
 | [.ref q]=>∃ rs base:List Rw,(G q=some (.lst (rs.map Rw.d))/\lD rs/\rs.length<=1000/\base.length < 64/\∀ r∈rs,r∈base)/\∀ out G',gf G G'->dZ out->(∀ r,r∈out↔r∈rs)->Q (.fl (out.map Rw.d)) G'
 | _=>False
structure Zz where
 (Z1 Z2 Z3 Z4 Z5 C_Paper:ML)
def eR(zF:Zz)(hw:HW):cS:=fun ds G Q=>match ds with
 | [.str x,.ref q]=>∃ sks base:List Sk,(G q=some (.lst (sks.map Sk.d))/\x.length<=1000/\lD (sks.map Sk.rw)/\sks.length<=1000/\base.length < 64/\(∀ s∈sks,s∈base)/\∀ s∈sks,s.ok)/\
   ∀ out G',gf G G'->dZ (out.map Sk.rw)->(∀ s,s∈out↔s∈sks)->Q (.fl ((gP x.length out).map Sl.d)) G'
 | _=>False
def ck(_:Zz)(_:HW):cS:=fun ds G Q=>match ds with
 | [.tup [.str p,.int n],.int m]=>(0<=m/\m<=1000)/\Q (.fl ((dh p n m.toNat).map Sl.d)) G
 | _=>False
def aR(zF:Zz)(s:Sk):GO:=match s.act with
 | .put a x=>.ins zF.Z2 ["name","time","anchor","names","signs"] [.tup [.str s.pen,.int s.num],.int s.time,a.d,.tup [],.str x]
 | .strike ns=>.ins zF.Z3 ["name","time","anchor","names"] [.tup [.str s.pen,.int s.num],.int s.time,aA.d,.tup (ns.map Sl.d)]
 | .dress ns w=>.ins zF.Z4 ["name","time","anchor","names","word"] [.tup [.str s.pen,.int s.num],.int s.time,aA.d,.tup (ns.map Sl.d),.str w]
 | .move ns a=>.ins zF.Z5 ["name","time","anchor","names"] [.tup [.str s.pen,.int s.num],.int s.time,a.d,.tup (ns.map Sl.d)]
def aQ(zF:Zz)(hw:HW):cS:=fun ds G Q=>match ds with
 | [.ref a,d,.int t]=>(∃ C,C∈[zF.Z1,zF.Z2,zF.Z3,zF.Z4,zF.Z5]/\G a=some (.ins C [] [])/\∃ p n,d=.tup [.str p,.int n]/\Q .non (gset G a (.ins C ["name","time","anchor","names"] [d,.int t,aA.d,.tup []])))
 | _=>False
def b_(zF:Zz)(hw:HW):cS:=fun ds G Q=>match ds with
 | [.ref a,d,.int t,b,.str x]=>G a=some (.ins zF.Z2 [] [])/\∃ p n s,d=.tup [.str p,.int n]/\b=Sl.d s/\Q .non (gset G a (.ins zF.Z2 ["name","time","anchor","names","signs"] [d,.int t,b,.tup [],.str x]))
 | _=>False
def bc(zF:Zz)(hw:HW):cS:=fun ds G Q=>match ds with
 | [.ref a,d,.int t,.tup ns]=>G a=some (.ins zF.Z3 [] [])/\∃ p n,d=.tup [.str p,.int n]/\Q .non (gset G a (.ins zF.Z3 ["name","time","anchor","names"] [d,.int t,aA.d,.tup ns]))
 | _=>False
def bx(zF:Zz)(hw:HW):cS:=fun ds G Q=>match ds with
 | [.ref a,d,.int t,.tup ns,.str w]=>G a=some (.ins zF.Z4 [] [])/\∃ p n,d=.tup [.str p,.int n]/\Q .non (gset G a (.ins zF.Z4 ["name","time","anchor","names","word"] [d,.int t,aA.d,.tup ns,.str w]))
 | _=>False
def bM(zF:Zz)(hw:HW):cS:=fun ds G Q=>match ds with
 | [.ref a,d,.int t,.tup ns,b]=>G a=some (.ins zF.Z5 [] [])/\∃ p n s,d=.tup [.str p,.int n]/\b=Sl.d s/\Q .non (gset G a (.ins zF.Z5 ["name","time","anchor","names"] [d,.int t,b,.tup ns]))
 | _=>False
def c9(zF:Zz)(hw:HW):cS:=fun ds G Q=>match ds with
 | [d]=>∃ s:Sk,d=s.d/\∀ p,G p=none->Q (.ref p) (gset G p (aR zF s))
 | _=>False
def ax(_:Zz)(_:HW):cS:=fun ds G Q=>match ds with
 | [.ref _]=>Q (.fl []) G
 | _=>False
def bw(zF:Zz)(hw:HW):cS:=fun ds G Q=>match ds with
 | [.ref a]=>∃ (s:Sk) (b:Sl) (x:Str),(s.act=.put b x/\G a=some (aR zF s)/\x.length<=1000)/\Q (.fl ((made s).map Sl.d)) G
 | _=>False
def ba(zF:Zz)(hw:HW):cS:=fun ds G Q=>match ds with
 | [.ref a]=>∃ (s:Sk) (b:Sl) (ns:List Sl),(s.act=.move ns b/\G a=some (aR zF s)/\ns.length<=1000)/\Q (.fl ((made s).map Sl.d)) G
 | _=>False
def c_(_:Zz)(_:HW):cS:=fun ds G Q=>match ds with
 | [.str x]=>x.length<=1000/\Q (.fl ((fK x.length).map Sl.d)) G
 | _=>False
def cO(zF:Zz)(hw:HW):cS:=fun ds G Q=>match ds with
 | [.ref p,a,.lst xs]=>∃ (b:Sl) (ss W:List Sl) (kvs:List (List aE×D)),(a=b.d/\xs=ss.map Sl.d/\G p=some (.dT hw kvs)/\Db kvs W/\b∈W/\ss.Nodup/\(∀ x∈ss,x∉W)/\W.length+ss.length<=900000)/\
   ∀ SY,Db SY (bp W b ss)->Q .non (gset G p (.dT hw SY))
 | _=>False
def fF(zF:Zz)(hw:HW):cS:=fun ds G Q=>match ds with
 | [.ref p]=>∃ (R:List Sl) (kvs:List (List aE×D)),(G p=some (.dT hw kvs)/\Db kvs (aA::R)/\R.length<=900000)/\Q (.fl (R.map Sl.d)) G
 | _=>False
def iH(zF:Zz)(G:Gp)(ps:List ML)(o:List Sk):Prop:=ps.length=o.length/\∀ (j:Nat) p s,ps[j]?=some p->o[j]?=some s->G p=some (aR zF s)
def vU(o:List Sk):Prop:=o.length<=64/\∀ s∈o,s.wd<=1000
def fE(zF:Zz)(hw:HW):cS:=fun ds G Q=>match ds with
 | [.lst xs]=>(∃ ss:List Sl,(xs=ss.map Sl.d/\ss.length<=900000)/\∀ p,G p=none->Q (.ref p) (gset G p (.dT hw (aM (fun _=>.bl true) (bH [] (ss.map fun s=>(s,())))))))\/
   ∃ ns:List Nm,(xs=ns.map Nm.d/\ns.length<=900000)/\∀ p,G p=none->Q (.ref p) (gset G p (.dT hw (dictOf (ns.map fun n=>(n.key,.bl true)))))
 | _=>False
def d4(zF:Zz)(hw:HW):cS:=fun ds G Q=>match ds with
 | [.ref a,.ref p]=>∃ (s:Sk) (row:List (Sl×Unit)),(G a=some (aR zF s)/\s.wd<=1000/\G p=some (.dT hw (aM (fun _=>.bl true) row)))/\Q (.bl ((made s).all fun x=>(ee row x).isSome)) G
 | _=>False
def cv(zF:Zz)(hw:HW):cS:=fun ds G Q=>match ds with
 | [.str x,.lst xs]=>∃ (ps:List ML) (o:List Sk),(xs=ps.map D.ref/\iH zF G ps o/\vU o/\x.length<=1000)/\∀ p,G p=none->Q (.ref p) (gset G p (.dT hw (aM D.str (aF x o))))
 | _=>False
def ak(zF:Zz)(hw:HW):cS:=fun ds G Q=>match ds with
 | [.ref a]=>∃ (s:Sk) (ns:List Sl),((s.act=.strike ns\/(∃ w,s.act=.dress ns w)\/∃ b,s.act=.move ns b)/\G a=some (aR zF s)/\ns.length<=1000)/\Q (.fl (ns.map Sl.d)) G
 | _=>False
def cD(zF:Zz)(hw:HW):cS:=fun ds G Q=>match ds with
 | [.lst xs]=>∃ (ps:List ML) (o:List Sk),(xs=ps.map D.ref/\iH zF G ps o/\vU o)/\∀ p,G p=none->Q (.ref p) (gset G p (.dT hw (aM (fun _=>.bl true) (bv o))))
 | _=>False
def cU(zF:Zz)(hw:HW):cS:=fun ds G Q=>match ds with
 | [.lst xs]=>∃ (ps:List ML) (o:List Sk),(xs=ps.map D.ref/\iH zF G ps o/\vU o)/\∀ p,G p=none->Q (.ref p) (gset G p (.dT hw (aM Sl.d (cN o))))
 | _=>False
def dq(zF:Zz)(hw:HW):cS:=fun ds G Q=>match ds with
 | [.lst xs]=>∃ (ps:List ML) (o:List Sk),(xs=ps.map D.ref/\iH zF G ps o/\vU o)/\∀ p,G p=none->Q (.ref p) (gset G p (.dT hw (aM D.str (fY o))))
 | _=>False
def d5(zF:Zz)(hw:HW):cS:=fun ds G Q=>match ds with
 | [.ref q,.lst ns,.ref p]=>∃ (sks base:List Sk) (names:List Nm) (row:List Sl),(G q=some (.lst (sks.map Sk.d))/\lD (sks.map Sk.rw)/\sks.length<=1000/\base.length < 64/\(∀ s∈sks,s∈base)/\(∀ s∈sks,s.wd<=1000)/\ns=names.map Nm.d/\names.length<=900000/\G p=some (.dT hw (aM (fun _=>.bl true) (bH [] (row.map fun s=>(s,()))))))/\
   ∀ out ps G',gf G G'->dZ (out.map Sk.rw)->(∀ s,s∈out↔s∈sks)->iH zF G' ps (eY out names row)->Q (.fl (ps.map D.ref)) G'
 | _=>False
def fB(zF:Zz)(hw:HW):cS:=fun ds G Q=>match ds with
 | [.str x,.ref q,.lst ns]=>∃ (sks base:List Sk) (names:List Nm),(G q=some (.lst (sks.map Sk.d))/\x.length<=1000/\lD (sks.map Sk.rw)/\sks.length<=1000/\base.length < 64/\(∀ s∈sks,s∈base)/\(∀ s∈sks,1<=s.num/\s.wd<=1000)/\ns=names.map Nm.d/\names.length<=900000)/\
   ∀ out G',gf G G'->dZ (out.map Sk.rw)->(∀ s,s∈out↔s∈sks)->Q (.fl ((cH x out names).map Seat.d)) G'
 | _=>False
def Seat.d3(s:Seat):D:=.tup [s.name.d,.str s.sign,.str s.word]
def fC(zF:Zz)(hw:HW):cS:=fun ds G Q=>match ds with
 | [.str x,.ref q,.lst ns]=>∃ (sks base:List Sk) (names:List Nm),(G q=some (.lst (sks.map Sk.d))/\x.length<=1000/\lD (sks.map Sk.rw)/\sks.length<=1000/\base.length < 64/\(∀ s∈sks,s∈base)/\(∀ s∈sks,1<=s.num/\s.wd<=1000)/\ns=names.map Nm.d/\names.length<=900000)/\
   ∀ out G',gf G G'->dZ (out.map Sk.rw)->(∀ s,s∈out↔s∈sks)->Q (.fl ((cH x out names).map Seat.d3)) G'
 | _=>False
def dM(zF:Zz)(hw:HW):cS:=fun ds G Q=>match ds with
 | [.ref p]=>∃ (s:Sk) (a:Sl) (x:Str),(s.act=.put a x/\G p=some (aR zF s))/\Q s.d G
 | _=>False
def cq(zF:Zz)(hw:HW):cS:=fun ds G Q=>match ds with
 | [.ref p]=>∃ (s:Sk) (ns:List Sl),(s.act=.strike ns/\G p=some (aR zF s))/\Q s.d G
 | _=>False
def cG(zF:Zz)(hw:HW):cS:=fun ds G Q=>match ds with
 | [.ref p]=>∃ (s:Sk) (ns:List Sl) (w:Str),(s.act=.dress ns w/\G p=some (aR zF s))/\Q s.d G
 | _=>False
def c8(zF:Zz)(hw:HW):cS:=fun ds G Q=>match ds with
 | [.ref p]=>∃ (s:Sk) (ns:List Sl) (a:Sl),(s.act=.move ns a/\G p=some (aR zF s))/\Q s.d G
 | _=>False
def cE(_:Zz)(_:HW):cS:=fun ds G Q=>match ds with
 | [.lst xs,.int k]=>∃ ns:List Int,(xs=ns.map D.int/\0<=k)/\∀ c:Int,Q (.int c) G
 | _=>False
def cV(_:Zz)(_:HW):cS:=fun ds G Q=>match ds with
 | [.int _,.int m]=>(0<=m/\m<=100)/\∀ xs:List Int,(xs.length:Int)=m->(∀ x∈xs,0<=x/\x < 2147483647)->Q (.fl (xs.map D.int)) G
 | _=>False
set_option genInjectivity false in
structure Pp where
 old:Str
 sks:List Sk
 st:List (List aE×D)
 gr:List (aE×D)
 time:Int
def iK(C:ML)(hw0:List aE->Int)(G:Gp)(p d s g:ML)(P:Pp):Prop:=G p=some (.ins C ar [.str P.old,.ref d,.ref s,.ref g,.int P.time])/\G d=some (.lst (P.sks.map Sk.d))/\G s=some (.dT hw0 P.st)/\G g=some (.dK P.gr)
def fA(P:Pp)(n:Nm):Bool:=eA ((dF P.st n.key).getD .non) (.str (MN "wiped"))
def Pp.unw(P:Pp):List Nm:=(P.sks.filter fun s=>!fA P s.nm).map Sk.nm
def Pp.num(P:Pp)(pen:Str):Int:=match dF P.gr (.inr pen) with
 | some (.int m)=>m+1
 | _=>1
def Pp.add(P:Pp)(k:Sk):Pp:=⟨P.old,P.sks ++ [k],bu P.st k.nm.key (.str (MN "waits")),bu P.gr (.inr k.pen) (.int k.num),k.time⟩
structure Pp.ok(P:Pp)(n:Nat):Prop where
 lo:P.old.length<=40
 ls:P.sks.length<=n
 lt:P.st.length<=n
 lg:P.gr.length<=n
 sk:∀ s∈P.sks,1<=s.num/\s.wd<=60/\s.time<=P.time
 ap:(P.sks.map Sk.rw).Pairwise jR
 kn:∀ s∈P.sks,∃ w:Str,dF P.st s.nm.key=some (.str w)
 gi:∀ k v,dF P.gr k=some v->∃ m:Int,v=.int m/\0<=m
 gm:∀ s∈P.sks,∃ m:Int,dF P.gr (.inr s.pen)=some (.int m)/\s.num<=m
def C7(l:List ML)(G G':Gp):Prop:=∀ a o,a∉l->G a=some o->G' a=some o
def Srt(P:Pp)(out:List Sk):Prop:=dZ (out.map Sk.rw)/\∀ s,s∈out↔s∈P.sks
def Pp.seats(P:Pp)(out:List Sk):List Seat:=cH P.old out P.unw
def bK(zF:Zz)(hw:HW):cS:=fun ds G Q=>match ds with
 | [.ref p]=>∃ (P:Pp) (d s g:ML),(iK zF.C_Paper hw G p d s g P/\P.ok 50)/\Q (.fl (P.unw.map Nm.d)) G
 | _=>False
def cP(zF:Zz)(hw:HW):cS:=fun ds G Q=>match ds with
 | [.ref p]=>∃ (P:Pp) (d s g:ML),(iK zF.C_Paper hw G p d s g P/\P.ok 50)/\∀ out G',gf G G'->Srt P out->Q (.fl ((P.seats out).map Seat.d3)) G'
 | _=>False
def aN(zF:Zz)(hw:HW):cS:=fun ds G Q=>match ds with
 | [.ref p]=>∃ (P:Pp) (d s g:ML),(iK zF.C_Paper hw G p d s g P/\P.ok 50)/\∀ out G',gf G G'->Srt P out->Q (.fl ((P.seats out).map Seat.d)) G'
 | _=>False
def bL(zF:Zz)(hw:HW):cS:=fun ds G Q=>match ds with
 | [.ref p]=>∃ (P:Pp) (d s g:ML),(iK zF.C_Paper hw G p d s g P/\P.sks.length<=50)/\Q (.fl (P.sks.map Sk.d)) G
 | _=>False
def aK(zF:Zz)(hw:HW):cS:=fun ds G Q=>match ds with
 | [.ref p,.str pen]=>∃ (P:Pp) (d s g:ML),(iK zF.C_Paper hw G p d s g P/\∀ k v,dF P.gr k=some v->∃ m:Int,v=.int m/\0<=m)/\Q (.tup [.str pen,.int (P.num pen)]) G
 | _=>False
def aJ(zF:Zz)(hw:HW):cS:=fun ds G Q=>match ds with
 | [.ref p]=>∃ (P:Pp) (d s g:ML),iK zF.C_Paper hw G p d s g P/\Q (.int (P.time+1)) G
 | _=>False
def bR(zF:Zz)(hw:HW):cS:=fun ds G Q=>match ds with
 | [.ref p,.ref a]=>∃ (P:Pp) (d s g:ML) (k:Sk),(iK zF.C_Paper hw G p d s g P/\G a=some (aR zF k)/\P.sks.length<=50/\P.st.length<=50/\P.gr.length<=50)/\∀ G',C7 [p,d,s,g] G G'->iK zF.C_Paper hw G' p d s g (P.add k)->Q (.tup [.str k.pen,.int k.num]) G'
 | _=>False
def b7(zF:Zz)(hw:HW):cS:=fun ds G Q=>match ds with
 | [.ref p,.str x]=>G p=some (.ins zF.C_Paper [] [])/\∀ d s g G',C7 [p,d,s,g] G G'->iK zF.C_Paper hw G' p d s g ⟨x,[],[],[],0⟩->Q .non G'
 | _=>False
def da(_:Zz)(_:HW):cS:=fun ds G Q=>match ds with
 | [.int at_,.int n]=>(0<=at_/\at_<=n)/\Q .non G
 | _=>False
def bj(_:Zz)(_:HW):cS:=fun ds G Q=>match ds with
 | [.int at_,.int to_,.int n]=>(0<=at_/\at_ < n/\at_ < to_/\to_<=n)/\Q .non G
 | _=>False
def bh(_:Zz)(_:HW):cS:=fun ds G Q=>match ds with
 | [.lst xs,.int i,.int j]=>∃ seats:List Seat,(xs=seats.map Seat.d/\0<=i/\i<=j/\j<=seats.length/\seats.length<=100000)/\Q (.tup ((((seats.drop i.toNat).take (j - i).toNat).map Seat.name).map Sl.d)) G
 | _=>False
def Pp.next(P:Pp)(pen:Str)(k:Sk):Prop:=k.pen=pen/\k.num=P.num pen/\k.time=P.time+1
def cb(zF:Zz)(hw:HW):cS:=fun ds G Q=>match ds with
 | [.ref p,.str pen,.int i,.int j]=>∃ (P:Pp) (d s g:ML),(iK zF.C_Paper hw G p d s g P/\P.ok 49)/\∀ out,Srt P out->(0<=i/\i < (P.seats out).length/\i < j/\j<=(P.seats out).length)/\
   ∀ G',C7 [p,d,s,g] G G'->iK zF.C_Paper hw G' p d s g (P.add ⟨pen,P.num pen,P.time+1,.strike ((((P.seats out).drop i.toNat).take (j - i).toNat).map Seat.name)⟩)->Q (.tup [.str pen,.int (P.num pen)]) G'
 | _=>False
def v5(_:Zz)(_:HW):cS:=fun vs _ Q=>match vs with
 | [.lst ds]=>∃ ns:List Int,ds=ns.map D.int/\ns.length<=63/\∀ G',Q (.bl true) G'
 | _=>False
def kY(seats:List Seat)(i:Int):Sl:=if i=0 then aA else match seats[(i - 1).toNat]? with
 | some s=>s.slot
 | none=>aA
def db(_:Zz)(_:HW):cS:=fun ds G Q=>match ds with
 | [.lst xs,.int i]=>∃ seats:List Seat,(xs=seats.map Seat.d/\0<=i/\i<=seats.length)/\Q (kY seats i).d G
 | _=>False
def sN(seats:List Seat)(i j:Int):List Sl:=((seats.drop i.toNat).take (j - i).toNat).map Seat.name
def cX(zF:Zz)(hw:HW):cS:=fun ds G Q=>match ds with
 | [.ref p,.str pen,.int i,.int j,.str w]=>∃ (P:Pp) (d s g:ML),(iK zF.C_Paper hw G p d s g P/\P.ok 49)/\∀ out,Srt P out->(0<=i/\i < (P.seats out).length/\i < j/\j<=(P.seats out).length)/\
   ∀ G',C7 [p,d,s,g] G G'->iK zF.C_Paper hw G' p d s g (P.add ⟨pen,P.num pen,P.time+1,.dress (sN (P.seats out) i j) w⟩)->Q (.tup [.str pen,.int (P.num pen)]) G'
 | _=>False
def cf(zF:Zz)(hw:HW):cS:=fun ds G Q=>match ds with
 | [.ref p,.str pen,.int i,.str x]=>∃ (P:Pp) (d s g:ML),(iK zF.C_Paper hw G p d s g P/\P.ok 49)/\∀ out,Srt P out->(0<=i/\i<=(P.seats out).length)/\
   ∀ G',C7 [p,d,s,g] G G'->iK zF.C_Paper hw G' p d s g (P.add ⟨pen,P.num pen,P.time+1,.put (kY (P.seats out) i) x⟩)->Q (.tup [.str pen,.int (P.num pen)]) G'
 | _=>False
def dw(zF:Zz)(hw:HW):cS:=fun ds G Q=>match ds with
 | [.ref p,.str pen,.int i]=>∃ (P:Pp) (d s g:ML),(iK zF.C_Paper hw G p d s g P/\P.ok 49)/\∀ out,Srt P out->(0<=i/\i<=(P.seats out).length)/\
   ∀ G',C7 [p,d,s,g] G G'->iK zF.C_Paper hw G' p d s g (P.add ⟨pen,P.num pen,P.time+1,.put (kY (P.seats out) i) (MN "\n")⟩)->Q (.tup [.str pen,.int (P.num pen)]) G'
 | _=>False
def cQ(zF:Zz)(hw:HW):cS:=fun ds G Q=>match ds with
 | [.ref p,.str pen,.int i,.int j,.int m]=>∃ (P:Pp) (d s g:ML),(iK zF.C_Paper hw G p d s g P/\P.ok 49)/\∀ out,Srt P out->(0<=i/\i < (P.seats out).length/\i < j/\j<=(P.seats out).length/\0<=m/\m<=(P.seats out).length)/\
   ∀ G',C7 [p,d,s,g] G G'->iK zF.C_Paper hw G' p d s g (P.add ⟨pen,P.num pen,P.time+1,.move (sN (P.seats out) i j) (kY (P.seats out) m)⟩)->Q (.tup [.str pen,.int (P.num pen)]) G'
 | _=>False
def bd(zF:Zz)(hw:HW):cS:=fun ds G Q=>match ds with
 | [.ref p]=>∃ (P:Pp) (d s g:ML),iK zF.C_Paper hw G p d s g P/\Q (.int P.time) G
 | _=>False
def tR(ps:List (Str×Int)):List (aE×D):=ps.map fun p=>((.inr p.1:aE),D.int p.2)
def cw(zF:Zz)(hw:HW):cS:=fun ds G Q=>match ds with
 | [.ref p]=>∃ (P:Pp) (d s g:ML) (ps:List (Str×Int)),(iK zF.C_Paper hw G p d s g P/\P.gr=tR ps/\ps.length < 64)/\Q (.fl ((Aj ps).map zY)) G
 | _=>False
inductive Wd where
 | put|part|strike|dress|move
 deriving DecidableEq
def Wd.s:Wd->Str
 | .put=>MN "put"
 | .part=>MN "part"
 | .strike=>MN "strike"
 | .dress=>MN "dress"
 | .move=>MN "move"
def mW(a n:Int):Option Int:=if 0<=a/\a<=n then none else some a
def mV(a t n:Int):Option Int:=if 0<=a/\a < n then (if a < t/\t<=n then none else some t)else some a
def EZ:Wd->Int->Int->Int->Int->Option Int
 | .put,a,_,_,n=>mW a n
 | .part,a,_,_,n=>mW a n
 | .strike,a,t,_,n=>mV a t n
 | .dress,a,t,_,n=>mV a t n
 | .move,a,t,g,n=>(mV a t n).or (mW g n)
def oD:Option Int->D
 | none=>.non
 | some v=>.int v
def cj(_:Zz)(_:HW)(SL:ML):t7:=fun ds G Q EQ=>match ds with
 | [.int a,.int n]=>(mW a n=none->Q .non G)/\∀ v,mW a n=some v->EQ SL "at" (.int v) G
 | _=>False
def aO(_:Zz)(_:HW)(SL:ML):t7:=fun ds G Q EQ=>match ds with
 | [.int a,.int t,.int n]=>(mV a t n=none->Q .non G)/\∀ v,mV a t n=some v->EQ SL "at" (.int v) G
 | _=>False
def C5(C SL:ML)(hw0:List aE->Int)(p:ML)(f:Int->Option Int)(G:Gp)(EQ:XQ):Prop:=∃ (P:Pp) (d s g:ML),(iK C hw0 G p d s g P/\P.ok 49)/\∀ out,Srt P out->∃ v,f (P.seats out).length=some v/\∀ G',gf G G'->EQ SL "at" (.int v) G'
def dk(zF:Zz)(hw:HW)(SL:ML):t7:=fun ds G _ EQ=>match ds with
 | [.ref p,.str _,.int i,.str _]=>C5 zF.C_Paper SL hw p (mW i) G EQ
 | _=>False
def dH(zF:Zz)(hw:HW)(SL:ML):t7:=fun ds G _ EQ=>match ds with
 | [.ref p,.str _,.int i]=>C5 zF.C_Paper SL hw p (mW i) G EQ
 | _=>False
def cT(zF:Zz)(hw:HW)(SL:ML):t7:=fun ds G _ EQ=>match ds with
 | [.ref p,.str _,.int i,.int j]=>C5 zF.C_Paper SL hw p (mV i j) G EQ
 | _=>False
def dg(zF:Zz)(hw:HW)(SL:ML):t7:=fun ds G _ EQ=>match ds with
 | [.ref p,.str _,.int i,.int j,.str _]=>C5 zF.C_Paper SL hw p (mV i j) G EQ
 | _=>False
def dI(zF:Zz)(hw:HW)(SL:ML):t7:=fun ds G _ EQ=>match ds with
 | [.ref p,.str _,.int i,.int j,.int m]=>C5 zF.C_Paper SL hw p (EZ .move i j m) G EQ
 | _=>False
def eQ(zF:Zz)(hw:HW)(SL:ML):t7:=fun ds G _ EQ=>match ds with
 | [.ref p,.str w,.int a,.int t,.int m]=>∃ k:Wd,w=k.s/\C5 zF.C_Paper SL hw p (EZ k a t m) G EQ
 | _=>False
def Fi(C:ML)(hw0:List aE->Int)(p d s g:ML)(P:Pp)(G G':Gp):Prop:=∃ k:Sk,P.next (MN "bob") k/\k.wd<=60/\(b9 k).length<=2/\C7 [p,d,s,g] G G'/\iK C hw0 G' p d s g (P.add k)
def eO(zF:Zz)(hw:HW):cS:=fun ds G Q=>match ds with
 | [.ref p,.str w,.int a,.int t,.int m]=>∃ (k:Wd) (P:Pp) (d s g:ML),(w=k.s/\iK zF.C_Paper hw G p d s g P/\P.ok 49/\∀ out,Srt P out->EZ k a t m (P.seats out).length=none/\(P.seats out).length<=60)/\
   ∀ x G',Fi zF.C_Paper hw p d s g P G G'->Q x G'
 | _=>False
def du(zF:Zz)(hw:HW):cS:=fun ds G Q=>match ds with
 | [.ref p,.str w,.int a,.int t,.int m]=>∃ (k:Wd) (P:Pp) (d s g:ML) (out:List Sk),(w=k.s/\iK zF.C_Paper hw G p d s g P/\P.ok 49/\Srt P out/\(P.seats out).length<=60)/\
   (EZ k a t m (P.seats out).length=none->∀ G',Fi zF.C_Paper hw p d s g P G G'->Q .non G')/\∀ v,EZ k a t m (P.seats out).length=some v->∀ G',gf G G'->Q (.int v) G'
 | _=>False
def cW(zF:Zz)(hw:HW):cS:=fun ds G Q=>match ds with
 | [.ref p,.str w,.int a,.int t,.int m]=>∃ (k:Wd) (P:Pp) (d s g:ML) (out:List Sk) (v:Int),(w=k.s/\iK zF.C_Paper hw G p d s g P/\P.ok 49/\Srt P out/\EZ k a t m (P.seats out).length=some v)/\∀ G',gf G G'->Q (.bl true) G'
 | _=>False
def zN(P:Pp)(out:List Sk)(ps:List (Str×Int)):D:=.tup [.lst (P.sks.map Sk.d),.lst ((P.seats out).map Seat.d3),.lst ((Aj ps).map zY),.int P.time]
def dL(zF:Zz)(hw:HW):cS:=fun ds G Q=>match ds with
 | [.ref p]=>∃ (P:Pp) (d s g:ML) (ps:List (Str×Int)),(iK zF.C_Paper hw G p d s g P/\P.ok 50/\P.gr=tR ps/\ps.length < 64)/\∀ out G',gf G G'->Srt P out->Q (zN P out ps) G'
 | _=>False
def eT(_:Zz)(_:HW):cS:=fun ds G Q=>match ds with
 | [.str w,.int a,.int t,.int m,.int n]=>∃ k:Wd,w=k.s/\Q (oD (EZ k a t m n)) G
 | _=>False
def bU(_:Zz)(_:HW):cS:=fun ds G Q=>match ds with
 | [.int _,.int _,.int n]=>0<=n/\∀ v:Int,Q (.int v) G
 | _=>False
def jF(zF:Zz)(hw:List aE->Int):bg:=sSeq (h9 (bJ (cu Fk (ae 1) (eB gK (af (ae 0) (au))))) (aX (cu jd (ae 0) (ae 1))) (bS))
 (aX (eC (.int 0)))
def kF(zF:Zz)(hw:List aE->Int):bg:=sSeq (FG 2 (A2 (au)))
 (sSeq (bO 3 (cu lL (cu AJ (cu iD (ae 0) (eC (.int 1))) (eC (.int 48271))) (eC (.int 2147483647))))
 (sSeq (jS (LW (af (ae 1) (au))) (gN 4) (sSeq (bO 3 (cu lL (cu AJ (cu iD (cu iD (ae 3) (cu AJ (eC (.int 7919)) (ae 4))) (eC (.int 1))) (cu iD (cu uD (ae 3) (eC (.int 1009))) (eC (.int 69621)))) (eC (.int 2147483647))))
 (dQ (ju (ae 2) (af (ae 3) (au))))))
 (ig 2)))
def iW(zF:Zz)(hw:List aE->Int):bg:=aX (eB zL (af (jZ zF.C_Paper ar 1 (ae 0)) (au)))
def l8(zF:Zz)(hw:List aE->Int):bg:=sSeq (bO 3 (ae 1))
 (jS (gn (ae 2)) (gN 4) (sSeq (eU hw (ae 0) (ae 4) (zy hw (ae 0) (ae 3)))
 (sSeq (eU hw (ae 0) (ae 3) (ae 4))
 (bO 3 (ae 4)))))
def l7(zF:Zz)(hw:List aE->Int):bg:=aX (f_ 1 (LV (af (eC (.int 1)) (af (cu iD (ae 1) (eC (.int 1))) (au)))) (gN 0) (lP) (cu iD (ae 1) (jY (af (ae 0) (au)))))
def nP(zF:Zz)(hw:List aE->Int):bg:=aX (aP (ck zF hw) [] (af (Jh Hk (eC k_START) (Kn) (n6 (eC (.int 2)))) (af (eB gK (af (ae 0) (au))) (au))))
def ij(zF:Zz)(hw:List aE->Int):bg:=aX (jY (af (cu jd (ae 0) (eC (.int 1))) (af (cu jd (ae 0) (eC (.int 0))) (au))))
def qm(zF:Zz)(hw:List aE->Int):bg:=sSeq (bO 1 (qA hw))
 (sSeq (DE (ae 0) (gN 2) (eU hw (ae 1) (cu jd (ae 2) (eC (.int 0))) (ae 2)))
 (aX (AY (a_ zF hw) (ae 1))))
def gR(zF:Zz)(hw:List aE->Int):bg:=sSeq (iQ [zF.Z1,zF.Z2,zF.Z3,zF.Z4,zF.Z5] "name" (ae 0) (ae 1))
 (sSeq (iQ [zF.Z1,zF.Z2,zF.Z3,zF.Z4,zF.Z5] "time" (ae 0) (ae 2))
 (sSeq (iQ [zF.Z1,zF.Z2,zF.Z3,zF.Z4,zF.Z5] "anchor" (ae 0) (eC k_START))
 (iQ [zF.Z1,zF.Z2,zF.Z3,zF.Z4,zF.Z5] "names" (ae 0) (jY (au)))))
def jH(zF:Zz)(hw:List aE->Int):bg:=sSeq (dQ (aP (aQ zF hw) [] (af (ae 0) (af (ae 1) (af (ae 2) (au))))))
 (sSeq (iQ [zF.Z1,zF.Z2,zF.Z3,zF.Z4,zF.Z5] "anchor" (ae 0) (ae 3))
 (iQ [zF.Z1,zF.Z2,zF.Z3,zF.Z4,zF.Z5] "signs" (ae 0) (ae 4)))
def gT(zF:Zz)(hw:List aE->Int):bg:=sSeq (dQ (aP (aQ zF hw) [] (af (ae 0) (af (ae 1) (af (ae 2) (au))))))
 (iQ [zF.Z1,zF.Z2,zF.Z3,zF.Z4,zF.Z5] "names" (ae 0) (ae 3))
def ip(zF:Zz)(hw:List aE->Int):bg:=sSeq (dQ (aP (aQ zF hw) [] (af (ae 0) (af (ae 1) (af (ae 2) (au))))))
 (sSeq (iQ [zF.Z1,zF.Z2,zF.Z3,zF.Z4,zF.Z5] "names" (ae 0) (ae 3))
 (iQ [zF.Z1,zF.Z2,zF.Z3,zF.Z4,zF.Z5] "word" (ae 0) (ae 4)))
def iY(zF:Zz)(hw:List aE->Int):bg:=sSeq (dQ (aP (aQ zF hw) [] (af (ae 0) (af (ae 1) (af (ae 2) (au))))))
 (sSeq (iQ [zF.Z1,zF.Z2,zF.Z3,zF.Z4,zF.Z5] "names" (ae 0) (ae 3))
 (iQ [zF.Z1,zF.Z2,zF.Z3,zF.Z4,zF.Z5] "anchor" (ae 0) (ae 4)))
def nO(zF:Zz)(hw:List aE->Int):bg:=sSeq (bO 1 (cu jd (ae 0) (eC (.int 0))))
 (sSeq (bO 2 (cu jd (ae 0) (eC (.int 1))))
 (sSeq (bO 3 (cu jd (ae 0) (eC (.int 2))))
 (sSeq (h9 (bJ (fM ui (cu jd (ae 3) (eC (.int 0))) (eC (.str "put")))) (aX (jL zF.Z2 (b_ zF hw) [] (af (ae 1) (af (ae 2) (af (cu jd (ae 3) (eC (.int 1))) (af (cu jd (ae 3) (eC (.int 2))) (au))))))) (bS))
 (sSeq (h9 (bJ (fM ui (cu jd (ae 3) (eC (.int 0))) (eC (.str "strike")))) (aX (jL zF.Z3 (bc zF hw) [] (af (ae 1) (af (ae 2) (af (cu jd (ae 3) (eC (.int 1))) (au)))))) (bS))
 (sSeq (h9 (bJ (fM ui (cu jd (ae 3) (eC (.int 0))) (eC (.str "dress")))) (aX (jL zF.Z4 (bx zF hw) [] (af (ae 1) (af (ae 2) (af (cu jd (ae 3) (eC (.int 1))) (af (cu jd (ae 3) (eC (.int 2))) (au))))))) (bS))
 (aX (jL zF.Z5 (bM zF hw) [] (af (ae 1) (af (ae 2) (af (cu jd (ae 3) (eC (.int 1))) (af (cu jd (ae 3) (eC (.int 2))) (au))))))))))))
def sB(zF:Zz)(hw:List aE->Int):bg:=sSeq (FG 1 (A2 (au)))
 (sSeq (bO 2 (zy hw (ae 0) (eC k_START)))
 (sSeq (Ao (bJ (cu yU (ae 2) (eC .non))) (sSeq (dQ (ju (ae 1) (af (ae 2) (au))))
 (bO 2 (zy hw (ae 0) (ae 2)))))
 (ig 1)))
def jG(zF:Zz)(hw:List aE->Int):bg:=aX (A2 (au))
def nU(zF:Zz)(hw:List aE->Int):bg:=aX (aP (ck zF hw) [] (af (bn [zF.Z1,zF.Z2,zF.Z3,zF.Z4,zF.Z5] "name" (ae 0)) (af (eB gK (af (bn [zF.Z1,zF.Z2,zF.Z3,zF.Z4,zF.Z5] "signs" (ae 0)) (au))) (au))))
def mh(zF:Zz)(hw:List aE->Int):bg:=aX (aP (ck zF hw) [] (af (bn [zF.Z1,zF.Z2,zF.Z3,zF.Z4,zF.Z5] "name" (ae 0)) (af (eB gK (af (bn [zF.Z1,zF.Z2,zF.Z3,zF.Z4,zF.Z5] "names" (ae 0)) (au))) (au))))
def ql(zF:Zz)(hw:List aE->Int):bg:=sSeq (bO 2 (A5 hw (eC k_START) (eC .non)))
 (sSeq (dQ (aP (cO zF hw) [] (af (ae 2) (af (eC k_START) (af (aP (c_ zF hw) [] (af (ae 0) (au))) (au))))))
 (sSeq (jS (gn (f_ 1 (gn (aP (dJ zF hw) [] (af (ae 1) (au)))) (gN 0) (lP) (aP (c9 zF hw) [] (af (ae 0) (au))))) (gN 3) (h9 (bJ (xn hw (bn [zF.Z1,zF.Z2,zF.Z3,zF.Z4,zF.Z5] "anchor" (ae 3)) (ae 2))) (dQ (aP (cO zF hw) [] (af (ae 2) (af (bn [zF.Z1,zF.Z2,zF.Z3,zF.Z4,zF.Z5] "anchor" (ae 3)) (af (em [(zF.Z1,ax zF hw),(zF.Z2,bw zF hw),(zF.Z3,ax zF hw),(zF.Z4,ax zF hw),(zF.Z5,ba zF hw)] "slots" [] (ae 3) au) (au)))))) (bS)))
 (aX (aP (fF zF hw) [] (af (ae 2) (au))))))
def vm(zF:Zz)(hw:List aE->Int):bg:=aX (A4 hw (f_ 1 (gn (ae 0)) (gN 0) (lP) (jY (af (ae 0) (af (eC (.bl true)) (au))))))
def nQ(zF:Zz)(hw:List aE->Int):bg:=aX (eB BQ (af (f_ 1 (gn (em [(zF.Z1,ax zF hw),(zF.Z2,bw zF hw),(zF.Z3,ax zF hw),(zF.Z4,ax zF hw),(zF.Z5,ba zF hw)] "slots" [] (ae 0) au)) (gN 0) (lP) (xn hw (ae 0) (ae 2))) (au)))
def nR(zF:Zz)(hw:List aE->Int):bg:=sSeq (bO 3 (aP (fE zF hw) [] (af (ae 1) (au))))
 (sSeq (bO 4 (f_ 1 (gn (aP (dJ zF hw) [] (af (ae 0) (au)))) (gN 0) (bJ (xn hw (cu jd (ae 0) (eC (.int 0))) (ae 4))) (aP (c9 zF hw) [] (af (ae 0) (au)))))
 (aX (f_ 1 (gn (ae 4)) (gN 0) (uk (aP (d4 zF hw) [] (af (ae 0) (af (ae 3) (au))))) (ae 0))))
def iS(zF:Zz)(hw:List aE->Int):bg:=sSeq (bO 2 (A3 hw (af (aP (c_ zF hw) [] (af (ae 0) (au))) (af (ae 0) (au)))))
 (sSeq (jS (gn (ae 1)) (gN 3) (h9 (uk (eB (xz [(zF.Z1,false),(zF.Z2,true),(zF.Z3,false),(zF.Z4,false),(zF.Z5,false)] zF.Z2) (af (ae 3) (af (eC (.ref zF.Z2)) au)))) (jS (CI (af (em [(zF.Z1,ax zF hw),(zF.Z2,bw zF hw),(zF.Z3,ax zF hw),(zF.Z4,ax zF hw),(zF.Z5,ba zF hw)] "slots" [] (ae 3) au) (af (bn [zF.Z1,zF.Z2,zF.Z3,zF.Z4,zF.Z5] "signs" (ae 3)) (au)))) (tG 2 (hU (gN 4) (hU (gN 5) (tH)))) (eU hw (ae 2) (ae 4) (ae 5))) (bS)))
 (aX (ae 2)))
def ik(zF:Zz)(hw:List aE->Int):bg:=aX (eB zL (af (bn [zF.Z1,zF.Z2,zF.Z3,zF.Z4,zF.Z5] "names" (ae 0)) (au)))
def jE(zF:Zz)(hw:List aE->Int):bg:=sSeq (bO 1 (qA hw))
 (sSeq (jS (gn (ae 0)) (gN 2) (h9 (uk (eB (xz [(zF.Z1,false),(zF.Z2,false),(zF.Z3,true),(zF.Z4,false),(zF.Z5,false)] zF.Z3) (af (ae 2) (af (eC (.ref zF.Z3)) au)))) (jS (gn (em [(zF.Z1,ak zF hw),(zF.Z2,ak zF hw),(zF.Z3,ak zF hw),(zF.Z4,ak zF hw),(zF.Z5,ak zF hw)] "touched" [] (ae 2) au)) (gN 3) (eU hw (ae 1) (ae 3) (eC (.bl true)))) (bS)))
 (aX (ae 1)))
def kE(zF:Zz)(hw:List aE->Int):bg:=sSeq (bO 1 (qA hw))
 (sSeq (jS (gn (ae 0)) (gN 2) (h9 (uk (eB (xz [(zF.Z1,false),(zF.Z2,false),(zF.Z3,false),(zF.Z4,false),(zF.Z5,true)] zF.Z5) (af (ae 2) (af (eC (.ref zF.Z5)) au)))) (jS (CI (af (em [(zF.Z1,ak zF hw),(zF.Z2,ak zF hw),(zF.Z3,ak zF hw),(zF.Z4,ak zF hw),(zF.Z5,ak zF hw)] "touched" [] (ae 2) au) (af (em [(zF.Z1,ax zF hw),(zF.Z2,bw zF hw),(zF.Z3,ax zF hw),(zF.Z4,ax zF hw),(zF.Z5,ba zF hw)] "slots" [] (ae 2) au) (au)))) (tG 2 (hU (gN 3) (hU (gN 4) (tH)))) (eU hw (ae 1) (ae 3) (ae 4))) (bS)))
 (aX (ae 1)))
def l6(zF:Zz)(hw:List aE->Int):bg:=sSeq (bO 1 (qA hw))
 (sSeq (jS (gn (ae 0)) (gN 2) (h9 (uk (eB (xz [(zF.Z1,false),(zF.Z2,false),(zF.Z3,false),(zF.Z4,true),(zF.Z5,false)] zF.Z4) (af (ae 2) (af (eC (.ref zF.Z4)) au)))) (jS (gn (em [(zF.Z1,ak zF hw),(zF.Z2,ak zF hw),(zF.Z3,ak zF hw),(zF.Z4,ak zF hw),(zF.Z5,ak zF hw)] "touched" [] (ae 2) au)) (gN 3) (eU hw (ae 1) (ae 3) (bn [zF.Z1,zF.Z2,zF.Z3,zF.Z4,zF.Z5] "word" (ae 2)))) (bS)))
 (aX (ae 1)))
def vk(zF:Zz)(hw:List aE->Int):bg:=sSeq (bO 3 (aP (eR zF hw) [] (af (ae 0) (af (ae 1) (au)))))
 (sSeq (bO 4 (aP (d5 zF hw) [] (af (ae 1) (af (ae 2) (af (aP (fE zF hw) [] (af (ae 3) (au))) (au))))))
 (sSeq (bO 5 (aP (cv zF hw) [] (af (ae 0) (af (ae 4) (au)))))
 (sSeq (bO 6 (aP (cD zF hw) [] (af (ae 4) (au))))
 (sSeq (bO 7 (aP (cU zF hw) [] (af (ae 4) (au))))
 (sSeq (bO 8 (aP (dq zF hw) [] (af (ae 4) (au))))
 (sSeq (bO 9 (qA hw))
 (sSeq (DF (ae 5) (gN 10) (h9 (bJ (oK hw (ae 10) (ae 6))) (eU hw (ae 9) (pV hw (ae 7) (ae 10) (ae 10)) (ae 10)) (bS)))
 (sSeq (bO 11 (f_ 1 (gn (ae 3)) (gN 0) (bJ (xn hw (ae 0) (ae 10))) (jY (af (ae 0) (af (zy hw (ae 10) (ae 0)) (au))))))
 (aX (f_ 2 (gn (ae 11)) (tG 2 (hU (gN 0) (hU (gN 1) (tH)))) (lP) (jY (af (ae 0) (af (ae 1) (af (zy hw (ae 7) (ae 1)) (af (pV hw (ae 10) (ae 1) (eC (.str ""))) (au))))))))))))))))
def sy(zF:Zz)(hw:List aE->Int):bg:=aX (f_ 1 (gn (aP (fB zF hw) [] (af (ae 0) (af (ae 1) (af (ae 2) (au)))))) (gN 0) (lP) (Jh Hk (ae 0) (n6 (eC (.int 1))) (Kn)))
def iV(zF:Zz)(hw:List aE->Int):bg:=aX (xo 1 (jZ zF.C_Paper ar 1 (ae 0)) (gN 0) (bJ (fM Hu (zy hw (jZ zF.C_Paper ar 2 (ae 1)) (cu jd (ae 0) (eC (.int 0)))) (eC k_WIPED))) (cu jd (ae 0) (eC (.int 0))))
def ma(zF:Zz)(hw:List aE->Int):bg:=aX (aP (fC zF hw) [] (af (jZ zF.C_Paper ar 0 (ae 0)) (af (jZ zF.C_Paper ar 1 (ae 0)) (af (bb zF.C_Paper ar (bK zF hw) [] (ae 0) au) (au)))))
def iX(zF:Zz)(hw:List aE->Int):bg:=aX (AZ (jZ zF.C_Paper ar 3 (ae 0)))
def gU(zF:Zz)(hw:List aE->Int):bg:=aX (jZ zF.C_Paper ar 4 (ae 0))
def qp(zF:Zz)(hw:List aE->Int):bg:=aX (jY (af (bb zF.C_Paper ar (bL zF hw) [] (ae 0) au) (af (bb zF.C_Paper ar (cP zF hw) [] (ae 0) au) (af (bb zF.C_Paper ar (cw zF hw) [] (ae 0) au) (af (bb zF.C_Paper ar (bd zF hw) [] (ae 0) au) (au))))))
def kH(zF:Zz)(hw:List aE->Int):bg:=sSeq (h9 (bJ (fM ui (cu lL (ae 0) (eC (.int 8))) (eC (.int 7)))) (aX (cu Cq (cu lL (ae 1) (cu AJ (eC (.int 2)) (cu Gf (eC (.int 10)) (eC (.int 19))))) (cu Gf (eC (.int 10)) (eC (.int 19))))) (bS))
 (sSeq (h9 (bJ (cu Lf (cu lL (ae 0) (eC (.int 8))) (eC (.int 3)))) (aX (cu lL (cu uD (ae 0) (eC (.int 8))) (cu iD (ae 2) (eC (.int 1))))) (bS))
 (aX (cu Cq (cu lL (cu uD (ae 0) (eC (.int 8))) (cu iD (ae 2) (eC (.int 7)))) (eC (.int 3)))))
def qo(zF:Zz)(hw:List aE->Int):bg:=sSeq (h9 (Ag (bJ (fM ui (ae 0) (eC (.str "put")))) (bJ (fM ui (ae 0) (eC (.str "part"))))) (sSeq (h9 (gy (bJ (dX yV yV (eC (.int 0)) (ae 1) (ae 4)))) (aX (ae 1)) (bS))
 (aX (eC .non))) (bS))
 (sSeq (h9 (gy (bJ (dX yV Fk (eC (.int 0)) (ae 1) (ae 4)))) (aX (ae 1)) (bS))
 (sSeq (h9 (gy (bJ (dX Fk yV (ae 1) (ae 2) (ae 4)))) (aX (ae 2)) (bS))
 (sSeq (h9 (u6 (bJ (fM ui (ae 0) (eC (.str "move")))) (gy (bJ (dX yV yV (eC (.int 0)) (ae 3) (ae 4))))) (aX (ae 3)) (bS))
 (aX (eC .non)))))
def nT(zF:Zz)(hw:List aE->Int):bg:=h9 (gy (bJ (dX yV yV (eC (.int 0)) (ae 0) (ae 1)))) (ix) (bS)
def jk(zF:Zz)(hw:List aE->Int):bg:=sSeq (h9 (bJ (fM ui (ae 1) (eC (.int 0)))) (aX (eC k_START)) (bS))
 (aX (cu jd (cu jd (ae 0) (cu Cq (ae 1) (eC (.int 1)))) (eC (.int 0))))
def kJ(zF:Zz)(hw:List aE->Int):bg:=aX (aP (fB zF hw) [] (af (jZ zF.C_Paper ar 0 (ae 0)) (af (jZ zF.C_Paper ar 1 (ae 0)) (af (bb zF.C_Paper ar (bK zF hw) [] (ae 0) au) (au)))))
def sD(zF:Zz)(hw:List aE->Int):bg:=aX (jY (af (bn [zF.Z1,zF.Z2,zF.Z3,zF.Z4,zF.Z5] "name" (ae 0)) (af (bn [zF.Z1,zF.Z2,zF.Z3,zF.Z4,zF.Z5] "time" (ae 0)) (af (jY (af (eC (.str "put")) (af (bn [zF.Z1,zF.Z2,zF.Z3,zF.Z4,zF.Z5] "anchor" (ae 0)) (af (bn [zF.Z1,zF.Z2,zF.Z3,zF.Z4,zF.Z5] "signs" (ae 0)) (au))))) (au)))))
def l_(zF:Zz)(hw:List aE->Int):bg:=aX (jY (af (bn [zF.Z1,zF.Z2,zF.Z3,zF.Z4,zF.Z5] "name" (ae 0)) (af (bn [zF.Z1,zF.Z2,zF.Z3,zF.Z4,zF.Z5] "time" (ae 0)) (af (jY (af (eC (.str "strike")) (af (bn [zF.Z1,zF.Z2,zF.Z3,zF.Z4,zF.Z5] "names" (ae 0)) (au)))) (au)))))
def nW(zF:Zz)(hw:List aE->Int):bg:=aX (jY (af (bn [zF.Z1,zF.Z2,zF.Z3,zF.Z4,zF.Z5] "name" (ae 0)) (af (bn [zF.Z1,zF.Z2,zF.Z3,zF.Z4,zF.Z5] "time" (ae 0)) (af (jY (af (eC (.str "dress")) (af (bn [zF.Z1,zF.Z2,zF.Z3,zF.Z4,zF.Z5] "names" (ae 0)) (af (bn [zF.Z1,zF.Z2,zF.Z3,zF.Z4,zF.Z5] "word" (ae 0)) (au))))) (au)))))
def qr(zF:Zz)(hw:List aE->Int):bg:=aX (jY (af (bn [zF.Z1,zF.Z2,zF.Z3,zF.Z4,zF.Z5] "name" (ae 0)) (af (bn [zF.Z1,zF.Z2,zF.Z3,zF.Z4,zF.Z5] "time" (ae 0)) (af (jY (af (eC (.str "move")) (af (bn [zF.Z1,zF.Z2,zF.Z3,zF.Z4,zF.Z5] "names" (ae 0)) (af (bn [zF.Z1,zF.Z2,zF.Z3,zF.Z4,zF.Z5] "anchor" (ae 0)) (au))))) (au)))))
def mf(zF:Zz)(hw:List aE->Int):bg:=sSeq (dQ (ju (jZ zF.C_Paper ar 1 (ae 0)) (af (em [(zF.Z2,dM zF hw),(zF.Z3,cq zF hw),(zF.Z4,cG zF hw),(zF.Z5,c8 zF hw)] "row" [] (ae 1) au) (au))))
 (sSeq (eU hw (jZ zF.C_Paper ar 2 (ae 0)) (bn [zF.Z1,zF.Z2,zF.Z3,zF.Z4,zF.Z5] "name" (ae 1)) (eC k_WAITS))
 (sSeq (eU hw (jZ zF.C_Paper ar 3 (ae 0)) (cu jd (bn [zF.Z1,zF.Z2,zF.Z3,zF.Z4,zF.Z5] "name" (ae 1)) (eC (.int 0))) (cu jd (bn [zF.Z1,zF.Z2,zF.Z3,zF.Z4,zF.Z5] "name" (ae 1)) (eC (.int 1))))
 (sSeq (Bu zF.C_Paper ar 4 (ae 0) (bn [zF.Z1,zF.Z2,zF.Z3,zF.Z4,zF.Z5] "time" (ae 1)))
 (aX (bn [zF.Z1,zF.Z2,zF.Z3,zF.Z4,zF.Z5] "name" (ae 1))))))
def f6(zF:Zz)(hw:List aE->Int):bg:=aX (jY (af (ae 1) (af (cu iD (pV hw (jZ zF.C_Paper ar 3 (ae 0)) (ae 1) (eC (.int 0))) (eC (.int 1))) (au))))
def fZ(zF:Zz)(hw:List aE->Int):bg:=aX (cu iD (jZ zF.C_Paper ar 4 (ae 0)) (eC (.int 1)))
def nV(zF:Zz)(hw:List aE->Int):bg:=sSeq (bO 4 (bb zF.C_Paper ar (aN zF hw) [] (ae 0) au))
 (sSeq (dQ (aP (da zF hw) [] (af (ae 2) (af (eB gK (af (ae 4) (au))) (au)))))
 (aX (bb zF.C_Paper ar (bR zF hw) [] (ae 0) (af (jL zF.Z2 (b_ zF hw) [] (af (bb zF.C_Paper ar (aK zF hw) [] (ae 0) (af (ae 1) (au))) (af (bb zF.C_Paper ar (aJ zF hw) [] (ae 0) au) (af (aP (db zF hw) [] (af (ae 4) (af (ae 2) (au)))) (af (ae 3) (au)))))) (au)))))
def md(zF:Zz)(hw:List aE->Int):bg:=aX (bb zF.C_Paper ar (cf zF hw) [] (ae 0) (af (ae 1) (af (ae 2) (af (eC (.str "\n")) (au)))))
def iU(zF:Zz)(hw:List aE->Int):bg:=sSeq (h9 (gy (bJ (dX yV Fk (eC (.int 0)) (ae 0) (ae 2)))) (ix) (bS))
 (h9 (gy (bJ (dX Fk yV (ae 0) (ae 1) (ae 2)))) (ix) (bS))
def iT(zF:Zz)(hw:List aE->Int):bg:=aX (eB xy (af (f_ 1 (gn (Jh Hk (ae 0) (n6 (ae 1)) (n6 (ae 2)))) (gN 0) (lP) (cu jd (ae 0) (eC (.int 1)))) (au)))
def jI(zF:Zz)(hw:List aE->Int):bg:=sSeq (bO 4 (bb zF.C_Paper ar (aN zF hw) [] (ae 0) au))
 (sSeq (dQ (aP (bj zF hw) [] (af (ae 2) (af (ae 3) (af (eB gK (af (ae 4) (au))) (au))))))
 (aX (bb zF.C_Paper ar (bR zF hw) [] (ae 0) (af (jL zF.Z3 (bc zF hw) [] (af (bb zF.C_Paper ar (aK zF hw) [] (ae 0) (af (ae 1) (au))) (af (bb zF.C_Paper ar (aJ zF hw) [] (ae 0) au) (af (aP (bh zF hw) [] (af (ae 4) (af (ae 2) (af (ae 3) (au))))) (au))))) (au)))))
def kK(zF:Zz)(hw:List aE->Int):bg:=sSeq (bO 5 (bb zF.C_Paper ar (aN zF hw) [] (ae 0) au))
 (sSeq (dQ (aP (bj zF hw) [] (af (ae 2) (af (ae 3) (af (eB gK (af (ae 5) (au))) (au))))))
 (aX (bb zF.C_Paper ar (bR zF hw) [] (ae 0) (af (jL zF.Z4 (bx zF hw) [] (af (bb zF.C_Paper ar (aK zF hw) [] (ae 0) (af (ae 1) (au))) (af (bb zF.C_Paper ar (aJ zF hw) [] (ae 0) au) (af (aP (bh zF hw) [] (af (ae 5) (af (ae 2) (af (ae 3) (au))))) (af (ae 4) (au)))))) (au)))))
def me(zF:Zz)(hw:List aE->Int):bg:=sSeq (bO 5 (bb zF.C_Paper ar (aN zF hw) [] (ae 0) au))
 (sSeq (dQ (aP (bj zF hw) [] (af (ae 2) (af (ae 3) (af (eB gK (af (ae 5) (au))) (au))))))
 (sSeq (dQ (aP (da zF hw) [] (af (ae 4) (af (eB gK (af (ae 5) (au))) (au)))))
 (sSeq (bO 6 (aP (bh zF hw) [] (af (ae 5) (af (ae 2) (af (ae 3) (au))))))
 (aX (bb zF.C_Paper ar (bR zF hw) [] (ae 0) (af (jL zF.Z5 (bM zF hw) [] (af (bb zF.C_Paper ar (aK zF hw) [] (ae 0) (af (ae 1) (au))) (af (bb zF.C_Paper ar (aJ zF hw) [] (ae 0) au) (af (ae 6) (af (aP (db zF hw) [] (af (ae 5) (af (ae 4) (au)))) (au)))))) (au)))))))
def sC(zF:Zz)(hw:List aE->Int):bg:=sSeq (h9 (bJ (fM ui (ae 1) (eC (.str "put")))) (aX (bb zF.C_Paper ar (cf zF hw) [] (ae 0) (af (eC (.str "bob")) (af (ae 2) (af (eC (.str "xy")) (au)))))) (bS))
 (sSeq (h9 (bJ (fM ui (ae 1) (eC (.str "part")))) (aX (bb zF.C_Paper ar (dw zF hw) [] (ae 0) (af (eC (.str "bob")) (af (ae 2) (au))))) (bS))
 (sSeq (h9 (bJ (fM ui (ae 1) (eC (.str "strike")))) (aX (bb zF.C_Paper ar (cb zF hw) [] (ae 0) (af (eC (.str "bob")) (af (ae 2) (af (ae 3) (au)))))) (bS))
 (sSeq (h9 (bJ (fM ui (ae 1) (eC (.str "dress")))) (aX (bb zF.C_Paper ar (cX zF hw) [] (ae 0) (af (eC (.str "bob")) (af (ae 2) (af (ae 3) (af (eC (.str "red")) (au))))))) (bS))
 (aX (bb zF.C_Paper ar (cQ zF hw) [] (ae 0) (af (eC (.str "bob")) (af (ae 2) (af (ae 3) (af (ae 4) (au))))))))))
def nB(zF:Zz)(hw:List aE->Int)(SL:ML)(EQ:XQ):bg:=h9 (gy (bJ (dX yV yV (eC (.int 0)) (ae 0) (ae 1)))) (wf SL "at" (af (ae 0) (au)) EQ) (bS)
def nC(zF:Zz)(hw:List aE->Int)(SL:ML)(EQ:XQ):bg:=sSeq (bO 4 (bb zF.C_Paper ar (aN zF hw) [] (ae 0) au))
 (sSeq (iz (cj zF hw SL) (af (ae 2) (af (eB gK (af (ae 4) (au))) (au))) EQ)
 (ix))
def lY(zF:Zz)(hw:List aE->Int)(SL:ML)(EQ:XQ):bg:=fG zF.C_Paper ar (dk zF hw SL) (ae 0) (af (ae 1) (af (ae 2) (af (eC (.str "\n")) (au)))) EQ
def iR(zF:Zz)(hw:List aE->Int)(SL:ML)(EQ:XQ):bg:=sSeq (h9 (gy (bJ (dX yV Fk (eC (.int 0)) (ae 0) (ae 2)))) (wf SL "at" (af (ae 0) (au)) EQ) (bS))
 (h9 (gy (bJ (dX Fk yV (ae 0) (ae 1) (ae 2)))) (wf SL "at" (af (ae 1) (au)) EQ) (bS))
def jD(zF:Zz)(hw:List aE->Int)(SL:ML)(EQ:XQ):bg:=sSeq (bO 4 (bb zF.C_Paper ar (aN zF hw) [] (ae 0) au))
 (sSeq (iz (aO zF hw SL) (af (ae 2) (af (ae 3) (af (eB gK (af (ae 4) (au))) (au)))) EQ)
 (ix))
def kz(zF:Zz)(hw:List aE->Int)(SL:ML)(EQ:XQ):bg:=sSeq (bO 5 (bb zF.C_Paper ar (aN zF hw) [] (ae 0) au))
 (sSeq (iz (aO zF hw SL) (af (ae 2) (af (ae 3) (af (eB gK (af (ae 5) (au))) (au)))) EQ)
 (ix))
def lZ(zF:Zz)(hw:List aE->Int)(SL:ML)(EQ:XQ):bg:=sSeq (bO 5 (bb zF.C_Paper ar (aN zF hw) [] (ae 0) au))
 (sSeq (iz (aO zF hw SL) (af (ae 2) (af (ae 3) (af (eB gK (af (ae 5) (au))) (au)))) EQ)
 (sSeq (iz (cj zF hw SL) (af (ae 4) (af (eB gK (af (ae 5) (au))) (au))) EQ)
 (ix)))
def r8(zF:Zz)(hw:List aE->Int)(SL:ML)(EQ:XQ):bg:=sSeq (h9 (bJ (fM ui (ae 1) (eC (.str "put")))) (fG zF.C_Paper ar (dk zF hw SL) (ae 0) (af (eC (.str "bob")) (af (ae 2) (af (eC (.str "xy")) (au)))) EQ) (bS))
 (sSeq (h9 (bJ (fM ui (ae 1) (eC (.str "part")))) (fG zF.C_Paper ar (dH zF hw SL) (ae 0) (af (eC (.str "bob")) (af (ae 2) (au))) EQ) (bS))
 (sSeq (h9 (bJ (fM ui (ae 1) (eC (.str "strike")))) (fG zF.C_Paper ar (cT zF hw SL) (ae 0) (af (eC (.str "bob")) (af (ae 2) (af (ae 3) (au)))) EQ) (bS))
 (sSeq (h9 (bJ (fM ui (ae 1) (eC (.str "dress")))) (fG zF.C_Paper ar (dg zF hw SL) (ae 0) (af (eC (.str "bob")) (af (ae 2) (af (ae 3) (af (eC (.str "red")) (au))))) EQ) (bS))
 (fG zF.C_Paper ar (dI zF hw SL) (ae 0) (af (eC (.str "bob")) (af (ae 2) (af (ae 3) (af (ae 4) (au))))) EQ))))
def l9(zF:Zz)(hw:List aE->Int)(SM:ML)(SL:ML)(SN:ML)(SO:ML):bg:=sSeq (bO 5 (eC .non))
 (sSeq (DD (fun C a=>C=SL/\a="at") (fun ds G Q EQ=>eO zF hw ds G Q\/eQ zF hw SL ds G Q EQ) (af (ae 0) (af (ae 1) (af (ae 2) (af (ae 3) (af (ae 4) (au)))))) 6 (fun _ _ z x=>bO 5 (Jf (ae 6) x z)))
 (aX (ae 5)))
def kI(zF:Zz)(hw:List aE->Int)(SM:ML)(SL:ML)(SN:ML)(SO:ML):bg:=sSeq (bO 5 (eC (.bl false)))
 (sSeq (DD (fun C a=>C=SL/\a="at") (fun ds G Q EQ=>eO zF hw ds G Q\/eQ zF hw SL ds G Q EQ) (af (ae 0) (af (ae 1) (af (ae 2) (af (ae 3) (af (ae 4) (au)))))) 6 (fun _ _ z x=>bO 5 (GJ (eB (Fb x (.ty "ValueError") true) (af (ae 6) (af (eC (.ty "ValueError")) (au)))) (GJ (BK (eB (Fb x (.ref SO) false) (af (ae 6) (af (eC (.ref SO)) (au))))) (BK (eB (Fb x (.ref SN) false) (af (ae 6) (af (eC (.ref SN)) (au)))))))))
 (aX (ae 5)))
def im(zF:Zz)(hw:List aE->Int):bg:=sSeq (r6 zF.C_Paper [] "old" (ae 0) (ae 1))
 (sSeq (r6 zF.C_Paper ["old"] "drawn" (ae 0) (A1 (A2 (au))))
 (sSeq (r6 zF.C_Paper ["old","drawn"] "states" (ae 0) (qA hw))
 (sSeq (r6 zF.C_Paper ["old","drawn","states"] "greatest" (ae 0) (EY))
 (r6 zF.C_Paper ["old","drawn","states","greatest"] "time" (ae 0) (eC (.int 0))))))
def DO(zF:Zz)(hw:List aE->Int):bg:=sSeq (bO 5 (aP (cV zF hw) [] (af (ae 4) (af (eC (.int 5)) (au)))))
 (sSeq (bO 6 (aP (dL zF hw) [] (af (ae 3) (au))))
 (sSeq (bO 7 (eB gK (af (cu jd (ae 6) (eC (.int 1))) (au))))
 (sSeq (bO 8 (cu jd (A2 (af (eC (.str "put")) (af (eC (.str "part")) (af (eC (.str "strike")) (af (eC (.str "dress")) (af (eC (.str "move")) (af (eC (.str "move")) (au)))))))) (cu lL (cu jd (ae 5) (eC (.int 0))) (eC (.int 6)))))
 (sSeq (bO 9 (aP (bU zF hw) [] (af (cu jd (ae 5) (eC (.int 1))) (af (ae 4) (af (ae 7) (au))))))
 (sSeq (bO 10 (aP (bU zF hw) [] (af (cu jd (ae 5) (eC (.int 2))) (af (cu uD (ae 4) (eC (.int 3))) (af (ae 7) (au))))))
 (sSeq (bO 11 (aP (bU zF hw) [] (af (cu jd (ae 5) (eC (.int 3))) (af (cu uD (ae 4) (eC (.int 7))) (af (ae 7) (au))))))
 (sSeq (h9 (u6 (bJ (fM ui (cu lL (cu jd (ae 5) (eC (.int 4))) (eC (.int 2))) (eC (.int 0)))) (bJ (dX yV Fk (eC (.int 0)) (ae 9) (ae 7)))) (bO 10 (cu iD (cu iD (ae 9) (eC (.int 1))) (cu lL (cu jd (ae 5) (eC (.int 2))) (cu Cq (ae 7) (ae 9))))) (bS))
 (sSeq (bO 12 (aP (eT zF hw) [] (af (ae 8) (af (ae 9) (af (ae 10) (af (ae 11) (af (ae 7) (au))))))))
 (sSeq (h9 (bJ (fM Hu (aP (du zF hw) [] (af (ae 3) (af (ae 8) (af (ae 9) (af (ae 10) (af (ae 11) (au))))))) (ae 12))) (aX (eC (.bl false))) (bS))
 (h9 (bJ (cu Gg (ae 12) (eC .non))) (h9 (Ag (bJ (fM Hu (eB gK (af (bb zF.C_Paper ar (bL zF hw) [] (ae 3) au) (au))) (cu iD (eB gK (af (cu jd (ae 6) (eC (.int 0))) (au))) (eC (.int 1))))) (bJ (fM Hu (bb zF.C_Paper ar (bd zF hw) [] (ae 3) au) (cu iD (cu jd (ae 6) (eC (.int 3))) (eC (.int 1)))))) (aX (eC (.bl false))) (bS)) (h9 (Ag (gy (uk (aP (cW zF hw) [] (af (ae 3) (af (ae 8) (af (ae 9) (af (ae 10) (af (ae 11) (au))))))))) (bJ (fM Hu (aP (dL zF hw) [] (af (ae 3) (au))) (ae 6)))) (aX (eC (.bl false))) (bS))))))))))))
def DM(zF:Zz)(hw:List aE->Int):bg:=sSeq (bO 1 (aP (cE zF hw) [] (af (ae 0) (af (eC (.int 0)) (au)))))
 (sSeq (bO 2 (Jh Hk (eC (.str "old\npaper")) (Kn) (n6 (cu lL (ae 1) (eC (.int 10))))))
 (sSeq (bO 3 (jL zF.C_Paper (b7 zF hw) [] (af (ae 2) (au))))
 (sSeq (dQ (bb zF.C_Paper ar (cf zF hw) [] (ae 3) (af (eC (.str "ann")) (af (cu lL (cu uD (ae 1) (eC (.int 10))) (cu iD (eB gK (af (ae 2) (au))) (eC (.int 1)))) (af (eC (.str "abc")) (au))))))
 (sSeq (dQ (bb zF.C_Paper ar (cb zF hw) [] (ae 3) (af (eC (.str "cyd")) (af (cu lL (cu uD (ae 1) (eC (.int 100))) (cu iD (eB gK (af (ae 2) (au))) (eC (.int 3)))) (af (cu iD (eB gK (af (ae 2) (au))) (eC (.int 3))) (au))))))
 (sSeq (dQ (bb zF.C_Paper ar (cf zF hw) [] (ae 3) (af (eC (.str "ann")) (af (eC (.int 0)) (af (eC (.str "z")) (au))))))
 (sSeq (dQ (bb zF.C_Paper ar (cQ zF hw) [] (ae 3) (af (eC (.str "eve")) (af (eC (.int 0)) (af (eC (.int 1)) (af (cu lL (cu uD (ae 1) (eC (.int 1000))) (cu iD (eB gK (af (bb zF.C_Paper ar (cP zF hw) [] (ae 3) au) (au))) (eC (.int 1)))) (au)))))))
 (sSeq (jS (gn (Jh Hk (ae 0) (n6 (eC (.int 1))) (n6 (eC (.int 25))))) (gN 4) (DO zF hw))
 (aX (eC (.bl true))))))))))
def wl:String:="bS dQ aX JX Ib JY h9 ix bO FG ig LF Bu r6 ae eC cu fM dX GJ Mz BK MA L5 bJ u6 Ag gy uk lP HR jY A2 au af iD oI Hv Cq lL uD Gf AJ Fk yV Lf Mv ui Hu jd Jh Kn n6 Hk eB gK zL xy L7 L8 L9 L_ w_ aP bb jL jZ KD ju f_ jS gn LW LV LU LC eK tY Fl gN tG hU tH val cx List.map_cons List.map_nil List.replicate List.length_cons List.length_nil List.cons_append List.nil_append List.append_nil List.getElem?_cons_zero List.getElem?_cons_succ List.getElem?_nil List.set_cons_zero List.set_cons_succ List.set_nil Nat.reduceAdd Nat.reduceSub Nat.reduceLeDiff Nat.zero_add Option.some.injEq Option.map_some decide_eq_true_eq true_and and_true and_self if_true if_false Bool.false_eq_true reduceCtorEq List.cons.injEq GO.ins.injEq GO.lst.injEq D.lst.injEq D.fl.injEq exists_eq_left' exists_eq_left exists_eq' av d8 pl bX K2 K1 K0 KZ KY KW KU KS KR KQ KP KO KN KM KL qA EY pV eU kM KC KB Jj LK IK jK cB ow zi Gu Bool.not_true Bool.not_false bn iQ em A5 Ji Jg AY Gg yU tw Ao zy xn oK Ma KJ if_true if_false A4 A3 CI fy DF BQ xz KA GI Mq KB oK pV jK Lf A1 DE xo k_WAITS k_WIPED AZ LM LL Fb Jf JA k_START tK tJ pU rm wz wE wy wD wx wC ww wB zw zt uO xh Cj Cm Ci Ck wA wF uR uQ tL uP yP yQ a_ dJ ck aQ b_ bc bx bM c9 ax bw ba c_ cO fF eR fE d4 d5 cv ak cD cU dq fB fC da bj db bh dM cq cG c8 bK cP aN bL aK aJ bR bd cw b7 cb cf dw cX cQ cE cV bU eT eO du cW dL"
local macro_rules | `(tactic| walk_at "st") => do let ls <- (("sSeq " ++ wl).splitOn " ").toArray.mapM (fun s => `(Lean.Parser.Tactic.simpLemma| $(Lean.mkIdent s.toName):term)); `(tactic| simp only [$ls,*, *])
local macro_rules | `(tactic| walk_at "s1") => do let ls <- (wl.splitOn " ").toArray.mapM (fun s => `(Lean.Parser.Tactic.simpLemma| $(Lean.mkIdent s.toName):term)); `(tactic| simp only [$ls,*, *])
theorem zm{b:Bool}{p q:Prop}(h1:b=true->p)(h2:b=false->q):if b=true then p else q:=by
 cases b
 ·rw[if_neg (by decide)];exact h2 rfl
 ·rw[if_pos rfl];exact h1 rfl
theorem iteF{p q:Prop}(h:q):if (false:Bool)=true then p else q:=by rw[if_neg (by decide)];exact h
theorem iteT{p q:Prop}(h:p):if (true:Bool)=true then p else q:=by rw[if_pos rfl];exact h
theorem qz{a b:Int}(h:0 < b):0<=a % b/\a % b < b:=⟨Int.emod_nonneg _ (by walk_at "o"),Int.emod_lt_of_pos _ h⟩
theorem Jx{α:Type}[Inhabited α]{f:α->D}{xs:List α}{i:Int}(h0:0<=i)(h:i < xs.length):mX (xs.map f) i=some (f (xs.getD i.toNat default)):=by
 rw[zM h0 (by rw[MO];exact h)]
 have hi:i.toNat < xs.length:=by walk_at "o"
 simp[hi]
theorem vD(h:G p=none):fL (gset G p o) p=G:=by
 funext a
 by_cases e:a=p
 ·subst e;rw[d9,h]
 ·rw[d_ e,am e]
local macro_rules | `(tactic| walk_at "conds") => `(tactic| (repeat ((with_reducible refine And.intro ?cc ?_); (case cc => first | decide | omega | rfl))))
def bI(sp:cS)(rd:bg)(ns:List Str):Prop:=∀ ds G Q,sp ds G Q->rd { nx:=fun _ G'=>Q .non G',rt:=Q } (cx ns ds) G
def bD(sp:cS)(n:Nat):Prop:=∀ ds G Q,sp ds G Q->ds.length=n
local macro_rules | `(tactic| walk_at "i") => `(tactic| first | exact Or.inl rfl | exact Or.inr rfl)
def zO(sp:t7)(rx:XQ->bg)(ns:List Str):Prop:=∀ EQ ds G Q,sp ds G Q EQ->rx EQ { nx:=fun _ G'=>Q .non G',rt:=Q } (cx ns ds) G
def zS(sp:t7)(n:Nat):Prop:=∀ ds G Q EQ,sp ds G Q EQ->ds.length=n
theorem lG(zF:Zz)(hw:HW):bI (aQ zF hw) (gR zF hw) ["self","name","time"]:=by
 intro ds G Q h;unfold aQ at h;split at h
 ·rename_i a d t;obtain⟨C,hC,hG,p,n,rfl,h⟩:=h;have hs:=al;unfold gR;walk_at "st";walk_at "conds";exact h
 ·exact h.elim
theorem pA(zF:Zz)(hw:HW):bI (b_ zF hw) (jH zF hw) ["self","name","time","anchor","signs"]:=by
 intro ds G Q h;unfold b_ at h;split at h
 ·rename_i a d t b x;obtain⟨hG,p,n,s,rfl,rfl,h⟩:=h;have hs:=al;have hc:zF.Z2∈[zF.Z1,zF.Z2,zF.Z3,zF.Z4,zF.Z5]:=by simp
  unfold jH;unfold Sl.d;walk_at "st";exact⟨zF.Z2,hc,rfl,p,n,rfl,⟨hc,by decide⟩,⟨hc,by decide⟩,h⟩
 ·exact h.elim
theorem lH(zF:Zz)(hw:HW):bI (bc zF hw) (gT zF hw) ["self","name","time","names"]:=by
 intro ds G Q h;unfold bc at h;split at h
 ·obtain⟨hG,p,n,rfl,h⟩:=h;have hs:=al;have hc:zF.Z3∈[zF.Z1,zF.Z2,zF.Z3,zF.Z4,zF.Z5]:=by simp
  unfold gT;walk_at "st";exact⟨zF.Z3,hc,rfl,p,n,rfl,⟨hc,by decide⟩,h⟩
 ·exact h.elim
theorem mJ(zF:Zz)(hw:HW):bI (bx zF hw) (ip zF hw) ["self","name","time","names","word"]:=by
 intro ds G Q h;unfold bx at h;split at h
 ·obtain⟨hG,p,n,rfl,h⟩:=h;have hs:=al;have hc:zF.Z4∈[zF.Z1,zF.Z2,zF.Z3,zF.Z4,zF.Z5]:=by simp
  unfold ip;walk_at "st";exact⟨zF.Z4,hc,rfl,p,n,rfl,⟨hc,by decide⟩,⟨hc,by decide⟩,h⟩
 ·exact h.elim
theorem nN(zF:Zz)(hw:HW):bI (bM zF hw) (iY zF hw) ["self","name","time","names","anchor"]:=by
 intro ds G Q h;unfold bM at h;split at h
 ·obtain⟨hG,p,n,s,rfl,rfl,h⟩:=h;have hs:=al;have hc:zF.Z5∈[zF.Z1,zF.Z2,zF.Z3,zF.Z4,zF.Z5]:=by simp
  unfold iY;unfold Sl.d;walk_at "st";exact⟨zF.Z5,hc,rfl,p,n,rfl,⟨hc,by decide⟩,⟨hc,by decide⟩,h⟩
 ·exact h.elim
theorem sf(zF:Zz)(hw:HW):bI (ck zF hw) (l7 zF hw) ["name","how_many"]:=by
 intro ds G Q h;unfold ck at h;split at h
 ·rename_i p n m;obtain⟨⟨h1,h2⟩,h⟩:=h;have hs:=al;unfold l7;walk_at "s1";refine⟨⟨by walk_at "o",by walk_at "o",by walk_at "o",by walk_at "o"⟩,hV (fun d=>match d with|.int k=>.tup [.str p,.int n,.int k]|d=>d) (by rw[iB];omega) (fun d hd P hP=>?_) ?_⟩
  ·obtain⟨k,hk,rfl⟩:=mem_map.mp hd;walk_at "st";exact⟨rfl,by walk_at "o",by simp,by walk_at "o",hP _ rfl⟩
  ·have e:(fJ 1 (m+1 - 1).toNat).map (fun d=>match d with|D.int k=>D.tup [.str p,.int n,.int k]|d=>d)=(dh p n m.toNat).map Sl.d:=by
    unfold fJ dh;rw[NH,NH,show m+1 - 1=m by walk_at "o"]
    refine N5 fun k _=>?_;simp only[Function.comp,Sl.d];rw[Int.add_comm]
   rw[e];exact h
 ·exact h.elim
theorem uv(zF:Zz)(hw:HW):bI (c_ zF hw) (nP zF hw) ["old"]:=by
 intro ds G Q h;unfold c_ at h;split at h
 ·rename_i x;obtain⟨h1,h⟩:=h;have hs:=al;unfold nP;have ec:L3.cutD [D.str (MN ""),D.int 0,D.int 0] none (some 2)=[D.str (MN ""),D.int 0]:=by rw[GN (by decide)];rfl
  walk_at "st";refine⟨by decide,by walk_at "o",⟨by walk_at "o",by walk_at "o"⟩,?_⟩
  rw[Int.toNat_natCast];exact h
 ·exact h.elim
theorem pz(zF:Zz)(hw:HW):bI (ax zF hw) (jG zF hw) ["self"]:=by
 intro ds G Q h;unfold ax at h;split at h
 ·have hs:=al;unfold jG;walk_at "st"
  first|exact⟨by walk_at "o",h⟩|omega
 ·exact h.elim
theorem uA(zF:Zz)(hw:HW):bI (bw zF hw) (nU zF hw) ["self"]:=by
 intro ds G Q h;unfold bw at h;split at h
 ·rename_i a;obtain⟨s,b,x,⟨e,hG,hl⟩,h⟩:=h;have hs:=al;have hc:zF.Z2∈[zF.Z1,zF.Z2,zF.Z3,zF.Z4,zF.Z5]:=by simp
  unfold aR at hG;rw[e]at hG;unfold nU;walk_at "st";refine⟨by walk_at "o",⟨by walk_at "o",by walk_at "o"⟩,?_⟩
  rw[Int.toNat_natCast];unfold made at h;rw[e]at h;exact h
 ·exact h.elim
theorem sx(zF:Zz)(hw:HW):bI (ba zF hw) (mh zF hw) ["self"]:=by
 intro ds G Q h;unfold ba at h;split at h
 ·rename_i a;obtain⟨s,b,ns,⟨e,hG,hl⟩,h⟩:=h;have hs:=al;have hc:zF.Z5∈[zF.Z1,zF.Z2,zF.Z3,zF.Z4,zF.Z5]:=by simp
  unfold aR at hG;rw[e]at hG;unfold mh;walk_at "st";rw[MO];refine⟨⟨by walk_at "o",by walk_at "o"⟩,?_⟩
  rw[Int.toNat_natCast];unfold made at h;rw[e]at h;exact h
 ·exact h.elim
theorem j_(h:MN a≠MN b):eA (.str (MN a)) (.str (MN b))=false:=bf fun z=>h (by injection z)
theorem uu(zF:Zz)(hw:HW):bI (c9 zF hw) (nO zF hw) ["row","name","time","act"]:=by
 intro ds G Q h;unfold c9 at h;split at h
 ·obtain⟨⟨pen,num,time,act⟩,rfl,h⟩:=h;have hs:=al;unfold aR at h;unfold nO Sk.d;cases act with
  | put a x=>
   unfold Act.d;dsimp only at h;rw[ag];walk_at "s1";rw[ag];walk_at "s1";rw[ag];walk_at "s1";rw[ag];unfold Sl.d at h;unfold Sl.d;walk_at "s1";exact fun p hp=>⟨pen,num,a,rfl,rfl,h p hp⟩
  | strike ns=>
   unfold Act.d;dsimp only at h;rw[ag];walk_at "s1";rw[ag];walk_at "s1";rw[ag];walk_at "s1";have e0:=j_ (a:="strike") (b:="put") (by decide +kernel)
   rw[ag];refine bo false (fun K hK=>?_) (iteF ?_)
   ·walk_at "st"
   ·simp only[bS];rw[ag];walk_at "s1";exact fun p hp=>⟨pen,num,rfl,h p hp⟩
  | dress ns w=>
   unfold Act.d;dsimp only at h;rw[ag];walk_at "s1";rw[ag];walk_at "s1";rw[ag];walk_at "s1";have e0:=j_ (a:="dress") (b:="put") (by decide +kernel)
   have e1:=j_ (a:="dress") (b:="strike") (by decide +kernel)
   rw[ag];refine bo false (fun K hK=>?_) (iteF ?_)
   ·walk_at "st"
   ·simp only[bS];rw[ag];refine bo false (fun K hK=>?_) (iteF ?_)
    ·walk_at "st"
    ·simp only[bS];rw[ag];walk_at "s1";exact fun p hp=>⟨pen,num,rfl,h p hp⟩
  | move ns a=>
   unfold Act.d;dsimp only at h;rw[ag];walk_at "s1";rw[ag];walk_at "s1";rw[ag];walk_at "s1";have e0:=j_ (a:="move") (b:="put") (by decide +kernel)
   have e1:=j_ (a:="move") (b:="strike") (by decide +kernel)
   have e2:=j_ (a:="move") (b:="dress") (by decide +kernel)
   rw[ag];refine bo false (fun K hK=>?_) (iteF ?_)
   ·walk_at "st"
   ·simp only[bS];rw[ag];refine bo false (fun K hK=>?_) (iteF ?_)
    ·walk_at "st"
    ·simp only[bS];rw[ag];refine bo false (fun K hK=>?_) (iteF ?_)
     ·walk_at "st"
     ·simp only[bS];unfold Sl.d at h;unfold Sl.d;walk_at "s1";exact fun p hp=>⟨pen,num,a,rfl,rfl,h p hp⟩
 ·exact h.elim
theorem mG(zF:Zz)(hw:HW):bI (a_ zF hw) (ij zF hw) ["row"]:=by
 intro ds G Q h;unfold a_ at h;split at h
 ·obtain⟨r,rfl,h⟩:=h;have hs:=al;unfold ij Rw.d;walk_at "st"
  first|exact⟨by walk_at "o",h⟩|omega
 ·exact h.elim
def Mt(hw:List aE->Int)(G:Gp)(p:ML)(ss W:List Sl)(b:Sl)(a:D)(i:Nat)(σ:eE)(G':Gp):Prop:=∃ (x4:Option D) (Wi:List Sl) (bi:Sl) (kvs:List (List aE×D)),σ=[some (.ref p),some a,some (.lst (ss.map Sl.d)),some bi.d,x4]/\G'=gset G p (.dT hw kvs)/\Db kvs Wi/\bi∈Wi/\(∀ x∈ss.drop i,x∉Wi)/\bp Wi bi (ss.drop i)=bp W b ss/\Wi.length=W.length+i
theorem sg(zF:Zz)(hw:HW):bI (cO zF hw) (l8 zF hw) ["following","anchor","slots","behind","slot"]:=by
 intro ds G Q h;unfold cO at h;split at h
 ·rename_i p a xs;obtain⟨b,ss,W,kvs,⟨rfl,rfl,hG,hF,hb,nd,hf,hl⟩,h⟩:=h;have hs:=al;unfold l8;rw[ag];have eb:(match b.d with|D.fl ds=>D.lst ds|d=>d)=b.d:=rfl
  simp only[bO,ae,cx,val,M8,Pj,OB,OM,List.replicate,Nn,Nu,M1,Nj,Nt,NJ,Qn,Qm,eb];refine⟨Mt hw G p ss W b b.d,⟨_,W,b,kvs,rfl,?_,hF,hb,hf,rfl,rfl⟩,?_,?_⟩
  ·funext z
   by_cases e:z=p
   ·subst e;rw[av];exact hG
   ·rw[am e]
  ·rintro i d σ G' hd ⟨x4,Wi,bi,kvs,rfl,rfl,hF,hb,hf,hI,hlen⟩
   rw[Nc]at hd;cases hx:ss[i]? with
   | none=>rw[hx]at hd;cases hd
   | some x=>
    rw[hx]at hd;cases hd;obtain⟨hi,ex⟩:=List.getElem?_eq_some_iff.mp hx;have dr:ss.drop i=x::ss.drop (i+1):=by rw[<- ex];exact List.drop_eq_getElem_cons hi
    rw[dr]at hf hI;have hxW:=hf x MZ;have fs:=ES hF hb hxW;have lk:=hF.2.2.2 bi hb;have lx:=hF.2.2.1 x hxW;have nx1:=hF.2.1;have nd':(x::ss.drop (i+1)).Nodup:=by rw[<- dr];exact nd.sublist (List.drop_sublist _ _)
    rw[Om]at nd';simp only[gN,NJ,Nt];have kx:=xa x;have kb:=xa bi;have vx:val x.d=x.d:=rfl;have vb:val bi.d=bi.d:=rfl;rw[ag];show ∃ d,cB hw (gset G p (.dT hw kvs)) (.ref p) bi.d (some d)/\kM hw (.ref p) x.d (val d) (gset G p (.dT hw kvs)) _
    refine⟨nx Wi bi,?_,?_⟩
    ·show (match gset G p (.dT hw kvs) p with|some (.dT hw' kvs)=>hw'=hw/\∃ ks,ow bi.d=some ks/\some (nx Wi bi)=dF kvs ks|some (.dK kvs)=>_|_=>False)
     rw[av];exact⟨rfl,bi.key,kb,lk.symm⟩
    ·rw[IL];show (match gset G p (.dT hw kvs) p with|some (.dT hw' kvs)=>hw'=hw/\∃ ks,ow x.d=some ks/\kvs.length < MT/\_|some (.dK kvs)=>_|some (.lst ds)=>_|_=>False)
     rw[av];refine⟨rfl,x.key,kx,by walk_at "o",?_⟩
     rw[d8];dsimp only;rw[ag];show (match gset G p (.dT hw (bu kvs x.key (nx Wi bi))) p with|some (.dT hw' kvs)=>hw'=hw/\∃ ks,ow bi.d=some ks/\kvs.length < MT/\_|some (.dK kvs)=>_|some (.lst ds)=>_|_=>False)
     rw[av];refine⟨rfl,bi.key,kb,by have:=eV kvs x.key (nx Wi bi);omega,?_⟩
     rw[d8];refine⟨_,jX Wi bi x,x,_,rfl,rfl,fs,(dW hb x).mpr (.inr rfl),fun y hy hW=>?_,?_,by rw[kS hb];omega⟩
     ·rcases (dW hb y).mp hW with z|z
      ·exact hf y (MW _ hy) z
      ·exact nd'.1 (z ▸ hy)
     ·exact hI
  ·rintro σ G' ⟨x4,Wi,bi,kvs,rfl,rfl,hF,hb,hf,hI,hlen⟩
   rw[MO,List.drop_length]at hI;have:Wi=bp W b ss:=hI;rw[this]at hF;exact h _ hF
 ·exact h.elim
def Mj(G:Gp)(p q:ML)(R:List Sl)(m:Nat)(σ:eE)(G':Gp):Prop:=∃ i,i<=R.length/\m=R.length - i/\σ=[some (.ref p),some (.ref q),some (Dg (R.drop i))]/\G'=gset G q (.lst ((R.take i).map Sl.d))
theorem Ko(hW:W.Nodup):∀ {pre post:List Sl} {c:Sl},W=pre ++ c::post->nx W c=Dg post:=by
 induction W with
 | nil=>intro pre post c h;simp at h
 | cons a t ih=>
  intro pre post c h;rw[Om]at hW;cases pre with
  | nil=>
   simp only[OM,List.cons.injEq]at h;obtain⟨rfl,rfl⟩:=h;simp[nx]
  | cons a' pre=>
   simp only[OB,List.cons.injEq]at h;obtain⟨rfl,h⟩:=h;have hc:c∈t:=by rw[h];simp
   simp only[nx];rw[if_neg (fun (z:a=c)=>hW.1 (by rw[z];exact hc))]
   exact ih hW.2 h
theorem yD(zF:Zz)(hw:HW):bI (fF zF hw) (sB zF hw) ["following","row","slot"]:=by
 intro ds G Q h;unfold fF at h;split at h
 ·rename_i p;obtain⟨R,kvs,⟨hG,hF,hl⟩,h⟩:=h;have hs:=al;unfold sB;rw[ag];walk_at "s1";refine⟨by walk_at "o",fun q hq=>?_⟩
  have hpq:p≠q:=fun z=>by subst z;rw[hG]at hq;cases hq
  have gp:∀ o,gset G q o p=some (.dT hw kvs):=fun o=>by rw[am hpq];exact hG
  have look:∀ c∈aA::R,∀ o,cB hw (gset G q o) (.ref p) c.d (some (nx (aA::R) c)):=fun c hc o=>by
   show (match gset G q o p with|some (.dT hw' kvs)=>hw'=hw/\∃ ks,ow c.d=some ks/\some (nx (aA::R) c)=dF kvs ks|some (.dK kvs)=>_|_=>False)
   rw[gp];exact⟨rfl,c.key,xa c,(hF.2.2.2 c hc).symm⟩
  rw[ag];show ∃ d,cB hw (gset G q (.lst [])) (.ref p) aA.d (some d)/\_
  refine⟨_,look aA (by simp) _,?_⟩
  have e0:nx (aA::R) aA=Dg R:=by simp[nx]
  dsimp only;rw[ag,e0,wM];simp only[NJ,Nt];refine⟨Mj G p q R,⟨R.length,0,NC _,rfl,rfl,rfl⟩,?_⟩;have wc:∀ (a b:Option D) (d:D) (K:Bool->Gp->Prop) (G:Gp),bJ (cu yU (ae 2) (eC .non)) [a,b,some d] G K↔K (!tw d) G:=fun a b d K G=>Iff.rfl
  rintro m σ G' ⟨i,hi,rfl,rfl,rfl⟩
  by_cases hlt:i < R.length
  ·have dr:R.drop i=R[i]::R.drop (i+1):=List.drop_eq_getElem_cons hlt;rw[dr];refine (wc _ _ (R[i]).d _ _).mpr ?_;dsimp only;rw[show (!tw (R[i]).d)=true from rfl,if_pos rfl]
   have e1:nx (aA::R) R[i]=Dg (R.drop (i+1)):=Ko hF.1 (pre:=aA::R.take i) (by rw[OB];congr 1;rw[<- dr];exact (List.take_append_drop i R).symm)
   refine⟨fun σ G'=>Mj G p q R (R.length - (i+1)) σ G',fun σ2 G2 hN=>⟨_,by walk_at "o",hN⟩,?_⟩
   rw[ag];have ua:∀ (E:Ends3) (Z:D),dQ (ju (ae 1) (af (ae 2) au)) E [some (.ref p),some (.ref q),some (R[i]).d] (gset G q (.lst ((R.take i).map Sl.d)))↔((R.take i).map Sl.d).length < MT/\E.nx [some (.ref p),some (.ref q),some (R[i]).d] (gset G q (.lst ((R.take i).map Sl.d ++ [(R[i]).d]))):=fun E Z=>by
    unfold Sl.d;walk_at "s1"
   rw[show Dg (R[i]::R.drop (i+1))=(R[i]).d from rfl,ua _ .non]
   refine⟨by rw[MO,NV];omega,?_⟩
   dsimp only;show ∃ d,cB hw (gset G q _) (.ref p) (R[i]).d (some d)/\_
   refine⟨_,look R[i] (by simp) _,i+1,by walk_at "o",rfl,?_,?_⟩
   ·rw[e1,wM];rfl
   ·rw[NU,MX hlt,NN];rfl
  ·have ei:i=R.length:=by walk_at "o"
   subst ei;rw[List.drop_length,NF];refine (wc _ _ .non _ _).mpr ?_;dsimp only;rw[show (!tw D.non)=false from rfl,if_neg (by decide)]
   show ig 1 _ _ _
   simp only[ig,Nu,Nn,av];rw[vD hq];exact h
 ·exact h.elim
theorem Fx(vs:List Rw):(vs.map pN).map (·.2)=vs.map Rw.d:=by rw[NH];rfl
theorem DK{rs:List Rw}{i:Nat}{d:D}(h:(rs.map Rw.d)[i]?=some d):∃ r,rs[i]?=some r/\d=r.d:=by
 rw[Nc]at h;cases e:rs[i]? with
 | none=>rw[e]at h;cases h
 | some r=>rw[e]at h;cases h;exact⟨r,rfl,rfl⟩
theorem key_at{rs:List Rw}{i:Nat}{d:D}(h:(rs.map Rw.key)[i]?=some d):∃ r,rs[i]?=some r/\d=r.key:=by
 rw[Nc]at h;cases e:rs[i]? with
 | none=>rw[e]at h;cases h
 | some r=>rw[e]at h;cases h;exact⟨r,rfl,rfl⟩
theorem FD(zF:Zz)(hw:HW)(G:Gp){vs base:List Rw}(hv:vs.Pairwise jR)(hb:base.length < 64)(sub:∀ r∈vs,r∈base):
  SortBy (a_ zF hw) G (vs.map Rw.d) (vs.map Rw.key) fun i=>PySem.W.rankIn Rw.lt vs (vs.getD i default) where
 few:=by
  rw[MO];have:=f9 (qE hv) sub;omega
 len:=by rw[MO,MO]
 key:=fun i d kd h1 h2=>by
  obtain⟨r,e1,rfl⟩:=DK h1;obtain⟨r',e2,rfl⟩:=key_at h2;rw[e1]at e2;cases e2;exact⟨r,rfl,rfl,rfl⟩
 ki:=fun d hd=>by
  obtain⟨r,_,rfl⟩:=mem_map.mp hd;exact⟨_,_,rfl⟩
 cp:=fun a ha b hb=>by
  obtain⟨r,_,rfl⟩:=mem_map.mp ha;obtain⟨r',_,rfl⟩:=mem_map.mp hb;exact IW r r'
 lt:=fun i j a b h1 h2=>by
  obtain⟨r,e1,rfl⟩:=key_at h1;obtain⟨r',e2,rfl⟩:=key_at h2;rw[IT,PySem.W.rank_lt DG (M6 e1),M4,M4,e1,e2];rfl
theorem wm(zF:Zz)(hw:HW):bI (dJ zF hw) (qm zF hw) ["rows","by_name","row"]:=by
 intro ds G Q h;unfold dJ at h;split at h
 ·rename_i q;obtain⟨rs,base,⟨hq0,one,l1,l2,sub⟩,h⟩:=h;have hs:=al;unfold qm;rw[ag];walk_at "s1";intro p hp;have hqp:q≠p:=fun z=>by subst z;rw[hp]at hq0;cases hq0
  rw[ag];walk_at "s1";refine⟨rs.map Rw.d,by rw[am hqp];exact hq0,fun i σ G'=>∃ (vs:List Rw) (v:Option D),(σ=[some (.ref q),some (.ref p),v]/\G'=gset G p (.dT hw (vs.map pN)))/\vs.Pairwise jR/\∀ r,r∈vs↔r∈rs.take i,⟨[],none,⟨rfl,rfl⟩,.nil,by simp⟩,?_,?_,?_⟩
  ·rintro i σ G' ⟨vs,v,⟨_,rfl⟩,_⟩
   rw[am hqp];exact hq0
  ·rintro i d σ G' hd ⟨vs,v,⟨rfl,rfl⟩,hv,hm⟩
   obtain⟨r,hr,rfl⟩:=DK hd;have hr':=M6 hr;have tk:∀ x,x∈rs.take (i+1)↔x∈rs.take i\/x=r:=fun x=>by
    rw[NU,hr,Sm];simp
   have lv:vs.length<=base.length:=f9 (qE hv) fun x hx=>sub x (OY ((hm x).mp hx));simp only[gN,NJ,Nt];have fin:∀ G2,G2=gset G p (.dT hw (bu (vs.map pN) (qu r) r.d))->∃ (vs:List Rw) (v:Option D),(([some (D.ref q),some (.ref p),some r.d]:eE)=[some (.ref q),some (.ref p),v]/\G2=gset G p (.dT hw (vs.map pN)))/\vs.Pairwise jR/\∀ x,x∈vs↔x∈rs.take (i+1):=by
    intro G2 e
    by_cases hin:r∈vs
    ·refine⟨vs,_,⟨rfl,?_⟩,hv,fun x=>?_⟩
     ·rw[e,Ij hin fun a ha pp nn=>one a (OY ((hm a).mp ha)) r hr' pp nn]
     ·rw[tk,hm];constructor
      ·exact .inl
      ·rintro (z|rfl)
       ·exact z
       ·exact (hm _).mp hin
    ·have ap:∀ a∈vs,jR a r:=fun a ha z=>hin (by
      have:=one a (OY ((hm a).mp ha)) r hr' z.1 z.2;subst this;exact ha)
     refine⟨vs ++ [r],_,⟨rfl,?_⟩,?_,fun x=>?_⟩
     ·rw[e,put_new ap]
     ·rw[List.pairwise_append];exact⟨hv,List.pairwise_singleton _ _,fun a ha b hb=>by rw[Qt.mp hb];exact ap a ha⟩
     ·rw[tk,Sm,hm,Qt]
   refine (show eU hw (ae 1) (cu jd (ae 2) (eC (.int 0))) (ae 2) _ [some (D.ref q),some (.ref p),some r.d] _ from ?_)
   show (match (gset G p (.dT hw (vs.map pN))) p with
    | some (.dT hw' kvs)=>hw'=hw/\∃ ks,ow (.tup [.str r.pen,.int r.num])=some ks/\kvs.length < MT/\_
    | some (.dK kvs)=>_
    | some (.lst ds)=>_
    | _=>False)
   rw[av];exact⟨rfl,qu r,rfl,by rw[MO];omega,fin _ (by rw[d8];rfl)⟩
  ·rintro σ G' ⟨vs,v,⟨rfl,rfl⟩,hv,hm⟩
   rw[MO,NF]at hm;show (match (gset G p (.dT hw (vs.map pN))) p with
    | some (.dT _ kvs)=>∃ ks r,SortBy (a_ zF hw) (gset G p (.dT hw (vs.map pN))) (kvs.map (·.2)) ks r/\∀ p':List Nat,p'.Perm (List.range (kvs.map (·.2)).length)->(p'.map r).Pairwise (·<=·)->Q (.fl (p'.map fun i=>(kvs.map (·.2)).getD i .non)) (gset G p (.dT hw (vs.map pN)))
    | _=>False)
   rw[av];dsimp only;rw[Fx];refine⟨vs.map Rw.key,_,FD zF hw _ hv l2 (fun r hr=>sub r ((hm r).mp hr)),fun q hq hsq=>?_⟩;rw[MO]at hq;obtain⟨st,mem⟩:=Dz hv hq hsq;have e:(q.map fun i=>(vs.map Rw.d).getD i .non)=(q.map fun i=>vs.getD i default).map Rw.d:=by
    rw[NH];refine N5 fun i hi=>?_;have li:i < vs.length:=mem_range.mp (hq.mem_iff.mp hi);simp[li]
   rw[e];exact h _ _ (gf.refl.gset hp) st fun r=>(mem r).trans (hm r)
 ·exact h.elim
theorem Ap{sks:List Sk}:∀ {out:List Rw},(∀ r∈out,r∈sks.map Sk.rw)->∃ o:List Sk,out=o.map Sk.rw/\∀ s∈o,s∈sks
 | [],_=>⟨[],rfl,fun s hs=>by simp at hs⟩
 | r::t,h=>by
  obtain⟨o,e,ho⟩:=Ap fun x hx=>h x (MW _ hx);obtain⟨s,hs,er⟩:=mem_map.mp (h r MZ);refine⟨s::o,by rw[e,<- er];rfl,fun x hx=>?_⟩
  rcases Nr.mp hx with z|z
  ·rw[z];exact hs
  ·exact ho x z
theorem Act.d_inj{a b:Act}(h:a.d=b.d):a=b:=by
 have sl:∀ {xs ys:List Sl},xs.map Sl.d=ys.map Sl.d->xs=ys:=fun {xs ys} e=>List.map_inj_right (f:=Sl.d) (fun x y=>Sl.d_inj) |>.mp e
 have ne:∀ {x y:String},MN x≠MN y->D.str (MN x)≠D.str (MN y):=fun h z=>h (by injection z)
 cases a<;>cases b<;>simp only[Act.d,D.tup.injEq,List.cons.injEq,D.str.injEq,and_true,true_and,reduceCtorEq,and_false,false_and]at h
 ·obtain⟨h1,h2⟩:=h;rw[Sl.d_inj h1,h2]
 all_goals first
  | (exact absurd h (by decide +kernel))
  | (exact absurd h.1 (by decide +kernel))
  | skip
 ·rw[sl h]
 ·rw[sl h.1,h.2]
 ·rw[sl h.1,Sl.d_inj h.2]
theorem Sk.rw_inj{a b:Sk}(h:a.rw=b.rw):a=b:=by
 obtain⟨a1,a2,a3,a4⟩:=a;obtain⟨b1,b2,b3,b4⟩:=b;simp only[Sk.rw,Rw.mk.injEq]at h;obtain⟨rfl,rfl,rfl,h⟩:=h;rw[Act.d_inj h]
theorem tM(zF:Zz)(hw:HW)(hσ:σ[i]?=some (some (.ref p)))(hG:G p=some (aR zF s))(h:Q s.act.anch.d G):bn [zF.Z1,zF.Z2,zF.Z3,zF.Z4,zF.Z5] "anchor" (ae i) σ G Q:=by
 obtain⟨pen,num,time,act⟩:=s;unfold bn ae;rw[hσ];cases act<;>(simp only[aR]at hG;simp only[hG];refine⟨by simp,?_⟩;first|exact h)
theorem jp(zF:Zz)(hw:HW)(hσ:σ[i]?=some (some (.ref p)))(hG:G p=some (aR zF s))(hm:s.act.many<=1000)(h:Q (.fl ((made s).map Sl.d)) G):
  em [(zF.Z1,ax zF hw),(zF.Z2,bw zF hw),(zF.Z3,ax zF hw),(zF.Z4,ax zF hw),(zF.Z5,ba zF hw)] "slots" [] (ae i) au σ G Q:=by
 obtain⟨pen,num,time,act⟩:=s;unfold em ae;rw[hσ];cases act with
 | put a x=>
  have hG':=hG;simp only[aR]at hG;simp only[hG];exact⟨by decide +kernel,bw zF hw,by simp,⟨_,a,x,⟨rfl,hG',hm⟩,h⟩⟩
 | strike ns=>
  simp only[aR]at hG;simp only[hG];exact⟨by decide +kernel,ax zF hw,by simp,h⟩
 | dress ns w=>
  simp only[aR]at hG;simp only[hG];exact⟨by decide +kernel,ax zF hw,by simp,h⟩
 | move ns a=>
  have hG':=hG;simp only[aR]at hG;simp only[hG];exact⟨by decide +kernel,ba zF hw,by simp,⟨_,a,ns,⟨rfl,hG',hm⟩,h⟩⟩
def Ff(zF:Zz)(G:Gp)(ps:List ML)(o:List Sk):Prop:=∀ (j:Nat) p s,ps[j]?=some p->o[j]?=some s->G p=some (aR zF s)
theorem pF(zF:Zz)(s:Sk):∃ C L ds,aR zF s=.ins C L ds:=by
 obtain⟨pen,num,time,act⟩:=s;cases act<;>exact⟨_,_,_,rfl⟩
theorem nE(n:Nat):∀ (o:List Sk) (W:List Sl),(∀ s∈o,s.act.many<=1000)->(o.foldl dG W).length<=W.length+1000*o.length
 | [],W,_=>by simp
 | s::t,W,h=>by
  have h1:=h s MZ;have ih:=nE n t (dG W s) fun x hx=>h x (MW _ hx);have h2:(dG W s).length<=W.length+1000:=by
   unfold dG;split
   ·rename_i ha;rw[ml ha];have:(made s).length=s.act.many:=aY _ _ _;omega
   ·omega
  simp only[P5,M1];omega
def Mu(zF:Zz)(hw:List aE->Int)(G:Gp)(f:ML)(ps:List ML)(o:List Sk)(n:Nat)(x0 x1:Option D)(i:Nat)(σ:eE)(G':Gp):Prop:=∃ (x3:Option D) (kvs:List (List aE×D)),σ=[x0,x1,some (.ref f),x3]/\gf G G'/\Ff zF G' ps o/\G' f=some (.dT hw kvs)/\Db kvs (mE n (o.take i))
theorem wj(zF:Zz)(hw:HW):bI (eR zF hw) (ql zF hw) ["old","strokes","following","stroke"]:=by
 intro ds G Q h;unfold eR at h;split at h
 ·rename_i x q;obtain⟨sks,base,⟨hq0,hx,one,l1,l2,sub,ok⟩,h⟩:=h;have hs:=al;unfold ql;rw[ag];show ∀ f,G f=none->(match gset G f (.dT hw []) f with|some (.dT hw' [])=>hw'=hw/\∃ ks,ow aA.d=some ks/\_|_=>False)
  intro f hf;have hqf:q≠f:=fun z=>by subst z;rw[hf]at hq0;cases hq0
  rw[av];refine⟨rfl,aA.key,rfl,?_⟩;rw[d8];dsimp only;rw[ag];simp only[NJ,Nt,cx,M8,Pj,OB,OM,List.replicate,M1,Nj,Qn,Qm];show x.length<=1000/\(∃ (b:Sl) (ss W:List Sl) (kvs:List (List aE×D)),(aA.d=b.d/\(fK x.length).map Sl.d=ss.map Sl.d/\gset G f (.dT hw [(aA.key,.non)]) f=some (.dT hw kvs)/\Db kvs W/\b∈W/\ss.Nodup/\(∀ x∈ss,x∉W)/\W.length+ss.length<=900000)/\∀ SY,Db SY (bp W b ss)->_)
  have ol:(fK x.length).length=x.length:=aY _ _ _;refine⟨hx,aA,fK x.length,[aA],_,⟨rfl,rfl,av,CN (fun _=>True),by simp,dU _ _ _,fun y hy hW=>?_,by rw[ol];simp;omega⟩,fun kvs hF=>?_⟩
  ·obtain⟨_,_,hk⟩:=d6 hy;rw[Qt.mp hW]at hk;exact absurd hk (by decide)
  ·rw[d8];dsimp only;rw[ag];walk_at "s1";refine⟨sks.map Sk.rw,base.map Sk.rw,⟨by rw[am hqf,hq0,NH];rfl,one,by rw[MO];exact l1,by rw[MO];exact l2,fun r hr=>?_⟩,fun out G1 hE st mem=>?_⟩
   ·obtain⟨s,hs',rfl⟩:=mem_map.mp hr;exact mem_map.mpr ⟨s,sub s hs',rfl⟩
   obtain⟨o,rfl,ho⟩:=Ap (sks:=sks) (out:=out) fun r hr=>(mem r).mp hr;have memo:∀ s,s∈o↔s∈sks:=fun s=>⟨ho s,fun hs'=>by
    obtain⟨s',h1,h2⟩:=mem_map.mp ((mem s.rw).mpr (mem_map.mpr ⟨s,hs',rfl⟩));rw[<- Sk.rw_inj h2];exact h1⟩
   have lo:o.length < 64:=by
    have:=f9 (e7 st) (ys:=base.map Sk.rw) fun r hr=>by
     obtain⟨s,hs',rfl⟩:=mem_map.mp hr;exact mem_map.mpr ⟨s,sub s (ho s hs'),rfl⟩
    rw[MO,MO]at this;omega
   have hG1:G1 f=some (.dT hw kvs):=hE f _ av;have hE1:gf G G1:=fun a o' ha=>hE a o' (by
    have:a≠f:=fun z=>by subst z;rw[hf]at ha;cases ha
    rw[am this];exact ha)
   have dmap:(o.map Sk.rw).map Rw.d=o.map Sk.d:=by rw[NH];rfl
   rw[dmap];refine⟨by rw[MO];omega,fun i acc G2=>∃ ps:List ML,ps.length=i/\acc=ps.map D.ref/\gf G1 G2/\Ff zF G2 ps o,⟨[],rfl,rfl,gf.refl,fun j p s hj=>by simp at hj⟩,?_,?_⟩
   ·rintro i d acc G2 hd ⟨ps,rfl,rfl,hE2,hO⟩
    rw[Nc]at hd;cases hsj:o[ps.length]? with
    | none=>rw[hsj]at hd;cases hd
    | some s=>
     rw[hsj]at hd;cases hd;refine⟨⟨by simp,rfl⟩,?_⟩
     show ∃ s':Sk,s.d=s'.d/\∀ p,G2 p=none->_
     refine⟨s,rfl,fun p hp=>⟨ps ++ [p],by simp,by rw[NN];rfl,fun a o' ha=>?_,fun j q s' hj hs'=>?_⟩⟩
     ·have:a≠p:=fun z=>by subst z;rw[hE2 a o' ha]at hp;cases hp
      rw[am this];exact hE2 a o' ha
     ·rw[List.getElem?_append]at hj;split at hj
      ·have h1:=hO j q s' hj hs';have:q≠p:=fun z=>by subst z;rw[h1]at hp;cases hp
       rw[am this];exact h1
      ·rename_i hge;have hj0:j=ps.length:=by
        by_cases z:j - ps.length=0
        ·omega
        ·obtain⟨k,hk⟩:∃ k,j - ps.length=k+1:=⟨j - ps.length - 1,by walk_at "o"⟩
         rw[hk]at hj;simp at hj
       subst hj0;simp at hj;subst hj;rw[hsj]at hs';cases hs';exact av
   ·rintro acc G2 ⟨ps,hl,rfl,hE2,hO⟩
    rw[MO]at hl;show L3.ForIn _ _ _ _ (ps.map D.ref) G2
    refine⟨Mu zF hw G f ps o x.length (some (.str x)) (some (.ref q)),⟨_,kvs,rfl,hE1.trans hE2,hO,hE2 f _ hG1,hF⟩,?_,?_⟩
    ·rintro i d σ G3 hd ⟨x3,kvs3,rfl,hE3,hO3,hf3,hF3⟩
     rw[Nc]at hd;cases hpj:ps[i]? with
     | none=>rw[hpj]at hd;cases hd
     | some p=>
      rw[hpj]at hd;cases hd;have hil:i < o.length:=by have:=(List.getElem?_eq_some_iff.mp hpj).1;omega
      have hsi:o[i]?=some o[i]:=MX hil;have SX:=hO3 i p _ hpj hsi;have oks:=ok o[i] (ho _ (Po hil));have tk:o.take (i+1)=o.take i ++ [o[i]]:=by rw[NU,hsi];rfl
      have fr:zT (o.take i) (mE x.length (o.take i)):=by
       have:=zq x.length (o.take i) [] _ (tI x.length)
       simpa[mE]using this
      have apart:∀ r∈o.take i,¬ (r.pen=(o[i]).pen/\r.num=(o[i]).num):=fun r hr z=>by
       obtain⟨j,hj,er⟩:=List.mem_iff_getElem.mp hr;rw[NV]at hj;rw[List.getElem_take]at er;have hji:j < i:=by walk_at "o"
       have st':∀ a b:Nat,(ha:a < (o.map Sk.rw).length)->(hb:b < (o.map Sk.rw).length)->a < b->((o.map Sk.rw)[a]).lt (o.map Sk.rw)[b]=true:=fun a b ha hb hab=>List.pairwise_iff_getElem.mp st a b ha hb hab;have:=st' j i (by rw[MO];omega) (by rw[MO];omega) hji
       rw[List.getElem_map,List.getElem_map,er]at this;have Ug:=one (o[i]).rw (mem_map.mpr ⟨_,ho _ (Po hil),rfl⟩) r.rw (mem_map.mpr ⟨_,ho _ (er ▸ Po (by walk_at "o")),rfl⟩) z.1.symm z.2.symm
       rw[Ug,lt_irrefl]at this;cases this
      have fresh:=zr fr oks.1 apart;have wl:=nE x.length (o.take i) (bp [aA] aA (fK x.length)) fun s hs'=>(ok s (ho s (OY hs'))).2;rw[cF]at wl;have wl2:(mE x.length (o.take i)).length<=100000:=by
       have e1:mE x.length (o.take i)=(o.take i).foldl dG (aA::fK x.length):=by unfold mE;rw[cF]
       rw[e1];rw[NV,M1,ol]at wl;omega
      generalize o[i]=s at *
      simp only[gN,NJ,Nt];have nf:f≠p:=fun z=>by subst z;obtain⟨C,L,ds,e⟩:=pF zF s;rw[hf3,e]at SX;cases SX
      refine bo (decide (s.act.anch∈mE x.length (o.take i))) (fun K hK=>?_) (zm (fun hin=>?_) fun Ul=>?_)
      ·unfold bJ xn;refine tM zF hw (p:=p) (i:=3) rfl SX ?_;show ∃ r,cB hw G3 (.ref f) s.act.anch.d r/\_
       refine⟨dF kvs3 s.act.anch.key,?_,?_⟩
       ·show (match G3 f with|some (.dT hw' kvs)=>hw'=hw/\∃ ks,ow s.act.anch.d=some ks/\dF kvs3 s.act.anch.key=dF kvs ks|some (.dK kvs)=>_|_=>False)
        rw[hf3];exact⟨rfl,_,rfl,rfl⟩
       ·have e1:(dF kvs3 s.act.anch.key).isSome=decide (s.act.anch∈mE x.length (o.take i)):=by
         by_cases z:s.act.anch∈mE x.length (o.take i)
         ·rw[hF3.2.2.2 _ z,decide_eq_true z];rfl
         ·rw[hF3.2.2.1 _ z,decide_eq_false z];rfl
        rw[e1];exact hK
      ·have T9:=of_decide_eq_true hin;simp only[dQ,aP,af,au,ae,Nn,Nu];refine tM zF hw (p:=p) (i:=3) rfl SX ?_;refine jp zF hw (p:=p) (i:=3) rfl SX oks.2 ?_;have lm:(made s).length=s.act.many:=aY _ _ _;have lm2:=oks.2;show ∃ (b:Sl) (ss W:List Sl) (kvs:List (List aE×D)),(s.act.anch.d=b.d/\(made s).map Sl.d=ss.map Sl.d/\G3 f=some (.dT hw kvs)/\Db kvs W/\b∈W/\ss.Nodup/\(∀ x∈ss,x∉W)/\W.length+ss.length<=900000)/\∀ SY,Db SY (bp W b ss)->_
       refine⟨s.act.anch,made s,_,kvs3,⟨rfl,rfl,hf3,hF3,T9,dU _ _ _,fresh,by walk_at "o"⟩,fun SY hF'=>?_⟩
       refine⟨_,SY,rfl,fun a o' ha=>?_,fun j q s' hj hs'=>?_,av,?_⟩
       ·have:a≠f:=fun z=>by subst z;rw[hf]at ha;cases ha
        rw[am this];exact hE3 a o' ha
       ·have h1:=hO3 j q s' hj hs';have:q≠f:=fun z=>by subst z;obtain⟨C,L,ds,e⟩:=pF zF s';rw[hf3,e]at h1;cases h1
        rw[am this];exact h1
       ·rw[tk,vi];unfold dG;rw[if_pos T9];exact hF'
      ·have T6:=of_decide_eq_false Ul;simp only[bS];refine⟨_,kvs3,rfl,hE3,hO3,hf3,?_⟩;rw[tk,vi];unfold dG;rw[if_neg T6];exact hF3
    ·rintro σ G3 ⟨x3,kvs3,rfl,hE3,hO3,hf3,hF3⟩
     rw[MO,hl,NF]at hF3;rw[rC]at hF3;show ∃ (R:List Sl) (kvs:List (List aE×D)),(G3 f=some (.dT hw kvs)/\Db kvs (aA::R)/\R.length<=900000)/\_
     refine⟨gP x.length o,kvs3,⟨hf3,hF3,?_⟩,h o G3 hE3 st memo⟩;have wl:=nE x.length o (bp [aA] aA (fK x.length)) fun s hs'=>(ok s (ho s hs')).2;have e1:o.foldl dG (bp [aA] aA (fK x.length))=aA::gP x.length o:=rC x.length o;rw[e1,cF,M1,M1,ol]at wl;omega
 ·exact h.elim
theorem lh(s:Sk):s.act.many<=s.wd:=by
 obtain⟨pen,num,time,act⟩:=s;cases act<;>first|exact le_refl _|exact NC _
theorem Ar(zF:Zz)(hw:HW):bI (fE zF hw) (vm zF hw) ["keys"]:=by
 intro ds G Q h;unfold fE at h;split at h
 ·rename_i xs;have hs:=al;unfold vm;rcases h with ⟨ss,⟨rfl,hl⟩,h⟩|⟨ns,⟨rfl,hl⟩,h⟩
  ·walk_at "s1";refine hV (fun d=>.tup [d,.bl true]) (by rw[MO];omega) (fun d hd P hP=>?_) ?_
   ·obtain⟨s,hs',rfl⟩:=mem_map.mp hd;unfold Sl.d;walk_at "st";exact⟨rfl,by walk_at "o",hP _ rfl⟩
   ·dsimp only;refine⟨aM (fun _=>.bl true) (ss.map fun s=>(s,())),⟨?_,by unfold aM;rw[MO,MO];exact hl⟩,fun p hp=>?_⟩
    ·unfold aM;rw[NH,NH,NH];rfl
    ·rw[tT];exact h p hp
  ·walk_at "s1";refine hV (fun d=>.tup [d,.bl true]) (by rw[MO];omega) (fun d hd P hP=>?_) ?_
   ·obtain⟨s,hs',rfl⟩:=mem_map.mp hd;unfold Nm.d;walk_at "st";exact⟨rfl,by walk_at "o",hP _ rfl⟩
   ·dsimp only;refine⟨ns.map fun n=>(n.key,.bl true),⟨?_,by rw[MO];exact hl⟩,fun p hp=>h p hp⟩
    rw[NH,NH];rfl
 ·exact h.elim
theorem jq(zF:Zz)(hw:HW){G:Gp}{p:ML}{α:Type}{f:α->D}{l:List (Sl×α)}(x:Sl)(hG:G p=some (.dT hw (aM f l))):cB hw G (.ref p) x.d ((ee l x).map f):=by
 unfold cB;dsimp only;rw[hG];exact⟨rfl,x.key,rfl,(BS f x l).symm⟩
theorem uw(zF:Zz)(hw:HW):bI (d4 zF hw) (nQ zF hw) ["stroke","in_row"]:=by
 intro ds G Q h;unfold d4 at h;split at h
 ·rename_i a p;obtain⟨s,row,⟨hG,hw',hp⟩,h⟩:=h;have hs:=al;have mw:=lh s;unfold nQ;unfold aX eB af au f_ gn;refine jp zF hw (p:=a) (i:=0) (s:=s) rfl hG (by walk_at "o") ?_
  dsimp only[eK];have lm:(made s).length=s.act.many:=aY _ _ _;refine hV (fun d=>match d with|.tup [.str q,.int n,.int k]=>.bl (ee row ⟨q,n,k⟩).isSome|d=>d) (by rw[MO,lm];omega) (fun d hd P hP=>?_) ?_
  ·obtain⟨x,hx,rfl⟩:=mem_map.mp hd;refine⟨⟨by simp[cx],rfl⟩,?_⟩
   show ∃ r,cB hw G (.ref p) x.d r/\P (.bl r.isSome) G
   refine⟨_,jq zF hw x hp,hP _ ?_⟩;show D.bl ((ee row x).map _).isSome=D.bl (ee row x).isSome
   rw[Option.isSome_map]
  ·show ∃ bs:List Bool,tY G (val _)=some (bs.map D.bl)/\_;refine⟨(made s).map fun x=>(ee row x).isSome,?_,?_⟩
   ·show some _=some _;congr 1;rw[NH,NH];rfl
   ·rw[List.all_map];exact h
 ·exact h.elim
theorem Gi{ns:List Nm}(n:Nm):(dF (dictOf (ns.map fun n=>(n.key,D.bl true))) n.key).isSome=decide (n∈ns):=by
 unfold dictOf;have key_inj:∀ {a b:Nm},a.key=b.key->a=b:=fun {a b} h=>by
  obtain⟨a1,a2⟩:=a;obtain⟨b1,b2⟩:=b;simp only[Nm.key,List.cons.injEq,Sum.inr.injEq,Sum.inl.injEq,and_true]at h;obtain⟨rfl,rfl⟩:=h;rfl
 suffices H:∀ l:List (List aE×D),(dF ((ns.map fun n=>(n.key,D.bl true)).foldl (fun a kv=>bu a kv.1 kv.2) l) n.key).isSome=((dF l n.key).isSome || decide (n∈ns)) by
  have:=H []
  simpa[dF]using this
 induction ns with
 | nil=>intro l;simp
 | cons m r ih=>
  intro l;rw[M8,P5,ih,ir]
  by_cases e:n=m
  ·subst e;simp
  ·rw[if_neg (fun z=>e (key_inj z))];simp[e]
theorem iH.ext(h:iH zF G ps o)(e:gf G G'):iH zF G' ps o:=⟨h.1,fun j p s hp hs=>e _ _ (h.2 j p s hp hs)⟩
theorem iH.nil:iH zF G [] []:=⟨rfl,fun j p s hp=>by simp at hp⟩
theorem iH.add(h:iH zF G ps o)(hp:G p=some (aR zF s)):iH zF G (ps ++ [p]) (o ++ [s]):=by
 obtain⟨hl,h⟩:=h;refine⟨by simp[hl],fun j q t hq ht=>?_⟩
 rw[List.getElem?_append]at hq ht;split at hq
 ·rename_i hj;rw[if_pos (by walk_at "o")]at ht
  exact h j q t hq ht
 ·rename_i hj;rw[if_neg (by walk_at "o")]at ht
  have hj0:j - ps.length=0:=by
   by_cases z:j - ps.length=0
   ·exact z
   ·obtain⟨k,hk⟩:∃ k,j - ps.length=k+1:=⟨j - ps.length - 1,by walk_at "o"⟩
    rw[hk]at hq;simp at hq
  rw[hj0]at hq;rw[show j - o.length=0 by walk_at "o"]at ht
  simp only[Nn,Option.some.injEq]at hq ht;subst hq ht;exact hp
theorem Gm(row:List Sl)(x:Sl):(ee (bH [] (row.map fun s=>(s,()))) x).isSome=decide (x∈row):=by
 suffices H:∀ l:List (Sl×Unit),(ee (bH l (row.map fun s=>(s,()))) x).isSome=((ee l x).isSome || decide (x∈row)) by
  have:=H []
  simpa[ee]using this
 induction row with
 | nil=>intro l;simp[bH]
 | cons m r ih=>
  intro l;show (ee (bH (lK l m ()) (r.map fun s=>(s,()))) x).isSome=_
  rw[ih,GU]
  by_cases e:x=m
  ·subst e;simp
  ·rw[if_neg e];simp[e]
theorem iH.snoc(h:iH zF G ps o)(hp:G p=none):iH zF (gset G p (aR zF s)) (ps ++ [p]) (o ++ [s]):=
 (h.ext (gf.refl.gset hp)).add av
theorem ux(zF:Zz)(hw:HW):bI (d5 zF hw) (nR zF hw) ["strokes","standing","in_row","stands","chosen"]:=by
 intro ds G Q h;unfold d5 at h;split at h
 ·rename_i q0 ns p;obtain⟨sks,base,names,row,⟨hq0,one,l1,l2,sub,wd,rfl,l3,hG⟩,h⟩:=h;have hs:=al;unfold nR;rw[ag];walk_at "s1";refine .inr ⟨names,⟨rfl,l3⟩,fun q hq=>?_⟩;have hpq:p≠q:=fun z=>by subst z;rw[hG]at hq;cases hq
  rw[ag];have g1:gset G q (.dT hw (dictOf (names.map fun n=>(n.key,.bl true)))) q=some (.dT hw (dictOf (names.map fun n=>(n.key,.bl true)))):=av;have g2:gf G (gset G q (.dT hw (dictOf (names.map fun n=>(n.key,.bl true))))):=gf.refl.gset hq;generalize gset G q (.dT hw (dictOf (names.map fun n=>(n.key,.bl true))))=G1 at g1 g2;walk_at "s1";refine⟨sks.map Sk.rw,base.map Sk.rw,⟨by rw[g2 q0 _ hq0,NH];rfl,one,by rw[MO];exact l1,by rw[MO];exact l2,fun r hr=>?_⟩,fun out G2 hE st mem=>?_⟩
  ·obtain⟨s,hs',rfl⟩:=mem_map.mp hr;exact mem_map.mpr ⟨s,sub s hs',rfl⟩
  obtain⟨o,rfl,ho⟩:=Ap (sks:=sks) (out:=out) fun r hr=>(mem r).mp hr;have memo:∀ s,s∈o↔s∈sks:=fun s=>⟨ho s,fun hs'=>by
   obtain⟨s',h1,h2⟩:=mem_map.mp ((mem s.rw).mpr (mem_map.mpr ⟨s,hs',rfl⟩));rw[<- Sk.rw_inj h2];exact h1⟩
  have lo:o.length < 64:=by
   have:=f9 (e7 st) (ys:=base.map Sk.rw) fun r hr=>by
    obtain⟨s,hs',rfl⟩:=mem_map.mp hr;exact mem_map.mpr ⟨s,sub s (ho s hs'),rfl⟩
   rw[MO,MO]at this;omega
  have dmap:(o.map Sk.rw).map Rw.d=o.map Sk.d:=by rw[NH];rfl
  rw[dmap];refine⟨by rw[MO];omega,fun i acc G3=>∃ ps:List ML,acc=ps.map D.ref/\gf G2 G3/\iH zF G3 ps ((o.take i).filter fun s=>decide (s.nm∈names)),⟨[],rfl,gf.refl,by simpa using iH.nil⟩,?_,?_⟩
  ·rintro i d acc G3 hd ⟨ps,rfl,hE3,hO⟩
   rw[Nc]at hd;cases hsj:o[i]? with
   | none=>rw[hsj]at hd;cases hd
   | some s=>
    rw[hsj]at hd;cases hd;have tk:(o.take (i+1)).filter (fun s=>decide (s.nm∈names))=(o.take i).filter (fun s=>decide (s.nm∈names)) ++ (if s.nm∈names then [s]else []):=by
     rw[NU,hsj,Pl]
     by_cases e:s.nm∈names
     ·rw[if_pos e];simp[e]
     ·rw[if_neg e];simp[e]
    refine⟨⟨by simp,rfl⟩,?_⟩
    show ∃ r,cB hw G3 (.ref q) s.nm.d r/\(match D.bl r.isSome with|.bl b=>_|_=>False)
    refine⟨dF (dictOf (names.map fun n=>(n.key,D.bl true))) s.nm.key,?_,?_⟩
    ·unfold cB;dsimp only;rw[hE3 q _ (hE q _ g1)];exact⟨rfl,_,rfl,rfl⟩
    ·rw[Gi];dsimp only
     by_cases e:s.nm∈names
     ·rw[decide_eq_true e,if_pos rfl];show ∃ s':Sk,s.d=s'.d/\∀ p,G3 p=none->_
      refine⟨s,rfl,fun r hr=>⟨ps ++ [r],by rw[NN];rfl,fun a o' ha=>?_,?_⟩⟩
      ·have:a≠r:=fun z=>by subst z;rw[hE3 a o' ha]at hr;cases hr
       rw[am this];exact hE3 a o' ha
      ·rw[tk,if_pos e];exact hO.snoc hr
     ·rw[decide_eq_false e,if_neg Bool.false_ne_true];refine⟨ps,rfl,hE3,?_⟩;rw[tk,if_neg e,Oc];exact hO
  ·rintro acc G3 ⟨ps,rfl,hE3,hO⟩
   rw[MO,NF]at hO;dsimp only[val];have hE4:gf G G3:=g2.trans (hE.trans hE3);generalize hfl:o.filter (fun s=>decide (s.nm∈names))=ws at hO;have Ud:∀ s∈ws,s∈o:=fun s hs'=>by rw[<- hfl]at hs';exact (mem_filter.mp hs').1
   have lw:ws.length<=o.length:=by rw[<- hfl];exact Ol _ _
   have hl:=hO.1;show (_<=MT)/\_
   refine⟨by rw[MO];omega,fun i acc G4=>∃ qs:List ML,acc=qs.map D.ref/\G4=G3/\iH zF G3 qs ((ws.take i).filter (jl row)),⟨[],rfl,rfl,by simpa using iH.nil⟩,?_,?_⟩
   ·rintro i d acc G4 hd ⟨qs,rfl,rfl,hQ⟩
    rw[Nc]at hd;cases hpi:ps[i]? with
    | none=>rw[hpi]at hd;cases hd
    | some a=>
     rw[hpi]at hd;cases hd;have hi:i < ws.length:=by have:=(List.getElem?_eq_some_iff.mp hpi).1;omega
     have hwi:ws[i]?=some ws[i]:=MX hi;have hob:=hO.2 i a _ hpi hwi;refine⟨⟨by simp,rfl⟩,?_⟩
     have tk:(ws.take (i+1)).filter (jl row)=(ws.take i).filter (jl row) ++ (if jl row ws[i]=true then [ws[i]]else []):=by
      rw[NU,hwi,Pl]
      by_cases e:jl row ws[i]=true
      ·rw[if_pos e];simp[e]
      ·rw[if_neg e];simp[e]
     have hgp:G4 p=some (.dT hw (aM (fun _=>.bl true) (bH [] (row.map fun s=>(s,()))))):=hE4 p _ hG;have pe:(made ws[i]).all (fun x=>(ee (bH [] (row.map fun s=>(s,()))) x).isSome)=jl row ws[i]:=by
      unfold jl;congr 1;funext x;exact Gm row x
     refine⟨_,_,⟨hob,wd _ (ho _ (Ud _ (Po hi))),hgp⟩,?_⟩;rw[pe];show True/\_
     refine⟨trivial,?_⟩;dsimp only
     by_cases e:jl row ws[i]=true
     ·rw[if_pos e];exact⟨qs ++ [a],by rw[NN];rfl,rfl,by rw[tk,if_pos e];exact hQ.add hob⟩
     ·rw[if_neg e];exact⟨qs,rfl,rfl,by rw[tk,if_neg e,Oc];exact hQ⟩
   ·rintro acc G4 ⟨qs,rfl,rfl,hQ⟩
    rw[MO,hl,NF]at hQ;refine h o qs _ hE4 st memo ?_;unfold eY;rw[hfl];exact hQ
 ·exact h.elim
theorem v8{hw:HW}{α:Type}{f:α->D}{l:List (Sl×α)}{G:Gp}{p:ML}{x:Sl}{w:α}{K:Gp->Prop}(hG:G p=some (.dT hw (aM f l)))(hl:l.length < MT)(h:K (gset G p (.dT hw (aM f (lK l x w))))):kM hw (.ref p) x.d (f w) G K:=by
 unfold kM;dsimp only;rw[hG];exact⟨rfl,x.key,rfl,by unfold aM;rw[MO];exact hl,by rw[yN];exact h⟩
theorem rQ{α:Type}{σ:List α}{a:Nat}(h:a < σ.length):σ.set a σ[a]=σ:=List.set_getElem_self h
theorem Hy{hw:HW}{α:Type}{f:α->D}(hf:∀ v,val (f v)=f v){m l:List (Sl×α)}{a b d:Nat}{σ:eE}{G:Gp}{p:ML}{E:Ends3}(hab:a≠b)(had:a≠d)(hbd:b≠d)(ha:a < σ.length)(hb:b < σ.length)(hσ:σ[d]?=some (some (.ref p)))(hl:l.length+m.length < MT)
  (h:∀ u v,E.nx ((σ.set a u).set b v) (gset G p (.dT hw (aM f (bH l m))))):ForIn (tG 2 (hU (gN a) (hU (gN b) tH))) (eU hw (ae d) (ae a) (ae b)) E σ (m.map fun q=>.tup [q.1.d,f q.2]) (gset G p (.dT hw (aM f l))):=by
 refine⟨fun i σ' G'=>∃ u v,σ'=(σ.set a u).set b v/\G'=gset G p (.dT hw (aM f (bH l (m.take i)))),⟨σ[a],σ[b],by rw[rQ ha,rQ hb],rfl⟩,?_,?_⟩
 ·rintro i dd σ' G' hd ⟨u,v,rfl,rfl⟩
  rw[Nc]at hd;cases hq:m[i]? with
  | none=>rw[hq]at hd;cases hd
  | some q=>
   rw[hq]at hd;cases hd;have hi:=(List.getElem?_eq_some_iff.mp hq).1;have tk:m.take (i+1)=m.take i ++ [q]:=by rw[NU,hq];rfl
   unfold tG hU tH gN;refine⟨rfl,?_⟩;show eU hw (ae d) (ae a) (ae b) _ ((((σ.set a u).set b v).set a (some q.1.d)).set b (some (f q.2))) _
   have e0:(((σ.set a u).set b v).set a (some q.1.d)).set b (some (f q.2))=(σ.set a (some q.1.d)).set b (some (f q.2)):=by
    rw[List.set_comm _ _ (Ne.symm hab),Rz,Rz]
   rw[e0];have s1:((σ.set a (some q.1.d)).set b (some (f q.2)))[b]?=some (some (f q.2)):=by rw[N_ (by rw[List.length_set];exact hb)]
   have s2:((σ.set a (some q.1.d)).set b (some (f q.2)))[a]?=some (some q.1.d):=by rw[Oq (Ne.symm hab),N_ ha]
   have s3:((σ.set a (some q.1.d)).set b (some (f q.2)))[d]?=some (some (.ref p)):=by rw[Oq hbd,Oq had];exact hσ
   unfold eU ae;rw[s1,s2,s3];dsimp only;rw[hf];have pl:=dz (m.take i) l;rw[NV]at pl;refine v8 (x:=q.1) av (by walk_at "o") ⟨_,_,rfl,?_⟩
   rw[d8,tk,mL]
 ·rintro σ' G' ⟨u,v,rfl,rfl⟩
  rw[MO,NF];exact h u v
theorem Hz{hw:HW}{α:Type}{f:α->D}{w:α}(hf:val (f w)=f w){ns:List Sl}{l:List (Sl×α)}{a d:Nat}{σ:eE}{G:Gp}{p:ML}{E:Ends3}{te:aZ}(had:a≠d)(ha:a < σ.length)(hσ:σ[d]?=some (some (.ref p)))(hl:l.length+ns.length < MT)
  (ht:∀ u l (K:i_),K (f w) (gset G p (.dT hw (aM f l)))->te (σ.set a u) (gset G p (.dT hw (aM f l))) K)
  (h:∀ u,E.nx (σ.set a u) (gset G p (.dT hw (aM f (bH l (ns.map fun n=>(n,w))))))):ForIn (gN a) (eU hw (ae d) (ae a) te) E σ (ns.map Sl.d) (gset G p (.dT hw (aM f l))):=by
 refine⟨fun i σ' G'=>∃ u,σ'=σ.set a u/\G'=gset G p (.dT hw (aM f (bH l ((ns.take i).map fun n=>(n,w))))),⟨σ[a],by rw[rQ ha],rfl⟩,?_,?_⟩
 ·rintro i dd σ' G' hd ⟨u,rfl,rfl⟩
  rw[Nc]at hd;cases hq:ns[i]? with
  | none=>rw[hq]at hd;cases hd
  | some q=>
   rw[hq]at hd;cases hd;have hi:=(List.getElem?_eq_some_iff.mp hq).1;have tk:ns.take (i+1)=ns.take i ++ [q]:=by rw[NU,hq];rfl
   show eU hw (ae d) (ae a) te _ ((σ.set a u).set a (some q.d)) _
   rw[Rz];have s2:(σ.set a (some q.d))[a]?=some (some q.d):=by rw[N_ ha]
   have s3:(σ.set a (some q.d))[d]?=some (some (.ref p)):=by rw[Oq had];exact hσ
   unfold eU;refine ht _ _ _ ?_;unfold ae;rw[s2,s3];dsimp only;rw[hf];have pl:=dz ((ns.take i).map fun n=>(n,w)) l;rw[MO,NV]at pl;refine v8 (x:=q) av (by walk_at "o") ⟨_,rfl,?_⟩
   rw[d8,tk,NN,M8,Pj,mL]
 ·rintro σ' G' ⟨u,rfl,rfl⟩
  rw[MO,NF];exact h u
theorem m4{α β:Type}(f:α->D)(g:β->D):∀ (a:List α) (b:List β),m5 (a.map f) (b.map g)=(a.zip b).map fun q=>.tup [f q.1,g q.2]
 | [],_=>rfl
 | _::_,[]=>rfl
 | x::a,y::b=>by simp only[M8,m5,OU,m4 f g a b]
theorem u9(x:Str):L3.signs x=(B7 x).map D.str:=by unfold L3.signs B7;rw[NH];rfl
theorem Bs(x:Str):(B7 x).length=x.length:=by simp[B7,Qy]
theorem lB{β:Type}(g:Sk->List β){o:List Sk}{i:Nat}{s:Sk}(h:o[i]?=some s):(o.take (i+1)).flatMap g=(o.take i).flatMap g ++ g s:=by
 rw[NU,h,List.flatMap_append];simp
theorem tO{β:Type}(g:Sk->List β):∀ {o:List Sk},(∀ s∈o,(g s).length<=1000)->(o.flatMap g).length<=1000*o.length
 | [],_=>by simp
 | s::r,h=>by
  have h1:=h s MZ;have h2:=tO g (o:=r) fun t ht=>h t (MW _ ht);rw[List.flatMap_cons,Nl,M1];omega
theorem pZ(h:s.wd<=1000):(b9 s).length<=1000:=by
 obtain⟨pen,num,time,act⟩:=s;cases act with
 | put a x=>
  show ((made _).zip (B7 x)).length<=1000
  rw[Pe,Bs];have:x.length<=1000:=h;omega
 | _=>exact NC _
theorem Ah(h:s.wd<=1000):(iL s).length<=1000:=by
 obtain⟨pen,num,time,act⟩:=s;cases act with
 | strike ns=>show (ns.map _).length<=1000;rw[MO];exact h
 | _=>exact NC _
theorem Dm(h:s.wd<=1000):(o0 s).length<=1000:=by
 obtain⟨pen,num,time,act⟩:=s;cases act with
 | dress ns w=>show (ns.map _).length<=1000;rw[MO];exact h
 | _=>exact NC _
theorem xS(h:s.wd<=1000):(my s).length<=1000:=by
 obtain⟨pen,num,time,act⟩:=s;cases act with
 | move ns a=>
  show (ns.zip (made _)).length<=1000
  rw[Pe];have:ns.length<=1000:=h;omega
 | _=>exact NC _
theorem jf{β:Type}(h:vU o)(g:Sk->List β)(hg:∀ s:Sk,s.wd<=1000->(g s).length<=1000)(i:Nat):((o.take i).flatMap g).length<=64000:=by
 have h1:=tO g (o:=o.take i) fun s hs=>hg s (h.2 s (OY hs));have h2:=h.1;rw[NV]at h1;omega
theorem kR(zF:Zz)(hw:HW){G:Gp}{K:Bool->Gp->Prop}(b:Bool)(hσ:σ[i]?=some (some (.ref a)))(hG:G a=some (aR zF s))(hc:match s.act with|.put _ _=>(zF.Z2,b)∈cs|.strike _=>(zF.Z3,b)∈cs|.dress _ _=>(zF.Z4,b)∈cs|.move _ _=>(zF.Z5,b)∈cs)(h:K b G):uk (eB (xz cs C) (af (ae i) (af (eC (.ref C)) au))) σ G K:=by
 obtain⟨pen,num,time,act⟩:=s;unfold uk eB af au ae eC xz;rw[hσ];cases act<;>(simp only[aR]at hG;simp only[val,hG];exact⟨trivial,b,hc,⟨trivial,h⟩⟩)
theorem jn(zF:Zz)(hw:HW)(hσ:σ[i]?=some (some (.ref p)))(hG:G p=some (aR zF s))(ha:s.act=.strike ns\/(∃ w,s.act=.dress ns w)\/∃ b,s.act=.move ns b)(hm:ns.length<=1000)(h:Q (.fl (ns.map Sl.d)) G):
  em [(zF.Z1,ak zF hw),(zF.Z2,ak zF hw),(zF.Z3,ak zF hw),(zF.Z4,ak zF hw),(zF.Z5,ak zF hw)] "touched" [] (ae i) au σ G Q:=by
 have hG':=hG;unfold em ae;rw[hσ];obtain⟨pen,num,time,act⟩:=s;rcases ha with e|⟨w,e⟩|⟨b,e⟩<;>(have e':act=_:=e;subst e';simp only[aR]at hG;simp only[hG])
 ·exact⟨by decide +kernel,ak zF hw,by simp,_,ns,⟨.inl rfl,hG',hm⟩,h⟩
 ·exact⟨by decide +kernel,ak zF hw,by simp,_,ns,⟨.inr (.inl ⟨w,rfl⟩),hG',hm⟩,h⟩
 ·exact⟨by decide +kernel,ak zF hw,by simp,_,ns,⟨.inr (.inr ⟨b,rfl⟩),hG',hm⟩,h⟩
theorem mH(zF:Zz)(hw:HW):bI (ak zF hw) (ik zF hw) ["self"]:=by
 intro ds G Q h;unfold ak at h;split at h
 ·rename_i p;obtain⟨⟨pen,num,time,act⟩,ns,⟨ha,hG,hl⟩,h⟩:=h;have hs:=al;unfold aR at hG;unfold ik;rcases ha with e|⟨w,e⟩|⟨b,e⟩<;>(have e':act=_:=e;subst e';dsimp only at hG)
  ·have hc:zF.Z3∈[zF.Z1,zF.Z2,zF.Z3,zF.Z4,zF.Z5]:=by simp
   walk_at "st"
   try exact h
  ·have hc:zF.Z4∈[zF.Z1,zF.Z2,zF.Z3,zF.Z4,zF.Z5]:=by simp
   walk_at "st"
   try exact h
  ·have hc:zF.Z5∈[zF.Z1,zF.Z2,zF.Z3,zF.Z4,zF.Z5]:=by simp
   walk_at "st"
   try exact h
 ·exact h.elim
theorem xx(x:Str){o:List Sk}{i:Nat}{s:Sk}(h:o[i]?=some s):aF x (o.take (i+1))=bH (aF x (o.take i)) (b9 s):=by
 unfold aF;rw[lB b9 h,<- List.append_assoc,ff]
theorem xW{o:List Sk}{i:Nat}{s:Sk}(h:o[i]?=some s):bv (o.take (i+1))=bH (bv (o.take i)) (iL s):=by
 unfold bv;rw[lB iL h,ff]
theorem Af{o:List Sk}{i:Nat}{s:Sk}(h:o[i]?=some s):cN (o.take (i+1))=bH (cN (o.take i)) (my s):=by
 unfold cN;rw[lB my h,ff]
theorem B0{o:List Sk}{i:Nat}{s:Sk}(h:o[i]?=some s):fY (o.take (i+1))=bH (fY (o.take i)) (o0 s):=by
 unfold fY;rw[lB o0 h,ff]
theorem FP{zF:Zz}{G:Gp}{ps:List ML}{o:List Sk}{i:Nat}{d:D}(h:iH zF G ps o)(hd:(ps.map D.ref)[i]?=some d):∃ a s,d=.ref a/\o[i]?=some s/\G a=some (aR zF s):=by
 rw[Nc]at hd;cases hp:ps[i]? with
 | none=>rw[hp]at hd;cases hd
 | some a=>
  rw[hp]at hd;cases hd;have hi:i < o.length:=by have:=(List.getElem?_eq_some_iff.mp hp).1;have:=h.1;omega
  exact⟨a,o[i],rfl,MX hi,h.2 i a _ hp (MX hi)⟩
theorem CO(zF:Zz)(hw:HW)(hσ:σ[i]?=some (some (.ref p)))(hG:G p=some (aR zF ⟨pen,num,time,.put a x⟩))(h:Q (.str x) G):bn [zF.Z1,zF.Z2,zF.Z3,zF.Z4,zF.Z5] "signs" (ae i) σ G Q:=by
 unfold bn ae;rw[hσ];simp only[aR]at hG;simp only[hG];exact⟨by simp,h⟩
theorem EU(zF:Zz)(hw:HW)(hσ:σ[i]?=some (some (.ref p)))(hG:G p=some (aR zF ⟨pen,num,time,.dress ns w⟩))(h:Q (.str w) G):bn [zF.Z1,zF.Z2,zF.Z3,zF.Z4,zF.Z5] "word" (ae i) σ G Q:=by
 unfold bn ae;rw[hσ];simp only[aR]at hG;simp only[hG];exact⟨by simp,h⟩
theorem nG(zF:Zz)(hw:HW):bI (cv zF hw) (iS zF hw) ["old","strokes","brought","stroke","name","sign"]:=by
 intro ds G Q h;unfold cv at h;split at h
 ·rename_i x xs;obtain⟨ps,o,⟨rfl,hO,hS,hx⟩,h⟩:=h;have hs:=al;unfold iS;rw[ag];walk_at "s1";have ol:(fK x.length).length=x.length:=aY _ _ _;have l0:((fK x.length).zip (B7 x)).length<=1000:=by rw[Pe];omega
  refine⟨_,_,aM D.str ((fK x.length).zip (B7 x)),⟨rfl,rfl,?_,by unfold aM;rw[MO];omega⟩,fun p hp=>?_⟩
  ·rw[u9,m4];unfold aM;rw[NH];rfl
  rw[tT];have e0:bH [] ((fK x.length).zip (B7 x))=aF x (o.take 0):=by unfold aF;simp
  rw[e0];rw[ag];have hE:gf G (gset G p (.dT hw (aM D.str (aF x (o.take 0))))):=gf.refl.gset hp;show ForIn _ _ _ _ (ps.map D.ref) _
  refine⟨fun i σ G'=>∃ x3 x4 x5,σ=[some (.str x),some (.lst (ps.map D.ref)),some (.ref p),x3,x4,x5]/\G'=gset G p (.dT hw (aM D.str (aF x (o.take i)))),⟨_,_,_,rfl,rfl⟩,?_,?_⟩
  ·rintro i d σ G' hd ⟨x3,x4,x5,rfl,rfl⟩
   obtain⟨a,s,rfl,hsi,hGa⟩:=FP hO hd;have hap:a≠p:=fun z=>by subst z;rw[hp]at hGa;cases hGa
   have SR:∀ u,gset G p u a=some (aR zF s):=fun u=>by rw[am hap];exact hGa
   have swd:s.wd<=1000:=hS.2 s (M6 hsi);have bl:(aF x (o.take i)).length<=65000:=by
    have h1:=dz ((fK x.length).zip (B7 x) ++ (o.take i).flatMap b9) [];have h2:=jf hS b9 (fun s hs=>pZ hs) i;rw[Nl,Nj]at h1;unfold aF;omega
   have bt:=xx x hsi;simp only[gN,NJ,Nt];obtain⟨pen,num,time,act⟩:=s;cases act with
   | put an w=>
    refine bo true (fun K hK=>kR zF hw (s:=⟨pen,num,time,.put an w⟩) (a:=a) (i:=3) true rfl (SR _) (by simp) hK) ?_
    rw[if_pos rfl];unfold jS CI af au;have mw:=lh ⟨pen,num,time,.put an w⟩;refine jp zF hw (p:=a) (i:=3) (s:=⟨pen,num,time,.put an w⟩) rfl (SR _) (by walk_at "o") ?_
    refine CO zF hw (p:=a) (i:=3) (a:=an) (x:=w) rfl (SR _) ?_;refine⟨_,_,⟨rfl,rfl⟩,?_⟩;rw[u9,m4];have bl2:=pZ swd;refine Hy (f:=D.str) (fun _=>rfl) (m:=(made ⟨pen,num,time,.put an w⟩).zip (B7 w)) (by decide) (by decide) (by decide) (by simp) (by simp) rfl (by show _+(b9 ⟨pen,num,time,.put an w⟩).length < _;omega) fun u v=>⟨_,_,_,rfl,?_⟩
    rw[bt];rfl
   | _=>
    refine bo false (fun K hK=>kR zF hw (s:=⟨pen,num,time,_⟩) (a:=a) (i:=3) false rfl (SR _) (by simp) hK) ?_
    rw[if_neg Bool.false_ne_true];refine⟨_,_,_,rfl,?_⟩;rw[bt];rfl
  ·rintro σ G' ⟨x3,x4,x5,rfl,rfl⟩
   rw[MO,hO.1,NF];exact h p hp
 ·exact h.elim
theorem pi(zF:Zz)(hw:HW):bI (cD zF hw) (jE zF hw) ["strokes","struck","stroke","name"]:=by
 intro ds G Q h;unfold cD at h;split at h
 ·rename_i xs;obtain⟨ps,o,⟨rfl,hO,hS⟩,h⟩:=h;have hs:=al;unfold jE;rw[ag];walk_at "s1";intro p hp;rw[ag];show ForIn _ _ _ _ (ps.map D.ref) _
  refine⟨fun i σ G'=>∃ x2 x3,σ=[some (.lst (ps.map D.ref)),some (.ref p),x2,x3]/\G'=gset G p (.dT hw (aM (fun _=>.bl true) (bv (o.take i)))),⟨_,_,rfl,rfl⟩,?_,?_⟩
  ·rintro i d σ G' hd ⟨x2,x3,rfl,rfl⟩
   obtain⟨a,s,rfl,hsi,hGa⟩:=FP hO hd;have hap:a≠p:=fun z=>by subst z;rw[hp]at hGa;cases hGa
   have SR:∀ u,gset G p u a=some (aR zF s):=fun u=>by rw[am hap];exact hGa
   have swd:s.wd<=1000:=hS.2 s (M6 hsi);have bl:(bv (o.take i)).length<=65000:=by
    have h1:=dz ((o.take i).flatMap iL) [];have h2:=jf hS iL (fun s hs=>Ah hs) i;rw[Nj]at h1;unfold bv;omega
   have bt:=xW hsi;simp only[gN,NJ,Nt];obtain⟨pen,num,time,act⟩:=s;cases act with
   | strike ns=>
    refine bo true (fun K hK=>kR zF hw (s:=⟨pen,num,time,.strike ns⟩) (a:=a) (i:=2) true rfl (SR _) (by simp) hK) ?_
    rw[if_pos rfl];unfold jS gn;have hl:ns.length<=1000:=swd;refine jn zF hw (p:=a) (i:=2) (s:=⟨pen,num,time,.strike ns⟩) rfl (SR _) (.inl rfl) hl ?_;dsimp only[eK];refine Hz (f:=fun (_:Unit)=>D.bl true) (w:=()) rfl (by decide) (by simp) rfl (by walk_at "o") (fun u l K hK=>hK) fun u=>⟨_,_,rfl,?_⟩
    rw[bt];rfl
   | _=>
    refine bo false (fun K hK=>kR zF hw (s:=⟨pen,num,time,_⟩) (a:=a) (i:=2) false rfl (SR _) (by simp) hK) ?_
    rw[if_neg Bool.false_ne_true];refine⟨_,_,rfl,?_⟩;rw[bt];rfl
  ·rintro σ G' ⟨x2,x3,rfl,rfl⟩
   rw[MO,hO.1,NF];exact h p hp
 ·exact h.elim
theorem se(zF:Zz)(hw:HW):bI (dq zF hw) (l6 zF hw) ["strokes","worn","stroke","name"]:=by
 intro ds G Q h;unfold dq at h;split at h
 ·rename_i xs;obtain⟨ps,o,⟨rfl,hO,hS⟩,h⟩:=h;have hs:=al;unfold l6;rw[ag];walk_at "s1";intro p hp;rw[ag];show ForIn _ _ _ _ (ps.map D.ref) _
  refine⟨fun i σ G'=>∃ x2 x3,σ=[some (.lst (ps.map D.ref)),some (.ref p),x2,x3]/\G'=gset G p (.dT hw (aM D.str (fY (o.take i)))),⟨_,_,rfl,rfl⟩,?_,?_⟩
  ·rintro i d σ G' hd ⟨x2,x3,rfl,rfl⟩
   obtain⟨a,s,rfl,hsi,hGa⟩:=FP hO hd;have hap:a≠p:=fun z=>by subst z;rw[hp]at hGa;cases hGa
   have SR:∀ u,gset G p u a=some (aR zF s):=fun u=>by rw[am hap];exact hGa
   have swd:s.wd<=1000:=hS.2 s (M6 hsi);have bl:(fY (o.take i)).length<=65000:=by
    have h1:=dz ((o.take i).flatMap o0) [];have h2:=jf hS o0 (fun s hs=>Dm hs) i;rw[Nj]at h1;unfold fY;omega
   have bt:=B0 hsi;simp only[gN,NJ,Nt];obtain⟨pen,num,time,act⟩:=s;cases act with
   | dress ns w=>
    refine bo true (fun K hK=>kR zF hw (s:=⟨pen,num,time,.dress ns w⟩) (a:=a) (i:=2) true rfl (SR _) (by simp) hK) ?_
    rw[if_pos rfl];unfold jS gn;have hl:ns.length<=1000:=swd;refine jn zF hw (p:=a) (i:=2) (s:=⟨pen,num,time,.dress ns w⟩) rfl (SR _) (.inr (.inl ⟨w,rfl⟩)) hl ?_;dsimp only[eK];refine Hz (f:=D.str) (w:=w) rfl (by decide) (by simp) rfl (by walk_at "o") (fun u l K hK=>EU zF hw (p:=a) (i:=2) (ns:=ns) (w:=w) rfl (SR _) hK) fun u=>⟨_,_,rfl,?_⟩
    rw[bt];rfl
   | _=>
    refine bo false (fun K hK=>kR zF hw (s:=⟨pen,num,time,_⟩) (a:=a) (i:=2) false rfl (SR _) (by simp) hK) ?_
    rw[if_neg Bool.false_ne_true];refine⟨_,_,rfl,?_⟩;rw[bt];rfl
  ·rintro σ G' ⟨x2,x3,rfl,rfl⟩
   rw[MO,hO.1,NF];exact h p hp
 ·exact h.elim
theorem qO(zF:Zz)(hw:HW):bI (cU zF hw) (kE zF hw) ["strokes","taken","stroke","name","slot"]:=by
 intro ds G Q h;unfold cU at h;split at h
 ·rename_i xs;obtain⟨ps,o,⟨rfl,hO,hS⟩,h⟩:=h;have hs:=al;unfold kE;rw[ag];walk_at "s1";intro p hp;rw[ag];show ForIn _ _ _ _ (ps.map D.ref) _
  refine⟨fun i σ G'=>∃ x2 x3 x4,σ=[some (.lst (ps.map D.ref)),some (.ref p),x2,x3,x4]/\G'=gset G p (.dT hw (aM Sl.d (cN (o.take i)))),⟨_,_,_,rfl,rfl⟩,?_,?_⟩
  ·rintro i d σ G' hd ⟨x2,x3,x4,rfl,rfl⟩
   obtain⟨a,s,rfl,hsi,hGa⟩:=FP hO hd;have hap:a≠p:=fun z=>by subst z;rw[hp]at hGa;cases hGa
   have SR:∀ u,gset G p u a=some (aR zF s):=fun u=>by rw[am hap];exact hGa
   have swd:s.wd<=1000:=hS.2 s (M6 hsi);have bl:(cN (o.take i)).length<=65000:=by
    have h1:=dz ((o.take i).flatMap my) [];have h2:=jf hS my (fun s hs=>xS hs) i;rw[Nj]at h1;unfold cN;omega
   have bt:=Af hsi;simp only[gN,NJ,Nt];obtain⟨pen,num,time,act⟩:=s;cases act with
   | move ns an=>
    refine bo true (fun K hK=>kR zF hw (s:=⟨pen,num,time,.move ns an⟩) (a:=a) (i:=2) true rfl (SR _) (by simp) hK) ?_
    rw[if_pos rfl];unfold jS CI af au;have hl:ns.length<=1000:=swd;have mw:=lh ⟨pen,num,time,.move ns an⟩;refine jn zF hw (p:=a) (i:=2) (s:=⟨pen,num,time,.move ns an⟩) rfl (SR _) (.inr (.inr ⟨an,rfl⟩)) hl ?_;refine jp zF hw (p:=a) (i:=2) (s:=⟨pen,num,time,.move ns an⟩) rfl (SR _) (by walk_at "o") ?_
    refine⟨_,_,⟨rfl,rfl⟩,?_⟩;rw[m4];have bl2:=xS swd;refine Hy (f:=Sl.d) (fun _=>rfl) (m:=ns.zip (made ⟨pen,num,time,.move ns an⟩)) (by decide) (by decide) (by decide) (by simp) (by simp) rfl (by show _+(my ⟨pen,num,time,.move ns an⟩).length < _;omega) fun u v=>⟨_,_,_,rfl,?_⟩
    rw[bt];rfl
   | _=>
    refine bo false (fun K hK=>kR zF hw (s:=⟨pen,num,time,_⟩) (a:=a) (i:=2) false rfl (SR _) (by simp) hK) ?_
    rw[if_neg Bool.false_ne_true];refine⟨_,_,_,rfl,?_⟩;rw[bt];rfl
  ·rintro σ G' ⟨x2,x3,x4,rfl,rfl⟩
   rw[MO,hO.1,NF];exact h p hp
 ·exact h.elim
theorem rP{xs ys:List Sk}(h:xs.map Sk.rw=ys.map Sk.rw):xs=ys:=List.map_inj_right (f:=Sk.rw) (fun x y=>Sk.rw_inj) |>.mp h
def H_:D->Sl
 | .tup [.str q,.int n,.int k]=>⟨q,n,k⟩
 | _=>default
theorem DB(x:Sl):H_ x.d=x:=rfl
theorem B8(row:List Sl)(sit:List (Sl×Sl)):((row.map Sl.d).filter fun d=>(ee sit (H_ d)).isSome).map (fun d=>.tup [d,((ee sit (H_ d)).getD default).d])=(row.filterMap fun s=>(ee sit s).map fun n=>(s,n)).map fun p=>D.tup [p.1.d,p.2.d]:=by
 induction row with
 | nil=>rfl
 | cons s r ih=>
  rw[M8,List.filter_cons,DB];cases e:ee sit s with
  | none=>
   rw[List.filterMap_cons_none (by rw[e];rfl)]
   simpa using ih
  | some n=>
   rw[List.filterMap_cons_some (b:=(s,n)) (by rw[e];rfl)]
   simp only[Option.isSome_some,if_true,M8,ih,DB,e,Option.getD_some]
theorem Aq(zF:Zz)(hw:HW):bI (fB zF hw) (vk zF hw) ["old","strokes","standing","row","working","brought","struck","taken","worn","sitting","name","seats"]:=by
 intro ds G Q h;unfold fB at h;split at h
 ·rename_i x q0 ns;obtain⟨sks,base,names,⟨hq0,hx,one,l1,l2,sub,ok,rfl,l3⟩,h⟩:=h;have hs:=al;have okk:∀ s∈sks,s.ok:=fun s hs'=>⟨(ok s hs').1,le_trans (lh s) (ok s hs').2⟩;unfold vk;rw[ag];walk_at "s1";refine⟨sks,base,⟨by first|rfl|exact hq0,one,l1,l2,sub,okk⟩,fun out G1 hE1 st1 S3=>?_⟩
  have lo:out.length < 64:=by
   have:=f9 (e7 st1) (ys:=base.map Sk.rw) fun r hr=>by
    obtain⟨s,hs',rfl⟩:=mem_map.mp hr;exact mem_map.mpr ⟨s,sub s ((S3 s).mp hs'),rfl⟩
   rw[MO,MO]at this;omega
  have TV:(gP x.length out).length<=900000:=by
   have wl:=nE x.length out (bp [aA] aA (fK x.length)) fun s hs'=>(okk s ((S3 s).mp hs')).2;have e1:out.foldl dG (bp [aA] aA (fK x.length))=aA::gP x.length out:=rC x.length out;have ol:(fK x.length).length=x.length:=aY _ _ _;rw[e1,cF,M1,M1,ol]at wl;omega
  rw[ag];have h':=fun G' hE=>h out G' hE st1 S3;clear h;unfold cH at h';generalize gP x.length out=row at TV h' ⊢;walk_at "s1";refine .inl ⟨row,⟨rfl,TV⟩,fun pm hpm=>?_⟩;refine⟨sks,base,names,row,⟨by first|exact (gf.refl.gset hpm) q0 _ (hE1 q0 _ hq0)|rfl,one,l1,l2,sub,fun s hs'=>(ok s hs').2,rfl,l3,rfl⟩,fun TR ps G2 hE2 st2 TU hO2=>?_⟩
  have eo:TR=out:=rP (iu st2 st1 fun r=>by
   constructor
   ·intro hr;obtain⟨s,hs',rfl⟩:=mem_map.mp hr;exact mem_map.mpr ⟨s,(S3 s).mpr ((TU s).mp hs'),rfl⟩
   ·intro hr;obtain⟨s,hs',rfl⟩:=mem_map.mp hr;exact mem_map.mpr ⟨s,(TU s).mpr ((S3 s).mp hs'),rfl⟩)
  subst eo;have hE3:gf G G2:=hE1.trans ((gf.refl.gset hpm).trans hE2);have sw:vU (eY TR names row):=⟨le_trans (le_trans (Ol _ _) (Ol _ _)) (by walk_at "o"),fun s hs'=>(ok s ((S3 s).mp (mem_filter.mp (mem_filter.mp hs').1).1)).2⟩
  generalize eY TR names row=w at *
  clear hE2 hpm S3 TU st1 st2 lo;rw[ag];walk_at "s1";refine⟨ps,w,⟨rfl,hO2,sw⟩,fun pb hpb=>?_⟩;have hE4:gf G (gset G2 pb (.dT hw (aM D.str (aF x w)))):=hE3.trans (gf.refl.gset hpb);have hO4:=hO2.ext (G':=gset G2 pb (.dT hw (aM D.str (aF x w)))) (gf.refl.gset hpb);have f1:gset G2 pb (.dT hw (aM D.str (aF x w))) pb=some (.dT hw (aM D.str (aF x w))):=av;generalize gset G2 pb (.dT hw (aM D.str (aF x w)))=G4 at *
  clear hE3 hO2 hpb;rw[ag];walk_at "s1";refine⟨ps,w,⟨rfl,hO4,sw⟩,fun pk hpk=>?_⟩;have ne1:pb≠pk:=fun z=>by subst z;rw[f1]at hpk;cases hpk
  have hE5:gf G4 (gset G4 pk (.dT hw (aM (fun _=>.bl true) (bv w)))):=gf.refl.gset hpk;have hO5:=hO4.ext hE5;have f2:gset G4 pk (.dT hw (aM (fun _=>.bl true) (bv w))) pk=some (.dT hw (aM (fun _=>.bl true) (bv w))):=av;have f1':=hE5 _ _ f1;have hE5':=hE4.trans hE5;generalize gset G4 pk (.dT hw (aM (fun _=>.bl true) (bv w)))=G5 at *
  clear hE4 hO4 hpk hE5 f1;rw[ag];walk_at "s1";refine⟨ps,w,⟨rfl,hO5,sw⟩,fun pt hpt=>?_⟩;have ne2:pb≠pt:=fun z=>by subst z;rw[f1']at hpt;cases hpt
  have ne3:pk≠pt:=fun z=>by subst z;rw[f2]at hpt;cases hpt
  have hE6:gf G5 (gset G5 pt (.dT hw (aM Sl.d (cN w)))):=gf.refl.gset hpt;have hO6:=hO5.ext hE6;have f3:gset G5 pt (.dT hw (aM Sl.d (cN w))) pt=some (.dT hw (aM Sl.d (cN w))):=av;have f1:=hE6 _ _ f1';have f2':=hE6 _ _ f2;have hE6':=hE5'.trans hE6;generalize gset G5 pt (.dT hw (aM Sl.d (cN w)))=G6 at *
  clear hE5' hO5 hpt hE6 f1' f2;rw[ag];walk_at "s1";refine⟨ps,w,⟨rfl,hO6,sw⟩,fun pw hpw=>?_⟩;have ne4:pb≠pw:=fun z=>by subst z;rw[f1]at hpw;cases hpw
  have hE7:gf G6 (gset G6 pw (.dT hw (aM D.str (fY w)))):=gf.refl.gset hpw;have f4:gset G6 pw (.dT hw (aM D.str (fY w))) pw=some (.dT hw (aM D.str (fY w))):=av;have f1':=hE7 _ _ f1;have f2:=hE7 _ _ f2';have f3':=hE7 _ _ f3;have Uc:=hE6'.trans hE7;generalize gset G6 pw (.dT hw (aM D.str (fY w)))=G7 at *
  clear hE6' hO6 hpw hE7 f1 f2' f3;rw[ag];walk_at "s1";intro pq hpq;have n1:pb≠pq:=fun z=>by subst z;rw[f1']at hpq;cases hpq
  have n2:pk≠pq:=fun z=>by subst z;rw[f2]at hpq;cases hpq
  have n3:pt≠pq:=fun z=>by subst z;rw[f3']at hpq;cases hpq
  have n4:pw≠pq:=fun z=>by subst z;rw[f4]at hpq;cases hpq
  rw[ag];have gb:gset G7 pq (.dT hw []) pb=some (.dT hw (aM D.str (aF x w))):=by rw[am n1];exact f1'
  refine⟨hw,_,gb,?_⟩;clear gb;have bl:(aF x w).length<=65000:=by
   have h1:=dz ((fK x.length).zip (B7 x) ++ w.flatMap b9) [];have h2:=tO b9 (o:=w) fun s hs'=>pZ (sw.2 s hs');have h3:=sw.1;rw[Nl,Nj,Pe,Bs]at h1;unfold aF;omega
  have keys:(aM D.str (aF x w)).map EC=(aF x w).map fun p=>p.1.d:=by
   unfold aM;rw[NH];rfl
  rw[keys];refine⟨fun i σ G'=>∃ x10,σ=[some (.str x),some (.ref q0),some (.lst (names.map Nm.d)),some (.lst (row.map Sl.d)),some (.lst (ps.map D.ref)),some (.ref pb),some (.ref pk),some (.ref pt),some (.ref pw),some (.ref pq),x10,none]/\G'=gset (fL G7 pb) pq (.dT hw (aM Sl.d (bH [] ((((aF x w).take i).filter fun p=>(ee (bv w) p.1).isNone).map fun p=>((ee (cN w) p.1).getD p.1,p.1))))),⟨_,rfl,?_⟩,?_,?_⟩
  ·funext b
   by_cases e1:b=pq
   ·rw[e1,d_ n1.symm,av,av];rfl
   ·rw[am e1]
    by_cases e2:b=pb
    ·rw[e2,d9,d9]
    ·rw[d_ e2,d_ e2,am e1]
  ·rintro i d σ G' hd ⟨x10,rfl,rfl⟩
   rw[Nc]at hd;cases hq:(aF x w)[i]? with
   | none=>rw[hq]at hd;cases hd
   | some q=>
    rw[hq]at hd;cases hd;have hi:=(List.getElem?_eq_some_iff.mp hq).1;simp only[gN,NJ,Nt];generalize hL:(((aF x w).take i).filter fun p=>(ee (bv w) p.1).isNone).map (fun p=>((ee (cN w) p.1).getD p.1,p.1))=L;have ll:L.length<=65000:=by
     rw[<- hL,MO];have:=Ol (fun p:Sl×Str=>(ee (bv w) p.1).isNone) ((aF x w).take i);rw[NV]at this;omega
    have pl:=dz L [];rw[Nj]at pl;have tk:(((aF x w).take (i+1)).filter fun p=>(ee (bv w) p.1).isNone).map (fun p=>((ee (cN w) p.1).getD p.1,p.1))=L ++ (if (ee (bv w) q.1).isNone=true then [((ee (cN w) q.1).getD q.1,q.1)]else []):=by
     rw[NU,hq,Pl,NN,hL];congr 1
     by_cases e:(ee (bv w) q.1).isNone=true
     ·rw[if_pos e];simp[e]
     ·rw[if_neg e];simp[e]
    have gk:gset (fL G7 pb) pq (.dT hw (aM Sl.d (bH [] L))) pk=some (.dT hw (aM (fun _=>.bl true) (bv w))):=by rw[am n2,d_ (Ne.symm ne1)];exact f2
    have gt:gset (fL G7 pb) pq (.dT hw (aM Sl.d (bH [] L))) pt=some (.dT hw (aM Sl.d (cN w))):=by rw[am n3,d_ (Ne.symm ne2)];exact f3'
    refine bo (ee (bv w) q.1).isNone (fun K hK=>?_) ?_
    ·show ∃ r,cB hw _ (.ref pk) q.1.d r/\K (!r.isSome) _;refine⟨_,jq zF hw q.1 gk,?_⟩;rw[Option.isSome_map];cases e:ee (bv w) q.1<;>(rw[e]at hK;exact hK)
    ·by_cases e:(ee (bv w) q.1).isNone=true
     ·rw[if_pos e];show jK _ _/\∃ r,cB hw _ (.ref pt) q.1.d r/\kM hw (.ref pq) (val (r.getD q.1.d)) q.1.d _ _
      refine⟨?_,_,jq zF hw q.1 gt,?_⟩
      ·unfold jK;simp only[val,gt]
      ·have ek:val (((ee (cN w) q.1).map Sl.d).getD q.1.d)=((ee (cN w) q.1).getD q.1).d:=by cases ee (cN w) q.1<;>rfl
       rw[ek];refine v8 (f:=Sl.d) (w:=q.1) av (by walk_at "o") ⟨_,rfl,?_⟩
       rw[d8,tk,if_pos e,mL]
     ·rw[if_neg e];refine⟨_,rfl,?_⟩;rw[tk,if_neg e,Oc]
  ·rintro σ G' ⟨x10,rfl,rfl⟩
   rw[MO,NF];dsimp only;have es:bH [] (((aF x w).filter fun p=>(ee (bv w) p.1).isNone).map fun p=>((ee (cN w) p.1).getD p.1,p.1))=cy x w:=rfl;rw[es];have g9:gset (gset (fL G7 pb) pq (.dT hw (aM Sl.d (cy x w)))) pb (.dT hw (aM D.str (aF x w))) pq=some (.dT hw (aM Sl.d (cy x w))):=by rw[am n1.symm,av]
   have g5:gset (gset (fL G7 pb) pq (.dT hw (aM Sl.d (cy x w)))) pb (.dT hw (aM D.str (aF x w))) pb=some (.dT hw (aM D.str (aF x w))):=av;have g8:gset (gset (fL G7 pb) pq (.dT hw (aM Sl.d (cy x w)))) pb (.dT hw (aM D.str (aF x w))) pw=some (.dT hw (aM D.str (fY w))):=by rw[am ne4.symm,am n4,d_ ne4.symm];exact f4
   have gE:gf G (gset (gset (fL G7 pb) pq (.dT hw (aM Sl.d (cy x w)))) pb (.dT hw (aM D.str (aF x w)))):=fun a o ha=>by
    have h7:=Uc a o ha
    by_cases e1:a=pb
    ·rw[e1]at h7 ⊢;rw[g5,<- h7,f1']
    ·rw[am e1];have e2:a≠pq:=fun z=>by rw[z,hpq]at h7;cases h7
     rw[am e2,d_ e1];exact h7
   generalize gset (gset (fL G7 pb) pq (.dT hw (aM Sl.d (cy x w)))) pb (.dT hw (aM D.str (aF x w)))=G9 at *
   clear f1' f2 f3' f4 Uc hpq n1 n2 n3 n4 ne1 ne2 ne3 ne4 bl keys es;rw[ag];unfold bO f_ gn;simp only[ae,Nn,Nu,eK];refine zG (fun d=>(ee (cy x w) (H_ d)).isSome) (fun d=>.tup [d,((ee (cy x w) (H_ d)).getD default).d]) (by rw[MO];omega) (fun d hd P R hP hR=>?_) ?_
   ·obtain⟨s,hs',rfl⟩:=mem_map.mp hd;rw[DB]at hP hR;refine⟨⟨by simp,rfl⟩,?_⟩
    show ∃ r,cB hw G9 (.ref pq) s.d r/\(if r.isSome=true then _ else R G9)
    refine⟨_,jq zF hw s g9,?_⟩;rw[Option.isSome_map];cases e:ee (cy x w) s with
    | none=>
     rw[e]at hR;simp only[Option.isSome_none,Bool.false_eq_true,if_false];exact hR rfl
    | some n=>
     rw[e]at hP;simp only[Option.isSome_some,if_true];have lk:=jq zF hw s g9;rw[e]at lk;show ∃ d,cB hw G9 (.ref pq) s.d (some d)/\_
     exact⟨n.d,lk,by show 2<=MT;omega,hP rfl _ rfl⟩
   ·rw[B8];have eI:(row.filterMap fun s=>(ee (cy x w) s).map fun n=>(s,n))=jg x w row:=rfl;rw[eI];dsimp only[val];have lI:(jg x w row).length<=900000:=le_trans (List.length_filterMap_le _ _) TV;have mem:∀ p∈jg x w row,∃ z,ee (aF x w) p.2=some z:=fun p hp=>by
     unfold jg at hp;obtain⟨s,_,e⟩:=List.mem_filterMap.mp hp;cases e2:ee (cy x w) s with
     | none=>rw[e2]at e;cases e
     | some n=>
      rw[e2]at e;cases e;have m1:=BU e2;unfold cy at m1;rcases Cd m1 with m2|m2
      ·simp at m2
      ·obtain⟨q,hq,e3⟩:=mem_map.mp m2;have hq':=(mem_filter.mp hq).1;obtain⟨z,hz⟩:=Fc hq';injection e3 with e4 e5
       exact⟨z,by show ee (aF x w) n=some z;rw[<- e5];exact hz⟩
    unfold aX;simp only[Nn,Nu,Nt,NJ,eK];refine hV (fun d=>match d with|.tup [a,b]=>.tup [a,b,.str ((ee (aF x w) (H_ b)).getD (MN "")),.str ((ee (fY w) (H_ b)).getD (MN ""))]|d=>d) (by rw[MO];omega) (fun d hd P hP=>?_) ?_
    ·obtain⟨p,hp,rfl⟩:=mem_map.mp hd;obtain⟨z,hz⟩:=mem p hp;refine⟨rfl,⟨by simp,rfl⟩,?_⟩
     have lk:=jq zF hw p.2 g5;rw[hz]at lk;show ∃ d,cB hw G9 (.ref pb) p.2.d (some d)/\jK G9 _/\∃ r,cB hw G9 (.ref pw) p.2.d r/\_
     refine⟨.str z,lk,?_,_,jq zF hw p.2 g8,by show 4<=MT;omega,hP _ ?_⟩
     ·unfold jK;simp only[val,g8]
     ·show D.tup [p.1.d,p.2.d,.str z,val (((ee (fY w) p.2).map D.str).getD (.str (MN "")))]=D.tup [p.1.d,p.2.d,.str ((ee (aF x w) p.2).getD (MN "")),.str ((ee (fY w) p.2).getD (MN ""))];rw[hz];cases ee (fY w) p.2<;>rfl
    ·have:=h' G9 gE;rw[NH]at this;rw[NH];exact this
 ·exact h.elim
theorem m9(s:Sl)(n:Nat):pl (n+1) s.d:=by
 intro d hd;simp only[Nr,Nq,or_false]at hd;rcases hd with rfl|rfl|rfl<;>cases n<;>trivial
theorem DA(ss:List Sl)(n:Nat):∀ d∈ss.map Sl.d,pl (n+1) d:=fun d hd=>by
 obtain⟨s,_,rfl⟩:=mem_map.mp hd;exact m9 s n
theorem Bo(b1 b2:Bool)(h1:∀ K:Bool->Gp->Prop,K b1 G->t σ G K)(h2:b1=true->∀ K:Bool->Gp->Prop,K b2 G->u σ G K):∀ K:Bool->Gp->Prop,K (b1 && b2) G->u6 t u σ G K:=fun K hK=>by
 unfold u6;refine h1 _ ?_;cases b1 with
 | true=>rw[if_pos rfl];exact h2 rfl K hK
 | false=>rw[if_neg (by decide)];exact hK
theorem Dt(b1 b2:Bool)(h1:∀ K:Bool->Gp->Prop,K b1 G->t σ G K)(h2:b1=false->∀ K:Bool->Gp->Prop,K b2 G->u σ G K):∀ K:Bool->Gp->Prop,K (b1 || b2) G->Ag t u σ G K:=fun K hK=>by
 unfold Ag;refine h1 _ ?_;cases b1 with
 | true=>rw[if_pos rfl];exact hK
 | false=>rw[if_neg (by decide)];exact h2 rfl K hK
theorem Ic{x:Str}{out:List Sk}(om:∀ s∈out,s.act.many<=1000):(gP x.length out).length<=x.length+1000*out.length:=by
 have wl:=nE x.length out (bp [aA] aA (fK x.length)) om;have e1:out.foldl dG (bp [aA] aA (fK x.length))=aA::gP x.length out:=rC x.length out;have ol:(fK x.length).length=x.length:=aY _ _ _;rw[e1,cF,M1,M1,ol]at wl;omega
theorem xY(om:∀ s∈out,s.act.many<=1000):(cH x out names).length<=x.length+1000*out.length:=by
 unfold cH jg;rw[MO];exact le_trans (List.length_filterMap_le _ _) (Ic om)
def Hg:D->D
 | .tup (_::t)=>.tup t
 | d=>d
theorem B4(seats:List Seat):(seats.map Seat.d).map Hg=seats.map Seat.d3:=by rw[NH];rfl
theorem yC(zF:Zz)(hw:HW):bI (fC zF hw) (sy zF hw) ["old","strokes","standing"]:=by
 intro ds G Q h;unfold fC at h;split at h
 ·rename_i x q0 ns;obtain⟨sks,base,names,hc,h⟩:=h;have hs:=al;unfold sy;simp only[aX,f_,gn,aP,af,au,ae,cx,M8,Pj,OB,OM,List.replicate,Nn,Nu,M1,Nj,Qn,Qm,val,Oc];refine⟨sks,base,names,hc,fun out G1 hE st mem=>?_⟩;obtain⟨_,hx,_,_,l2,sub,ok,_,_⟩:=hc;have lo:out.length < 64:=by
   have:=f9 (e7 st) (ys:=base.map Sk.rw) fun r hr=>by
    obtain⟨s,hs',rfl⟩:=mem_map.mp hr;exact mem_map.mpr ⟨s,sub s ((mem s).mp hs'),rfl⟩
   rw[MO,MO]at this;omega
  have ls:=xY (x:=x) (names:=names) fun s (hs':s∈out)=>le_trans (lh s) (ok s ((mem s).mp hs')).2;refine hV Hg (by rw[MO];omega) (fun d hd P hP=>?_) ?_
  ·obtain⟨s,_,rfl⟩:=mem_map.mp hd;have ed:s.d=.tup [s.slot.d,s.name.d,.str s.sign,.str s.word]:=rfl;rw[ed]at hP ⊢;refine⟨⟨by simp[Nt,List.replicate],rfl⟩,?_⟩
   show _/\_
   refine⟨by unfold HT.sIx;simp,?_⟩
   exact hP _ rfl
  ·rw[B4];exact h out G1 hE st mem
 ·exact h.elim
theorem yF(zF:Zz)(hw:HW):bI (dM zF hw) (sD zF hw) ["self"]:=by
 intro ds G Q h;unfold dM at h;split at h
 ·rename_i p;obtain⟨⟨pen,num,time,act⟩,a,x,⟨rfl,hG⟩,h⟩:=h;have hs:=al;have hc:zF.Z2∈[zF.Z1,zF.Z2,zF.Z3,zF.Z4,zF.Z5]:=by simp
  unfold aR Sl.d at hG;dsimp only at hG;unfold sD;walk_at "st";exact⟨by walk_at "o",by walk_at "o",h⟩
 ·exact h.elim
theorem si(zF:Zz)(hw:HW):bI (cq zF hw) (l_ zF hw) ["self"]:=by
 intro ds G Q h;unfold cq at h;split at h
 ·rename_i p;obtain⟨⟨pen,num,time,act⟩,ns,⟨rfl,hG⟩,h⟩:=h;have hs:=al;have hc:zF.Z3∈[zF.Z1,zF.Z2,zF.Z3,zF.Z4,zF.Z5]:=by simp
  unfold aR at hG;dsimp only at hG;unfold l_;walk_at "st";exact⟨by walk_at "o",by walk_at "o",h⟩
 ·exact h.elim
theorem uC(zF:Zz)(hw:HW):bI (cG zF hw) (nW zF hw) ["self"]:=by
 intro ds G Q h;unfold cG at h;split at h
 ·rename_i p;obtain⟨⟨pen,num,time,act⟩,ns,w,⟨rfl,hG⟩,h⟩:=h;have hs:=al;have hc:zF.Z4∈[zF.Z1,zF.Z2,zF.Z3,zF.Z4,zF.Z5]:=by simp
  unfold aR at hG;dsimp only at hG;unfold nW;walk_at "st";exact⟨by walk_at "o",by walk_at "o",h⟩
 ·exact h.elim
theorem wp(zF:Zz)(hw:HW):bI (c8 zF hw) (qr zF hw) ["self"]:=by
 intro ds G Q h;unfold c8 at h;split at h
 ·rename_i p;obtain⟨⟨pen,num,time,act⟩,ns,a,⟨rfl,hG⟩,h⟩:=h;have hs:=al;have hc:zF.Z5∈[zF.Z1,zF.Z2,zF.Z3,zF.Z4,zF.Z5]:=by simp
  unfold aR at hG;dsimp only at hG;have ea:a.d=.tup [.str a.pen,.int a.n,.int a.k]:=rfl;rw[ea]at hG;unfold qr;walk_at "st";exact⟨by walk_at "o",by walk_at "o",h⟩
 ·exact h.elim
theorem xj(zF:Zz)(hw:HW)(hσ:σ[i]?=some (some (.ref p)))(hG:G p=some (.ins zF.C_Paper ar vs))(hv:vs[j]?=some v)(h:Q v G):jZ zF.C_Paper ar j (ae i) σ G Q:=by
 unfold jZ ae;rw[hσ];dsimp only;rw[hG];dsimp only
 first
 | (rw[hv];exact⟨⟨rfl,rfl⟩,h⟩)
 | (refine⟨⟨rfl,rfl⟩,?_⟩;rw[hv];exact h)
 | exact⟨⟨rfl,rfl⟩,v,hv,h⟩
theorem Bt(hv:∀ Q:i_,Q v G->te σ G Q)(ho:∀ Q:i_,Q o G->to σ G Q)(hi:∀ Q:i_,Q i G->ti σ G Q)(h:kM hw0 (val o) (val i) (val v) G fun G4=>E.nx σ G4):eU hw0 to ti te E σ G:=hv _ (ho _ (hi _ h))
theorem oG(zF:Zz)(hw:HW)(hσ:σ[i]?=some (some (.ref p)))(hG:G p=some (aR zF s))(h:Q (.tup [.str s.pen,.int s.num]) G):bn [zF.Z1,zF.Z2,zF.Z3,zF.Z4,zF.Z5] "name" (ae i) σ G Q:=by
 obtain⟨pen,num,time,act⟩:=s;unfold bn ae;rw[hσ];cases act<;>(simp only[aR]at hG;simp only[hG];refine⟨by simp,?_⟩;first|exact h)
theorem EV(zF:Zz)(hw:HW)(hσ:σ[i]?=some (some (.ref p)))(hG:G p=some (aR zF s))(h:Q (.int s.time) G):bn [zF.Z1,zF.Z2,zF.Z3,zF.Z4,zF.Z5] "time" (ae i) σ G Q:=by
 obtain⟨pen,num,time,act⟩:=s;unfold bn ae;rw[hσ];cases act<;>(simp only[aR]at hG;simp only[hG];refine⟨by simp,?_⟩;first|exact h)
theorem Er(zF:Zz)(hw:HW)(hσ:σ[i]?=some (some (.ref p)))(hG:G p=some (aR zF s))(h:Q s.d G):
  em [(zF.Z2,dM zF hw),(zF.Z3,cq zF hw),(zF.Z4,cG zF hw),(zF.Z5,c8 zF hw)] "row" [] (ae i) au σ G Q:=by
 obtain⟨pen,num,time,act⟩:=s;unfold em ae;rw[hσ];cases act with
 | put a x=>
  have hG':=hG;simp only[aR]at hG;simp only[hG];exact⟨by decide +kernel,dM zF hw,by simp,⟨_,a,x,⟨rfl,hG'⟩,h⟩⟩
 | strike ns=>
  have hG':=hG;simp only[aR]at hG;simp only[hG];exact⟨by decide +kernel,cq zF hw,by simp,⟨_,ns,⟨rfl,hG'⟩,h⟩⟩
 | dress ns w=>
  have hG':=hG;simp only[aR]at hG;simp only[hG];exact⟨by decide +kernel,cG zF hw,by simp,⟨_,ns,w,⟨rfl,hG'⟩,h⟩⟩
 | move ns a=>
  have hG':=hG;simp only[aR]at hG;simp only[hG];exact⟨by decide +kernel,c8 zF hw,by simp,⟨_,ns,a,⟨rfl,hG'⟩,h⟩⟩
theorem uy(zF:Zz)(hw:HW):bI (da zF hw) (nT zF hw) ["at","length"]:=by
 intro ds G Q h;unfold da at h;split at h
 ·obtain⟨⟨h1,h2⟩,h⟩:=h;unfold nT;walk_at "st";rw[decide_eq_true True.intro];exact True.intro
 ·exact h.elim
theorem nJ(zF:Zz)(hw:HW):bI (bj zF hw) (iU zF hw) ["at","to","length"]:=by
 intro ds G Q h;unfold bj at h;split at h
 ·obtain⟨⟨h1,h2,h3,h4⟩,h⟩:=h;unfold iU;walk_at "st";rw[decide_eq_true True.intro];exact True.intro
 ·exact h.elim
theorem nK(zF:Zz)(hw:HW):bI (bK zF hw) (iV zF hw) ["self"]:=by
 intro ds G Q h;unfold bK at h;split at h
 ·rename_i p;obtain⟨P,d,s,g,⟨⟨g1,g2,g3,g4⟩,ok⟩,h⟩:=h;have hs:=al;have l1:=ok.ls;unfold iV;walk_at "st";refine⟨by rw[MO];omega,fun i acc G'=>acc=(((P.sks.take i).filter fun s=>!fA P s.nm).map Sk.nm).map Nm.d/\G'=G,⟨rfl,rfl⟩,fun i acc G' hp=>by rw[hp.2];exact g2,?_,?_⟩
  ·rintro i dd acc G' hd ⟨rfl,rfl⟩
   rw[Nc]at hd;cases hq:P.sks[i]? with
   | none=>rw[hq]at hd;cases hd
   | some k=>
    rw[hq]at hd;cases hd;obtain⟨w,hw0⟩:=ok.kn k (M6 hq);have tk:((P.sks.take (i+1)).filter fun s=>!fA P s.nm)=((P.sks.take i).filter fun s=>!fA P s.nm) ++ if (!fA P k.nm)=true then [k]else []:=by
     rw[NU,hq,Pl];congr 1
     by_cases z:(!fA P k.nm)=true
     ·rw[if_pos z];exact List.filter_cons_of_pos z
     ·rw[if_neg z];exact List.filter_cons_of_neg z
    have wk:fA P k.nm=eA (.str w) (.str (MN "wiped")):=by unfold fA;rw[hw0];rfl
    have ed:k.d=.tup [.tup [.str k.pen,.int k.num],.int k.time,k.act.d]:=rfl;rw[ed];refine⟨⟨by simp[Nt,List.replicate],rfl⟩,?_⟩
    have hk:dF P.st [.inr k.pen,.inl k.num]=some (.str w):=hw0;clear ok;have tk':(((P.sks.take (i+1)).filter fun s=>!fA P s.nm).map Sk.nm).map Nm.d=(((P.sks.take i).filter fun s=>!fA P s.nm).map Sk.nm).map Nm.d ++ if (!fA P k.nm)=true then [.tup [.str k.pen,.int k.num]]else []:=by
     rw[tk,NN,NN];congr 1;split<;>rfl
    clear tk;generalize (((P.sks.take i).filter fun s=>!fA P s.nm).map Sk.nm).map Nm.d=A0 at *
    rw[wk]at tk';walk_at "st"
    by_cases z:(!eA (.str w) (.str (MN "wiped")))=true
    ·rw[if_pos z,if_pos z]
    ·rw[if_neg z,if_neg z,Oc]
  ·rintro acc G' ⟨rfl,rfl⟩
   rw[MO,NF];exact h
 ·exact h.elim
theorem nL(zF:Zz)(hw:HW):bI (bL zF hw) (iW zF hw) ["self"]:=by
 intro ds G Q h;unfold bL at h;split at h
 ·rename_i p;obtain⟨P,d,s,g,⟨⟨g1,g2,g3,g4⟩,ok⟩,h⟩:=h;have hs:=al;unfold iW;walk_at "st"
 ·exact h.elim
theorem jU(zF:Zz)(hw:HW):bI (aK zF hw) (f6 zF hw) ["self","pen"]:=by
 intro ds G Q h;unfold aK at h;split at h
 ·rename_i p pen;obtain⟨P,d,s,g,⟨⟨g1,g2,g3,g4⟩,gi⟩,h⟩:=h;have hs:=al;unfold f6;unfold Pp.num at h;cases e:dF P.gr (.inr pen) with
  | none=>
   rw[e]at h;walk_at "st";exact⟨by walk_at "o",h⟩
  | some v=>
   obtain⟨m,rfl,_⟩:=gi _ _ e;rw[e]at h;walk_at "st";exact⟨by walk_at "o",h⟩
 ·exact h.elim
theorem jT(zF:Zz)(hw:HW):bI (aJ zF hw) (fZ zF hw) ["self"]:=by
 intro ds G Q h;unfold aJ at h;split at h
 ·rename_i p;obtain⟨P,d,s,g,⟨g1,g2,g3,g4⟩,h⟩:=h;unfold fZ;walk_at "st"
 ·exact h.elim
theorem sj(zF:Zz)(hw:HW):bI (cP zF hw) (ma zF hw) ["self"]:=by
 intro ds G Q h;unfold cP at h;split at h
 ·rename_i p;obtain⟨P,d,s,g,⟨⟨g1,g2,g3,g4⟩,ok⟩,h⟩:=h;have hs:=al;have o1:=ok.lo;have o2:=ok.ls;have un:P.unw.length<=P.sks.length:=by
   unfold Pp.unw;rw[MO];exact Ol _ _
  have sk:∀ k∈P.sks,1<=k.num/\k.wd<=1000:=fun k hk=>⟨(ok.sk k hk).1,le_trans (ok.sk k hk).2.1 (by decide)⟩
  unfold ma;walk_at "st";refine⟨P,d,s,g,⟨⟨g1,g2,g3,g4⟩,ok⟩,P.sks,P.sks,P.unw,⟨rfl,by walk_at "o",vS ok.ap,by walk_at "o",by walk_at "o",fun k hk=>hk,sk,rfl,by walk_at "o"⟩,fun out G' hE so mo=>h out G' hE ⟨so,mo⟩⟩
 ·exact h.elim
theorem qS(zF:Zz)(hw:HW):bI (aN zF hw) (kJ zF hw) ["self"]:=by
 intro ds G Q h;unfold aN at h;split at h
 ·rename_i p;obtain⟨P,d,s,g,⟨⟨g1,g2,g3,g4⟩,ok⟩,h⟩:=h;have hs:=al;have o1:=ok.lo;have o2:=ok.ls;have un:P.unw.length<=P.sks.length:=by
   unfold Pp.unw;rw[MO];exact Ol _ _
  have sk:∀ k∈P.sks,1<=k.num/\k.wd<=1000:=fun k hk=>⟨(ok.sk k hk).1,le_trans (ok.sk k hk).2.1 (by decide)⟩
  unfold kJ;walk_at "st";refine⟨P,d,s,g,⟨⟨g1,g2,g3,g4⟩,ok⟩,P.sks,P.sks,P.unw,⟨rfl,by walk_at "o",vS ok.ap,by walk_at "o",by walk_at "o",fun k hk=>hk,sk,rfl,by walk_at "o"⟩,fun out G' hE so mo=>h out G' hE ⟨so,mo⟩⟩
 ·exact h.elim
theorem sv(zF:Zz)(hw:HW):bI (bR zF hw) (mf zF hw) ["self","stroke"]:=by
 intro ds G Q h;unfold bR at h;split at h
 ·rename_i p a;obtain⟨P,d,s,g,k,⟨⟨g1,g2,g3,g4⟩,ga,l1,l2,l3⟩,h⟩:=h;have hs:=al;have npd:p≠d:=fun z=>by rw[z,g2]at g1;cases g1
  have nps:p≠s:=fun z=>by rw[z,g3]at g1;cases g1
  have npg:p≠g:=fun z=>by rw[z,g4]at g1;cases g1
  have nds:d≠s:=fun z=>by rw[z,g3]at g2;cases g2
  have ndg:d≠g:=fun z=>by rw[z,g4]at g2;cases g2
  have nsg:s≠g:=fun z=>by rw[z,g4]at g3;cases g3
  obtain⟨C,L,fs,eo⟩:=pF zF k;have gx:G a=some (.ins C L fs):=ga.trans (by rw[eo])
  have nad:a≠d:=fun z=>by rw[z,g2]at gx;cases gx
  have nas:a≠s:=fun z=>by rw[z,g3]at gx;cases gx
  have nag:a≠g:=fun z=>by rw[z,g4]at gx;cases gx
  unfold mf;rw[ag];unfold dQ ju;refine xj zF hw (i:=0) rfl g1 rfl ?_;refine⟨⟨_,g2⟩,?_⟩;unfold af;refine Er zF hw (i:=1) rfl ga ?_;unfold au;dsimp only;rw[g2];dsimp only;refine⟨by rw[MO];omega,?_⟩
  have e1:(P.sks.map Sk.d) ++ [val k.d]=(P.sks ++ [k]).map Sk.d:=by rw[NN];rfl
  rw[e1];clear e1;have h1:gset G d (.lst ((P.sks ++ [k]).map Sk.d)) p=_:=(am npd).trans g1;have h2:gset G d (.lst ((P.sks ++ [k]).map Sk.d)) d=_:=av;have h3:gset G d (.lst ((P.sks ++ [k]).map Sk.d)) s=_:=(am nds.symm).trans g3;have h4:gset G d (.lst ((P.sks ++ [k]).map Sk.d)) g=_:=(am ndg.symm).trans g4;have ha:gset G d (.lst ((P.sks ++ [k]).map Sk.d)) a=_:=(am nad).trans ga;have ho:C7 [p,d,s,g] G (gset G d (.lst ((P.sks ++ [k]).map Sk.d))):=fun x o hx hG=>(am fun z=>hx (by rw[z];simp)).trans hG
  generalize gset G d (.lst ((P.sks ++ [k]).map Sk.d))=G1 at *
  clear g1 g2 g3 g4 ga gx;rw[ag];refine Bt (v:=.str (MN "waits")) (o:=.ref s) (i:=.tup [.str k.pen,.int k.num]) (fun Q h=>h) (fun Q h=>xj zF hw (i:=0) rfl h1 rfl h) (fun Q h=>oG zF hw (i:=1) rfl ha h) ?_;unfold kM;dsimp only[val];rw[h3];refine⟨rfl,k.nm.key,rfl,by walk_at "o",?_⟩
  have i1:gset G1 s (.dT hw (bu P.st k.nm.key (.str (MN "waits")))) p=_:=(am nps).trans h1;have i2:gset G1 s (.dT hw (bu P.st k.nm.key (.str (MN "waits")))) d=_:=(am nds).trans h2;have i3:gset G1 s (.dT hw (bu P.st k.nm.key (.str (MN "waits")))) s=_:=av;have i4:gset G1 s (.dT hw (bu P.st k.nm.key (.str (MN "waits")))) g=_:=(am nsg.symm).trans h4;have ia:gset G1 s (.dT hw (bu P.st k.nm.key (.str (MN "waits")))) a=_:=(am nas).trans ha;have io:C7 [p,d,s,g] G (gset G1 s (.dT hw (bu P.st k.nm.key (.str (MN "waits"))))):=fun x o hx hG=>(am fun z=>hx (by rw[z];simp)).trans (ho x o hx hG)
  generalize gset G1 s (.dT hw (bu P.st k.nm.key (.str (MN "waits"))))=G2 at *
  clear h1 h2 h3 h4 ha ho;rw[ag];refine Bt (v:=.int k.num) (o:=.ref g) (i:=.str k.pen) (fun Q h=>by unfold cu;exact oG zF hw (i:=1) rfl ia h) (fun Q h=>xj zF hw (i:=0) rfl i1 rfl h) (fun Q h=>by unfold cu;exact oG zF hw (i:=1) rfl ia h) ?_
  unfold kM;dsimp only[val];rw[i4];refine⟨.inr k.pen,rfl,by walk_at "o",?_⟩
  have j1:gset G2 g (.dK (bu P.gr (.inr k.pen) (.int k.num))) p=_:=(am npg).trans i1;have j2:gset G2 g (.dK (bu P.gr (.inr k.pen) (.int k.num))) d=_:=(am ndg).trans i2;have j3:gset G2 g (.dK (bu P.gr (.inr k.pen) (.int k.num))) s=_:=(am nsg).trans i3;have j4:gset G2 g (.dK (bu P.gr (.inr k.pen) (.int k.num))) g=_:=av;have ja:gset G2 g (.dK (bu P.gr (.inr k.pen) (.int k.num))) a=_:=(am nag).trans ia;have jo:C7 [p,d,s,g] G (gset G2 g (.dK (bu P.gr (.inr k.pen) (.int k.num)))):=fun x o hx hG=>(am fun z=>hx (by rw[z];simp)).trans (io x o hx hG)
  generalize gset G2 g (.dK (bu P.gr (.inr k.pen) (.int k.num)))=G3 at *
  clear i1 i2 i3 i4 ia io;rw[ag];unfold Bu;refine EV zF hw (i:=1) (p:=a) (σ:=[some (.ref p),some (.ref a)]) rfl ja ?_;show (match G3 p with|some (.ins C' L' ds)=>_|_=>False)
  rw[j1];refine⟨⟨rfl,rfl⟩,?_⟩;have npa:a≠p:=fun z=>by
   rw[z,j1]at ja;obtain⟨pen,num,time,act⟩:=k;cases act<;>(injection ja with ja;injection ja with _ _ ja;cases ja)
  dsimp only;unfold aX;refine oG zF hw (i:=1) (p:=a) (σ:=[some (.ref p),some (.ref a)]) rfl ((am npa).trans ja) ?_;exact h _ (fun x o hx hG=>(am fun z=>hx (by rw[z];simp)).trans (jo x o hx hG)) ⟨av,(am npd.symm).trans j2,(am nps.symm).trans j3,(am npg.symm).trans j4⟩
 ·exact h.elim
theorem mI(zF:Zz)(hw:HW):bI (b7 zF hw) (im zF hw) ["self","old"]:=by
 intro ds G Q h;unfold b7 at h;split at h
 ·rename_i p x;obtain⟨g1,h⟩:=h;have hs:=al;unfold im;rw[ag];walk_at "s1";rw[ag];walk_at "s1";refine⟨by walk_at "o",fun d hd=>?_⟩
  have npd:p≠d:=fun z=>by rw[<- z,av]at hd;cases hd
  have hd0:G d=none:=by rwa[am npd.symm]at hd
  rw[am npd,av];dsimp only;refine⟨⟨rfl,rfl⟩,?_⟩;rw[ag];generalize hG1:gset (gset (gset G p _) d _) p _=G1;have a1:G1 p=some (.ins zF.C_Paper ["old","drawn"] [.str x,.ref d]):=by rw[<- hG1];exact av
  have a2:G1 d=some (.lst []):=by rw[<- hG1,am npd.symm];exact av
  have a0:∀ y o,y≠p->y≠d->G y=some o->G1 y=some o:=fun y o h1 h2 hG=>by rw[<- hG1,am h1,am h2,am h1];exact hG
  clear hG1;walk_at "s1";intro s hs1;have nps:p≠s:=fun z=>by rw[<- z,a1]at hs1;cases hs1
  have nds:d≠s:=fun z=>by rw[<- z,a2]at hs1;cases hs1
  rw[am nps,a1];dsimp only;refine⟨⟨rfl,rfl⟩,?_⟩;rw[ag];generalize hG2:gset (gset G1 s _) p _=G2;have b1:G2 p=some (.ins zF.C_Paper ["old","drawn","states"] [.str x,.ref d,.ref s]):=by rw[<- hG2];exact av
  have b2:G2 d=some (.lst []):=by rw[<- hG2,am npd.symm,am nds];exact a2
  have b3:G2 s=some (.dT hw []):=by rw[<- hG2,am nps.symm];exact av
  have b0:∀ y o,y≠p->y≠d->y≠s->G y=some o->G2 y=some o:=fun y o h1 h2 h3 hG=>by rw[<- hG2,am h1,am h3];exact a0 y o h1 h2 hG
  clear hG2 a1 a2 a0 hs1;walk_at "s1";intro g hg;have npg:p≠g:=fun z=>by rw[<- z,b1]at hg;cases hg
  have ndg:d≠g:=fun z=>by rw[<- z,b2]at hg;cases hg
  have nsg:s≠g:=fun z=>by rw[<- z,b3]at hg;cases hg
  rw[am npg,b1];dsimp only;refine⟨⟨rfl,rfl⟩,?_⟩;walk_at "st";refine h d s g _ (fun y o hy hG=>?_) ⟨av,?_,?_,?_⟩
  ·simp only[Nr,Nq,or_false,not_or]at hy;rw[am hy.1,am hy.2.2.2];exact b0 y o hy.1 hy.2.1 hy.2.2.1 hG
  ·rw[am npd.symm,am ndg];exact b2
  ·rw[am nps.symm,am nsg];exact b3
  ·rw[am npg.symm];exact av
 ·exact h.elim
theorem GS{seats:List Seat}{i:Int}(h0:0<=i)(h1:i < seats.length):mX (seats.map Seat.d) i=some (seats[i.toNat]'(by walk_at "o")).d:=by
 have:=zM (ds:=seats.map Seat.d) (i:=i) h0 (by rw[MO];omega)
 rw[this,List.getElem_map]
def Hx:D->D
 | .tup (_::d::_)=>d
 | d=>d
theorem Cr(seats:List Seat):(seats.map Seat.d).map Hx=(seats.map Seat.name).map Sl.d:=by rw[NH,NH];rfl
theorem nH(zF:Zz)(hw:HW):bI (bh zF hw) (iT zF hw) ["seats","at","to"]:=by
 intro ds G Q h;unfold bh at h;split at h
 ·rename_i xs i j;obtain⟨seats,⟨rfl,h0,h1,h2,h3⟩,h⟩:=h;have hs:=al;unfold iT;walk_at "st";have ec:L3.cutD (seats.map Seat.d) (some i) (some j)=((seats.drop i.toNat).take (j - i).toNat).map Seat.d:=by
   rw[zD h0 (by walk_at "o"),List.map_take,List.map_drop]
   congr 1;omega
  rw[ec];refine hV Hx (by rw[MO];exact le_trans (List.length_take_le' _ _) (by rw[Pn];omega)) (fun d hd P hP=>?_) ?_
  ·obtain⟨s,_,rfl⟩:=mem_map.mp hd;have ed:s.d=.tup [s.slot.d,s.name.d,.str s.sign,.str s.word]:=rfl;rw[ed]at hP ⊢;refine⟨⟨by simp[Nt,List.replicate],rfl⟩,?_⟩
   exact hP _ rfl
  ·rw[Cr];exact h
 ·exact h.elim
theorem iK.off(h:iK C hw0 G p d s g P)(ha:G a=none):iK C hw0 (gset G a o) p d s g P:=by
 have ne:∀ {b:ML} {u:GO},G b=some u->b≠a:=fun hb z=>by rw[z,ha]at hb;cases hb
 obtain⟨h1,h2,h3,h4⟩:=h;exact⟨(am (ne h1)).trans h1,(am (ne h2)).trans h2,(am (ne h3)).trans h3,(am (ne h4)).trans h4⟩
theorem iK.ext(h:iK C hw0 G p d s g P)(e:gf G G'):iK C hw0 G' p d s g P:=⟨e _ _ h.1,e _ _ h.2.1,e _ _ h.2.2.1,e _ _ h.2.2.2⟩
theorem Pp.ok.le{P:Pp}{n m:Nat}(h:P.ok n)(hl:n<=m):P.ok m:=⟨h.lo,le_trans h.ls hl,le_trans h.lt hl,le_trans h.lg hl,h.sk,h.ap,h.kn,h.gi,h.gm⟩
theorem FB(so:Srt P out):out.length<=P.sks.length:=by
 have:=f9 (e7 so.1) (ys:=P.sks.map Sk.rw) fun r hr=>by
  obtain⟨s,hs',rfl⟩:=mem_map.mp hr;exact mem_map.mpr ⟨s,(so.2 s).mp hs',rfl⟩
 rwa[MO,MO]at this
theorem rB(ok:P.ok 50)(so:Srt P out):(P.seats out).length<=60000:=by
 have h1:=xY (x:=P.old) (out:=out) (names:=P.unw) fun s hs'=>le_trans (lh s) (le_trans (ok.sk s ((so.2 s).mp hs')).2.1 (by decide))
 have h2:=FB so;have h3:=ok.ls;have h4:=ok.lo;unfold Pp.seats;omega
theorem wL(e:gf G G1)(ha:G1 a=none)(h:C7 [p,d,s,g] (gset G1 a o) G'):C7 [p,d,s,g] G G':=fun x u hx hG=>h x u hx ((am fun z=>by rw[<- z,e x u hG]at ha;cases ha).trans (e x u hG))
theorem pB(zF:Zz)(hw:HW):bI (cb zF hw) (jI zF hw) ["self","pen","at","to","seats"]:=by
 intro ds G Q h;unfold cb at h;split at h
 ·rename_i p pen i j;obtain⟨P,d,s,g,⟨⟨g1,g2,g3,g4⟩,ok⟩,h⟩:=h;have hs:=al;have ok':P.ok 50:=ok.le (by decide)
  have ls:=ok.ls;have lt:=ok.lt;have lg:=ok.lg;have gi:=ok.gi;unfold jI;rw[ag];walk_at "s1";refine⟨P,d,s,g,⟨⟨g1,g2,g3,g4⟩,ok'⟩,fun out G1 hE so=>?_⟩;obtain⟨⟨c1,c2,c3,c4⟩,h⟩:=h out so;have k1:=hE _ _ g1;have k2:=hE _ _ g2;have k3:=hE _ _ g3;have k4:=hE _ _ g4;rw[ag];walk_at "s1";have sb:=rB ok' so;have pa:iK zF.C_Paper hw G1 p d s g P:=⟨k1,k2,k3,k4⟩;refine⟨⟨by rw[MO];exact c2,by rw[MO];exact c4⟩,P,d,s,g,⟨pa,gi⟩,P,d,s,g,pa,P.seats out,⟨rfl,by walk_at "o",c4,by walk_at "o"⟩,fun a ha=>⟨pen,_,rfl,P,d,s,g,⟨pen,P.num pen,P.time+1,.strike ((((P.seats out).drop i.toNat).take (j - i).toNat).map Seat.name)⟩,⟨pa.off ha,?_⟩,fun G' of pt=>h G' (wL hE ha of) pt⟩⟩
  exact⟨rfl,by walk_at "o",by walk_at "o",by walk_at "o"⟩
 ·exact h.elim
theorem sr(zF:Zz)(hw:HW):bI (dw zF hw) (md zF hw) ["self","pen","at"]:=by
 intro ds G Q h;unfold dw at h;split at h
 ·rename_i p pen i;obtain⟨P,d,s,g,⟨⟨g1,g2,g3,g4⟩,ok⟩,h⟩:=h;unfold md;walk_at "st";exact⟨P,d,s,g,⟨⟨g1,g2,g3,g4⟩,ok⟩,h⟩
 ·exact h.elim
theorem srt_uniq(ha:Srt P a)(hb:Srt P b):a=b:=rP (iu ha.1 hb.1 fun r=>by
 constructor
 ·intro hr;obtain⟨s,hs',rfl⟩:=mem_map.mp hr;exact mem_map.mpr ⟨s,(hb.2 s).mpr ((ha.2 s).mp hs'),rfl⟩
 ·intro hr;obtain⟨s,hs',rfl⟩:=mem_map.mp hr;exact mem_map.mpr ⟨s,(ha.2 s).mpr ((hb.2 s).mp hs'),rfl⟩)
theorem Jz(h0:0 < i)(h1:i<=seats.length):∃ st:Seat,mX (seats.map Seat.d) (i - 1)=some st.d/\kY seats i=st.slot:=by
 refine⟨seats[(i - 1).toNat]'(by walk_at "o"),GS (by walk_at "o") (by walk_at "o"),?_⟩
 unfold kY;rw[if_neg (by walk_at "o"),MX (by walk_at "o")]
theorem Jy(zF:Zz)(hw:HW)(h0:0<=i)(h1:i<=seats.length)(h:Q (kY seats i).d G):jk zF hw { nx:=fun _ G'=>Q .non G',rt:=Q } [some (.lst (seats.map Seat.d)),some (.int i)] G:=by
 have hs:=al;unfold jk
 by_cases e:i=0
 ·subst e;refine rR (NX:=fun _ _=>False) (fun _ _ z=>z.elim) fun NX hNX=>?_;refine bo true (fun K hK=>?_) (iteT ?_)
  ·walk_at "st"
  ·exact h
 ·refine rR (NX:=fun σ' G'=>σ'=[some (.lst (seats.map Seat.d)),some (.int i)]/\G'=G) (fun σ' G' z=>?_) fun NX hNX=>?_
  ·obtain⟨rfl,rfl⟩:=z;obtain⟨st,as,ea⟩:=Jz (seats:=seats) (i:=i) (by walk_at "o") h1
   rw[ea]at h;have ed:st.d=.tup [st.slot.d,st.name.d,.str st.sign,.str st.word]:=rfl;rw[ed]at as;clear ea ed;walk_at "st"
  ·have en:eA (.int i) (.int 0)=false:=bf fun z=>e (by injection z)
   refine bo false (fun K hK=>?_) (iteF ?_)
   ·walk_at "st"
   ·exact hNX _ _ ⟨rfl,rfl⟩
theorem uz(zF:Zz)(hw:HW):bI (db zF hw) (jk zF hw) ["seats","at"]:=by
 intro ds G Q h;unfold db at h;split at h
 ·rename_i xs i;obtain⟨seats,⟨rfl,h0,h1⟩,h⟩:=h;exact Jy zF hw h0 h1 h
 ·exact h.elim
theorem uB(zF:Zz)(hw:HW):bI (cf zF hw) (nV zF hw) ["self","pen","at","signs","seats"]:=by
 intro ds G Q h;unfold cf at h;split at h
 ·rename_i p pen i w;obtain⟨P,d,s,g,⟨⟨g1,g2,g3,g4⟩,ok⟩,h⟩:=h;have hs:=al;have ok':P.ok 50:=ok.le (by decide)
  have ls:=ok.ls;have lt:=ok.lt;have lg:=ok.lg;have gi:=ok.gi;unfold nV;rw[ag];walk_at "s1";refine⟨P,d,s,g,⟨⟨g1,g2,g3,g4⟩,ok'⟩,fun out G1 hE so=>?_⟩;obtain⟨⟨c1,c2⟩,h⟩:=h out so;have k1:=hE _ _ g1;have k2:=hE _ _ g2;have k3:=hE _ _ g3;have k4:=hE _ _ g4;rw[ag];walk_at "s1";have sb:=rB ok' so;have pa:iK zF.C_Paper hw G1 p d s g P:=⟨k1,k2,k3,k4⟩;refine⟨by rw[MO];exact c2,P,d,s,g,⟨pa,gi⟩,P,d,s,g,pa,P.seats out,⟨rfl,c2⟩,fun a ha=>⟨pen,_,_,rfl,rfl,P,d,s,g,⟨pen,P.num pen,P.time+1,.put (kY (P.seats out) i) w⟩,⟨pa.off ha,?_⟩,fun G' of pt=>h G' (wL hE ha of) pt⟩⟩
  exact⟨rfl,by walk_at "o",by walk_at "o",by walk_at "o"⟩
 ·exact h.elim
theorem su(zF:Zz)(hw:HW):bI (cQ zF hw) (me zF hw) ["self","pen","at","to","goal","seats","names"]:=by
 intro ds G Q h;unfold cQ at h;split at h
 ·rename_i p pen i j m;obtain⟨P,d,s,g,⟨⟨g1,g2,g3,g4⟩,ok⟩,h⟩:=h;have hs:=al;have ok':P.ok 50:=ok.le (by decide)
  have ls:=ok.ls;have lt:=ok.lt;have lg:=ok.lg;have gi:=ok.gi;unfold me;rw[ag];walk_at "s1";refine⟨P,d,s,g,⟨⟨g1,g2,g3,g4⟩,ok'⟩,fun out G1 hE so=>?_⟩;obtain⟨⟨c1,c2,c3,c4,c5,c6⟩,h⟩:=h out so;have k1:=hE _ _ g1;have k2:=hE _ _ g2;have k3:=hE _ _ g3;have k4:=hE _ _ g4;rw[ag];walk_at "s1";have sb:=rB ok' so;have pa:iK zF.C_Paper hw G1 p d s g P:=⟨k1,k2,k3,k4⟩;refine⟨⟨by rw[MO];exact c2,by rw[MO];exact c4⟩,?_⟩
  rw[ag];walk_at "s1";refine⟨by rw[MO];exact c6,?_⟩
  rw[ag];walk_at "s1";refine⟨P.seats out,⟨rfl,by walk_at "o",c4,by walk_at "o"⟩,P,d,s,g,⟨pa,gi⟩,P,d,s,g,pa,P.seats out,⟨rfl,c6⟩,fun a ha=>⟨pen,_,_,rfl,rfl,P,d,s,g,⟨pen,P.num pen,P.time+1,.move (sN (P.seats out) i j) (kY (P.seats out) m)⟩,⟨pa.off ha,?_⟩,fun G' of pt=>h G' (wL hE ha of) pt⟩⟩
  exact⟨rfl,by walk_at "o",by walk_at "o",by walk_at "o"⟩
 ·exact h.elim
theorem qT(zF:Zz)(hw:HW):bI (cX zF hw) (kK zF hw) ["self","pen","at","to","word","seats"]:=by
 intro ds G Q h;unfold cX at h;split at h
 ·rename_i p pen i j w;obtain⟨P,d,s,g,⟨⟨g1,g2,g3,g4⟩,ok⟩,h⟩:=h;have hs:=al;have ok':P.ok 50:=ok.le (by decide)
  have ls:=ok.ls;have lt:=ok.lt;have lg:=ok.lg;have gi:=ok.gi;unfold kK;rw[ag];walk_at "s1";refine⟨P,d,s,g,⟨⟨g1,g2,g3,g4⟩,ok'⟩,fun out G1 hE so=>?_⟩;obtain⟨⟨c1,c2,c3,c4⟩,h⟩:=h out so;have k1:=hE _ _ g1;have k2:=hE _ _ g2;have k3:=hE _ _ g3;have k4:=hE _ _ g4;rw[ag];walk_at "s1";have sb:=rB ok' so;have pa:iK zF.C_Paper hw G1 p d s g P:=⟨k1,k2,k3,k4⟩;refine⟨⟨by rw[MO];exact c2,by rw[MO];exact c4⟩,P,d,s,g,⟨pa,gi⟩,P,d,s,g,pa,P.seats out,⟨rfl,by walk_at "o",c4,by walk_at "o"⟩,fun a ha=>⟨pen,_,rfl,P,d,s,g,⟨pen,P.num pen,P.time+1,.dress (sN (P.seats out) i j) w⟩,⟨pa.off ha,?_⟩,fun G' of pt=>h G' (wL hE ha of) pt⟩⟩
  exact⟨rfl,by walk_at "o",by walk_at "o",by walk_at "o"⟩
 ·exact h.elim
theorem lJ(zF:Zz)(hw:HW):bI (bd zF hw) (gU zF hw) ["self"]:=by
 intro ds G Q h;unfold bd at h;split at h
 ·rename_i p;obtain⟨P,d,s,g,⟨g1,g2,g3,g4⟩,h⟩:=h;unfold gU;walk_at "st"
 ·exact h.elim
theorem nM(zF:Zz)(hw:HW):bI (cw zF hw) (iX zF hw) ["self"]:=by
 intro ds G Q h;unfold cw at h;split at h
 ·rename_i p;obtain⟨P,d,s,g,ps,⟨⟨g1,g2,g3,g4⟩,e,hl⟩,h⟩:=h;unfold iX;rw[e]at g4;walk_at "st";exact⟨ps,rfl,hl,h⟩
 ·exact h.elim
theorem qP(zF:Zz)(hw:HW):bI (cV zF hw) (kF zF hw) ["_law_cell","_law_many","_law_found","_law_number","_law_k"]:=by
 intro ds G Q h;unfold cV at h;split at h
 ·rename_i c m;obtain⟨⟨h1,h2⟩,h⟩:=h;have hs:=al;unfold kF;rw[ag];walk_at "s1";refine⟨by walk_at "o",fun p hp=>?_⟩
  rw[ag];walk_at "s1";refine⟨.inr ⟨by decide,by decide⟩,by decide,?_⟩
  have b0:=qz (a:=(c+1)*48271) (b:=2147483647) (by decide)
  generalize (c+1)*48271 % 2147483647=n0 at *
  rw[ag];walk_at "s1";refine⟨⟨by walk_at "o",by walk_at "o"⟩,fun i σ G'=>∃ (xs:List Int) (n:Int) (v:Option D),(σ=[some (.int c),some (.int m),some (.ref p),some (.int n),v]/\G'=gset G p (.lst (xs.map D.int)))/\xs.length=i/\(0<=n/\n < 2147483647)/\∀ x∈xs,0<=x/\x < 2147483647,
   ⟨[],n0,_,⟨rfl,rfl⟩,rfl,b0,by simp⟩,?_,?_⟩
  ·rintro i d σ G' hd ⟨xs,n,v,⟨rfl,rfl⟩,hl,hn,hx⟩
   obtain⟨hi,rfl⟩:=Au hd;simp only[gN,NJ,Nt];rw[ag];walk_at "s1";have b1:=qz (a:=(n+7919*(0+(i:Nat))+1)*(n / 1009+69621)) (b:=2147483647) (by decide)
   refine⟨.inl ⟨by decide,by decide⟩,⟨by decide,by decide⟩,.inl ⟨by walk_at "o",by walk_at "o"⟩,by decide,?_⟩
   generalize (n+7919*(0+(i:Nat))+1)*(n / 1009+69621) % 2147483647=n1 at *
   refine⟨by rw[MO];omega,xs ++ [n1],n1,_,⟨⟨rfl,rfl⟩,by rw[NN];rfl⟩,by rw[Nl,hl];rfl,b1,fun x hx'=>?_⟩
   rcases Sm.mp hx' with hx'|hx'
   ·exact hx x hx'
   ·rw[Qt.mp hx'];exact b1
  ·rintro σ G' ⟨xs,n,v,⟨rfl,rfl⟩,hl,hn,hx⟩
   rw[iB]at hl;simp only[ig,Nu,Nn,av];rw[vD hp];exact h xs (by walk_at "o") hx
 ·exact h.elim
theorem pj(zF:Zz)(hw:HW):bI (cE zF hw) (jF zF hw) ["_law_script","_law_k"]:=by
 intro ds G Q h;unfold cE at h;split at h
 ·rename_i xs k;obtain⟨ns,⟨rfl,h0⟩,h⟩:=h;unfold jF;rw[ag];refine bo (decide (k < ns.length)) (fun K hK=>?_) (zm (fun e=>?_) fun e=>?_)
  ·walk_at "st";rw[MO];exact hK
  ·rw[decide_eq_true_eq]at e;walk_at "st";rw[Jx h0 e];exact h _
  ·walk_at "st"
   first|done|exact h _
 ·exact h.elim
theorem Hw{p:Prop}[Decidable p](e:(!decide p)=true):¬ p:=fun z=>by rw[decide_eq_true z]at e;cases e
theorem Ep{p:Prop}[Decidable p](e:(!decide p)=false):p:=Decidable.byContradiction fun z=>by rw[decide_eq_false z]at e;cases e
theorem nch(p q:Prop)[Decidable p][Decidable q]{r r':R3}{a b c:aZ}{σ:eE}{G:Gp}{x y z:D}(ha:∀ Q:i_,Q x G->a σ G Q)(hb:∀ Q:i_,Q y G->b σ G Q)(hc:∀ Q:i_,Q z G->c σ G Q)(h1:∀ Q:i_,Q (.bl (decide p)) G->r x y G Q)(h2:∀ Q:i_,Q (.bl (decide q)) G->r' y z G Q)
  {K:Bool->Gp->Prop} (hK:K (!decide (p/\q)) G):gy (bJ (dX r r' a b c)) σ G K:=by
 unfold gy bJ dX;refine ha _ (hb _ (h1 _ ?_))
 by_cases e:p
 ·dsimp only;rw[if_pos (decide_eq_true e)];refine hc _ (h2 _ ?_);dsimp only;simp only[e,true_and]at hK;exact hK
 ·dsimp only;rw[if_neg (by rw[decide_eq_false e];simp)]
  simp only[e,false_and,decide_false]at hK;exact hK
theorem JJ(p q:Prop)[Decidable p][Decidable q]{r r':R3}{a b c:aZ}{σ:eE}{G:Gp}{x y z:D}{s t:bg}{E:Ends3}(h:¬ (p/\q)->s E σ G)(h':p/\q->t E σ G)(ha:∀ Q:i_,Q x G->a σ G Q:=by exact fun _ h=>h)(hb:∀ Q:i_,Q y G->b σ G Q:=by exact fun _ h=>h)(hc:∀ Q:i_,Q z G->c σ G Q:=by exact fun _ h=>h)(h1:∀ Q:i_,Q (.bl (decide p)) G->r x y G Q:=by exact fun _ h=>h)(h2:∀ Q:i_,Q (.bl (decide q)) G->r' y z G Q:=by exact fun _ h=>h):h9 (gy (bJ (dX r r' a b c))) s t E σ G:=
 bo _ (fun _=>nch p q ha hb hc h1 h2) (zm (fun e=>h (Hw e)) fun e=>h' (Ep e))
theorem r_(zF:Zz)(hw:HW)(C2:ML):zO (cj zF hw C2) (nB zF hw C2) ["at","length"]:=by
 intro EQ ds G Q h;unfold cj at h;split at h
 ·rename_i a n;obtain⟨h1,h2⟩:=h;unfold nB;refine JJ (0<=a) (a<=n) (fun e=>?_) fun e=>?_
  ·exact⟨_,rfl,h2 a (if_neg e)⟩
  ·exact h1 (if_pos e)
 ·exact h.elim
theorem mF(zF:Zz)(hw:HW)(C2:ML):zO (aO zF hw C2) (iR zF hw C2) ["at","to","length"]:=by
 intro EQ ds G Q h;unfold aO at h;split at h
 ·rename_i a t n;obtain⟨h1,h2⟩:=h;unfold mV at h1 h2;unfold iR;rw[ag];refine JJ (0<=a) (a < n) (fun e=>?_) fun e=>?_
  ·exact⟨_,rfl,h2 a (if_neg e)⟩
  ·rw[if_pos e]at h1 h2;simp only[bS];refine JJ (a < t) (t<=n) (fun e=>?_) fun e=>?_
   ·exact⟨_,rfl,h2 t (if_neg e)⟩
   ·exact h1 (if_pos e)
 ·exact h.elim
theorem zx{R:Prop}{E:Int->Prop}(e:o=some v)(h:E v):(o=none->R)/\∀ v,o=some v->E v:=by
 subst e;exact⟨nofun,fun _ y=>Option.some.inj y ▸ h⟩
theorem sd(zF:Zz)(hw:HW)(C2:ML):zO (dk zF hw C2) (nC zF hw C2) ["self","pen","at","signs","seats"]:=by
 intro EQ ds G Q h;unfold dk at h;split at h
 ·obtain⟨P,d,s,g,⟨pa,ok⟩,h⟩:=h;have g1:=pa.1;unfold nC;rw[ag];walk_at "s1";refine⟨P,d,s,g,⟨pa,ok.le (by decide)⟩,fun out G1 hE so=>?_⟩
  obtain⟨v,e,h⟩:=h out so;rw[ag];unfold iz cj;walk_at "s1";rw[MO];exact zx e (h G1 hE)
 ·exact h.elim
theorem qM(zF:Zz)(hw:HW)(C2:ML):zO (dH zF hw C2) (lY zF hw C2) ["self","pen","at"]:=by
 intro EQ ds G Q h;unfold dH at h;split at h
 ·have h':=h;obtain⟨P,d,s,g,⟨pa,ok⟩,_⟩:=h;have g1:=pa.1;unfold lY fG;walk_at "s1";exact h'
 ·exact h.elim
theorem nF(zF:Zz)(hw:HW)(C2:ML):zO (cT zF hw C2) (jD zF hw C2) ["self","pen","at","to","seats"]:=by
 intro EQ ds G Q h;unfold cT at h;split at h
 ·obtain⟨P,d,s,g,⟨pa,ok⟩,h⟩:=h;have g1:=pa.1;unfold jD;rw[ag];walk_at "s1";refine⟨P,d,s,g,⟨pa,ok.le (by decide)⟩,fun out G1 hE so=>?_⟩
  obtain⟨v,e,h⟩:=h out so;rw[ag];unfold iz aO;walk_at "s1";rw[MO];exact zx e (h G1 hE)
 ·exact h.elim
theorem ph(zF:Zz)(hw:HW)(C2:ML):zO (dg zF hw C2) (kz zF hw C2) ["self","pen","at","to","word","seats"]:=by
 intro EQ ds G Q h;unfold dg at h;split at h
 ·obtain⟨P,d,s,g,⟨pa,ok⟩,h⟩:=h;have g1:=pa.1;unfold kz;rw[ag];walk_at "s1";refine⟨P,d,s,g,⟨pa,ok.le (by decide)⟩,fun out G1 hE so=>?_⟩
  obtain⟨v,e,h⟩:=h out so;rw[ag];unfold iz aO;walk_at "s1";rw[MO];exact zx e (h G1 hE)
 ·exact h.elim
theorem qN(zF:Zz)(hw:HW)(C2:ML):zO (dI zF hw C2) (lZ zF hw C2) ["self","pen","at","to","goal","seats","names"]:=by
 intro EQ ds G Q h;unfold dI at h;split at h
 ·rename_i p pen i j m;obtain⟨P,d,s,g,⟨pa,ok⟩,h⟩:=h;have g1:=pa.1;unfold lZ;rw[ag];walk_at "s1";refine⟨P,d,s,g,⟨pa,ok.le (by decide)⟩,fun out G1 hE so=>?_⟩
  obtain⟨v,e,h⟩:=h out so;have h:=h G1 hE
  change (mV i j _).or (mW m _)=some v at e
  rw[ag];unfold iz aO cj;cases e1:mV i j (P.seats out).length with
  | some u=>
   rw[e1,Option.some_or]at e;cases e;walk_at "s1";rw[MO];exact zx e1 h
  | none=>
   rw[e1,Option.none_or]at e;walk_at "st";rw[MO];exact⟨fun _=>zx e h,fun _ z=>by rw[e1]at z;cases z⟩
 ·exact h.elim
theorem Je(h:(MN a == MN b)=false):eA (.str (MN a)) (.str (MN b))=false:=bf fun z=>by
 injection z with z
 rw[z,beq_self_eq_true]at h;cases h
theorem Dn(k:Wd):eA (.str k.s) (.str (MN "put"))=decide (k=.put)/\eA (.str k.s) (.str (MN "part"))=decide (k=.part)/\eA (.str k.s) (.str (MN "strike"))=decide (k=.strike)/\eA (.str k.s) (.str (MN "dress"))=decide (k=.dress)/\eA (.str k.s) (.str (MN "move"))=decide (k=.move):=by
 cases k<;>refine⟨?_,?_,?_,?_,?_⟩<;>first|exact bX _|exact Je (by decide +kernel)
theorem eP(h1:σ[1]?=some (some (.str x)))(e:eA (.str x) (.str s)=false)(h:B E σ G):sSeq (h9 (bJ (fM ui (ae 1) (eC (.str s)))) A bS) B E σ G:=by
 rw[ag];refine bo false (fun K hK=>?_) (iteF h);walk_at "st"
theorem qa(h1:σ[1]?=some (some (.str x)))(e:eA (.str x) (.str s)=true)(h:A { E with nx:=B E } σ G):sSeq (h9 (bJ (fM ui (ae 1) (eC (.str s)))) A bS) B E σ G:=by
 rw[ag];refine bo true (fun K hK=>?_) (iteT h);walk_at "st"
theorem wg(zF:Zz)(hw:HW)(C2:ML):zO (eQ zF hw C2) (r8 zF hw C2) ["_law_paper","_law_word","_law_at","_law_to","_law_goal"]:=by
 intro EQ ds G Q h;unfold eQ at h;split at h
 ·obtain⟨k,rfl,h⟩:=h;have h':=h;obtain⟨P,d,s,g,⟨pa,ok⟩,_⟩:=h;have g1:=pa.1;obtain⟨w1,w2,w3,w4,_⟩:=Dn k;unfold r8;cases k
  ·refine qa rfl w1 ?_;unfold fG;walk_at "s1";exact h'
  ·refine eP rfl w1 (qa rfl w2 ?_);unfold fG;walk_at "s1";exact h'
  ·refine eP rfl w1 (eP rfl w2 (qa rfl w3 ?_));unfold fG;walk_at "s1";exact h'
  ·refine eP rfl w1 (eP rfl w2 (eP rfl w3 (qa rfl w4 ?_)));unfold fG;walk_at "s1";exact h'
  ·refine eP rfl w1 (eP rfl w2 (eP rfl w3 (eP rfl w4 ?_)));unfold fG;walk_at "s1";exact h'
 ·exact h.elim
theorem pX(h:mW a n=none):0<=a/\a<=n:=by
 unfold mW at h;split at h
 ·assumption
 ·cases h
theorem pW(h:mV a t n=none):0<=a/\a < n/\a < t/\t<=n:=by
 unfold mV at h;split at h
 ·split at h
  ·omega
  ·cases h
 ·cases h
theorem n8(seats:List Seat)(i j:Int):(sN seats i j).length<=seats.length:=by
 unfold sN;rw[MO];exact le_trans (List.length_take_le' _ _) (by rw[Pn];exact Nat.sub_le _ _)
theorem vM(e:k.act=.put a x)(h:x.length<=2):(b9 k).length<=2:=by
 unfold b9;rw[e];dsimp only;rw[Pe];refine le_trans (Nat.min_le_left _ _) ?_;unfold made;rw[aY,e];exact h
theorem yE(zF:Zz)(hw:HW):bI (eO zF hw) (sC zF hw) ["_law_paper","_law_word","_law_at","_law_to","_law_goal"]:=by
 intro ds G Q h;unfold eO at h;split at h
 ·obtain⟨k,P,d,s,g,⟨rfl,pa,ok,hd⟩,h⟩:=h;have g1:=pa.1;obtain⟨w1,w2,w3,w4,w5⟩:=Dn k;unfold sC;clear w5;have nx:∀ a,P.next (MN "bob") ⟨MN "bob",P.num (MN "bob"),P.time+1,a⟩:=fun _=>⟨rfl,rfl,rfl⟩;have l2:(MN "xy").length=2/\(MN "\n").length=1:=by decide +kernel
  have f:∀ {R:List Sk->Prop},(∀ out,Srt P out->EZ k _ _ _ (P.seats out).length=none->(P.seats out).length<=60->R out)->∀ out,Srt P out->R out:=fun h out so=>h out so (hd out so).1 (hd out so).2;clear hd;cases k
  ·refine qa rfl w1 ?_;walk_at "s1";exact⟨P,d,s,g,⟨pa,ok⟩,f fun out so e ls=>⟨pX e,fun G' of pt=>h _ _ ⟨_,nx _,by show (MN "xy").length<=60;omega,vM rfl (by walk_at "o"),of,pt⟩⟩⟩
  ·refine eP rfl w1 (qa rfl w2 ?_);walk_at "s1";exact⟨P,d,s,g,⟨pa,ok⟩,f fun out so e ls=>⟨pX e,fun G' of pt=>h _ _ ⟨_,nx _,by show (MN "\n").length<=60;omega,vM rfl (by walk_at "o"),of,pt⟩⟩⟩
  ·refine eP rfl w1 (eP rfl w2 (qa rfl w3 ?_));walk_at "s1";exact⟨P,d,s,g,⟨pa,ok⟩,f fun out so e ls=>⟨pW e,fun G' of pt=>h _ _ ⟨_,nx _,le_trans (n8 _ _ _) ls,NC _,of,pt⟩⟩⟩
  ·refine eP rfl w1 (eP rfl w2 (eP rfl w3 (qa rfl w4 ?_)));walk_at "s1";exact⟨P,d,s,g,⟨pa,ok⟩,f fun out so e ls=>⟨pW e,fun G' of pt=>h _ _ ⟨_,nx _,le_trans (n8 _ _ _) ls,NC _,of,pt⟩⟩⟩
  ·refine eP rfl w1 (eP rfl w2 (eP rfl w3 (eP rfl w4 ?_)));walk_at "s1";refine⟨P,d,s,g,⟨pa,ok⟩,f fun out so e ls=>?_⟩;rename_i i j m
   change (mV i j _).or (mW m _)=none at e
   rw[Option.or_eq_none_iff]at e;obtain⟨a1,a2,a3,a4⟩:=pW e.1;exact⟨⟨a1,a2,a3,a4,pX e.2⟩,fun G' of pt=>h _ _ ⟨_,nx _,le_trans (n8 _ _ _) ls,NC _,of,pt⟩⟩
 ·exact h.elim
theorem qQ(zF:Zz)(hw:HW):bI (bU zF hw) (kH zF hw) ["_law_x","_law_cell","_law_many"]:=by
 intro ds G Q h;unfold bU at h;split at h
 ·rename_i x c n;obtain⟨h1,h⟩:=h;unfold kH;rw[ag];refine bo (eA (.int (x % 8)) (.int 7)) (fun K hK=>by clear h;walk_at "st";decide) (zm (fun _=>?_) fun _=>?_)
  ·walk_at "s1";exact⟨by unfold Hc;decide,by unfold Fj;decide,by decide,by unfold Hc;decide⟩
  simp only[bS];rw[ag];refine bo (decide (3 < x % 8)) (fun K hK=>by clear h;walk_at "st";decide) (zm (fun _=>?_) fun _=>?_)
  ·walk_at "s1";exact⟨by unfold xK;decide,by walk_at "o"⟩
  simp only[bS];walk_at "s1";exact⟨by unfold xK;decide,by walk_at "o"⟩
 ·exact h.elim
theorem wo(zF:Zz)(hw:HW):bI (dL zF hw) (qp zF hw) ["_law_paper"]:=by
 intro ds G Q h;unfold dL at h;split at h
 ·obtain⟨P,d,s,g,ps,⟨pa,ok,en,lp⟩,h⟩:=h;have g1:=pa.1;unfold qp;walk_at "s1";refine⟨P,d,s,g,⟨pa,ok.ls⟩,P,d,s,g,⟨pa,ok⟩,fun out G' hE so=>?_⟩;rw[hE _ _ g1];exact⟨⟨rfl,rfl⟩,P,d,s,g,ps,⟨pa.ext hE,en,lp⟩,⟨rfl,rfl⟩,P,d,s,g,pa.ext hE,le_trans (by decide) al,h out G' hE so⟩
 ·exact h.elim
theorem wn(zF:Zz)(hw:HW):bI (eT zF hw) (qo zF hw) ["_law_word","_law_at","_law_to","_law_goal","_law_many"]:=by
 intro ds G Q h;unfold eT at h;split at h
 ·rename_i a t m n;obtain⟨k,rfl,h⟩:=h;obtain⟨w1,w2,w3,w4,w5⟩:=Dn k;unfold qo;rw[ag];refine bo (decide (k=.put) || decide (k=.part)) (Dt _ _ (fun K hK=>?_) fun _ K hK=>?_) (zm (fun e=>?_) fun e=>?_)
  ·clear h w2 w3 w4 w5;walk_at "st"
  ·clear h w1 w3 w4 w5;walk_at "st"
  ·have h:Q (oD (mW a n)) G:=by
    cases k<;>first|exact h|cases e
   unfold mW at h;rw[ag];refine JJ (0<=a) (a<=n) (fun e=>?_) fun e=>?_
   ·rw[if_neg e]at h;exact h
   ·rw[if_pos e]at h;exact h
  ·have h:Q (oD ((mV a t n).or (if k=.move then mW m n else none))) G:=by
    cases k<;>first|cases e;done|simpa[EZ]using h
   unfold mV mW at h;simp only[bS];rw[ag];refine JJ (0<=a) (a < n) (fun e=>?_) fun e=>?_
   ·rw[if_neg e]at h;exact h
   rw[if_pos e]at h;simp only[bS];rw[ag];refine JJ (a < t) (t<=n) (fun e=>?_) fun e=>?_
   ·rw[if_neg e]at h;exact h
   rw[if_pos e]at h;simp only[bS];rw[ag];refine bo (decide (k=.move) && !decide (0<=m/\m<=n)) (Bo _ _ (fun K hK=>?_) fun _ K hK=>?_) (zm (fun e=>?_) fun e=>?_)
   ·clear h w1 w2 w3 w4;walk_at "st"
   ·exact nch (0<=m) (m<=n) (fun _ h=>h) (fun _ h=>h) (fun _ h=>h) (fun _ h=>h) (fun _ h=>h) hK
   ·rw[Bool.and_eq_true,decide_eq_true_eq]at e;rw[if_pos e.1,if_neg (Hw e.2)]at h;exact h
   ·rw[Bool.and_eq_false_iff,decide_eq_false_iff_not]at e;rcases e with e|e
    ·rw[if_neg e]at h;exact h
    ·rw[if_pos (Ep e),ite_self]at h;exact h
 ·exact h.elim
theorem sh(zF:Zz)(hw:HW)(C1 C2 C3 C4:ML):∀ ds G Q,du zF hw ds G Q->l9 zF hw C1 C2 C3 C4 { nx:=fun _ G'=>Q .non G',rt:=Q } (cx ["_law_paper","_law_word","_law_at","_law_to","_law_goal","_law_found","e"] ds) G:=by
 intro ds G Q h;unfold du at h;split at h
 ·rename_i p w a t m;obtain⟨k,P,d,s,g,out,⟨rfl,pa,ok,so,ls⟩,hA,hB⟩:=h;unfold l9;rw[ag];walk_at "s1";rw[ag];unfold DD;simp only[af,au,ae,cx,M8,Pj,M1,Nj,OB,OM,Nn,Nu,List.replicate,Qn,Qm,Bm,Bl,Bn];cases e:EZ k a t m (P.seats out).length with
  | none=>
   refine .inl ⟨k,P,d,s,g,⟨rfl,pa,ok,fun o so'=>?_⟩,fun x G' c=>hA e G' c⟩;rw[srt_uniq so' so];exact⟨e,ls⟩
  | some v=>
   refine .inr ⟨k,rfl,P,d,s,g,⟨pa,ok⟩,fun o so'=>⟨v,by rw[srt_uniq so' so];exact e,fun G' hE=>⟨v,rfl,⟨rfl,rfl⟩,fun x _=>?_⟩⟩⟩
   have q:=hB v e G' hE;exact⟨rfl,q⟩
 ·exact h.elim
theorem qR(zF:Zz)(hw:HW)(C1 C2 C3 C4:ML):∀ ds G Q,cW zF hw ds G Q->kI zF hw C1 C2 C3 C4 { nx:=fun _ G'=>Q .non G',rt:=Q } (cx ["_law_paper","_law_word","_law_at","_law_to","_law_goal","_law_found","e"] ds) G:=by
 intro ds G Q h;unfold cW at h;split at h
 ·rename_i p w a t m;obtain⟨k,P,d,s,g,out,v,⟨rfl,pa,ok,so,e⟩,h⟩:=h;unfold kI;rw[ag];walk_at "s1";rw[ag];unfold DD;simp only[af,au,ae,cx,M8,Pj,M1,Nj,OB,OM,Nn,Nu,List.replicate,Qn,Qm,Bm,Bl,Bn];refine .inr ⟨k,rfl,P,d,s,g,⟨pa,ok⟩,fun o so'=>⟨v,by rw[srt_uniq so' so];exact e,fun G' hE=>⟨v,rfl,⟨rfl,rfl⟩,fun x _=>?_⟩⟩⟩
  have q:=h G' hE;clear h e;unfold Ends3.un;walk_at "st"
 ·exact h.elim
theorem oC:∀ {ss W:List Sl} {b:Sl},W.Nodup->b∈W->ss.Nodup->(∀ x∈ss,x∉W)->(bp W b ss).Nodup
 | [],W,b,hW,_,_,_=>hW
 | x::t,W,b,hW,hb,nd,hf=>by
  rw[Om]at nd;unfold bp;refine oC (tE hW (hf x MZ) hb) ((dW hb x).mpr (.inr rfl)) nd.2 fun y hy hW'=>?_;rcases (dW hb y).mp hW' with z|z
  ·exact hf y (MW _ hy) z
  ·exact nd.1 (z ▸ hy)
theorem Ai(hW:W.Nodup)(hf:∀ x∈made s,x∉W):(dG W s).Nodup:=by
 unfold dG;split
 ·exact oC hW (by assumption) (dU _ _ _) hf
 ·exact hW
theorem vh{n:Nat}:∀ (out done:List Sk) (W:List Sl),zT done W->W.Nodup->((done ++ out).map Sk.rw).Pairwise jR->(∀ s∈out,1<=s.num)->(out.foldl dG W).Nodup
 | [],done,W,_,hW,_,_=>hW
 | s::t,done,W,hF,hW,ap,ok=>by
  have ap2:∀ r∈done,¬ (r.pen=s.pen/\r.num=s.num):=fun r hr z=>by
   rw[NN,List.pairwise_append]at ap;exact ap.2.2 r.rw (mem_map.mpr ⟨r,hr,rfl⟩) s.rw (by simp) z
  refine vh (n:=n) t (done ++ [s]) (dG W s) (vE hF) (Ai hW (zr hF (ok s MZ) ap2)) (by simpa using ap) fun x hx=>ok x (MW _ hx)
theorem JW(s:Sk)(n:Nat):pl (n+5) s.d:=by
 have sl:∀ ns:List Sl,pl (n+3) (.tup (ns.map Sl.d)):=fun ns=>DA ns (n+1);have st:∀ (m:Nat) (x:Str),pl m (.str x):=fun m x=>by cases m<;>trivial
 have it:∀ (m:Nat) (x:Int),pl m (.int x):=fun m x=>by cases m<;>trivial
 obtain⟨pen,num,time,act⟩:=s;intro d hd;simp only[Nr,Nq,or_false]at hd;rcases hd with rfl|rfl|rfl
 ·intro d hd;simp only[Nr,Nq,or_false]at hd;rcases hd with rfl|rfl
  ·exact st _ _
  ·exact it _ _
 ·exact it _ _
 ·cases act with
  | put a x=>
   intro d hd;simp only[Nr,Nq,or_false]at hd;rcases hd with rfl|rfl|rfl
   ·exact st _ _
   ·exact m9 a (n+2)
   ·exact st _ _
  | strike ns=>
   intro d hd;simp only[Nr,Nq,or_false]at hd;rcases hd with rfl|rfl
   ·exact st _ _
   ·exact sl ns
  | dress ns w=>
   intro d hd;simp only[Nr,Nq,or_false]at hd;rcases hd with rfl|rfl|rfl
   ·exact st _ _
   ·exact sl ns
   ·exact st _ _
  | move ns a=>
   intro d hd;simp only[Nr,Nq,or_false]at hd;rcases hd with rfl|rfl|rfl
   ·exact st _ _
   ·exact sl ns
   ·exact m9 a (n+2)
theorem Ia(ss:List Sk)(n:Nat):∀ d∈ss.map Sk.d,pl (n+5) d:=fun d hd=>by
 obtain⟨s,_,rfl⟩:=mem_map.mp hd;exact JW s n
theorem Gh{P:Pp}{n:Nat}(ok:P.ok n)(pen:Str):1<=P.num pen:=by
 unfold Pp.num;split
 ·rename_i m e;obtain⟨m',e',h⟩:=ok.gi _ _ e;cases e';omega
 ·exact Int.le_refl _
theorem En{P:Pp}{pen:Str}{m:Int}(h:dF P.gr (.inr pen)=some (.int m)):P.num pen=m+1:=by
 unfold Pp.num;rw[h]
theorem AH{P:Pp}{n:Nat}{pen:Str}{k:Sk}(ok:P.ok n)(nx:P.next pen k)(wd:k.wd<=60):(P.add k).ok (n+1):=by
 obtain⟨rfl,e2,e3⟩:=nx;have np:=Gh ok k.pen;refine⟨ok.lo,?_,?_,?_,fun s hs=>?_,?_,fun s hs=>?_,fun q v hv=>?_,fun s hs=>?_⟩
 ·show (P.sks ++ [k]).length<=n+1;rw[Nl];exact Nat.succ_le_succ ok.ls
 ·exact le_trans (eV _ _ _) (Nat.succ_le_succ ok.lt)
 ·exact le_trans (eV _ _ _) (Nat.succ_le_succ ok.lg)
 ·rcases Sm.mp hs with h|h
  ·obtain⟨h1,h2,h3⟩:=ok.sk s h;exact⟨h1,h2,by show s.time<=k.time;omega⟩
  ·rw[Qt.mp h];exact⟨by walk_at "o",wd,Int.le_refl _⟩
 ·show ((P.sks ++ [k]).map Sk.rw).Pairwise jR;rw[NN,List.pairwise_append];refine⟨ok.ap,List.pairwise_singleton _ _,fun a ha b hb=>?_⟩;obtain⟨s,hs,rfl⟩:=mem_map.mp ha;rw[M8,Pj,Qt]at hb;subst hb
  rintro⟨z1,z2⟩
  obtain⟨m,hm,le⟩:=ok.gm s hs;have z1':s.pen=k.pen:=z1;have z2':s.num=k.num:=z2;rw[z1']at hm;have:=En hm;omega
 ·show ∃ w:Str,dF (bu P.st k.nm.key (.str (MN "waits"))) s.nm.key=some (.str w);rw[ir];split
  ·exact⟨_,rfl⟩
  ·rename_i ne;rcases Sm.mp hs with h|h
   ·exact ok.kn s h
   ·exact absurd (by rw[Qt.mp h]) ne
 ·have hv':dF (bu P.gr (.inr k.pen) (.int k.num)) q=some v:=hv;rw[ir]at hv';split at hv'
  ·cases hv';exact⟨_,rfl,by walk_at "o"⟩
  ·exact ok.gi _ _ hv'
 ·show ∃ m:Int,dF (bu P.gr (.inr k.pen) (.int k.num)) (.inr s.pen)=some (.int m)/\s.num<=m;rw[ir];split
  ·rename_i z;refine⟨_,rfl,?_⟩;rcases Sm.mp hs with h|h
   ·obtain⟨m,hm,le⟩:=ok.gm s h;rw[z]at hm;have:=En hm;omega
   ·rw[Qt.mp h];exact Int.le_refl _
  ·rename_i ne;rcases Sm.mp hs with h|h
   ·exact ok.gm s h
   ·exact absurd (by rw[Qt.mp h]) ne
theorem GG(ps:List (Str×Int))(x:Str)(m:Int):∃ qs,bu (tR ps) (.inr x) (.int m)=tR qs:=by
 unfold bu;split
 ·refine⟨ps.map fun p=>if p.1=x then (p.1,m)else p,?_⟩
  unfold tR;rw[NH,NH];refine N5 fun p _=>?_
  by_cases e:p.1=x
  ·simp[e]
  ·simp[e]
 ·exact⟨ps ++ [(x,m)],by unfold tR;rw[NN];rfl⟩
theorem GH(ps:List (Str×Int)):(tR ps).length=ps.length:=MO _
theorem FH(ht:∀ K:Bool->Gp->Prop,(∀ G',gf G G'->K b G')->t σ G K)(h:∀ G',gf G G'->(if b=true then a E σ G' else b0 E σ G')):h9 t a b0 E σ G:=ht _ h
def Pp.firm(P:Pp):Prop:=∀ s∈P.sks,dF P.st s.nm.key=some (.str (MN "waits"))\/dF P.st s.nm.key=some (.str (MN "stands"))
theorem j9{P:Pp}{k:Sk}{n:Nat}(ok:P.ok n)(h:dZ (P.sks.map Sk.rw))(e:k.time=P.time+1):dZ ((P.add k).sks.map Sk.rw):=by
 show ((P.sks ++ [k]).map Sk.rw).Pairwise _
 rw[NN,List.pairwise_append];refine⟨h,List.pairwise_singleton _ _,fun a ha b hb=>?_⟩;obtain⟨s,hs,rfl⟩:=mem_map.mp ha;rw[M8,Pj,Qt]at hb;subst hb;have t:=(ok.sk s hs).2.2;show Rw.lt s.rw k.rw=true
 unfold Rw.lt;have t1:s.rw.time=s.time:=rfl;have t2:k.rw.time=k.time:=rfl;rw[if_neg (by rw[t1,t2];omega)]
 exact decide_eq_true (by rw[t1,t2];omega)
theorem EW{P:Pp}{k:Sk}(h:P.firm):(P.add k).firm:=fun s hs=>by
 show dF (bu P.st k.nm.key _) s.nm.key=_\/dF (bu P.st k.nm.key _) s.nm.key=_
 rw[ir];split
 ·exact .inl rfl
 ·rename_i ne;rcases Sm.mp hs with q|q
  ·exact h s q
  ·exact absurd (by rw[Qt.mp q]) ne
theorem GV{P:Pp}(h:P.firm):∀ s∈P.sks,s.nm∈P.unw:=fun s hs=>by
 unfold Pp.unw;refine mem_map.mpr ⟨s,mem_filter.mpr ⟨hs,?_⟩,rfl⟩;unfold fA;rcases h s hs with e|e
 ·rw[e,Option.getD_some,j_ (by decide +kernel)];rfl
 ·rw[e,Option.getD_some,j_ (by decide +kernel)];rfl
theorem tP{row:List Sl}{f g:Sl->Option (Sl×Sl)}(h:∀ s∈row,f s=g s):row.filterMap f=row.filterMap g:=by
 induction row with
 | nil=>rfl
 | cons a t ih=>
  have e:=h a MZ;have ih':=ih fun s hs=>h s (MW _ hs);rw[NO,NO,e,ih']
def Pp.mass(P:Pp):Nat:=P.old.length+(P.sks.flatMap b9).length
theorem kU(f:Sk->Bool):∀ l:List Sk,((l.filter f).flatMap b9).length<=(l.flatMap b9).length
 | []=>le_refl _
 | s::t=>by
  have ih:=kU f t;rw[List.flatMap_cons,Nl,List.filter_cons];split
  ·rw[List.flatMap_cons,Nl];omega
  ·omega
theorem A8:∀ {row:List Sl} {l:List (Sl×Sl)},row.Nodup->(row.filterMap fun s=>(ee l s).map fun n=>(s,n)).length<=l.length
 | [],_,_=>NC _
 | s::t,l,nd=>by
  rw[Om]at nd;rw[NO];cases e:ee l s with
  | none=>exact A8 nd.2
  | some n=>
   dsimp only[Option.map_some];have m:=BU e;have ih:=A8 (l:=l.filter fun p=>decide (p.1≠s)) nd.2;have le:(l.filter fun p=>decide (p.1≠s)).length < l.length:=List.length_filter_lt_length_iff_exists.mpr ⟨_,m,by simp⟩
   have same:(t.filterMap fun s=>(ee l s).map fun n=>(s,n))=t.filterMap fun x=>(ee (l.filter fun p=>decide (p.1≠s)) x).map fun n=>(x,n):=by
    refine tP fun x hx=>?_;have ne:x≠s:=fun z=>nd.1 (z ▸ hx);congr 1;unfold ee;rw[List.find?_filter];congr 2;funext p
    by_cases q:p.1=x
    ·simp[q,ne]
    ·simp[q]
   rw[M1,same];omega
theorem rS(ok:P.ok n)(so:Srt P out)(st:dZ (P.sks.map Sk.rw)):(P.seats out).length<=P.mass:=by
 have e:out=P.sks:=srt_uniq so ⟨st,fun _=>Iff.rfl⟩;subst e;have nd:(gP P.old.length P.sks).Nodup:=by
  have:=vh (n:=P.old.length) P.sks [] _ (tI P.old.length) (by rw[cF,Om];exact⟨fun z=>by have:=(d6 z).2.2;exact absurd this (by decide),dU _ _ _⟩) ok.ap fun s hs=>(ok.sk s hs).1
  exact this.sublist (List.tail_sublist _)
 unfold Pp.seats cH jg;rw[MO];refine le_trans (A8 nd) ?_;unfold cy;refine le_trans (dz _ _) ?_;rw[MO,Nj,Nat.zero_add];refine le_trans (Ol _ _) ?_;unfold aF;refine le_trans (dz _ _) ?_;rw[Nl,Nj,Nat.zero_add];unfold Pp.mass;refine Nat.add_le_add ?_ ?_
 ·rw[Pe];exact le_trans (Nat.min_le_left _ _) (PQ (aY _ _ _))
 ·unfold eY;exact le_trans (kU _ _) (kU _ _)
def CP(L:Nat):Str:=⟨((MN "old\npaper").cps.toList.take L).toArray⟩
def kA(L i:Nat):Sk:=⟨MN "ann",1,1,.put (kY (cH (CP L) [] []) i) (MN "abc")⟩
def kB(L i j:Nat):Sk:=⟨MN "cyd",1,2,.strike (sN (cH (CP L) [kA L i] [(MN "ann",1)]) j (L+3))⟩
def kC:Sk:=⟨MN "ann",2,3,.put aA (MN "z")⟩
theorem AX:∀ L < 10,(CP L).length=L/\(cH (CP L) [] []).length=L/\∀ i < L+1,(cH (CP L) [kA L i] [(kA L i).nm]).length=L+3/\∀ j < L+3,0 < (cH (CP L) [kA L i,kB L i j,kC] [(kA L i).nm,(kB L i j).nm,kC.nm]).length:=by decide +kernel
structure Fm(P:Pp)(n:Nat):Prop where
 ok:P.ok n
 st:dZ (P.sks.map Sk.rw)
 fm:P.firm
theorem Fm.add(h:Fm P n)(nx:P.next pen k)(wd:k.wd<=60):Fm (P.add k) (n+1):=⟨AH h.ok nx wd,j9 h.ok h.st nx.2.2,EW h.fm⟩
theorem Fm.seats(h:Fm P n)(so:Srt P out):P.seats out=cH P.old P.sks (P.sks.map Sk.nm):=by
 have e:out=P.sks:=srt_uniq so ⟨h.st,fun _=>Iff.rfl⟩;subst e;have e:∀ row,eY P.sks P.unw row=eY P.sks (P.sks.map Sk.nm) row:=fun row=>by
  unfold eY;rw[List.filter_eq_self.mpr fun s hs=>decide_eq_true (GV h.fm s hs),List.filter_eq_self.mpr fun s hs=>decide_eq_true (mem_map.mpr ⟨s,hs,rfl⟩)]
 unfold Pp.seats cH;rw[e]
def Q0(L:Nat):Pp:=⟨CP L,[],[],[],0⟩
def Q1(L i:Nat):Pp:=(Q0 L).add (kA L i)
def Q2(L i j:Nat):Pp:=(Q1 L i).add (kB L i j)
theorem q0(h:L < 10):Fm (Q0 L) 0:=⟨⟨by rw[show (Q0 L).old=CP L from rfl,(AX L h).1];omega,le_refl _,le_refl _,le_refl _,(fun _ h=>by cases h),List.Pairwise.nil,(fun _ h=>by cases h),(fun _ _ h=>by cases h),(fun _ h=>by cases h)⟩,List.Pairwise.nil,fun _ h=>by cases h⟩
theorem n0(L:Nat):(Q0 L).next (MN "ann") (kA L i):=⟨rfl,by kernel_rfl,rfl⟩
theorem n1(L i j:Nat):(Q1 L i).next (MN "cyd") (kB L i j):=⟨rfl,by kernel_rfl,rfl⟩
theorem n2(L i j:Nat):(Q2 L i j).next (MN "ann") kC:=⟨rfl,by kernel_rfl,rfl⟩
theorem q1(h:L < 10):Fm (Q1 L i) 1:=(q0 h).add (n0 L) (by show (MN "abc").length<=60;decide +kernel)
theorem q2(h:L < 10)(hi:i < L+1):Fm (Q2 L i j) 2:=(q1 h).add (n1 L i j) (le_trans (n8 _ _ _) (by have:=((AX L h).2.2 i hi).1;show (cH (CP L) [kA L i] [(kA L i).nm]).length<=60;omega))
structure Sd(C:ML)(hw0:List aE->Int)(G:Gp)(p d s g:ML)(P:Pp)(n b:Nat):Prop where
 pa:iK C hw0 G p d s g P
 ok:P.ok n
 st:dZ (P.sks.map Sk.rw)
 ms:P.mass<=b
 en:∃ ps,P.gr=tR ps
theorem Sd.ext(h:Sd C hw0 G p d s g P n b)(e:gf G G'):Sd C hw0 G' p d s g P n b:=⟨h.pa.ext e,h.ok,h.st,h.ms,h.en⟩
theorem kO(P:Pp)(k:Sk):(P.add k).mass=P.mass+(b9 k).length:=by
 unfold Pp.mass;show P.old.length+((P.sks ++ [k]).flatMap b9).length=_
 rw[List.flatMap_append,Nl,List.flatMap_cons,List.flatMap_nil,Oc];exact (Nat.add_assoc _ _ _).symm
theorem tS{P:Pp}(k:Sk)(h:∃ ps,P.gr=tR ps):∃ ps,(P.add k).gr=tR ps:=by
 obtain⟨ps,hps⟩:=h;obtain⟨qs,hqs⟩:=GG ps k.pen k.num;exact⟨qs,by rw[<- hqs,<- hps];rfl⟩
theorem Fd(P:Pp)(out:List Sk)(ps:List (Str×Int)):pl 8 (zN P out ps):=fun d hd=>by
 simp only[Nr,Nq,or_false]at hd;rcases hd with rfl|rfl|rfl|rfl
 ·exact Ia P.sks 1
 ·intro d hd;obtain⟨s,_,rfl⟩:=mem_map.mp hd;intro e he;simp only[Nr,Nq,or_false]at he;rcases he with rfl|rfl|rfl
  ·exact m9 _ 4
  ·exact trivial
  ·exact trivial
 ·intro d hd;obtain⟨y,_,rfl⟩:=mem_map.mp hd;intro e he;simp only[Nr,Nq,or_false]at he;rcases he with rfl|rfl<;>exact trivial
 ·exact trivial
theorem Kt{A B:Prop}(h:B):if (!eA a a)=true then A else B:=by rw[bX];exact h
theorem L4:∀ {xs:List Int},(xs.length:Int)=5->∃ a b c d e,xs=[a,b,c,d,e]
 | [a,b,c,d,e],_=>⟨a,b,c,d,e,rfl⟩
 | [],h=>by cases h
 | [_],h=>by cases h
 | [_,_],h=>by cases h
 | [_,_,_],h=>by cases h
 | [_,_,_,_],h=>by cases h
 | _::_::_::_::_::_::_,h=>by simp only[M1]at h;omega
theorem FJ(zF:Zz)(hw:HW):bI (v5 zF hw) (DM zF hw) ["_law_script","_law_first","_law_old","_law_paper","_law_cell","_law_xs","_law_ahead","_law_many","_law_word","_law_at","_law_to","_law_goal","_law_due_here"]:=by
 intro vs G Q h;unfold v5 at h;split at h
 ·obtain⟨ns,rfl,hn,hq⟩:=h;have hs:=al;unfold DM;rw[ag];walk_at "s1";refine⟨ns,⟨rfl,by decide⟩,fun c=>?_⟩
  rw[ag];walk_at "s1";refine⟨by decide,le_trans (by decide +kernel) hs,?_⟩
  obtain⟨L,eL,hL⟩:∃ L:Nat,c % 10=(L:Int)/\L < 10:=⟨(c % 10).toNat,by walk_at "o",by walk_at "o"⟩
  have ex:(⟨(oM (MN "old\npaper").cps.toList none (some (c % 10))).toArray⟩:Str)=CP L:=by
   rw[eL,GP (by walk_at "o"),Int.toNat_natCast]
   rfl
  rw[ex];obtain⟨lx,e0,ev⟩:=AX L hL;clear eL ex;rw[ag];walk_at "s1";intro p hp d s g G1 of pa;have pa:iK zF.C_Paper hw G1 p d s g (Q0 L):=pa;have g1:=pa.1;clear hp of;rw[ag];walk_at "s1";obtain⟨i,ei,hi⟩:∃ i:Nat,c / 10 % ((L:Int)+1)=(i:Int)/\i < L+1:=⟨(c / 10 % (L+1)).toNat,by have:=Int.emod_nonneg (c / 10) (b:=(L:Int)+1) (by walk_at "o");omega,by have:=Int.emod_lt_of_pos (c / 10) (b:=(L:Int)+1) (by walk_at "o");omega⟩
  rw[ei];refine⟨by unfold xK;decide,by walk_at "o",by walk_at "o",Q0 L,d,s,g,⟨pa,(q0 hL).ok.le (by decide)⟩,fun out so=>?_⟩
  have es:(Q0 L).seats out=cH (CP L) [] []:=(q0 hL).seats so;rw[es,e0,<- (n0 (i:=i) L).2.1];refine⟨by walk_at "o",fun G2 _ pt=>?_⟩
  have pa2:iK zF.C_Paper hw G2 p d s g (Q1 L i):=pt;have g2:=pa2.1;have f1:=q1 (i:=i) hL;obtain⟨e1,ev⟩:=ev i hi;clear pt so es out ei g1 pa e0;rw[ag];walk_at "s1";obtain⟨j,ej,hj⟩:∃ j:Nat,c / 100 % ((L:Int)+3)=(j:Int)/\j < L+3:=⟨(c / 100 % (L+3)).toNat,by have:=Int.emod_nonneg (c / 100) (b:=(L:Int)+3) (by walk_at "o");omega,by have:=Int.emod_lt_of_pos (c / 100) (b:=(L:Int)+3) (by walk_at "o");omega⟩
  rw[ej];refine⟨by unfold xK;decide,by walk_at "o",by walk_at "o",by walk_at "o",Q1 L i,d,s,g,⟨pa2,f1.ok.le (by decide)⟩,fun out so=>?_⟩
  have es:(Q1 L i).seats out=cH (CP L) [kA L i] [(kA L i).nm]:=f1.seats so;rw[es,e1,<- (n1 L i j).2.1];refine⟨by walk_at "o",fun G3 _ pt=>?_⟩
  have pa3:iK zF.C_Paper hw G3 p d s g (Q2 L i j):=pt;have g3:=pa3.1;have f2:=q2 (j:=j) hL hi;clear pt so es out ej pa2 g2 f1;rw[ag];walk_at "s1";refine⟨Q2 L i j,d,s,g,⟨pa3,f2.ok.le (by decide)⟩,fun out so=>⟨by walk_at "o",?_⟩⟩
  rw[show kY ((Q2 L i j).seats out) 0=aA from if_pos rfl,<- (n2 L i j).2.1]
  intro G4 _ pt;have pa4:iK zF.C_Paper hw G4 p d s g ((Q2 L i j).add kC):=pt;have g4:=pa4.1;have f3:Fm ((Q2 L i j).add kC) 3:=f2.add (n2 L i j) (by show (MN "z").length<=60;decide +kernel)
  have m3:((Q2 L i j).add kC).mass<=13:=by
   rw[kO];show ((Q1 L i).add (kB L i j)).mass+_<=_
   rw[kO];show ((Q0 L).add (kA L i)).mass+_+_<=_
   rw[kO];have b1:(b9 (kA L i)).length<=3:=by
    show (List.zip _ _).length<=3
    rw[Pe];exact le_trans (Nat.min_le_left _ _) (PQ (by rw[show made (kA L i)=dh (MN "ann") 1 (MN "abc").length from rfl,aY];decide +kernel))
   have b2:(b9 (kB L i j)).length=0:=rfl;have b3:(b9 kC).length=1:=by decide +kernel
   have b0:(Q0 L).mass=L:=lx;omega
  have g0:∃ ps,((Q2 L i j).add kC).gr=tR ps:=tS _ (tS _ (tS _ ⟨[],rfl⟩));have v3:∀ out,Srt ((Q2 L i j).add kC) out->0 < (((Q2 L i j).add kC).seats out).length:=fun o so=>by
   rw[f3.seats so];exact ev j hj
  generalize (Q2 L i j).add kC=P at *
  clear pt so out pa3 g3 f2 e1 ev;rw[ag];walk_at "s1";refine⟨by unfold xK;decide,P,d,s,g,⟨pa4,f3.ok.le (by decide)⟩,fun out G5 hE so=>?_⟩
  rw[MO];have v:=v3 out so;have sm:=rS f3.ok so f3.st;have m1:=Int.emod_nonneg (c / 1000) (b:=((P.seats out).length:Int)+1) (by walk_at "o")
  have m2:=Int.emod_lt_of_pos (c / 1000) (b:=((P.seats out).length:Int)+1) (by walk_at "o")
  refine⟨by walk_at "o",P,d,s,g,⟨pa4.ext hE,f3.ok.le (by decide)⟩,fun o so'=>?_⟩
  rw[srt_uniq so' so];refine⟨by walk_at "o",fun G6 _ pt=>?_⟩
  have S0:Sd zF.C_Paper hw G6 p d s g _ 4 13:=⟨pt,AH f3.ok ⟨rfl,rfl,rfl⟩ (le_trans (n8 _ _ _) (by walk_at "o")),j9 f3.ok f3.st rfl,by rw[kO];exact m3,tS _ g0⟩
  generalize P.add _=P' at S0;clear pt m1 m2 so so' v sm hE pa4 g4 f3 m3 g0 v3 hi hj;generalize CP L=x;rw[ag];walk_at "s1";refine⟨fun i σ' G'=>∃ (a1 a2 a3 a4 a5 a6 a7 a8 a9:Option D) (P:Pp),σ'=[some (.lst (ns.map D.int)),some (.int c),some (.str x),some (.ref p),a1,a2,a3,a4,a5,a6,a7,a8,a9]/\Sd zF.C_Paper hw G' p d s g P (4+i) (13+2*i),⟨none,none,none,none,none,none,none,none,none,_,rfl,S0⟩,?_,?_⟩
  ·clear S0
   rintro i dd σ' G' hd ⟨a1,a2,a3,a4,a5,a6,a7,a8,a9,P,rfl,S⟩
   obtain⟨z,rfl,hi⟩:∃ z:Int,dd=.int z/\i < 24:=by
    rw[zD (by decide) (by decide),<- List.map_drop,<- List.map_take]at hd
    obtain⟨z,_,e⟩:=mem_map.mp (M6 hd);refine⟨z,e.symm,?_⟩;have:=(List.getElem?_eq_some_iff.mp hd).1;rw[MO,NV]at this;exact Nb this (Nat.min_le_left _ _)
   clear hd;have g1:=S.pa.1;obtain⟨ps,en⟩:=S.en;have lp:ps.length < 64:=by have:=S.ok.lg;rw[en,GH]at this;omega
   walk_at "s1";unfold DO;rw[ag];walk_at "s1";refine⟨by decide,fun xs hx hb=>?_⟩
   obtain⟨x0,x1,x2,x3,x4,rfl⟩:=L4 hx;have b0:=(hb x0 (by simp)).1
   have b2:=(hb x2 (by simp)).1
   clear hx hb;simp only[M8,Pj];rw[ag];walk_at "s1";refine⟨P,d,s,g,ps,⟨S.pa,S.ok.le (by walk_at "o"),en,lp⟩,fun out G1 hE so=>?_⟩
   have S:=S.ext hE;clear hE g1;have g1:=S.pa.1;have sm:=rS S.ok so S.st;have ms:=S.ms;unfold zN;rw[ag];walk_at "s1";rw[MO];obtain⟨k,hk⟩:∃ k:Wd,mX [D.str (MN "put"),D.str (MN "part"),D.str (MN "strike"),D.str (MN "dress"),D.str (MN "move"),D.str (MN "move")] (x0 % 6)=some (.str k.s):=by
    have q:x0 % 6=0\/x0 % 6=1\/x0 % 6=2\/x0 % 6=3\/x0 % 6=4\/x0 % 6=5:=by walk_at "o"
    rcases q with e|e|e|e|e|e<;>rw[e]
    ·exact⟨.put,rfl⟩
    ·exact⟨.part,rfl⟩
    ·exact⟨.strike,rfl⟩
    ·exact⟨.dress,rfl⟩
    ·exact⟨.move,rfl⟩
    ·exact⟨.move,rfl⟩
   rw[ag];walk_at "s1";refine⟨by walk_at "o",by decide,?_⟩
   clear hk b0;rw[ag];walk_at "s1";refine⟨by walk_at "o",fun a=>?_⟩
   rw[ag];walk_at "s1";refine⟨by unfold xK;decide,by walk_at "o",fun t0=>?_⟩
   rw[ag];walk_at "s1";refine⟨by unfold xK;decide,by walk_at "o",fun m=>?_⟩
   refine rR (NX:=fun σ' G'=>∃ t:Int,σ'=[some (.lst (ns.map D.int)),some (.int c),some (.str x),some (.ref p),some (.int z),some (.lst [.int x0,.int x1,.int x2,.int x3,.int x4]),some (zN P out ps),some (.int ((P.seats out).length:Int)),some (.str k.s),some (.int a),some (.int t),some (.int m),a9]/\G'=G1) (fun σ' G' hM=>?_) (fun NX hNX=>?_)
   ·obtain⟨t,rfl,rfl⟩:=hM;rw[ag];walk_at "s1";refine⟨k,rfl,?_⟩;have ok49:P.ok 49:=S.ok.le (by walk_at "o")
    have ls:(P.seats out).length<=60:=by walk_at "o"
    cases e:EZ k a t m (P.seats out).length with
    | none=>
     refine rR (NX:=fun σ' G2=>σ'=[some (.lst (ns.map D.int)),some (.int c),some (.str x),some (.ref p),some (.int z),some (.lst [.int x0,.int x1,.int x2,.int x3,.int x4]),some (zN P out ps),some (.int ((P.seats out).length:Int)),some (.str k.s),some (.int a),some (.int t),some (.int m),some .non]/\Fi zF.C_Paper hw p d s g P G' G2) (fun σ' G2 hM=>?_) (fun NX hNX=>?_)
     ·obtain⟨rfl,sk,nx,wd,br,of,pt⟩:=hM;have g2:=pt.1;clear g1;refine bo true (fun K hK=>?_) (iteT ?_)
      ·walk_at "st"
      have l1:=S.ok.ls;have l2:(P.add sk).sks.length=P.sks.length+1:=Nl;have l3:(P.add sk).time=P.time+1:=nx.2.2;have SA:Sd zF.C_Paper hw G2 p d s g (P.add sk) (4+(i+1)) (13+2*(i+1)):=⟨pt,AH S.ok nx wd,j9 S.ok S.st nx.2.2,by rw[kO];omega,tS _ S.en⟩
      generalize P.add sk=P2 at *
      refine bo false (Dt false false (fun K hK=>?_) fun _ K hK=>?_) (iteF ?_)
      ·unfold zN;walk_at "s1";exact⟨P2,d,s,g,⟨pt,by walk_at "o"⟩,by rw[MO,MO,show (P2.sks.length:Int)=P.sks.length+1 by walk_at "o",bX];exact hK⟩
      ·unfold zN;walk_at "s1";exact⟨P2,d,s,g,pt,by rw[l3,bX];exact hK⟩
      ·exact⟨_,_,_,_,_,_,_,_,_,_,rfl,SA⟩
     ·walk_at "s1";refine⟨k,P,d,s,g,out,⟨rfl,S.pa,ok49,so,ls⟩,fun _ G2 cm=>?_,fun v z=>by rw[e]at z;cases z⟩
      exact⟨trivial,Kt (hNX _ _ ⟨rfl,cm⟩)⟩
    | some v=>
     refine rR (NX:=fun σ' G2=>σ'=[some (.lst (ns.map D.int)),some (.int c),some (.str x),some (.ref p),some (.int z),some (.lst [.int x0,.int x1,.int x2,.int x3,.int x4]),some (zN P out ps),some (.int ((P.seats out).length:Int)),some (.str k.s),some (.int a),some (.int t),some (.int m),some (.int v)]/\gf G' G2) (fun σ' G2 hM=>?_) (fun NX hNX=>?_)
     ·obtain⟨rfl,hE⟩:=hM;have S:=S.ext hE;clear hE g1;have g1:=S.pa.1;refine bo false (fun K hK=>?_) (iteF ?_)
      ·walk_at "st"
      refine FH (b:=false) ?_ fun G3 e3=>iteF ?_
      ·intro K hK;walk_at "s1";refine⟨k,P,d,s,g,out,v,⟨rfl,S.pa,ok49,so,e⟩,fun G3 e3=>⟨P,d,s,g,ps,⟨(S.ext e3).pa,ok49.le (by decide),en,lp⟩,fun o G4 e4 so'=>?_⟩⟩
       rw[srt_uniq so' so];refine⟨Fd P out ps,Fd P out ps,?_⟩;rw[bX];exact hK _ (e3.trans e4)
      ·exact⟨_,_,_,_,_,_,_,_,_,_,rfl,(S.ext e3).pa,S.ok.le (by walk_at "o"),S.st,le_trans S.ms (by walk_at "o"),S.en⟩
     ·walk_at "s1";refine⟨k,P,d,s,g,out,⟨rfl,S.pa,ok49,so,ls⟩,(fun z=>by rw[e]at z;cases z),fun u z G2 hE=>?_⟩
      obtain rfl:v=u:=Option.some.inj (e.symm.trans z);exact⟨trivial,Kt (hNX _ _ ⟨rfl,hE⟩)⟩
   ·clear g1;refine bo _ (Bo (eA (D.int (x4 % 2)) (D.int 0)) (decide (0<=a/\a < (P.seats out).length)) (fun K hK=>?_) fun _ K hK=>?_) (zm (fun e=>?_) fun e=>?_)
    ·walk_at "st";decide
    ·walk_at "st"
     by_cases q:0<=a
     ·rw[if_pos q]
      simpa[q]using hK
     ·rw[if_neg q]
      simpa[q]using hK
    ·rw[Bool.and_eq_true,decide_eq_true_eq]at e;obtain⟨e1,e2,e3⟩:=e;clear e1;walk_at "s1";exact⟨by walk_at "o",hNX _ _ ⟨_,rfl,rfl⟩⟩
    ·simp only[bS];exact hNX _ _ ⟨t0,rfl,rfl⟩
  ·rintro σ' G' ⟨a1,a2,a3,a4,a5,a6,a7,a8,a9,P,rfl,S⟩
   exact hq _
 ·exact h.elim
section
variable{zF:Zz}{hw:List aE->Int}
theorem pJ:bD (cE zF hw) 2:=fun _ _ _ h=>by unfold cE at h;split at h<;>first|rfl|exact h.elim
theorem qY:bD (cV zF hw) 2:=fun _ _ _ h=>by unfold cV at h;split at h<;>first|rfl|exact h.elim
theorem oq:bD (bL zF hw) 1:=fun _ _ _ h=>by unfold bL at h;split at h<;>first|rfl|exact h.elim
theorem sW:bD (cO zF hw) 3:=fun _ _ _ h=>by unfold cO at h;split at h<;>first|rfl|exact h.elim
theorem sV:bD (ck zF hw) 2:=fun _ _ _ h=>by unfold ck at h;split at h<;>first|rfl|exact h.elim
theorem uG:bD (c_ zF hw) 1:=fun _ _ _ h=>by unfold c_ at h;split at h<;>first|rfl|exact h.elim
theorem mQ:bD (a_ zF hw) 1:=fun _ _ _ h=>by unfold a_ at h;split at h<;>first|rfl|exact h.elim
theorem wY:bD (dJ zF hw) 1:=fun _ _ _ h=>by unfold dJ at h;split at h<;>first|rfl|exact h.elim
theorem lM:bD (aQ zF hw) 3:=fun _ _ _ h=>by unfold aQ at h;split at h<;>first|rfl|exact h.elim
theorem pL:bD (b_ zF hw) 5:=fun _ _ _ h=>by unfold b_ at h;split at h<;>first|rfl|exact h.elim
theorem lN:bD (bc zF hw) 4:=fun _ _ _ h=>by unfold bc at h;split at h<;>first|rfl|exact h.elim
theorem mT:bD (bx zF hw) 5:=fun _ _ _ h=>by unfold bx at h;split at h<;>first|rfl|exact h.elim
theorem ou:bD (bM zF hw) 5:=fun _ _ _ h=>by unfold bM at h;split at h<;>first|rfl|exact h.elim
theorem uF:bD (c9 zF hw) 1:=fun _ _ _ h=>by unfold c9 at h;split at h<;>first|rfl|exact h.elim
theorem zd:bD (fF zF hw) 1:=fun _ _ _ h=>by unfold fF at h;split at h<;>first|rfl|exact h.elim
theorem pK:bD (ax zF hw) 1:=fun _ _ _ h=>by unfold ax at h;split at h<;>first|rfl|exact h.elim
theorem uL:bD (bw zF hw) 1:=fun _ _ _ h=>by unfold bw at h;split at h<;>first|rfl|exact h.elim
theorem tj:bD (ba zF hw) 1:=fun _ _ _ h=>by unfold ba at h;split at h<;>first|rfl|exact h.elim
theorem wX:bD (eR zF hw) 2:=fun _ _ _ h=>by unfold eR at h;split at h<;>first|rfl|exact h.elim
theorem AQ:bD (fE zF hw) 1:=fun _ _ _ h=>by unfold fE at h;split at h<;>first|rfl|exact h.elim
theorem uH:bD (d4 zF hw) 2:=fun _ _ _ h=>by unfold d4 at h;split at h<;>first|rfl|exact h.elim
theorem uI:bD (d5 zF hw) 3:=fun _ _ _ h=>by unfold d5 at h;split at h<;>first|rfl|exact h.elim
theorem oh:bD (cv zF hw) 2:=fun _ _ _ h=>by unfold cv at h;split at h<;>first|rfl|exact h.elim
theorem mR:bD (ak zF hw) 1:=fun _ _ _ h=>by unfold ak at h;split at h<;>first|rfl|exact h.elim
theorem pI:bD (cD zF hw) 1:=fun _ _ _ h=>by unfold cD at h;split at h<;>first|rfl|exact h.elim
theorem qX:bD (cU zF hw) 1:=fun _ _ _ h=>by unfold cU at h;split at h<;>first|rfl|exact h.elim
theorem sU:bD (dq zF hw) 1:=fun _ _ _ h=>by unfold dq at h;split at h<;>first|rfl|exact h.elim
theorem AO:bD (fB zF hw) 3:=fun _ _ _ h=>by unfold fB at h;split at h<;>first|rfl|exact h.elim
theorem zc:bD (fC zF hw) 3:=fun _ _ _ h=>by unfold fC at h;split at h<;>first|rfl|exact h.elim
theorem oo:bD (bK zF hw) 1:=fun _ _ _ h=>by unfold bK at h;split at h<;>first|rfl|exact h.elim
theorem sZ:bD (cP zF hw) 1:=fun _ _ _ h=>by unfold cP at h;split at h<;>first|rfl|exact h.elim
theorem ot:bD (cw zF hw) 1:=fun _ _ _ h=>by unfold cw at h;split at h<;>first|rfl|exact h.elim
theorem lO:bD (bd zF hw) 1:=fun _ _ _ h=>by unfold bd at h;split at h<;>first|rfl|exact h.elim
theorem w6:bD (dL zF hw) 1:=fun _ _ _ h=>by unfold dL at h;split at h<;>first|rfl|exact h.elim
theorem qZ:bD (bU zF hw) 3:=fun _ _ _ h=>by unfold bU at h;split at h<;>first|rfl|exact h.elim
theorem wZ:bD (eT zF hw) 5:=fun _ _ _ h=>by unfold eT at h;split at h<;>first|rfl|exact h.elim
theorem uJ:bD (da zF hw) 2:=fun _ _ _ h=>by unfold da at h;split at h<;>first|rfl|exact h.elim
theorem uK:bD (db zF hw) 2:=fun _ _ _ h=>by unfold db at h;split at h<;>first|rfl|exact h.elim
theorem rf:bD (aN zF hw) 1:=fun _ _ _ h=>by unfold aN at h;split at h<;>first|rfl|exact h.elim
theorem zf:bD (dM zF hw) 1:=fun _ _ _ h=>by unfold dM at h;split at h<;>first|rfl|exact h.elim
theorem sY:bD (cq zF hw) 1:=fun _ _ _ h=>by unfold cq at h;split at h<;>first|rfl|exact h.elim
theorem uN:bD (cG zF hw) 1:=fun _ _ _ h=>by unfold cG at h;split at h<;>first|rfl|exact h.elim
theorem w8:bD (c8 zF hw) 1:=fun _ _ _ h=>by unfold c8 at h;split at h<;>first|rfl|exact h.elim
theorem tf:bD (bR zF hw) 2:=fun _ _ _ h=>by unfold bR at h;split at h<;>first|rfl|exact h.elim
theorem jW:bD (aK zF hw) 2:=fun _ _ _ h=>by unfold aK at h;split at h<;>first|rfl|exact h.elim
theorem jV:bD (aJ zF hw) 1:=fun _ _ _ h=>by unfold aJ at h;split at h<;>first|rfl|exact h.elim
theorem uM:bD (cf zF hw) 4:=fun _ _ _ h=>by unfold cf at h;split at h<;>first|rfl|exact h.elim
theorem s_:bD (dw zF hw) 3:=fun _ _ _ h=>by unfold dw at h;split at h<;>first|rfl|exact h.elim
theorem on:bD (bj zF hw) 3:=fun _ _ _ h=>by unfold bj at h;split at h<;>first|rfl|exact h.elim
theorem oj:bD (bh zF hw) 3:=fun _ _ _ h=>by unfold bh at h;split at h<;>first|rfl|exact h.elim
theorem pM:bD (cb zF hw) 4:=fun _ _ _ h=>by unfold cb at h;split at h<;>first|rfl|exact h.elim
theorem rh:bD (cX zF hw) 5:=fun _ _ _ h=>by unfold cX at h;split at h<;>first|rfl|exact h.elim
theorem td:bD (cQ zF hw) 5:=fun _ _ _ h=>by unfold cQ at h;split at h<;>first|rfl|exact h.elim
theorem ze:bD (eO zF hw) 5:=fun _ _ _ h=>by unfold eO at h;split at h<;>first|rfl|exact h.elim
theorem sX:bD (du zF hw) 5:=fun _ _ _ h=>by unfold du at h;split at h<;>first|rfl|exact h.elim
theorem q_:bD (cW zF hw) 5:=fun _ _ _ h=>by unfold cW at h;split at h<;>first|rfl|exact h.elim
theorem mS:bD (b7 zF hw) 2:=fun _ _ _ h=>by unfold b7 at h;split at h<;>first|rfl|exact h.elim
theorem Gr:bD (v5 zF hw) 1:=fun _ _ _ h=>by unfold v5 at h;split at h<;>first|rfl|exact h.elim
end
section
variable{zF:Zz}{hw:List aE->Int}{SL:ML}
theorem sS:zS (cj zF hw SL) 2:=fun _ _ _ _ h=>by unfold cj at h;split at h<;>first|rfl|exact h.elim
theorem sT:zS (dk zF hw SL) 4:=fun _ _ _ _ h=>by unfold dk at h;split at h<;>first|rfl|exact h.elim
theorem qV:zS (dH zF hw SL) 3:=fun _ _ _ _ h=>by unfold dH at h;split at h<;>first|rfl|exact h.elim
theorem mP:zS (aO zF hw SL) 3:=fun _ _ _ _ h=>by unfold aO at h;split at h<;>first|rfl|exact h.elim
theorem og:zS (cT zF hw SL) 4:=fun _ _ _ _ h=>by unfold cT at h;split at h<;>first|rfl|exact h.elim
theorem pH:zS (dg zF hw SL) 5:=fun _ _ _ _ h=>by unfold dg at h;split at h<;>first|rfl|exact h.elim
theorem qW:zS (dI zF hw SL) 5:=fun _ _ _ _ h=>by unfold dI at h;split at h<;>first|rfl|exact h.elim
theorem wW:zS (eQ zF hw SL) 5:=fun _ _ _ _ h=>by unfold eQ at h;split at h<;>first|rfl|exact h.elim
end
structure Tx(K:Ps)(mg:Str->Option MI)(zF:Zz)(SM:ML)(SL:ML)(SN:ML)(SO:ML):Prop where
 fa_anchor:∀ C∈[zF.Z1,zF.Z2,zF.Z3,zF.Z4,zF.Z5],Cls K C/\cC K C "anchor"
 fa_name:∀ C∈[zF.Z1,zF.Z2,zF.Z3,zF.Z4,zF.Z5],Cls K C/\cC K C "name"
 fa_names:∀ C∈[zF.Z1,zF.Z2,zF.Z3,zF.Z4,zF.Z5],Cls K C/\cC K C "names"
 fa_signs:∀ C∈[zF.Z1,zF.Z2,zF.Z3,zF.Z4,zF.Z5],Cls K C/\cC K C "signs"
 fa_time:∀ C∈[zF.Z1,zF.Z2,zF.Z3,zF.Z4,zF.Z5],Cls K C/\cC K C "time"
 fa_word:∀ C∈[zF.Z1,zF.Z2,zF.Z3,zF.Z4,zF.Z5],Cls K C/\cC K C "word"
 cl_Stroke:Cls K zF.Z1
 cl_Put:Cls K zF.Z2
 cl_Strike:Cls K zF.Z3
 cl_Dress:Cls K zF.Z4
 cl_Move:Cls K zF.Z5
 cl_Paper:Cls K zF.C_Paper
 na_Paper_old:cC K zF.C_Paper "old"
 na_Paper_drawn:cC K zF.C_Paper "drawn"
 na_Paper_states:cC K zF.C_Paper "states"
 na_Paper_greatest:cC K zF.C_Paper "greatest"
 na_Paper_time:cC K zF.C_Paper "time"
 b_ValueError:mg "ValueError"=none
 b_all:mg "all"=none
 b_dict:mg "dict"=none
 b_isinstance:mg "isinstance"=none
 b_len:mg "len"=none
 b_list:mg "list"=none
 b_range:mg "range"=none
 b_sorted:mg "sorted"=none
 b_tuple:mg "tuple"=none
 b_zip:mg "zip"=none
 k_START:lF K mg "START" k_START
 k_WAITS:lF K mg "WAITS" k_WAITS
 k_WIPED:lF K mg "WIPED" k_WIPED
 xm_QuillError:mg "QuillError"=some (.ref SM)
 xm_OutOfPlace:mg "OutOfPlace"=some (.ref SL)
 xm_NoStroke:mg "NoStroke"=some (.ref SN)
 xm_Decided:mg "Decided"=some (.ref SO)
 xa_OutOfPlace:XAsk K SL "at"
 xe_OutOfPlace_OutOfPlace:UA K (.ref SL) (.ref SL)=some true
 xe_OutOfPlace_QuillError:UA K (.ref SL) (.ref SM)=some true
 xk_Decided:ST K (.ref SL) (.ref SO)=some false
 xk_NoStroke:ST K (.ref SL) (.ref SN)=some false
 xk_ValueError:ST K (.ref SL) (.type "ValueError")=some true
 xm_Dress:mg "Dress"=some (.ref zF.Z4)
 ik_Dress:∀ p∈([(zF.Z1,false),(zF.Z2,false),(zF.Z3,false),(zF.Z4,true),(zF.Z5,false)]:List (ML×Bool)),InsAsk K p.1/\ST K (.ref p.1) (.ref zF.Z4)=some p.2
 xm_Move:mg "Move"=some (.ref zF.Z5)
 ik_Move:∀ p∈([(zF.Z1,false),(zF.Z2,false),(zF.Z3,false),(zF.Z4,false),(zF.Z5,true)]:List (ML×Bool)),InsAsk K p.1/\ST K (.ref p.1) (.ref zF.Z5)=some p.2
 xm_Put:mg "Put"=some (.ref zF.Z2)
 ik_Put:∀ p∈([(zF.Z1,false),(zF.Z2,true),(zF.Z3,false),(zF.Z4,false),(zF.Z5,false)]:List (ML×Bool)),InsAsk K p.1/\ST K (.ref p.1) (.ref zF.Z2)=some p.2
 xm_Strike:mg "Strike"=some (.ref zF.Z3)
 ik_Strike:∀ p∈([(zF.Z1,false),(zF.Z2,false),(zF.Z3,true),(zF.Z4,false),(zF.Z5,false)]:List (ML×Bool)),InsAsk K p.1/\ST K (.ref p.1) (.ref zF.Z3)=some p.2
theorem Lo{α:Type}:∀ {us:List α},us.length=1->∃ a0,us=[a0]
 | [a0],_=>⟨a0,rfl⟩
theorem JL{α:Type}:∀ {us:List α},us.length=2->∃ a0 a1,us=[a0,a1]
 | [a0,a1],_=>⟨a0,a1,rfl⟩
theorem Ln{α:Type}:∀ {us:List α},us.length=3->∃ a0 a1 a2,us=[a0,a1,a2]
 | [a0,a1,a2],_=>⟨a0,a1,a2,rfl⟩
theorem Lm{α:Type}:∀ {us:List α},us.length=4->∃ a0 a1 a2 a3,us=[a0,a1,a2,a3]
 | [a0,a1,a2,a3],_=>⟨a0,a1,a2,a3,rfl⟩
theorem Ll{α:Type}:∀ {us:List α},us.length=5->∃ a0 a1 a2 a3 a4,us=[a0,a1,a2,a3,a4]
 | [a0,a1,a2,a3,a4],_=>⟨a0,a1,a2,a3,a4,rfl⟩
local macro_rules | `(tactic| walk_at "b") => `(tactic| (intro _ _ _ _ _ _ us hl; first | (obtain ⟨_, e⟩ := Lo hl; subst e; rfl) | (obtain ⟨_, _, e⟩ := JL hl; subst e; rfl) | (obtain ⟨_, _, _, e⟩ := Ln hl; subst e; rfl) | (obtain ⟨_, _, _, _, e⟩ := Lm hl; subst e; rfl) | (obtain ⟨_, _, _, _, _, e⟩ := Ll hl; subst e; rfl)))
structure Ev(K:Ps)(h:M5)(mg:Str->Option MI)(Z1 Z2 Z3 Z4 Z5 C_Paper SM SL SN SO e0f e0N ka0:ML)(ks0:Array (Option MI))(Tu e0q:Str)(TL e0bm S_:List MI)(TF TN:Bool)(Tp:List Str)(Ta:Option Bool)(TD TC TB Tz Tw:Option MI)(e0cls:ClassData)(Tt Tv TJ Tr Ti TK:MI)(Ts TM TH:Option ML)(Tq:Array (Option MI))(S8:Tok)(S7:Tok)(S6:Tok)(kt1:Tok)(kt2:Tok)(kz0:Nat):Prop where
 X:K.In h
 G:h.Ns M0 mg
 y0:Tm K M0 "Stroke"=some (some (.ref Z1))
 y1:Tm K M0 "Put"=some (some (.ref Z2))
 y2:Tm K M0 "Strike"=some (some (.ref Z3))
 y3:Tm K M0 "Dress"=some (some (.ref Z4))
 y4:Tm K M0 "Move"=some (some (.ref Z5))
 y5:Tm K M0 "Paper"=some (some (.ref C_Paper))
 y6:Tm K M0 "QuillError"=some (some (.ref SM))
 y7:Tm K M0 "OutOfPlace"=some (some (.ref SL))
 y8:Tm K M0 "NoStroke"=some (some (.ref SN))
 y9:Tm K M0 "Decided"=some (some (.ref SO))
 ya:K.lookup SL=some (R0 Tu e0q SL e0N TL e0bm TF Tp S_ TN Ta TH TD TC TB Tz Tw "ValueError.__new__")
 yb:tailIn K L2.veMro e0bm=true
 yc:e0bm.contains (.type "BaseException")=true
 yd:Qf K (.ref SL) "__init__"=some (some (.ref e0f))
 ye:UD K (.ref e0f)=some (.type "function")
 yf:Qw K (.ref SL)=true
 yg:Qf K (.ref SL) "__setattr__"=some (some (.builtin "object.__setattr__"))
 yh:PySem.W.clsIn K SL=some e0cls
 yi:e0cls.hasDict=true
 yj:∀ x,PySem.refuseLoop (.ref x) "__setattr__" e0cls.mro=pure ()
 yk:e0cls.mro.contains (.type "object")=true
 yl:e0cls.mro.isEmpty=false
 ym:Uw K SL "at"=some none
 yn:K.lookup e0f=some ⟨Tt,Ts,.func (So "__init__" "OutOfPlace.__init__" (dE bG) (cg bG) (ah bG) .none Tv TJ Tr TM Ti TK),Tq⟩
 yo:RJ K Ti "OutOfPlace.__init__"=true
 yp:Qf K (.ref SL) "__getattribute__"=some (some (.builtin "BaseException.__getattribute__"))
 yq:Qf K (.ref SL) "__getattr__"=some none
 yr:Uu K SL (.type "BaseException")=some true
 ys:Uy K SL=true
 yt:Qf K (.ref SL) "__class__"=some (some (.builtin "object.__class__"))
 yu:QM K (.builtin "object.__class__") "__get__"=some (some (.builtin "getset_descriptor.__get__"))
 yv:Uz K (.builtin "object.__class__")=some true
 yw:Uu K SL (.type "object")=some true
 yx:Qf K (.ref SL) "at"=some none
 yy:UA K (.ref SL) (.ref SL)=some true
 yz:UA K (.ref SL) (.ref SM)=some true
 y00:ST K (.ref SL) (.ref SO)=some false
 y01:ST K (.ref SL) (.ref SN)=some false
 y02:ST K (.ref SL) (.type "ValueError")=some true
 y03:QM K (.builtin "object.__class__") "__get__"=some (some (.builtin "getset_descriptor.__get__"))
 y04:Uz K (.builtin "object.__class__")=some true
 y05:Qf K (.ref Z1) "__class__"=some (some (.builtin "object.__class__"))
 y06:Uu K Z1 (.type "object")=some true
 y07:ST K (.ref Z1) (.ref Z4)=some false
 y08:ST K (.ref Z1) (.ref Z5)=some false
 y09:ST K (.ref Z1) (.ref Z2)=some false
 y0a:ST K (.ref Z1) (.ref Z3)=some false
 y0b:Qf K (.ref Z2) "__class__"=some (some (.builtin "object.__class__"))
 y0c:Uu K Z2 (.type "object")=some true
 y0d:ST K (.ref Z2) (.ref Z4)=some false
 y0e:ST K (.ref Z2) (.ref Z5)=some false
 y0f:ST K (.ref Z2) (.ref Z2)=some true
 y0g:ST K (.ref Z2) (.ref Z3)=some false
 y0h:Qf K (.ref Z3) "__class__"=some (some (.builtin "object.__class__"))
 y0i:Uu K Z3 (.type "object")=some true
 y0j:ST K (.ref Z3) (.ref Z4)=some false
 y0k:ST K (.ref Z3) (.ref Z5)=some false
 y0l:ST K (.ref Z3) (.ref Z2)=some false
 y0m:ST K (.ref Z3) (.ref Z3)=some true
 y0n:Qf K (.ref Z4) "__class__"=some (some (.builtin "object.__class__"))
 y0o:Uu K Z4 (.type "object")=some true
 y0p:ST K (.ref Z4) (.ref Z4)=some true
 y0q:ST K (.ref Z4) (.ref Z5)=some false
 y0r:ST K (.ref Z4) (.ref Z2)=some false
 y0s:ST K (.ref Z4) (.ref Z3)=some false
 y0t:Qf K (.ref Z5) "__class__"=some (some (.builtin "object.__class__"))
 y0u:Uu K Z5 (.type "object")=some true
 y0v:ST K (.ref Z5) (.ref Z4)=some false
 y0w:ST K (.ref Z5) (.ref Z5)=some true
 y0x:ST K (.ref Z5) (.ref Z2)=some false
 y0y:ST K (.ref Z5) (.ref Z3)=some false
 y0z:Cls K Z1
 y10:Uv K Z1=true
 y11:Qw K (.ref Z1)=true
 y12:Qf K (.ref Z1) "anchor"=some none
 y13:Qf K (.ref Z1) "name"=some none
 y14:Qf K (.ref Z1) "names"=some none
 y15:Qf K (.ref Z1) "signs"=some none
 y16:Qf K (.ref Z1) "time"=some none
 y17:Qf K (.ref Z1) "word"=some none
 y18:Cls K Z2
 y19:Uv K Z2=true
 y1a:Qw K (.ref Z2)=true
 y1b:Qf K (.ref Z2) "anchor"=some none
 y1c:Qf K (.ref Z2) "name"=some none
 y1d:Qf K (.ref Z2) "names"=some none
 y1e:Qf K (.ref Z2) "signs"=some none
 y1f:Qf K (.ref Z2) "time"=some none
 y1g:Qf K (.ref Z2) "word"=some none
 y1h:Cls K Z3
 y1i:Uv K Z3=true
 y1j:Qw K (.ref Z3)=true
 y1k:Qf K (.ref Z3) "anchor"=some none
 y1l:Qf K (.ref Z3) "name"=some none
 y1m:Qf K (.ref Z3) "names"=some none
 y1n:Qf K (.ref Z3) "signs"=some none
 y1o:Qf K (.ref Z3) "time"=some none
 y1p:Qf K (.ref Z3) "word"=some none
 y1q:Cls K Z4
 y1r:Uv K Z4=true
 y1s:Qw K (.ref Z4)=true
 y1t:Qf K (.ref Z4) "anchor"=some none
 y1u:Qf K (.ref Z4) "name"=some none
 y1v:Qf K (.ref Z4) "names"=some none
 y1w:Qf K (.ref Z4) "signs"=some none
 y1x:Qf K (.ref Z4) "time"=some none
 y1y:Qf K (.ref Z4) "word"=some none
 y1z:Cls K Z5
 y20:Uv K Z5=true
 y21:Qw K (.ref Z5)=true
 y22:Qf K (.ref Z5) "anchor"=some none
 y23:Qf K (.ref Z5) "name"=some none
 y24:Qf K (.ref Z5) "names"=some none
 y25:Qf K (.ref Z5) "signs"=some none
 y26:Qf K (.ref Z5) "time"=some none
 y27:Qf K (.ref Z5) "word"=some none
 y28:Cls K C_Paper
 y29:Uv K C_Paper=true
 y2a:Qw K (.ref C_Paper)=true
 y2b:Qf K (.ref C_Paper) "old"=some none
 y2c:Qf K (.ref C_Paper) "drawn"=some none
 y2d:Qf K (.ref C_Paper) "states"=some none
 y2e:Qf K (.ref C_Paper) "greatest"=some none
 y2f:Qf K (.ref C_Paper) "time"=some none
 y2g:Tm K M0 "ValueError"=some none
 y2h:Tm K M0 "all"=some none
 y2i:Tm K M0 "dict"=some none
 y2j:Tm K M0 "isinstance"=some none
 y2k:Tm K M0 "len"=some none
 y2l:Tm K M0 "list"=some none
 y2m:Tm K M0 "range"=some none
 y2n:Tm K M0 "sorted"=some none
 y2o:Tm K M0 "tuple"=some none
 y2p:Tm K M0 "zip"=some none
 y2q:Tm K M0 "START"=some (some (.ref ka0))
 y2r:K.lookup ka0=some ⟨.type "tuple",none,.seq #[.str "" S8,.int 0 S7,.int 0 S6] kz0,ks0⟩
 y2s:Tm K M0 "WAITS"=some (some (.str "waits" kt1))
 y2t:Tm K M0 "WIPED"=some (some (.str "wiped" kt2))
 y2u:FnG K "_law_cell_at" ko
 y2v:FnG K "_law_stream" lT
 y2w:MtG K C_Paper "strokes" "Paper.strokes" jA
 y2x:FnG K "lay_behind" no
 y2y:FnG K "slots_made" nl
 y2z:FnG K "old_slots" qd
 y30:FnG K "place_in_order" iN
 y31:FnG K "in_order" rX
 y32:MtG K Z1 "__init__" "Stroke.__init__" fb
 y33:CfG K Z1 "__init__" "Stroke.__init__" fb
 y34:MtG K Z2 "__init__" "Put.__init__" kq
 y35:MtG K Z3 "__init__" "Strike.__init__" ic
 y36:MtG K Z4 "__init__" "Dress.__init__" iP
 y37:MtG K Z5 "__init__" "Move.__init__" jC
 y38:FnG K "stroke_of" qc
 y39:FnG K "chained" ve
 y3a:MtG K Z4 "slots" "Stroke.slots" dP
 y3b:MtG K Z3 "slots" "Stroke.slots" dP
 y3c:MtG K Z1 "slots" "Stroke.slots" dP
 y3d:MtG K Z2 "slots" "Put.slots" qi
 y3e:MtG K Z5 "slots" "Move.slots" nA
 y3f:FnG K "slots_of" rW
 y3g:FnG K "marked" x_
 y3h:FnG K "is_placed" qe
 y3i:FnG K "effective" qf
 y3j:FnG K "signs_brought" jw
 y3k:MtG K Z4 "touched" "Stroke.touched" bN
 y3l:MtG K Z5 "touched" "Stroke.touched" bN
 y3m:MtG K Z2 "touched" "Stroke.touched" bN
 y3n:MtG K Z3 "touched" "Stroke.touched" bN
 y3o:MtG K Z1 "touched" "Stroke.touched" bN
 y3p:FnG K "signs_struck" km
 y3q:FnG K "slots_taken" lS
 y3r:FnG K "words_worn" nk
 y3s:FnG K "seated" x9
 y3t:FnG K "reading" vc
 y3u:MtG K C_Paper "unwiped" "Paper.unwiped" jz
 y3v:MtG K C_Paper "view" "Paper.view" nu
 y3w:MtG K C_Paper "numbers" "Paper.numbers" jB
 y3x:MtG K C_Paper "last_time" "Paper.last_time" ie
 y3y:FnG K "_law_all" rZ
 y3z:FnG K "_law_number" lU
 y40:FnG K "_law_due" rY
 y41:FnG K "check_gap" qg
 y42:FnG K "anchor_at" qh
 y43:MtG K C_Paper "seats" "Paper.seats" lW
 y44:MtG K Z2 "row" "Put.row" vg
 y45:MtG K Z3 "row" "Strike.row" nr
 y46:MtG K Z4 "row" "Dress.row" qk
 y47:MtG K Z5 "row" "Move.row" r0
 y48:MtG K C_Paper "draw" "Paper.draw" nz
 y49:MtG K C_Paper "coming_name" "Paper.coming_name" gB
 y4a:MtG K C_Paper "coming_time" "Paper.coming_time" gA
 y4b:MtG K C_Paper "put" "Paper.put" qj
 y4c:MtG K C_Paper "part" "Paper.part" nv
 y4d:FnG K "check_stretch" jy
 y4e:FnG K "names_between" jx
 y4f:MtG K C_Paper "strike" "Paper.strike" kt
 y4g:MtD K C_Paper "dress" "Paper.dress" lX ""
 y4h:MtG K C_Paper "move" "Paper.move" nw
 y4i:FnG K "_law_do" vf
 y4j:FnG K "_law_asked" nq
 y4k:FnG K "_law_caught" lV
 y4l:MtG K C_Paper "__init__" "Paper.__init__" iO
 y4m:FnG K "law" vd
section
variable{P:MY}{w:M7}{base:M5}{K:Ps}{h:M5}{mg:Str->Option MI}{Z1 Z2 Z3 Z4 Z5 C_Paper SM SL SN SO e0f e0N ka0:ML}{ks0:Array (Option MI)}{Tu e0q:Str}{TL e0bm S_:List MI}{TF TN:Bool}{Tp:List Str}{Ta:Option Bool}{TD TC TB Tz Tw:Option MI}{e0cls:ClassData}{Tt Tv TJ Tr Ti TK:MI}{Ts TM TH:Option ML}{Tq:Array (Option MI)}{S8:Tok}{S7:Tok}{S6:Tok}{kt1:Tok}{kt2:Tok}{kz0:Nat}(E:Ev K h mg Z1 Z2 Z3 Z4 Z5 C_Paper SM SL SN SO e0f e0N ka0 ks0 Tu e0q TL e0bm S_ TF TN Tp Ta TD TC TB Tz Tw e0cls Tt Tv TJ Tr Ti TK Ts TM TH Tq S8 S7 S6 kt1 kt2 kz0)
def Ev.z(_:Ev K h mg Z1 Z2 Z3 Z4 Z5 C_Paper SM SL SN SO e0f e0N ka0 ks0 Tu e0q TL e0bm S_ TF TN Tp Ta TD TC TB Tz Tw e0cls Tt Tv TJ Tr Ti TK Ts TM TH Tq S8 S7 S6 kt1 kt2 kz0):Zz:=⟨Z1,Z2,Z3,Z4,Z5,C_Paper⟩
include E
theorem Mw:Tx K mg E.z SM SL SN SO:=⟨(all_cons ⟨E.y0z,E.y12⟩ (all_cons ⟨E.y18,E.y1b⟩ (all_cons ⟨E.y1h,E.y1k⟩ (all_cons ⟨E.y1q,E.y1t⟩ (all_cons ⟨E.y1z,E.y22⟩ (fun _ h=>nomatch h)))))),(all_cons ⟨E.y0z,E.y13⟩ (all_cons ⟨E.y18,E.y1c⟩ (all_cons ⟨E.y1h,E.y1l⟩ (all_cons ⟨E.y1q,E.y1u⟩ (all_cons ⟨E.y1z,E.y23⟩ (fun _ h=>nomatch h)))))),(all_cons ⟨E.y0z,E.y14⟩ (all_cons ⟨E.y18,E.y1d⟩ (all_cons ⟨E.y1h,E.y1m⟩ (all_cons ⟨E.y1q,E.y1v⟩ (all_cons ⟨E.y1z,E.y24⟩ (fun _ h=>nomatch h)))))),(all_cons ⟨E.y0z,E.y15⟩ (all_cons ⟨E.y18,E.y1e⟩ (all_cons ⟨E.y1h,E.y1n⟩ (all_cons ⟨E.y1q,E.y1w⟩ (all_cons ⟨E.y1z,E.y25⟩ (fun _ h=>nomatch h)))))),(all_cons ⟨E.y0z,E.y16⟩ (all_cons ⟨E.y18,E.y1f⟩ (all_cons ⟨E.y1h,E.y1o⟩ (all_cons ⟨E.y1q,E.y1x⟩ (all_cons ⟨E.y1z,E.y26⟩ (fun _ h=>nomatch h)))))),(all_cons ⟨E.y0z,E.y17⟩ (all_cons ⟨E.y18,E.y1g⟩ (all_cons ⟨E.y1h,E.y1p⟩ (all_cons ⟨E.y1q,E.y1y⟩ (all_cons ⟨E.y1z,E.y27⟩ (fun _ h=>nomatch h)))))),E.y0z,E.y18,E.y1h,E.y1q,E.y1z,E.y28,E.y2b,E.y2c,E.y2d,E.y2e,E.y2f,OD E.X E.G E.y2g,OD E.X E.G E.y2h,OD E.X E.G E.y2i,OD E.X E.G E.y2j,OD E.X E.G E.y2k,OD E.X E.G E.y2l,OD E.X E.G E.y2m,OD E.X E.G E.y2n,OD E.X E.G E.y2o,OD E.X E.G E.y2p,CV (vs:=[.str "",.int 0,.int 0]) (Ty E.X E.G E.y2q) E.y2r (by show 3<=MT;decide) (.cons ⟨_,rfl⟩ (.cons ⟨_,rfl⟩ (.cons ⟨_,rfl⟩ .nil))) fun _=>(RDs.cons iA (RDs.cons ef (RDs.cons ef RDs.nil))),vI (Ty E.X E.G E.y2s),vI (Ty E.X E.G E.y2t),Ty E.X E.G E.y6,Ty E.X E.G E.y7,Ty E.X E.G E.y8,Ty E.X E.G E.y9,⟨⟨E.yp,E.yq,E.yr,E.ys⟩,E.yt,E.yu,E.yv,E.yw,E.yx⟩,E.yy,E.yz,E.y00,E.y01,E.y02,Ty E.X E.G E.y3,(all_cons ⟨⟨E.y0z,E.y05,E.y03,E.y04,E.y06⟩,E.y07⟩ (all_cons ⟨⟨E.y18,E.y0b,E.y03,E.y04,E.y0c⟩,E.y0d⟩ (all_cons ⟨⟨E.y1h,E.y0h,E.y03,E.y04,E.y0i⟩,E.y0j⟩ (all_cons ⟨⟨E.y1q,E.y0n,E.y03,E.y04,E.y0o⟩,E.y0p⟩ (all_cons ⟨⟨E.y1z,E.y0t,E.y03,E.y04,E.y0u⟩,E.y0v⟩ (fun _ h=>nomatch h)))))),Ty E.X E.G E.y4,(all_cons ⟨⟨E.y0z,E.y05,E.y03,E.y04,E.y06⟩,E.y08⟩ (all_cons ⟨⟨E.y18,E.y0b,E.y03,E.y04,E.y0c⟩,E.y0e⟩ (all_cons ⟨⟨E.y1h,E.y0h,E.y03,E.y04,E.y0i⟩,E.y0k⟩ (all_cons ⟨⟨E.y1q,E.y0n,E.y03,E.y04,E.y0o⟩,E.y0q⟩ (all_cons ⟨⟨E.y1z,E.y0t,E.y03,E.y04,E.y0u⟩,E.y0w⟩ (fun _ h=>nomatch h)))))),Ty E.X E.G E.y1,(all_cons ⟨⟨E.y0z,E.y05,E.y03,E.y04,E.y06⟩,E.y09⟩ (all_cons ⟨⟨E.y18,E.y0b,E.y03,E.y04,E.y0c⟩,E.y0f⟩ (all_cons ⟨⟨E.y1h,E.y0h,E.y03,E.y04,E.y0i⟩,E.y0l⟩ (all_cons ⟨⟨E.y1q,E.y0n,E.y03,E.y04,E.y0o⟩,E.y0r⟩ (all_cons ⟨⟨E.y1z,E.y0t,E.y03,E.y04,E.y0u⟩,E.y0x⟩ (fun _ h=>nomatch h)))))),Ty E.X E.G E.y2,(all_cons ⟨⟨E.y0z,E.y05,E.y03,E.y04,E.y06⟩,E.y0a⟩ (all_cons ⟨⟨E.y18,E.y0b,E.y03,E.y04,E.y0c⟩,E.y0g⟩ (all_cons ⟨⟨E.y1h,E.y0h,E.y03,E.y04,E.y0i⟩,E.y0m⟩ (all_cons ⟨⟨E.y1q,E.y0n,E.y03,E.y04,E.y0o⟩,E.y0s⟩ (all_cons ⟨⟨E.y1z,E.y0t,E.y03,E.y04,E.y0u⟩,E.y0y⟩ (fun _ h=>nomatch h))))))⟩
variable(T:Tx K mg E.z SM SL SN SO)
include T
def ue:=oW P w base E.X E.G E.y2u 0 qJ pJ (pj E.z (aG P w)) fun hr u v=>(ao (eW (wH xP (ai 1) (aT b_len (by rfl) T.b_len PySem.boot_len (aa (ai 0) aj)) (bV _)) (aw (aH (dS (ai 0) (ai 1)))) bQ)
   (aw (aH ay)))
def u0:=oW P w base E.X E.G E.y2v 0 dO qY (qP E.z (aG P w)) fun hr u v=>(ao (Ho (i:=2) dO.nd rfl (by walk_at "i") (yT aj))
   (ao (aV (i:=3) dO.nd rfl (by walk_at "i") (ce ib (ce Bk (ce ft (ai 0) ay) ay) ay))
   (ao (jJ Np rfl (EI (by rfl) T.b_range (aa (ai 1) aj)) (bE (i:=4) dO.nd rfl (by walk_at "i")) (ao (aV (i:=3) dO.nd rfl (by walk_at "i") (ce ib (ce Bk (ce ft (ce ft (ai 3) (ce Bk ay (ai 4))) ay) (ce ft (ce p_ (ai 3) ay) ay)) ay))
   (aw (dA (sI (ai 2) (aa (ai 3) aj))))))
   (aw (yJ (i:=2) rfl (by first|exact Or.inl rfl|exact Or.inr (Or.inl rfl)))))))
def jc:=wR P w base mg T.cl_Paper E.y2w 0 o_ oq (nL E.z (aG P w)) fun hr u v=>(aw (aH (sH b_list (by rfl) T.b_list PyProof.Rows.boot_list (aa (iq T.cl_Paper T.na_Paper_drawn dY (ai 0)) aj))))
def oR:=oW P w base E.X E.G E.y2x 0 fQ sW (sg E.z (aG P w)) fun hr u v=>(ao (aV (i:=3) fQ.nd rfl (by walk_at "i") (ai 1))
   (aw (jJ Np rfl (fu (ai 2)) (bE (i:=4) fQ.nd rfl (by walk_at "i")) (ao (iC u (ai 0) (ai 4) (vq u (ai 0) (ai 3)))
   (ao (iC u (ai 0) (ai 3) (ai 4))
   (aw (aV (i:=3) fQ.nd rfl (by walk_at "i") (ai 4))))))))
def jv:=oW P w base E.X E.G E.y2y 0 um sV (sf E.z (aG P w)) fun hr u v=>(aw (aH (kL (T:=["k"]) (M:=["name","how_many"]) (cZ rfl (by kernel_rfl)) (fun cl C s₀ H₀ fp=>⟨(bE (i:=0) qU rfl (by walk_at "i")),mx,(ce ft (ai 1) (gC (aa (ai 0) aj)))⟩) (EH (by rfl) T.b_range (aa ay (aa (ce ft (ai 1) ay) aj))))))
def qG:=oW P w base E.X E.G E.y2z 1 v9 uG (uv E.z (aG P w)) fun hr u v=>(aw (aH (aL (jv E T) hr.m (by rfl) (aa (nZ Dk (f8 (by rfl) T.k_START) AI (mM ay)) (aa (aT b_len (by rfl) T.b_len PySem.boot_len (aa (ai 0) aj)) aj)))))
def p9:=oW P w base E.X E.G E.y30 0 m_ mQ (mG E.z (aG P w)) fun hr u v=>(aw (aH (gC (aa (dS (ai 0) ay) (aa (dS (ai 0) ay) aj)))))
def ud:=oW P w base E.X E.G E.y31 3 kg wY (wm E.z (aG P w)) fun hr u v=>(ao (aV (i:=1) kg.nd rfl (by walk_at "i") pE)
   (ao (Ie Np rfl (ai 0) (bE (i:=2) kg.nd rfl (by walk_at "i")) (aw (iC u (ai 1) (dS (ai 2) ay) (ai 2))))
   (aw (aH (F5 (p9 E) hr.m rfl (by rfl) (by rfl) T.b_sorted (ai 1))))))
def df:=MB P w base E.X E.G E.y0 E.y33 fun F=>Ct 0 F mB lM (lG E.z (aG P w)) fun hr u v=>(ao (gV T.fa_name (ai 0) (ai 1))
   (ao (gV T.fa_time (ai 0) (ai 2))
   (ao (gV T.fa_anchor (ai 0) (f8 (by rfl) T.k_START))
   (aw (gV T.fa_names (ai 0) (gC aj))))))
def HG:=Kr P w base E.X E.G E.y1 E.y19 E.y1a E.y34 fun F=>Ct 1 F qL pL (pA E.z (aG P w)) fun hr u v=>(ao (dA (lb (df E T) hr.m (by rfl) (aa (ai 0) (aa (ai 1) (aa (ai 2) aj)))))
   (ao (gV T.fa_anchor (ai 0) (ai 3))
   (aw (gV T.fa_signs (ai 0) (ai 4)))))
def zR:=Kr P w base E.X E.G E.y2 E.y1i E.y1j E.y35 fun F=>Ct 1 F mC lN (lH E.z (aG P w)) fun hr u v=>(ao (dA (lb (df E T) hr.m (by rfl) (aa (ai 0) (aa (ai 1) (aa (ai 2) aj)))))
   (aw (gV T.fa_names (ai 0) (ai 3))))
def BY:=Kr P w base E.X E.G E.y3 E.y1r E.y1s E.y36 fun F=>Ct 1 F nj mT (mJ E.z (aG P w)) fun hr u v=>(ao (dA (lb (df E T) hr.m (by rfl) (aa (ai 0) (aa (ai 1) (aa (ai 2) aj)))))
   (ao (gV T.fa_names (ai 0) (ai 3))
   (aw (gV T.fa_word (ai 0) (ai 4)))))
def Fg:=Kr P w base E.X E.G E.y4 E.y20 E.y21 E.y37 fun F=>Ct 1 F pd ou (nN E.z (aG P w)) fun hr u v=>(ao (dA (lb (df E T) hr.m (by rfl) (aa (ai 0) (aa (ai 1) (aa (ai 2) aj)))))
   (ao (gV T.fa_names (ai 0) (ai 3))
   (aw (gV T.fa_anchor (ai 0) (ai 4)))))
def qF:=oW P w base E.X E.G E.y38 3 gF uF (uu E.z (aG P w)) fun hr u v=>(ao (aV (i:=1) gF.nd rfl (by walk_at "i") (dS (ai 0) ay))
   (ao (aV (i:=2) gF.nd rfl (by walk_at "i") (dS (ai 0) ay))
   (ao (aV (i:=3) gF.nd rfl (by walk_at "i") (dS (ai 0) ay))
   (ao (eW (bF (j8 u) (dS (ai 3) ay) aW (bV _)) (aw (aH (jm (HG E T) hr.m (by rfl) (aa (ai 1) (aa (ai 2) (aa (dS (ai 3) ay) (aa (dS (ai 3) ay) aj))))))) bQ)
   (ao (eW (bF (j8 u) (dS (ai 3) ay) aW (bV _)) (aw (aH (jm (zR E T) hr.m (by rfl) (aa (ai 1) (aa (ai 2) (aa (dS (ai 3) ay) aj)))))) bQ)
   (ao (eW (bF (j8 u) (dS (ai 3) ay) aW (bV _)) (aw (aH (jm (BY E T) hr.m (by rfl) (aa (ai 1) (aa (ai 2) (aa (dS (ai 3) ay) (aa (dS (ai 3) ay) aj))))))) bQ)
   (aw (aH (jm (Fg E T) hr.m (by rfl) (aa (ai 1) (aa (ai 2) (aa (dS (ai 3) ay) (aa (dS (ai 3) ay) aj)))))))))))))
def Df:=oW P w base E.X E.G E.y39 0 ji zd (yD E.z (aG P w)) fun hr u v=>(ao (Ho (i:=1) ji.nd rfl (by walk_at "i") (yT aj))
   (ao (aV (i:=2) ji.nd rfl (by walk_at "i") (vq u (ai 0) (f8 (by rfl) T.k_START)))
   (ao (FN Np (wH HM (ai 2) vp (bV _)) (ao (dA (sI (ai 1) (aa (ai 2) aj)))
   (aw (aV (i:=2) ji.nd rfl (by walk_at "i") (vq u (ai 0) (ai 2))))))
   (aw (yJ (i:=1) rfl (by first|exact Or.inl rfl|exact Or.inr (Or.inl rfl)))))))
theorem gq:∀ {f:ML} {fd:NR},Fun3 K "slots" "Stroke.slots" dP f fd->FnOk P w K mg base oV 1 f fd ["self"] (bP K (ax E.z (aG P w))):=fun F=>Ct 0 F qK pK (pz E.z (aG P w)) fun hr u v=>(aw (aH (yT aj)))
def fq:=Gk P w base T.cl_Dress E.y3a fun F=>(gq E T) F
def eN:=Gk P w base T.cl_Strike E.y3b fun F=>(gq E T) F
def eM:=Gk P w base T.cl_Stroke E.y3c fun F=>(gq E T) F
def gM:=wR P w base mg T.cl_Put E.y3d 1 wb uL (uA E.z (aG P w)) fun hr u v=>(aw (aH (aL (jv E T) hr.m (by rfl) (aa (bz T.fa_name (ai 0)) (aa (aT b_len (by rfl) T.b_len PySem.boot_len (aa (bz T.fa_signs (ai 0)) aj)) aj)))))
def fX:=wR P w base mg T.cl_Move E.y3e 1 ut tj (sx E.z (aG P w)) fun hr u v=>(aw (aH (aL (jv E T) hr.m (by rfl) (aa (bz T.fa_name (ai 0)) (aa (aT b_len (by rfl) T.b_len PySem.boot_len (aa (bz T.fa_names (ai 0)) aj)) aj)))))
def Be:=oW P w base E.X E.G E.y3f 4 ke wX (wj E.z (aG P w)) fun hr u v=>(ao (aV (i:=2) ke.nd rfl (by walk_at "i") (F9 u (f8 (by rfl) T.k_START) vp))
   (ao (dA (aL (oR E) hr.m (by rfl) (aa (ai 2) (aa (f8 (by rfl) T.k_START) (aa (aL (qG E T) hr.m (by rfl) (aa (ai 0) aj)) aj)))))
   (ao (jJ Np rfl (fu (kL (T:=["row"]) (M:=["old","strokes","following","stroke"]) (cZ rfl (by kernel_rfl)) (fun cl C s₀ H₀ fp=>⟨(bE (i:=0) uE rfl (by walk_at "i")),mx,(aL (qF E T) hr.m (by rfl) (aa (ai 0) aj))⟩) (fu (aL (ud E T) hr.m (by rfl) (aa (ai 1) aj))))) (bE (i:=3) ke.nd rfl (by walk_at "i")) (aw (eW (AD u (bz T.fa_anchor (ai 3)) (ai 2)) (aw (dA (aL (oR E) hr.m (by rfl) (aa (ai 2) (aa (bz T.fa_anchor (ai 3)) (aa (f7 (k:=2) (all_cons ⟨_,(by decide),(eM E T)⟩ (all_cons ⟨_,(by decide),(gM E T)⟩ (all_cons ⟨_,(by decide),(eN E T)⟩ (all_cons ⟨_,(by decide),(fq E T)⟩ (all_cons ⟨_,(by decide),(fX E T)⟩ (fun _ h=>nomatch h)))))) hr.m (ai 3)) aj)))))) bQ)))
   (aw (aH (aL (Df E T) hr.m (by rfl) (aa (ai 2) aj)))))))
def zV:=oW P w base E.X E.G E.y3g 0 B_ AQ (Ar E.z (aG P w)) fun hr u v=>(aw (aH (F8 u rfl (by rfl) T.b_dict (kL (T:=["key"]) (M:=["keys"]) (cZ rfl (by kernel_rfl)) (fun cl C s₀ H₀ fp=>⟨(bE (i:=0) yY rfl (by walk_at "i")),mx,(gC (aa (ai 0) (aa AE aj)))⟩) (fu (ai 0))))))
def zW:=oW P w base E.X E.G E.y3h 2 v_ uH (uw E.z (aG P w)) fun hr u v=>(aw (aH (aT (Jw rfl) (by rfl) T.b_all PyProof.Rows.boot_all (aa (kL (T:=["slot"]) (M:=["stroke","in_row"]) (cZ rfl (by kernel_rfl)) (fun cl C s₀ H₀ fp=>⟨(bE (i:=0) sK rfl (by walk_at "i")),mx,(Ki u (ai 0) (ai 2))⟩) (fu (f7 (k:=2) (all_cons ⟨_,(by decide),(eM E T)⟩ (all_cons ⟨_,(by decide),(gM E T)⟩ (all_cons ⟨_,(by decide),(eN E T)⟩ (all_cons ⟨_,(by decide),(fq E T)⟩ (all_cons ⟨_,(by decide),(fX E T)⟩ (fun _ h=>nomatch h)))))) hr.m (ai 0)))) aj))))
def zX:=oW P w base E.X E.G E.y3i 4 jh uI (ux E.z (aG P w)) fun hr u v=>(ao (aV (i:=3) jh.nd rfl (by walk_at "i") (aL (zV E T) hr.m (by rfl) (aa (ai 1) aj)))
   (ao (DT (T:=["row"]) (M:=["strokes","standing","in_row","stands","chosen"]) (i:=4) (cZ rfl (by kernel_rfl)) jh.nd rfl rfl (fun cl C s₀ H₀ fp=>⟨(bE (i:=0) sM rfl (by walk_at "i")),(vZ (AD u (dS (ai 0) ay) (ai 4))),(aL (qF E T) hr.m (by rfl) (aa (ai 0) aj))⟩) (fu (aL (ud E T) hr.m (by rfl) (aa (ai 0) aj))))
   (aw (aH (kL (T:=["stroke"]) (M:=["strokes","standing","in_row","stands","chosen"]) (cZ rfl (by kernel_rfl)) (fun cl C s₀ H₀ fp=>⟨(bE (i:=0) sL rfl (by walk_at "i")),(vZ (i0 (aL (zW E T) hr.m (by rfl) (aa (ai 0) (aa (ai 3) aj))))),(ai 0)⟩) (fu (ai 4)))))))
def rA:=oW P w base E.X E.G E.y3j 2 cY oh (nG E.z (aG P w)) fun hr u v=>(ao (aV (i:=2) cY.nd rfl (by walk_at "i") (F7 u rfl (by rfl) T.b_dict (by rfl) T.b_zip (aa (aL (qG E T) hr.m (by rfl) (aa (ai 0) aj)) (aa (ai 0) aj))))
   (ao (jJ Np rfl (fu (ai 1)) (bE (i:=3) cY.nd rfl (by walk_at "i")) (aw (eW (i0 (aT (BP T.ik_Put) (by rfl) T.b_isinstance OH (aa (ai 3) (aa (wK (by rfl) T.xm_Put) aj)))) (aw (jJ Np rfl (HC (by rfl) T.b_zip (aa (f7 (k:=2) (all_cons ⟨_,(by decide),(eM E T)⟩ (all_cons ⟨_,(by decide),(gM E T)⟩ (all_cons ⟨_,(by decide),(eN E T)⟩ (all_cons ⟨_,(by decide),(fq E T)⟩ (all_cons ⟨_,(by decide),(fX E T)⟩ (fun _ h=>nomatch h)))))) hr.m (ai 3)) (aa (bz T.fa_signs (ai 3)) aj))) (EM (n:=2) rfl (pS (bE (i:=4) cY.nd rfl (by walk_at "i")) (pS (bE (i:=5) cY.nd rfl (by walk_at "i")) EN))) (aw (iC u (ai 2) (ai 4) (ai 5))))) bQ)))
   (aw (aH (ai 2)))))
theorem cK:∀ {f:ML} {fd:NR},Fun3 K "touched" "Stroke.touched" bN f fd->FnOk P w K mg base oV 1 f fd ["self"] (bP K (ak E.z (aG P w))):=fun F=>Ct 0 F nh mR (mH E.z (aG P w)) fun hr u v=>(aw (aH (sH b_list (by rfl) T.b_list PyProof.Rows.boot_list (aa (bz T.fa_names (ai 0)) aj))))
def fN:=Gk P w base T.cl_Dress E.y3k fun F=>(cK E T) F
def gu:=Gk P w base T.cl_Move E.y3l fun F=>(cK E T) F
def hZ:=Gk P w base T.cl_Put E.y3m fun F=>(cK E T) F
def fo:=Gk P w base T.cl_Strike E.y3n fun F=>(cK E T) F
def fk:=Gk P w base T.cl_Stroke E.y3o fun F=>(cK E T) F
def uc:=oW P w base E.X E.G E.y3p 1 eG pI (pi E.z (aG P w)) fun hr u v=>(ao (aV (i:=1) eG.nd rfl (by walk_at "i") pE)
   (ao (jJ Np rfl (fu (ai 0)) (bE (i:=2) eG.nd rfl (by walk_at "i")) (aw (eW (i0 (aT (BP T.ik_Strike) (by rfl) T.b_isinstance OH (aa (ai 2) (aa (wK (by rfl) T.xm_Strike) aj)))) (aw (jJ Np rfl (fu (f7 (k:=1) (all_cons ⟨_,(by decide),(fk E T)⟩ (all_cons ⟨_,(by decide),(hZ E T)⟩ (all_cons ⟨_,(by decide),(fo E T)⟩ (all_cons ⟨_,(by decide),(fN E T)⟩ (all_cons ⟨_,(by decide),(gu E T)⟩ (fun _ h=>nomatch h)))))) hr.m (ai 2))) (bE (i:=3) eG.nd rfl (by walk_at "i")) (aw (iC u (ai 1) (ai 3) AE)))) bQ)))
   (aw (aH (ai 1)))))
def uZ:=oW P w base E.X E.G E.y3q 2 dN qX (qO E.z (aG P w)) fun hr u v=>(ao (aV (i:=1) dN.nd rfl (by walk_at "i") pE)
   (ao (jJ Np rfl (fu (ai 0)) (bE (i:=2) dN.nd rfl (by walk_at "i")) (aw (eW (i0 (aT (BP T.ik_Move) (by rfl) T.b_isinstance OH (aa (ai 2) (aa (wK (by rfl) T.xm_Move) aj)))) (aw (jJ Np rfl (HC (by rfl) T.b_zip (aa (f7 (k:=1) (all_cons ⟨_,(by decide),(fk E T)⟩ (all_cons ⟨_,(by decide),(hZ E T)⟩ (all_cons ⟨_,(by decide),(fo E T)⟩ (all_cons ⟨_,(by decide),(fN E T)⟩ (all_cons ⟨_,(by decide),(gu E T)⟩ (fun _ h=>nomatch h)))))) hr.m (ai 2)) (aa (f7 (k:=2) (all_cons ⟨_,(by decide),(eM E T)⟩ (all_cons ⟨_,(by decide),(gM E T)⟩ (all_cons ⟨_,(by decide),(eN E T)⟩ (all_cons ⟨_,(by decide),(fq E T)⟩ (all_cons ⟨_,(by decide),(fX E T)⟩ (fun _ h=>nomatch h)))))) hr.m (ai 2)) aj))) (EM (n:=2) rfl (pS (bE (i:=3) dN.nd rfl (by walk_at "i")) (pS (bE (i:=4) dN.nd rfl (by walk_at "i")) EN))) (aw (iC u (ai 1) (ai 3) (ai 4))))) bQ)))
   (aw (aH (ai 1)))))
def xG:=oW P w base E.X E.G E.y3r 1 fP sU (se E.z (aG P w)) fun hr u v=>(ao (aV (i:=1) fP.nd rfl (by walk_at "i") pE)
   (ao (jJ Np rfl (fu (ai 0)) (bE (i:=2) fP.nd rfl (by walk_at "i")) (aw (eW (i0 (aT (BP T.ik_Dress) (by rfl) T.b_isinstance OH (aa (ai 2) (aa (wK (by rfl) T.xm_Dress) aj)))) (aw (jJ Np rfl (fu (f7 (k:=1) (all_cons ⟨_,(by decide),(fk E T)⟩ (all_cons ⟨_,(by decide),(hZ E T)⟩ (all_cons ⟨_,(by decide),(fo E T)⟩ (all_cons ⟨_,(by decide),(fN E T)⟩ (all_cons ⟨_,(by decide),(gu E T)⟩ (fun _ h=>nomatch h)))))) hr.m (ai 2))) (bE (i:=3) fP.nd rfl (by walk_at "i")) (aw (iC u (ai 1) (ai 3) (bz T.fa_word (ai 2)))))) bQ)))
   (aw (aH (ai 1)))))
def zU:=oW P w base E.X E.G E.y3s 5 dy AO (Aq E.z (aG P w)) fun hr u v=>(ao (aV (i:=3) dy.nd rfl (by walk_at "i") (aL (Be E T) hr.m (by rfl) (aa (ai 0) (aa (ai 1) aj))))
   (ao (aV (i:=4) dy.nd rfl (by walk_at "i") (aL (zX E T) hr.m (by rfl) (aa (ai 1) (aa (ai 2) (aa (aL (zV E T) hr.m (by rfl) (aa (ai 3) aj)) aj)))))
   (ao (aV (i:=5) dy.nd rfl (by walk_at "i") (aL (rA E T) hr.m (by rfl) (aa (ai 0) (aa (ai 4) aj))))
   (ao (aV (i:=6) dy.nd rfl (by walk_at "i") (aL (uc E T) hr.m (by rfl) (aa (ai 4) aj)))
   (ao (aV (i:=7) dy.nd rfl (by walk_at "i") (aL (uZ E T) hr.m (by rfl) (aa (ai 4) aj)))
   (ao (aV (i:=8) dy.nd rfl (by walk_at "i") (aL (xG E T) hr.m (by rfl) (aa (ai 4) aj)))
   (ao (aV (i:=9) dy.nd rfl (by walk_at "i") pE)
   (ao (Ig Np rfl (ai 5) (bE (i:=10) dy.nd rfl (by walk_at "i")) (aw (eW (Co u (ai 10) (ai 6)) (aw (iC u (ai 9) (wI u (ai 7) (ai 10) (ai 10)) (ai 10))) bQ)))
   (ao (DT (T:=["slot"]) (M:=["old","strokes","standing","row","working","brought","struck","taken","worn","sitting","name","seats"]) (i:=11) (cZ rfl (by kernel_rfl)) dy.nd rfl rfl (fun cl C s₀ H₀ fp=>⟨(bE (i:=0) yX rfl (by walk_at "i")),(vZ (AD u (ai 0) (ai 10))),(gC (aa (ai 0) (aa (vq u (ai 10) (ai 0)) aj)))⟩) (fu (ai 3)))
   (aw (aH (kL (T:=["slot","name"]) (M:=["old","strokes","standing","row","working","brought","struck","taken","worn","sitting","-name","seats"]) (cZ rfl (by kernel_rfl)) (fun cl C s₀ H₀ fp=>⟨(EM (n:=2) rfl (pS (bE (i:=0) qt rfl (by walk_at "i")) (pS (bE (i:=1) qt rfl (by walk_at "i")) EN))),mx,(gC (aa (ai 0) (aa (ai 1) (aa (vq u (ai 7) (ai 1)) (aa (wI u (ai 10) (ai 1) aW) aj)))))⟩) (fu (ai 11))))))))))))))
def De:=oW P w base E.X E.G E.y3t 6 Am zc (yC E.z (aG P w)) fun hr u v=>(aw (aH (kL (T:=["seat"]) (M:=["old","strokes","standing"]) (cZ rfl (by kernel_rfl)) (fun cl C s₀ H₀ fp=>⟨(bE (i:=0) wO rfl (by walk_at "i")),mx,(nZ Dk (ai 0) (mM ay) AI)⟩) (fu (aL (zU E T) hr.m (by rfl) (aa (ai 0) (aa (ai 1) (aa (ai 2) aj))))))))
def jb:=wR P w base mg T.cl_Paper E.y3u 0 o9 oo (nK E.z (aG P w)) fun hr u v=>(aw (aH (F_ (T:=["row"]) (M:=["self"]) (cZ rfl (by kernel_rfl)) (fun cl C s₀ H₀ fp=>⟨(bE (i:=0) mO rfl (by walk_at "i")),(vZ (bF (Dl u) (vq u (iq T.cl_Paper T.na_Paper_states jM (ai 1)) (dS (ai 0) ay)) (f8 (by rfl) T.k_WIPED) (bV _))),(dS (ai 0) ay)⟩) (iq T.cl_Paper T.na_Paper_drawn dY (ai 0)))))
def mm:=wR P w base mg T.cl_Paper E.y3v 7 uq sZ (sj E.z (aG P w)) fun hr u v=>(aw (aH (aL (De E T) hr.m (by rfl) (aa (iq T.cl_Paper T.na_Paper_old oN (ai 0)) (aa (iq T.cl_Paper T.na_Paper_drawn dY (ai 0)) (aa (bT (jb E T) i5 hr.m (ai 0)) aj))))))
def p8:=wR P w base mg T.cl_Paper E.y3w 0 pc ot (nM E.z (aG P w)) fun hr u v=>(aw (aH (F6 u rfl (by rfl) T.b_sorted (iq T.cl_Paper T.na_Paper_greatest fj (ai 0)))))
def h8:=wR P w base mg T.cl_Paper E.y3x 0 mD lO (lJ E.z (aG P w)) fun hr u v=>(aw (aH (iq T.cl_Paper T.na_Paper_time iG (ai 0))))
def uf:=oW P w base E.X E.G E.y3y 8 x6 w6 (wo E.z (aG P w)) fun hr u v=>(aw (aH (gC (aa (bT (jc E T) i6 hr.m (ai 0)) (aa (bT (mm E T) mi hr.m (ai 0)) (aa (bT (p8 E T) pG hr.m (ai 0)) (aa (bT (h8 E T) gY hr.m (ai 0)) aj)))))))
def iI:=oW P w base E.X E.G E.y3z 0 rT qZ (qQ E.z (aG P w)) fun hr u v=>(ao (eW (bF (j8 u) (ce ib (ai 0) ay) ay (bV _)) (aw (aH (ce Bj (ce ib (ai 1) (ce Bk ay (ce Hd ay ay))) (ce Hd ay ay)))) bQ)
   (ao (eW (wH Lj (ce ib (ai 0) ay) ay (bV _)) (aw (aH (ce ib (ce p_ (ai 0) ay) (ce ft (ai 2) ay)))) bQ)
   (aw (aH (ce Bj (ce ib (ce p_ (ai 0) ay) (ce ft (ai 2) ay)) ay)))))
def Bf:=oW P w base E.X E.G E.y40 0 xZ wZ (wn E.z (aG P w)) fun hr u v=>(ao (eW (PW.pt (HN (bF (j8 u) (ai 0) aW (bV _)) (Do (bF (j8 u) (ai 0) aW (bV _))))) (ao (eW (gX (dR mr mr ay (ai 1) (ai 4))) (aw (aH (ai 1))) bQ)
   (aw (aH vp))) bQ)
   (ao (eW (gX (dR mr xP ay (ai 1) (ai 4))) (aw (aH (ai 1))) bQ)
   (ao (eW (gX (dR xP mr (ai 1) (ai 2) (ai 4))) (aw (aH (ai 2))) bQ)
   (ao (eW (PW.pt (He (bF (j8 u) (ai 0) aW (bV _)) (Dp (gX (dR mr mr ay (ai 3) (ai 4)))))) (aw (aH (ai 3))) bQ)
   (aw (aH vp))))))
def qH:=oW P w base E.X E.G E.y41 0 ng uJ (uy E.z (aG P w)) fun hr u v=>(aw (eW (gX (dR mr mr ay (ai 0) (ai 1))) (aw wt) bQ))
def qI:=oW P w base E.X E.G E.y42 0 wa uK (uz E.z (aG P w)) fun hr u v=>(ao (eW (bF (j8 u) (ai 1) ay (bV _)) (aw (aH (f8 (by rfl) T.k_START))) bQ)
   (aw (aH (dS (dS (ai 0) (ce Bj (ai 1) ay)) ay))))
def bY:=wR P w base mg T.cl_Paper E.y43 6 rV rf (qS E.z (aG P w)) fun hr u v=>(aw (aH (aL (zU E T) hr.m (by rfl) (aa (iq T.cl_Paper T.na_Paper_old oN (ai 0)) (aa (iq T.cl_Paper T.na_Paper_drawn dY (ai 0)) (aa (bT (jb E T) i5 hr.m (ai 0)) aj))))))
def Bc:=wR P w base mg T.cl_Put E.y44 0 An zf (yF E.z (aG P w)) fun hr u v=>(aw (aH (gC (aa (bz T.fa_name (ai 0)) (aa (bz T.fa_time (ai 0)) (aa (gC (aa aW (aa (bz T.fa_anchor (ai 0)) (aa (bz T.fa_signs (ai 0)) aj)))) aj))))))
def uU:=wR P w base mg T.cl_Strike E.y45 0 uo sY (si E.z (aG P w)) fun hr u v=>(aw (aH (gC (aa (bz T.fa_name (ai 0)) (aa (bz T.fa_time (ai 0)) (aa (gC (aa aW (aa (bz T.fa_names (ai 0)) aj))) aj))))))
def xE:=wR P w base mg T.cl_Dress E.y46 0 we uN (uC E.z (aG P w)) fun hr u v=>(aw (aH (gC (aa (bz T.fa_name (ai 0)) (aa (bz T.fa_time (ai 0)) (aa (gC (aa aW (aa (bz T.fa_names (ai 0)) (aa (bz T.fa_word (ai 0)) aj)))) aj))))))
def zQ:=wR P w base mg T.cl_Move E.y47 0 x8 w8 (wp E.z (aG P w)) fun hr u v=>(aw (aH (gC (aa (bz T.fa_name (ai 0)) (aa (bz T.fa_time (ai 0)) (aa (gC (aa aW (aa (bz T.fa_names (ai 0)) (aa (bz T.fa_anchor (ai 0)) aj)))) aj))))))
def fW:=wR P w base mg T.cl_Paper E.y48 1 ur tf (sv E.z (aG P w)) fun hr u v=>(ao (dA (sI (iq T.cl_Paper T.na_Paper_drawn dY (ai 0)) (aa (f7 (k:=1) (all_cons ⟨_,(by decide),(Bc E T)⟩ (all_cons ⟨_,(by decide),(uU E T)⟩ (all_cons ⟨_,(by decide),(xE E T)⟩ (all_cons ⟨_,(by decide),(zQ E T)⟩ (fun _ h=>nomatch h))))) hr.m (ai 1)) aj)))
   (ao (iC u (iq T.cl_Paper T.na_Paper_states jM (ai 0)) (bz T.fa_name (ai 1)) (f8 (by rfl) T.k_WAITS))
   (ao (iC u (iq T.cl_Paper T.na_Paper_greatest fj (ai 0)) (dS (bz T.fa_name (ai 1)) ay) (dS (bz T.fa_name (ai 1)) ay))
   (ao (J6 T.cl_Paper T.na_Paper_time iG (by decide) (ai 0) (bz T.fa_time (ai 1)))
   (aw (aH (bz T.fa_name (ai 1))))))))
def cM:=wR P w base mg T.cl_Paper E.y49 0 kj jW (jU E.z (aG P w)) fun hr u v=>(aw (aH (gC (aa (ai 1) (aa (ce ft (wI u (iq T.cl_Paper T.na_Paper_greatest fj (ai 0)) (ai 1) ay) ay) aj)))))
def cL:=wR P w base mg T.cl_Paper E.y4a 0 kh jV (jT E.z (aG P w)) fun hr u v=>(aw (aH (ce ft (iq T.cl_Paper T.na_Paper_time iG (ai 0)) ay)))
def gO:=wR P w base mg T.cl_Paper E.y4b 7 gG uM (uB E.z (aG P w)) fun hr u v=>(ao (aV (i:=4) gG.nd rfl (by walk_at "i") (bT (bY E T) bW hr.m (ai 0)))
   (ao (dA (aL (qH E) hr.m (by rfl) (aa (ai 2) (aa (aT b_len (by rfl) T.b_len PySem.boot_len (aa (ai 4) aj)) aj))))
   (aw (aH (dC (fW E T) fU hr.m (ai 0) (aa (jm (HG E T) hr.m (by rfl) (aa (dC (cM E T) cJ hr.m (ai 0) (aa (ai 1) aj)) (aa (bT (cL E T) cI hr.m (ai 0)) (aa (aL (qI E T) hr.m (by rfl) (aa (ai 4) (aa (ai 2) aj))) (aa (ai 3) aj))))) aj))))))
def uV:=wR P w base mg T.cl_Paper E.y4c 8 lR s_ (sr E.z (aG P w)) fun hr u v=>(aw (aH (dC (gO E T) d7 hr.m (ai 0) (aa (ai 1) (aa (ai 2) (aa aW aj))))))
def gw:=oW P w base E.X E.G E.y4d 0 iM on (nJ E.z (aG P w)) fun hr u v=>(ao (eW (gX (dR mr xP ay (ai 0) (ai 2))) (aw wt) bQ)
   (aw (eW (gX (dR xP mr (ai 0) (ai 1) (ai 2))) (aw wt) bQ)))
def gv:=oW P w base E.X E.G E.y4e 0 o8 oj (nH E.z (aG P w)) fun hr u v=>(aw (aH (sH b_tuple (by rfl) T.b_tuple PyProof.Rows.boot_tuple (aa (kL (T:=["seat"]) (M:=["seats","at","to"]) (cZ rfl (by kernel_rfl)) (fun cl C s₀ H₀ fp=>⟨(bE (i:=0) mN rfl (by walk_at "i")),mx,(dS (ai 0) ay)⟩) (fu (nZ Dk (ai 0) (mM (ai 1)) (mM (ai 2))))) aj))))
def jQ:=wR P w base mg T.cl_Paper E.y4f 7 eJ pM (pB E.z (aG P w)) fun hr u v=>(ao (aV (i:=4) eJ.nd rfl (by walk_at "i") (bT (bY E T) bW hr.m (ai 0)))
   (ao (dA (aL (gw E) hr.m (by rfl) (aa (ai 2) (aa (ai 3) (aa (aT b_len (by rfl) T.b_len PySem.boot_len (aa (ai 4) aj)) aj)))))
   (aw (aH (dC (fW E T) fU hr.m (ai 0) (aa (jm (zR E T) hr.m (by rfl) (aa (dC (cM E T) cJ hr.m (ai 0) (aa (ai 1) aj)) (aa (bT (cL E T) cI hr.m (ai 0)) (aa (aL (gv E T) hr.m (by rfl) (aa (ai 4) (aa (ai 2) (aa (ai 3) aj)))) aj)))) aj))))))
def t9:=LP P w base T.cl_Paper E.y4g (fun d s us X hl=>(fun (hl':us.length=5)=>match us,hl' with|[_,_,_,_,_],_=>binds_K X rfl d rfl rfl rfl) (by simpa using hl)) fun F=>Ct 7 F e_ rh (qT E.z (aG P w)) fun hr u v=>(ao (aV (i:=5) e_.nd rfl (by walk_at "i") (bT (bY E T) bW hr.m (ai 0)))
   (ao (dA (aL (gw E) hr.m (by rfl) (aa (ai 2) (aa (ai 3) (aa (aT b_len (by rfl) T.b_len PySem.boot_len (aa (ai 5) aj)) aj)))))
   (aw (aH (dC (fW E T) fU hr.m (ai 0) (aa (jm (BY E T) hr.m (by rfl) (aa (dC (cM E T) cJ hr.m (ai 0) (aa (ai 1) aj)) (aa (bT (cL E T) cI hr.m (ai 0)) (aa (aL (gv E T) hr.m (by rfl) (aa (ai 5) (aa (ai 2) (aa (ai 3) aj)))) (aa (ai 4) aj))))) aj))))))
def mn:=wR P w base mg T.cl_Paper E.y4h 7 et td (su E.z (aG P w)) fun hr u v=>(ao (aV (i:=5) et.nd rfl (by walk_at "i") (bT (bY E T) bW hr.m (ai 0)))
   (ao (dA (aL (gw E) hr.m (by rfl) (aa (ai 2) (aa (ai 3) (aa (aT b_len (by rfl) T.b_len PySem.boot_len (aa (ai 5) aj)) aj)))))
   (ao (dA (aL (qH E) hr.m (by rfl) (aa (ai 4) (aa (aT b_len (by rfl) T.b_len PySem.boot_len (aa (ai 5) aj)) aj))))
   (ao (aV (i:=6) et.nd rfl (by walk_at "i") (aL (gv E T) hr.m (by rfl) (aa (ai 5) (aa (ai 2) (aa (ai 3) aj)))))
   (aw (aH (dC (fW E T) fU hr.m (ai 0) (aa (jm (Fg E T) hr.m (by rfl) (aa (dC (cM E T) cJ hr.m (ai 0) (aa (ai 1) aj)) (aa (bT (cL E T) cI hr.m (ai 0)) (aa (ai 6) (aa (aL (qI E T) hr.m (by rfl) (aa (ai 5) (aa (ai 4) aj))) aj))))) aj))))))))
theorem Ml:L2.XMk K SL e0f "at":=⟨⟨_,_,_,_,_,_,_,_,_,_,_,_,_,_,_,_,E.ya,E.yb,E.yc⟩,E.yd,E.ye,E.yf,E.yg,⟨_,E.yh,E.yi,E.yj,E.yk,E.yl⟩,E.ym⟩
theorem iJ:ErX P w K mg base 1 "OutOfPlace" SL "at":=⟨_,_,_,(Ml E T),Ty E.X E.G E.y7,GA (fV (st:=bG) E.yn E.yo) jj (Ml E T) rfl (Or.inl rfl) (Or.inl rfl),(.all fun us hl=>by obtain⟨_,_,rfl⟩:=JL (us:=us) hl;rfl)⟩
def oU:=Kx P w base E.X E.G E.y41 2 ng sS (r_ E.z (aG P w) SL) fun hr u v=>(j6 (Ab (gX (dR mr mr ay (ai 0) (ai 1))) (j6 (vX fh (iJ E T) hr.m (by rfl) (aa (ai 0) aj))) (j7 bQ)))
def oQ:=Gj P w base mg T.cl_Paper E.y4b 7 gG sT (sd E.z (aG P w) SL) fun hr u v=>(eX (Fv (aV (i:=4) gG.nd rfl (by walk_at "i") (bT (bY E T) bW hr.m (ai 0))))
   (eX (rK fh (oU E T) hr.m (by rfl) (aa (ai 2) (aa (aT b_len (by rfl) T.b_len PySem.boot_len (aa (ai 4) aj)) aj)))
   (j7 nX)))
def uW:=Gj P w base mg T.cl_Paper E.y4c 8 lR qV (qM E.z (aG P w) SL) fun hr u v=>(j6 (oZ fh (oQ E T) d7 hr.m (ai 0) (aa (ai 1) (aa (ai 2) (aa aW aj)))))
def fO:=Kx P w base E.X E.G E.y4d 2 iM mP (mF E.z (aG P w) SL) fun hr u v=>(eX (Ab (gX (dR mr xP ay (ai 0) (ai 2))) (j6 (vX fh (iJ E T) hr.m (by rfl) (aa (ai 0) aj))) (j7 bQ))
   (j6 (Ab (gX (dR xP mr (ai 0) (ai 1) (ai 2))) (j6 (vX fh (iJ E T) hr.m (by rfl) (aa (ai 1) aj))) (j7 bQ))))
def rp:=Gj P w base mg T.cl_Paper E.y4f 7 eJ og (nF E.z (aG P w) SL) fun hr u v=>(eX (Fv (aV (i:=4) eJ.nd rfl (by walk_at "i") (bT (bY E T) bW hr.m (ai 0))))
   (eX (rK fh (fO E T) hr.m (by rfl) (aa (ai 2) (aa (ai 3) (aa (aT b_len (by rfl) T.b_len PySem.boot_len (aa (ai 4) aj)) aj))))
   (j7 nX)))
def t_:=LO P w base T.cl_Paper E.y4g (fun d s us X hl=>(fun (hl':us.length=5)=>match us,hl' with|[_,_,_,_,_],_=>binds_K X rfl d rfl rfl rfl) (by simpa using hl)) fun F=>Lg 7 F e_ pH (ph E.z (aG P w) SL) fun hr u v=>(eX (Fv (aV (i:=5) e_.nd rfl (by walk_at "i") (bT (bY E T) bW hr.m (ai 0))))
   (eX (rK fh (fO E T) hr.m (by rfl) (aa (ai 2) (aa (ai 3) (aa (aT b_len (by rfl) T.b_len PySem.boot_len (aa (ai 5) aj)) aj))))
   (j7 nX)))
def uX:=Gj P w base mg T.cl_Paper E.y4h 7 et qW (qN E.z (aG P w) SL) fun hr u v=>(eX (Fv (aV (i:=5) et.nd rfl (by walk_at "i") (bT (bY E T) bW hr.m (ai 0))))
   (eX (rK fh (fO E T) hr.m (by rfl) (aa (ai 2) (aa (ai 3) (aa (aT b_len (by rfl) T.b_len PySem.boot_len (aa (ai 5) aj)) aj))))
   (eX (rK fh (oU E T) hr.m (by rfl) (aa (ai 4) (aa (aT b_len (by rfl) T.b_len PySem.boot_len (aa (ai 5) aj)) aj)))
   (j7 nX))))
def ug:=Ky P w base E.X E.G E.y4i fun F=>Jd (n:=10) (Ct 9 F rU ze (yE E.z (aG P w)) fun hr u v=>(ao (eW (bF (j8 u) (ai 1) aW (bV _)) (aw (aH (dC (gO E T) d7 hr.m (ai 0) (aa aW (aa (ai 2) (aa aW aj)))))) bQ)
   (ao (eW (bF (j8 u) (ai 1) aW (bV _)) (aw (aH (dC (uV E T) mj hr.m (ai 0) (aa aW (aa (ai 2) aj))))) bQ)
   (ao (eW (bF (j8 u) (ai 1) aW (bV _)) (aw (aH (dC (jQ E T) gl hr.m (ai 0) (aa aW (aa (ai 2) (aa (ai 3) aj)))))) bQ)
   (ao (eW (bF (j8 u) (ai 1) aW (bV _)) (aw (aH (dC (t9 E T) kN hr.m (ai 0) (aa aW (aa (ai 2) (aa (ai 3) (aa aW aj))))))) bQ)
   (aw (aH (dC (mn E T) iE hr.m (ai 0) (aa aW (aa (ai 2) (aa (ai 3) (aa (ai 4) aj)))))))))))) (Lg 9 F rU wW (wg E.z (aG P w) SL) fun hr u v=>(eX (Ab (bF (j8 u) (ai 1) aW (bV _)) (j6 (oZ fh (oQ E T) d7 hr.m (ai 0) (aa aW (aa (ai 2) (aa aW aj))))) (j7 bQ))
   (eX (Ab (bF (j8 u) (ai 1) aW (bV _)) (j6 (oZ fh (uW E T) mj hr.m (ai 0) (aa aW (aa (ai 2) aj)))) (j7 bQ))
   (eX (Ab (bF (j8 u) (ai 1) aW (bV _)) (j6 (oZ fh (rp E T) gl hr.m (ai 0) (aa aW (aa (ai 2) (aa (ai 3) aj))))) (j7 bQ))
   (eX (Ab (bF (j8 u) (ai 1) aW (bV _)) (j6 (oZ fh (t_ E T) kN hr.m (ai 0) (aa aW (aa (ai 2) (aa (ai 3) (aa aW aj)))))) (j7 bQ))
   (j6 (oZ fh (uX E T) iE hr.m (ai 0) (aa aW (aa (ai 2) (aa (ai 3) (aa (ai 4) aj))))))))))) (by decide) (by decide)
def xH:=oW P w base E.X E.G E.y4j 10 fR sX (sh E.z (aG P w) SM SL SN SO) fun hr u v=>(ao (aV (i:=5) fR.nd rfl (by walk_at "i") vp)
   (ao (Hn (ok:=fun C a=>C=SL/\a="at") (ug E T) hr.m (by rfl) (aa (ai 0) (aa (ai 1) (aa (ai 2) (aa (ai 3) (aa (ai 4) aj))))) rfl rfl fR.nd (i:=6) rfl rfl (by rfl) T.xm_OutOfPlace (fun C a h=>by obtain⟨rfl,rfl⟩:=h;exact T.xe_OutOfPlace_OutOfPlace)
   (fun C a z x o dx od h hx=>by obtain⟨rfl,rfl⟩:=h;exact (aw (aV (i:=5) fR.nd rfl (by walk_at "i") (Kf hx T.xa_OutOfPlace (ai 6))))))
   (aw (aH (ai 5)))))
def u4:=oW P w base E.X E.G E.y4k 10 e9 q_ (qR E.z (aG P w) SM SL SN SO) fun hr u v=>(ao (aV (i:=5) e9.nd rfl (by walk_at "i") AE)
   (ao (Hn (ok:=fun C a=>C=SL/\a="at") (ug E T) hr.m (by rfl) (aa (ai 0) (aa (ai 1) (aa (ai 2) (aa (ai 3) (aa (ai 4) aj))))) rfl rfl e9.nd (i:=6) rfl rfl (by rfl) T.xm_QuillError (fun C a h=>by obtain⟨rfl,rfl⟩:=h;exact T.xe_OutOfPlace_QuillError)
   (fun C a z x o dx od h hx=>by obtain⟨rfl,rfl⟩:=h;exact (aw (aV (i:=5) e9.nd rfl (by walk_at "i") (Ht (aT (Fa hx T.xa_OutOfPlace (.inr ⟨_,rfl⟩) T.xk_ValueError) (by rfl) T.b_isinstance OH (aa (ai 6) (aa (LI (by rfl) T.b_ValueError GR) aj))) (Ht (Hs (aT (Fa hx T.xa_OutOfPlace (.inl ⟨_,rfl⟩) T.xk_Decided) (by rfl) T.b_isinstance OH (aa (ai 6) (aa (Ei (by rfl) T.xm_Decided) aj)))) (Kh (Hs (aT (Fa hx T.xa_OutOfPlace (.inl ⟨_,rfl⟩) T.xk_NoStroke) (by rfl) T.b_isinstance OH (aa (ai 6) (aa (Ei (by rfl) T.xm_NoStroke) aj)))))))))))
   (aw (aH (ai 5)))))
def Ha:=Kr P w base E.X E.G E.y5 E.y29 E.y2a E.y4l fun F=>Ct 0 F ni mS (mI E.z (aG P w)) fun hr u v=>(ao (sE (L:=[]) T.cl_Paper T.na_Paper_old (by decide +kernel) (by decide) (ai 0) (ai 1))
   (ao (sE (L:=["old"]) T.cl_Paper T.na_Paper_drawn (by decide +kernel) (by decide) (ai 0) (IB (yT aj)))
   (ao (sE (L:=["old","drawn"]) T.cl_Paper T.na_Paper_states (by decide +kernel) (by decide) (ai 0) pE)
   (ao (sE (L:=["old","drawn","states"]) T.cl_Paper T.na_Paper_greatest (by decide +kernel) (by decide) (ai 0) IC)
   (aw (sE (L:=["old","drawn","states","greatest"]) T.cl_Paper T.na_Paper_time (by decide +kernel) (by decide) (ai 0) ay))))))
omit T
theorem all_mk(hfa:mg "law"=some (.ref fa)):
  ∃ fd:NR,(∀ (s:MK) (v:MI),Q_ s fd ⟨[v],[]⟩ [("_law_script",v)])/\∀ base:M5,K.In base->base.Ns M0 mg->FnOk P w K mg base oV 12 fa fd ["_law_script"] (bP K v6):=by
 have T:=Mw E;obtain⟨f,a,⟨⟨_,_,an,_,kV,dc,pm,cd,ct,l,c⟩⟩,_⟩:=E.y4m.ex;have e:=hfa.symm.trans (Ty E.X E.G a);cases e;have F:=fV (st:=vd) l c;refine⟨So "law" "law" (dE vd) (cg vd) (ah vd) .none kV dc pm an cd ct,fun s v=>.of_eq rfl,fun base _ _=>?_⟩;exact Ct 11 F e8 (@Gr E.z (aG P w)) (FJ E.z (aG P w)) fun hr u v=>(ao (aV (i:=1) e8.nd rfl (by walk_at "i") (aL (ue E T) hr.m (by rfl) (aa (ai 0) (aa ay aj))))
   (ao (aV (i:=2) e8.nd rfl (by walk_at "i") (nZ Dk aW AI (mM (ce ib (ai 1) ay))))
   (ao (aV (i:=3) e8.nd rfl (by walk_at "i") (jm (Ha E T) hr.m (by rfl) (aa (ai 2) aj)))
   (ao (dA (dC (gO E T) d7 hr.m (ai 3) (aa aW (aa (ce ib (ce p_ (ai 1) ay) (ce ft (aT b_len (by rfl) T.b_len PySem.boot_len (aa (ai 2) aj)) ay)) (aa aW aj)))))
   (ao (dA (dC (jQ E T) gl hr.m (ai 3) (aa aW (aa (ce ib (ce p_ (ai 1) ay) (ce ft (aT b_len (by rfl) T.b_len PySem.boot_len (aa (ai 2) aj)) ay)) (aa (ce ft (aT b_len (by rfl) T.b_len PySem.boot_len (aa (ai 2) aj)) ay) aj)))))
   (ao (dA (dC (gO E T) d7 hr.m (ai 3) (aa aW (aa ay (aa aW aj)))))
   (ao (dA (dC (mn E T) iE hr.m (ai 3) (aa aW (aa ay (aa ay (aa (ce ib (ce p_ (ai 1) ay) (ce ft (aT b_len (by rfl) T.b_len PySem.boot_len (aa (bT (mm E T) mi hr.m (ai 3)) aj)) ay)) aj))))))
   (ao (jJ Np rfl (fu (nZ Dk (ai 0) (mM ay) (mM ay))) (bE (i:=4) e8.nd rfl (by walk_at "i")) (ao (aV (i:=5) e8.nd rfl (by walk_at "i") (aL (u0 E T) hr.m (by rfl) (aa (ai 4) (aa ay aj))))
   (ao (aV (i:=6) e8.nd rfl (by walk_at "i") (aL (uf E T) hr.m (by rfl) (aa (ai 3) aj)))
   (ao (aV (i:=7) e8.nd rfl (by walk_at "i") (aT b_len (by rfl) T.b_len PySem.boot_len (aa (dS (ai 6) ay) aj)))
   (ao (aV (i:=8) e8.nd rfl (by walk_at "i") (dS (yT (aa aW (aa aW (aa aW (aa aW (aa aW (aa aW aj))))))) (ce ib (dS (ai 5) ay) ay)))
   (ao (aV (i:=9) e8.nd rfl (by walk_at "i") (aL (iI E) hr.m (by rfl) (aa (dS (ai 5) ay) (aa (ai 4) (aa (ai 7) aj)))))
   (ao (aV (i:=10) e8.nd rfl (by walk_at "i") (aL (iI E) hr.m (by rfl) (aa (dS (ai 5) ay) (aa (ce p_ (ai 4) ay) (aa (ai 7) aj)))))
   (ao (aV (i:=11) e8.nd rfl (by walk_at "i") (aL (iI E) hr.m (by rfl) (aa (dS (ai 5) ay) (aa (ce p_ (ai 4) ay) (aa (ai 7) aj)))))
   (ao (eW (PW.pt (He (bF (j8 u) (ce ib (dS (ai 5) ay) ay) ay (bV _)) (Dp (dR mr xP ay (ai 9) (ai 7))))) (aw (aV (i:=10) e8.nd rfl (by walk_at "i") (ce ft (ce ft (ai 9) ay) (ce ib (dS (ai 5) ay) (ce Bj (ai 7) (ai 9)))))) bQ)
   (ao (aV (i:=12) e8.nd rfl (by walk_at "i") (aL (Bf E) hr.m (by rfl) (aa (ai 8) (aa (ai 9) (aa (ai 10) (aa (ai 11) (aa (ai 7) aj)))))))
   (ao (eW (bF (Dl u) (aL (xH E T) hr.m (by rfl) (aa (ai 3) (aa (ai 8) (aa (ai 9) (aa (ai 10) (aa (ai 11) aj)))))) (ai 12) (bV _)) (aw (aH AE)) bQ)
   (aw (eW (wH JK (ai 12) vp (bV _)) (aw (eW (PW.pt (HN (bF (Dl u) (aT b_len (by rfl) T.b_len PySem.boot_len (aa (bT (jc E T) i6 hr.m (ai 3)) aj)) (ce ft (aT b_len (by rfl) T.b_len PySem.boot_len (aa (dS (ai 6) ay) aj)) ay) (bV _)) (Do (bF (Dl u) (bT (h8 E T) gY hr.m (ai 3)) (ce ft (dS (ai 6) ay) ay) (bV _))))) (aw (aH AE)) bQ)) (aw (eW (PW.pt (HN (gX (i0 (aL (u4 E T) hr.m (by rfl) (aa (ai 3) (aa (ai 8) (aa (ai 9) (aa (ai 10) (aa (ai 11) aj)))))))) (Do (bF (Dl u) (aL (uf E T) hr.m (by rfl) (aa (ai 3) aj)) (ai 6) (bV _))))) (aw (aH AE)) bQ)))))))))))))))
   (aw (aH AE))))))))))
end
end RQ
open PySem PySem.W PyProof.Rows
local macro_rules | `(tactic| walk_at "gq") => `(tactic| first | k_is | kernel_rfl | (intro _; kernel_rfl) | (refine' L3.fnG_mk ?a ?l ?c ?k; (case a => k_is); (case l => k_is); (case c => k_is); (case k => k_is)) | (refine' L3.mtG_mk ?a ?i ?l ?c ?k; (case a => k_is); (case i => k_is); (case l => k_is); (case c => k_is); (case k => k_is)) | (refine' L2.Cls.mk ?a ?b ?c ?d; (case a => k_is); (case b => k_is); (case c => k_is); (case d => k_is)) | (refine' L3.mtD_mk ?a ?i ?l ?c ?k ?d; (case a => k_is); (case i => k_is); (case l => k_is); (case c => k_is); (case k => k_is); (case d => k_is)) | (refine' L3.cfG_mk ?g ?r ?a ?l ?c ?k; (case g => k_is); (case r => k_is); (case a => k_is); (case l => k_is); (case c => k_is); (case k => k_is)) | skip)
namespace PySem.W.Fast
def tw15388618036432278924:=0
def tw391186665874909203:=0
def tw15699039753661190937:=0
def tw14670931408139835313:=0
def tw8965426491778549669:=0
def tw313780614911668651:=0
def tw18422925127633755823:=0
def tw972151185654627476:=0
def tw2071087678512310698:=0
def tw14100580343931979281:=0
def tw12615731993370703431:=0
def tw7928438641805061647:=0
def tw13506993721273368690:=0
def tw15254133813502554642:=0
def tw17157844376982523153:=0
def tw7640365330198664890:=0
def tw12992022849235212871:=0
def tw7012762995583711520:=0
def tw11219554256612486539:=0
def tw1939435434118483783:=0
def tw2725305386205032141:=0
def tw9428347893519011612:=0
def tw5482708844184201632:=0
def tw16578073236108607986:=0
def tw8582117864712976864:=0
def tw14601948555162542759:=0
def tw14633369389920820326:=0
def tw2210073580361156871:=0
def tw1084586477581949903:=0
def tw16582318155108129449:=0
def tw14514951455051293296:=0
def tw7797194272125800698:=0
def tw13237103169226842672:=0
def tw6312908612138912652:=0
def tw14403061981544269491:=0
def tw1854880854265978500:=0
def tw10738215253061773444:=0
def tw12061596650353264307:=0
def tw10794125057013473344:=0
def tw162432355885288935:=0
def tw12641215531366790261:=0
def tw5739333565611009939:=0
def tw17530914273341900031:=0
def tw8857718700278454151:=0
def tw5685701763227114510:=0
def tw13919120650614754070:=0
def tw2528151788789525329:=0
def tw7261018804244687946:=0
def tw10414138301842965229:=0
def tw8792590354907944348:=0
def tw1956796994376130492:=0
def tw8671028219001738178:=0
def tw5715120947437120739:=0
def tw17151290365835490301:=0
def tw13310010721085849781:=0
def tw12143526227015091154:=0
def tw4530051041911706347:=0
def tw2802097722855072831:=0
def tw3330692728029713598:=0
def tw5967636862241614886:=0
def tw2886446400483911739:=0
def tw13764665695725322402:=0
def tw3421579892067053392:=0
def tw14523611441110072843:=0
def tw12688806900797732107:=0
def tw17845259863025503448:=0
def tw8516620469425077317:=0
def tw17204793594917673012:=0
def tw12891693644497881704:=0
def tw4443200685698711962:=0
def tw4346110312848933959:=0
def tw2237034350601553321:=0
def tw5991543132026830507:=0
def tw7982231156478183916:=0
def tw17935128146873758230:=0
def tw16259865978226106458:=0
def tw3916174029951782137:=0
def tw15565913939514776994:=0
def tw14118904213773451047:=0
def tw14797000080896727993:=0
def tw46127243846423492:=0
def tw590748536875339051:=0
def tw16789203110851957269:=0
def tw13836785749190861049:=0
def tw5213163560282589524:=0
def tw16915269794758136708:=0
def tw2324961207156675430:=0
def tw2906711798287133404:=0
def tw9847000142518731493:=0
def tw9247582359133400637:=0
def tw638356794753730875:=0
def tw3533108125213091236:=0
def tw11666594275489626040:=0
def tw629236866983847854:=0
def tw5752197191397047115:=0
def tw14240849660979825550:=0
def tw1159203126879018341:=0
def tw17061379294460396459:=0
def tw4722253398405734411:=0
def tw9646114083433666194:=0
def tw10374378899591601012:=0
def tw13801646107442565764:=0
def tw1456355317857294694:=0
def tw8936223446780377857:=0
def tw3129176583319786591:=0
def tw11226886427151976781:=0
def tw6597469133855515196:=0
def tw9144725036868862830:=0
def tw5649452792568127557:=0
def tw4300451903917381830:=0
def tw4308028136790876788:=0
def tw1605488602731419381:=0
def tw12007896526828088727:=0
def tw6639883463758713690:=0
def tw12291828686607809557:=0
def tw4272875421686676910:=0
def tw3175187003411802920:=0
def tw9673808240355087308:=0
def tw4773340558564976048:=0
def tw2659372641141891152:=0
def tw18340860348473776981:=0
def tw5972043421322292132:=0
def tw13557321508657124260:=0
def tw8255915011578225895:=0
def tw2056622189049215014:=0
def tw1301345751832392667:=0
def tw12317204321892376026:=0
def tw5345892201688911824:=0
def tw7026794836710788573:=0
def tw18365857853578080665:=0
def tw13035141180236807664:=0
def tw17142722422903291051:=0
def tw1815979440010194413:=0
def tw17398025521554984739:=0
def tw11115163355008469243:=0
def tw10338028044781060224:=0
def tw10669657810702062749:=0
def tw16285245472811798360:=0
def tw12738155548172115860:=0
def tw15092611297450779468:=0
def tw15064292613087415556:=0
def tw16587460373269326505:=0
def tw16464480208891133043:=0
def tw12941348834106102406:=0
def tw764914269307781037:=0
def tw61091865079644888:=0
def tw8950875378601655291:=0
def tw1447941033017224799:=0
def tw16207785633661274917:=0
def tw8087907349320621327:=0
def tw7755465632451524182:=0
def tw3298300398636457030:=0
def tw15879889046300939805:=0
def tw11654396454921075716:=0
def tw5469338386929784288:=0
def tw16571138408353483732:=0
def tw3110126809619580883:=0
def tw10074780447172713798:=0
def tw5516479681879141006:=0
def tw366161929275585305:=0
def tw17578412325421548514:=0
def tw4495986810850370597:=0
def tw17848444764887009494:=0
def tw1019387879723145372:=0
def tw12631795193478408424:=0
def tw7339294779087804286:=0
def tw1862437306194664670:=0
def tw8490490200401625840:=0
def tw277809351793359685:=0
def tw17885692485381029302:=0
def tw16311457272005463550:=0
def tw14141894644738577477:=0
def tw10761060441427159963:=0
def tw10670422864608716576:=0
def tw13324602104286970490:=0
def tw4535915854562876461:=0
def tw1971319994694329864:=0
def tw9242629420691232226:=0
def tw3107628328603710523:=0
def tw5198332388014398131:=0
def tw16707026483191215753:=0
def tw11670460313925357198:=0
def tw5577730114836782595:=0
def tw12024139987235441033:=0
def tw8758175357978786421:=0
def tw7120753514918669838:=0
def tw5120498020828122582:=0
def tw13596319038997970789:=0
def tw18166030020169298145:=0
def tw14561602436192702510:=0
def tw17096944058894368676:=0
def tw12721450970795567066:=0
def tw11414804848638913883:=0
def tw17707348460312063911:=0
def tw16422293496236372619:=0
def tw9074738662950082576:=0
def tw14784347244729360287:=0
def tw531278244368470894:=0
def tw1815823027581255003:=0
def tw11973387955725331581:=0
def tw3172691739075584723:=0
def tw7785269908759019651:=0
def tw5582000654865063677:=0
def tw2972537856836202922:=0
def tw2973773934478423538:=0
def tw16182077214315686870:=0
def tw9247537412693740330:=0
def tw3051210335224200731:=0
def tw17277290376555883992:=0
def tw2528320532799373999:=0
def tw11618855774989005179:=0
def tw11474606334877759431:=0
def tw15588468942546481758:=0
def tw2154019301344319420:=0
def tw16887890057635745542:=0
def tw10044521181727450230:=0
def tw12043727190962059487:=0
def tw10177039452411714166:=0
def tw17135350347481553120:=0
def tw1265403795674932197:=0
def tw6688184937259926576:=0
def tw17215613510430120284:=0
def tw16968875881848294235:=0
def tw12035960452175860397:=0
def tw5685142141140568002:=0
def tw18034359568087289860:=0
def tw5378064782776670955:=0
def tw14109434917900174633:=0
def tw9987515281385256584:=0
def tw857368979931492826:=0
def tw15618956377957110480:=0
def tw10212635983246149759:=0
def tw10145637487114969595:=0
def tw14362195563750789988:=0
def tw3702776439516394841:=0
def tw1500323671401706298:=0
def tw1272391987275729840:=0
def tw17201137632353280052:=0
def tw3131362999412903386:=0
def tw597816104457844095:=0
def tw4419409012361024972:=0
def tw16789013521755026203:=0
def tw11127467412449793621:=0
def tw633544764166025053:=0
def tw5415655394413850740:=0
def tw6437705477481377818:=0
def tw3863643384382617039:=0
def tw13173968605732973450:=0
def tw11680443813077791639:=0
def tw4405979757420924049:=0
def tw16116273461937180238:=0
def tw9202442314057874092:=0
def tw7572329184290545080:=0
def tw15060626763027488253:=0
def tw4267766651211124015:=0
def tw889615515220704032:=0
def tw16634832000889088992:=0
def tw12796778314883524818:=0
def tw18086175381975515536:=0
def tw7462064255752129455:=0
def tw4710407135639162351:=0
def tw13245871453582520858:=0
def tw10793225185159561186:=0
def tw5203389427863834050:=0
def tw13158964365139492226:=0
def tw13915983215884510642:=0
def tw6129965373272484557:=0
def tw13496187374779052685:=0
def tw4471952356091030583:=0
def tw7058298900053318968:=0
def tw2634084763952388676:=0
def tw7303473547111779821:=0
def tw10352902439031950602:=0
def tw11522333757370740372:=0
def tw2028352778459585195:=0
def tw9663658290965703490:=0
def tw3900616864944995761:=0
def tw14978089107137269511:=0
def tw9319469238924257820:=0
def tw7582057820748246426:=0
def tw15699975999047175695:=0
def tw14727973803703793508:=0
def tw16242415783939462767:=0
def tw8627932068709824885:=0
def tw3564986709515617434:=0
def tw1851162428919779598:=0
def tw14944262853409421647:=0
def tw10107239249407140965:=0
def tw16409027783653725189:=0
def tw4291724535853082028:=0
def tw14689366456245657200:=0
def tw6858350312373172015:=0
def tw9027091712867272896:=0
def tw2210737041952069495:=0
def tw15603512735620571558:=0
def tw6579539002955758461:=0
def tw548413295130505971:=0
def tw10180929039760142015:=0
def tw10943474634789262423:=0
def tw2837188103060012769:=0
def tw11662340866888262702:=0
def tw11531214957366568996:=0
def tw9060480237051658953:=0
def tw3760718315672426151:=0
def tw2402979576051528745:=0
def tw2234754415214119084:=0
def tw18149880782850655200:=0
def tw16380148837811894267:=0
def tw16010790653995597194:=0
def tw1254341917623717490:=0
def tw11364575310804915406:=0
def tw10025333778909801838:=0
def tw9978265903000028050:=0
def tw7481374750103250045:=0
def tw6024939950350930979:=0
def tw1961052553527559002:=0
def tw14368936188919079742:=0
def tw4164339308810210522:=0
def tw13350397940720127026:=0
def tw754796390888461117:=0
def tw581662636423413766:=0
def tw15206386387480333325:=0
def tw7928308301935617385:=0
def tw3983216280545016898:=0
def tw3446512192653734187:=0
def tw9212857053652496601:=0
def tw6392142923146053021:=0
def tw5363258784449135825:=0
def tw4450612717210797771:=0
def tw2227984510128124336:=0
def tw1985119028341003160:=0
def tw191996215779896560:=0
def tw18274310521895316265:=0
def tw13946866815230681830:=0
def tw12602693598528499688:=0
def tw8588329376653959694:=0
def tw291968488421738311:=0
def tw16245909763300165238:=0
def tw10087999501182547280:=0
def tw7908359206619129587:=0
def tw4008209688218525848:=0
def tw16333574015393132873:=0
def tw1205867940823280008:=0
def tw998318006603391484:=0
def tw6310693366854885114:=0
end PySem.W.Fast
set_option maxRecDepth 100000 in
set_option maxHeartbeats 0 in
theorem PySem.Challenge.cw_redquill_k54_out_of_place_holds : PySem.Challenge.rw_redquill_k54_out_of_place.Holds := by
 w_on;o_law;k_head;(case hw=>w_witness2)
 k_fill
 refine L3.walk3 (l:=PySem.Challenge.rw_redquill_k54_out_of_place) (k:=12) (x:="_law_script") rfl rfl ⟨rfl,by decide,by decide⟩ (fun w h Y=>PySem.W.kIn_of Y) ?F
 case F=>
  intro w mg fa h KX G hmg;refine' RQ.all_mk ⟨KX,G,?_,?_,?_,?_,?_,?_,?_,?_,?_,?_,?_,?_,?_,?_,?_,?_,?_,?_,?_,?_,?_,?_,?_,?_,?_,?_,?_,?_,?_,?_,?_,?_,?_,?_,?_,?_,?_,?_,?_,?_,?_,?_,?_,?_,?_,?_,?_,?_,?_,?_,?_,?_,?_,?_,?_,?_,?_,?_,?_,?_,?_,?_,?_,?_,?_,?_,?_,?_,?_,?_,?_,?_,?_,?_,?_,?_,?_,?_,?_,?_,?_,?_,?_,?_,?_,?_,?_,?_,?_,?_,?_,?_,?_,?_,?_,?_,?_,?_,?_,?_,?_,?_,?_,?_,?_,?_,?_,?_,?_,?_,?_,?_,?_,?_,?_,?_,?_,?_,?_,?_,?_,?_,?_,?_,?_,?_,?_,?_,?_,?_,?_,?_,?_,?_,?_,?_,?_,?_,?_,?_,?_,?_,?_,?_,?_,?_,?_,?_,?_,?_,?_,?_,?_,?_,?_,?_,?_,?_,?_,?_,?_,?_,?_,?_,?_,?_,?_,?_,?_,?_,?_,?_,?_,?_,?_,?_,?_,?_,?_,?_,?_,?_,?_,?_,?_,?_,?_,?_,?_,?_,?_,?_,?_,?_,?_,?_,?_,?_,?_,?_,?_,?_,?_⟩ hmg
  all_goals walk_at "gq"
