import PyProof.Rows.All
import Wide.All
import OpenK.AllK
import Wide.FinOn
import Lean
import PyProof.EqAt
import PyProof.EqKinds
import PyProof.TupleCall
import PySem.Challenge.RW_redquill_k87_answers_ten_deep
set_option Elab.async false
set_option linter.all false
set_option maxRecDepth 100000
set_option maxHeartbeats 4000000
open PySem renaming wpAny_bind->KB,Value->KC,wpAny_pure->KD,Addr->KE,Shared->KF,wpAny->KI,model->KL,sizeLine->KM,starEach->KO,Program->KQ,mainGlobals->KR,Around->KY,Heap->K1,World->K2,Expr->K4,wpAny_newObj_type->K6,wpAny_mono->K9,wpAny_setField_rec->La,Stmt->Lf,wpAny_call_entry->Lh,wpAny_field->Lk,compareOp->Ll,wpAny_holding->Lm,wpAny_callSpecial?_slot->Lq,attributeBase->Ls,sysModules->Lw,cLine->Ly,FuncData->Lz,tupleKind_room_in1->LA,sizeLine_eq->LB,wpAny_passesOwn->LD,wpAny_dictEntries->LH,foldedSetIterable->LI,bootBuiltins->LM,backTo->LN,behindInMarks->LO,rawInt->LP,wpAny_dictEpoch->LU,tupleKind->LW,wpAny_attempt->L4,swapsWith->Mb,wpAny_Call_Name_kw->Md,pyNext->Me,binaryOp->Mh,letOwnedTupleGo->Mj,codeAny->Ml,wpAny_typeNameOfWhole_itemiter->Mo,wpAny_setField->Mp,wpAny_typeNameOfWhole_valiter->Ms,wpAny_typeNameOfWhole_keyiter->Mt,sliceBounds->Mu,keywordEach->Mv,codeAny_mono->Mz,assignEach->MA,wpAny_execs_nil->MB,wpAny_notOrdered_dict->ME,wpAny_truthy_bool->MF,wpAny_pyIter_slot->MG,wpAny_seqItems->MI,IsPair->MM,wpAny_typeNameOf_itemiter->MP,wpAny_typeNameOf_valiter->MT,wpAny_typeNameOf_keyiter->MU,Scope->MX,ExceptHandler->MZ,wpAny_Call_method0_late->M6,wpAny_fieldsOf->Na,firstArgMember->Nf,call_meetsIn->Ng,wpAny_call->Nh,pyIter->Ni,wpAny_standAt->Nl,backToKw->No,atKey->Np,Paired->Nr,standAt->Nu,getMethod->Nv,getattributeRaised->Nw,NameKind->Ny,wpAny_loadPart_at->NB,strIterType->NC,wpAny_onRaise->NJ,wpAny_isInstance->NL,getAttr?->NM,ClassData->NO,wpAny_rule->NP,wpAny_isOneOf_itemiter->NQ,typeLookup->NR,getItem->NV,Result->NW,Keyword->NY,CmpOp->N3,wpAny_isOneOf_valiter->N4,builtinLookup_eq_fast->N5,wpAny_updateSeq_pair->N6,wpAny_newTuple->N7,wpAny_letGo->N8,unbindBehindTheSuite->N9,setField->N_,isSubtype_stop->Ob,codeAny_call_builtin->Oe,storedH->Og,callerA->Oi,PassesOwn->Oj,DictEntry->Ol,isInstance->Ot,IsPart->Ov,wpAny_pyIter_list->Ow,valueAt->Ox,callWith->Oz,BindsTo->OD,plainObj_wpAny_Assign_Attribute->OE,wpAny_execs_cons->OH,setFlight->OJ,subscripted->ON,numAt->OP,loadIfAlive->OR,typeLookup_type->OW,relabel->OX,wpAny_loadPart->OZ,SetTable->O1,wpAny_handled->O4,wpAny_comprehension_free->O5,noteFrame->O7,meetsH_dict_get_default->O9,bindL->Pa,bindC->Pc,wpAny_typeOf->Pf,wpAny_pyNext_list_item->Pg,newExc->Pi,leaving->Pj,isTrue->Pk,getAttr->Pl,concat_meets->Pm,wpAny_pyNext_list_end->Pt,wpAny_isTrue_Compare1->Pu,wpAny_isOneOf_keyiter->Pw,wpAny_throw->Px,wpAny_of_eq->Py,seqIndex_of->Pz,excClassObj->PF,Model->PK,wpAny_isSubtype_exc->PQ,pairTrees_cons_walk->PR,codeAny_forLoop_any->PU,wpAny_setItem_heap->PZ,wpAny_load->P0,wpAny_getItem_heap->P3,wpAny_dictSet_heap->P4,wpAny_Name->P5,typeIs_str->P6,sub_AttributeError->P8,sliceRange->P9,pairTrees_nil_walk->P_,getAttrBy?->Qb,closureFor->Qc,call_meets->Qe,builtinsNs->Qf,wpAny_pyIter_enum->Qj,wpAny_assign_Name->Qk,setItem->Ql,setAttr->Qm,field->Qo,Draws->Qr
open PySem.Heap renaming get?_push_of_some->KG,get?_push_size->KJ,lt_size->KN,size_push->Lj,get?_update_other->Ln,SameBut->LS,get?_update_self->LV,get?_push_ne->NG,ExtBut->PL,get?_update_ne->PV
open PySem.Str renaming ofString->KH,length->Ou
open List renaming length_map->KP,size_toArray->KS,mem_cons_self->KU,getElem?_eq_getElem->KW,mem_cons_of_mem->KZ,mem_of_getElem?->K0,map_cons->K3,getElem?_map->K8,length_cons->Lb,length_append->Lc,mem_cons->Le,not_mem_nil->Lg,find?_cons->Li,getD_eq_getElem?_getD->Lo,mem_append_right->Lr,length_nil->Lx,getElem?_append_right->LJ,map_map->LL,map_append->LQ,getElem?_cons_succ->LY,getElem?_append_left->L5,filterMap_cons->L6,nodup_cons->L7,lookup_cons->L_,getElem?_eq_none->Mc,getElem?_cons_zero->Mf,map_congr_left->Mq,mem_map_of_mem->MJ,length_set->MK,cons_append->ML,take_add_one->MN,set_cons_zero->MV,set_cons_succ->MW,nil_append->M3,forIn_cons->M4,append_nil->M5,nodup_nil->M7,length_take->M8,zip_cons_cons->Nk,take_length->Nn,length_drop->ND,forIn_nil->NN,map_nil->NS,countP_cons->Od,any_cons->Of
open Nat renaming lt_of_lt_of_le->K7,ne_of_lt->K_,zero_le->LG,le_of_ble_eq_true->LR,lt_or_ge->MC,succ_le_succ->MO,ne_of_gt->Nb,le_succ->NE,le_of_eq->Oa
open PySem.Builtin.Dict_items renaming ownsTuple->Ld,newIterator->Nj,dictOf->NA,ownedTupleIsFree->Oq,ownedTupleFields->Os,pairFromOwner->OC
open PyProof.Rows renaming boot_isinstance->Lp,seqObj->My,envOfC->MR,AllBare->NI,get?_update_seq->NZ,listUpdate_at->Oo,IntsAre->OA,mirror_perm->OQ,subscriptTail->O6,subscriptTail_builtinR->Ph,bubble_size->PJ,Call_->PN,Subscript_->Qg
open PySem.Obj renaming mapFields->Lu,data_mapFields->LC,isFreed_of_fields->Mi,mapSeq->Mn,cls_mapFields->NF
open PySem.Builtin.SmallTypes renaming nextOf->Lv,ownedTupleIsFree->Ma,ownedTupleHandOut->Om
open PySem.PassesOwn renaming never->LF
open PySem.Builtin.Dict renaming showsAll->LK,noArgs->On,updateFrom->Pe,pairItems->Pr
open PySem.W renaming mg_none_of->LX,kas_rev->MH,kas_tail3->M9,emptyDict->M_,kas_desc->Nc,Frag->Nq,callWith_K->Nx,methodCall_KW->NK,kas_descPart->NT,instObj->NU,findIn->Oc,kas_place->Oh,looks_findIn->Oy,specialIn->OI,keepIn->OK,plainGet_of->OO,Looks->OT,kas_bin->OY,plainGet->O0,methodObj->O8,kas_count->O_,codeIn->Pn,looks_mroIn->PB,kas_sort->PD,tailIn->P7,kdl_slot_keys_iter->Qa,check_slot->Qd,KasT->Qh,findObj->Qn,kitOne->SQ,nsIn->SR,exmOne->SS,makesIn->ST,mg_of->SU,fnOf->SV,mroIn->SW,takerIn->SX,hasDictIn->SY,typeIn->SZ,takesIn->S0,lookIn->S1,clsIn->S2,InstAt->S3,isFn->S4
open PySem.Calls renaming spliced_cons->LZ,callWith_builtin->L8,spliced_nil->Mm,Name_function_global->O2,evalArgs_plain->PM
open PySem.Builtin.Str renaming strSliceIndices->L9
open PySem.F renaming slot_dict_valueiterator_next->Mr,slot_dict_itemiterator_next->Mx,slot_dict_keyiterator_next->MD,slot_zip_next->N0,args_dict_valueiterator_next_1->OB,entry_dict_valueiterator_next->OF,args_dict_itemiterator_next_1->OG,entry_dict_itemiterator_next->OL,args_dict_keyiterator_next_1->OM,slot_dict_itemiterator_iter->OU,entry_dict_keyiterator_next->OV,slot_dict_values_iter->Pd,slot_dict_items_iter->Po,args_zip_next_1->Qq
open PySem.Builtin.Slice renaming slicePlaces->MQ,sliceAdjust->Nz,sliceApplied->O3
open PySem.Heap.SameBut renaming update->MS,refl->NH
open PySem.Paired renaming length->MY,snoc->OS
open PySem.Builtin.Tuple renaming tupleExact->M0
open PySem.Shared renaming TypeIs->Op
open PySem.Code renaming isFrame->Pq,quiet_builtin->Qi
open PySem.Around renaming under->Ps,under_plainId->PP
open PySem.EntryCells renaming newEntry->PX
open PySem.Heap.Ns1 renaming of_empty->Qp
noncomputable section
open List (mem_filter mem_range mem_append mem_map nodup_append mem_singleton)
open Nat (le_trans le_of_lt lt_irrefl le_refl not_lt)
abbrev Aa0:List PySem.Str:=["name","time","anchor","names"]
abbrev Ab0:List PySem.Str:=["old","strokes","standing","row","working","brought","struck","taken","worn","sitting","name","seats"]
abbrev Ac0:List PySem.Str:=["_law_script","_law_cell","_law_many","_law_margin","_law_counts","_law_depths","_law_k","_law_at","_law_found","_law_one","_law_pen","_law_name_here","_law_far"]
abbrev Ad0:List PySem.Str:=["name","time","anchor","names","signs"]
abbrev Ae0:List PySem.Str:=["name","time","anchor","names","word"]
abbrev Af0:List PySem.Str:=["name","words","depth","answers","names"]
abbrev Ag0:List PySem.Str:=["strokes","standing","in_row","stands","chosen"]
abbrev Ah0:List PySem.Str:=["name","words","depth","answers"]
abbrev Ai0:List PySem.Str:=["_law_margin","_law_depths","_law_counts","_law_pen","_law_name_here","_law_words","_law_due","_law_found","_law_told"]
abbrev Aj0:List PySem.Str:=["self","pen","at","to","words","view","laid"]
abbrev Ak0:List PySem.Str:=["_law_depths","_law_number","_law_most","_law_some"]
abbrev Al0:List PySem.Str:=["old","strokes","standing","row","working","brought","struck","taken","worn","sitting","-name","seats"]
abbrev Am0:List PySem.Str:=["old","strokes","standing"]
abbrev An0:List PySem.Str:=["old","strokes","following","stroke"]
abbrev Ao0:List PySem.Str:=["self","pen","note","words","answered","given"]
abbrev Ap0:List PySem.Str:=["_law_depths","_law_counts","_law_cell","_law_way","_law_names"]
abbrev Aq0:List PySem.Str:=["self"]
abbrev Ar0:List PySem.Str:=["_law_margin","_law_pen","_law_name_here","_law_words","e"]
abbrev As0:List PySem.Str:=["_law_name_here","_law_numbers","_law_words","_law_rows"]
abbrev At0:List PySem.Str:=["_law_name_here","_law_words","_law_answers_here"]
abbrev Au0:List PySem.Str:=["old","strokes","brought","stroke","name","sign"]
abbrev Av0:List PySem.Str:=["_law_margin","_law_pen","_law_at","_law_to","e"]
abbrev Aw0:List PySem.Str:=["name","how_many"]
abbrev Ax0:List PySem.Str:=["self","name","words","depth"]
abbrev Ay0:List PySem.Str:=["self","name","words","names"]
abbrev Az0:List PySem.Str:=["following","anchor","slots","behind","slot"]
abbrev AA0:List PySem.Str:=["self","view","noted"]
abbrev AB0:List PySem.Str:=["strokes","taken","stroke","name","slot"]
abbrev AC0:List PySem.Str:=["at","to","length"]
abbrev AD0:List PySem.Str:=["_law_cell","_law_place","_law_number"]
abbrev AE0:List PySem.Str:=["_law_rows"]
abbrev AF0:List PySem.Str:=["_law_margin"]
abbrev AG0:List PySem.Str:=["self","view"]
abbrev AH0:List PySem.Str:=["name","time","anchor"]
abbrev AI0:List PySem.Str:=["name","words","depth"]
abbrev AJ0:List PySem.Str:=["strokes","struck","stroke","name"]
abbrev AK0:List PySem.Str:=["old","drawn","states"]
abbrev AL0:List PySem.Str:=["row"]
abbrev AP0:List PySem.Str:=["self","name"]
local macro_rules | `(tactic| walk_at "j") => `(tactic| exact ⟨rfl, rfl, rfl, by decide +kernel, rfl, by decide +kernel, by decide +kernel⟩)
local macro_rules | `(tactic| walk_at "o") => `(tactic| first | assumption | exact le_trans (by decide) $(Lean.mkIdent `hs) | exact le_of_lt (by assumption) | exact le_trans (by assumption) (by assumption) | exact K7 (by assumption) (by assumption) | exact Nat.lt_of_le_of_lt (by assumption) (by assumption) | exact le_trans (by assumption) (le_trans (by decide) $(Lean.mkIdent `hs)) | lia | omega)
namespace L2
open PySem PySem.Spec PyProof.Rows
abbrev ar:=Sum Int Str
def sh:ar->KC->Bool
 | .inl k,v=>Value.isInt k v
 | .inr x,v=>Value.isStrOf x v
def JB(w:K2):ar->Int
 | .inl k=>hashInt k
 | .inr x=>hashStr w x
theorem bX:∀ {k:ar} {v:KC},sh k v=true->(∃ i t,k=Sum.inl i/\v=Value.int i t)\/(∃ x t,k=Sum.inr x/\v=Value.str x t)
 | .inl i,v,h=>by
  obtain⟨t,e⟩:=Value.isInt_shape (k:=i) (v:=v) h;exact .inl ⟨i,t,rfl,e⟩
 | .inr x,v,h=>by
  obtain⟨t,e⟩:=Value.isStrOf_shape (x:=x) (v:=v) h;exact .inr ⟨x,t,rfl,e⟩
theorem Ai(i:Int)(t:Tok):sh (.inl i) (.int i t)=true:=by simp[sh,Value.isInt]
theorem Ah(x:Str)(t:Tok):sh (.inr x) (.str x t)=true:=by simp[sh,Value.isStrOf]
theorem F_(a b:Int):decide ((Sum.inl a:ar)=Sum.inl b)=(a == b):=by
 by_cases e:a=b
 ·subst e;simp
 ·have h:¬ (Sum.inl a:ar)=Sum.inl b:=fun q=>e (Sum.inl.inj q);rw[decide_eq_false h];exact (beq_eq_false_iff_ne.mpr e).symm
theorem F7(a b:Str):decide ((Sum.inr a:ar)=Sum.inr b)=decide (a=b):=by
 by_cases e:a=b
 ·subst e;simp
 ·have h:¬ (Sum.inr a:ar)=Sum.inr b:=fun q=>e (Sum.inr.inj q);rw[decide_eq_false h,decide_eq_false e]
theorem F9(a:Int)(b:Str):decide ((Sum.inl a:ar)=Sum.inr b)=false:=decide_eq_false (fun q=>nomatch q)
theorem F8(a:Str)(b:Int):decide ((Sum.inr a:ar)=Sum.inl b)=false:=decide_eq_false (fun q=>nomatch q)
def aK(prog:KQ)(w:K2):PySem.KeyKind prog w ar where
 is:=sh
 hash:=JB w
 inj:=fun v a b ha hb=>by
  rcases bX ha with ⟨i,t,rfl,rfl⟩|⟨x,t,rfl,rfl⟩
  ·rcases bX hb with ⟨j,u,rfl,e⟩|⟨y,u,rfl,e⟩
   ·injection e with e1 _;rw[e1]
   ·exact nomatch e
  ·rcases bX hb with ⟨j,u,rfl,e⟩|⟨y,u,rfl,e⟩
   ·exact nomatch e
   ·injection e with e1 _;rw[e1]
 byValue:=fun k v h=>by
  rcases bX h with ⟨i,t,rfl,rfl⟩|⟨x,t,rfl,rfl⟩<;>rfl
 pyHash:=fun hv h=>by
  rcases bX hv with ⟨i,t,rfl,rfl⟩|⟨x,t,rfl,rfl⟩
  ·exact wpAny_pyHash_int h
  ·exact wpAny_pyHash_str h
 eqBool:=fun hu hv h=>by
  rcases bX hu with ⟨i,t,rfl,rfl⟩|⟨x,t,rfl,rfl⟩
  ·rcases bX hv with ⟨j,u,rfl,rfl⟩|⟨y,u,rfl,rfl⟩
   ·rw[F_]at h;exact wpAny_eqBool_int h
   ·rw[F9]at h;exact SeqAt.EqAt.int_str i t y u _ _ _ _ h
  ·rcases bX hv with ⟨j,u,rfl,rfl⟩|⟨y,u,rfl,rfl⟩
   ·rw[F8]at h;exact SeqAt.EqAt.str_int x t j u _ _ _ _ h
   ·rw[F7]at h;exact wpAny_eqBool_str h
 «strs»:=fun k x t v h=>by
  rcases bX h with ⟨i,u,rfl,e⟩|⟨y,u,rfl,e⟩
  ·exact nomatch e
  ·injection e with e1 _
   subst e1;cases v<;>rfl
theorem vG(prog:KQ)(w:K2)(i:Int)(t:Tok):(aK prog w).is (.inl i) (.int i t)=true:=Ai i t
theorem vF(prog:KQ)(w:K2)(x:Str)(t:Tok):(aK prog w).is (.inr x) (.str x t)=true:=Ah x t
inductive V where
 | non|bl (b:Bool)|int (i:Int)|str (x:Str)|byt (b:Array UInt8)|flt (b:UInt64)|ref (a:KE)|ty (n:String)
def RelV:V->KC->Prop
 | .non,u=>u=Value.none
 | .bl b,u=>u=Value.bool b
 | .int i,u=>∃ t,u=Value.int i t
 | .str x,u=>∃ t,u=Value.str x t
 | .byt b,u=>∃ t,u=Value.bytes b t
 | .flt b,u=>∃ t,u=Value.float b t
 | .ref a,u=>u=Value.ref a
 | .ty n,u=>u=Value.type n
abbrev Vals:List V->List KC->Prop:=Nr RelV
theorem Vals.length{xs:List V}{us:List KC}(r:Vals xs us):xs.length=us.length:=MY r
theorem Vals.get:∀ {xs:List V} {us:List KC} {i:Nat} {x:V},Vals xs us->xs[i]?=some x->∃ u,us[i]?=some u/\RelV x u
 | _,_,_,_,.nil,e=>by simp at e
 | _,_,0,_,.cons r _,e=>by simp at e;subst e;exact⟨_,rfl,r⟩
 | _,_,i+1,x,.cons _ t,e=>by
  obtain⟨u,h1,h2⟩:=Vals.get (i:=i) (x:=x) t (by simpa using e)
  exact⟨u,by simpa using h1,h2⟩
theorem Vals.set{x:V}{u:KC}(r:RelV x u):∀ {xs:List V} {us:List KC} (i:Nat),Vals xs us->Vals (xs.set i x) (us.set i u)
 | _,_,_,.nil=>.nil
 | _,_,0,.cons _ t=>.cons r t
 | _,_,i+1,.cons q t=>.cons q (Vals.set r i t)
theorem Vals.append:∀ {xs ys:List V} {us ws:List KC},Vals xs us->Vals ys ws->Vals (xs ++ ys) (us ++ ws)
 | _,_,_,_,.nil,s=>s
 | _,_,_,_,.cons r t,s=>.cons r (Vals.append t s)
theorem Vals.take:∀ {xs:List V} {us:List KC} (n:Nat),Vals xs us->Vals (xs.take n) (us.take n)
 | _,_,0,_=>.nil
 | _,_,_+1,.nil=>.nil
 | _,_,n+1,.cons r t=>.cons r (Vals.take n t)
theorem Vals.drop:∀ {xs:List V} {us:List KC} (n:Nat),Vals xs us->Vals (xs.drop n) (us.drop n)
 | _,_,0,r=>r
 | _,_,_+1,.nil=>.nil
 | _,_,n+1,.cons _ t=>Vals.drop n t
theorem Vals.none_of:∀ {xs:List V} {us:List KC} {i:Nat},Vals xs us->xs[i]?=none->us[i]?=none:=fun {xs us i} r e=>by
 have h1:=r.length;have h2:xs.length<=i:=List.getElem?_eq_none_iff.mp e;exact List.getElem?_eq_none_iff.mpr (by walk_at "o")
def iG:Option V->Option KC->Prop
 | some v,some u=>RelV v u
 | none,none=>True
 | _,_=>False
def KV{κ:Type}:List (κ×V)->List (κ×KC)->Prop:=Nr fun (p:κ×V) (q:κ×KC)=>p.1=q.1/\RelV p.2 q.2
def kV:ar->V
 | .inl i=>.int i
 | .inr x=>.str x
inductive HO where
 | lst (xs:List V)
 | tup (xs:List V)
 | dK (kvs:List (ar×V))|dT (kvs:List (List ar×V))
 | set (S:Int->Bool) (n:Nat)
 | ins (C dx:KE) (fs:List (Str×V))
 | own (x:KE)
 | xd (fs:List (Str×V))
 | met (f x:KE)
 | rng (lo hi:Int)
 | frz (o:Obj) (u:HO)
 | tbl (ps:Array KC)
 | ext (φ:K1->Prop)
abbrev Hp:=KE->Option HO
def aI(H:Hp)(a:KE)(o:HO):Hp:=fun b=>if b=a then some o else H b
theorem ay{H:Hp}{a:KE}{o:HO}:aI H a o a=some o:=by unfold aI;rw[if_pos rfl]
theorem aj{H:Hp}{a b:KE}{o:HO}(h:b≠a):aI H a o b=H b:=by unfold aI;rw[if_neg h]
theorem Dk{H:Hp}{a:KE}{o u:HO}:aI (aI H a o) a u=aI H a u:=by
 funext b;unfold aI;split<;>rfl
theorem HH{H:Hp}{a b:KE}{o u:HO}(h:H a=some o)(h':H b=some u)(d:o≠u):a≠b:=by
 intro e;subst e;rw[h]at h';exact d (Option.some.inj h')
theorem bf{H:Hp}{a b:KE}{o:HO}(h:H a=some o)(h':H b=none):a≠b:=by
 intro e;subst e;rw[h]at h';cases h'
section
variable(P:KQ)(w:K2)
def oA(h:K1)(a:KE)(items:Array KC):Prop:=∃ o,h.get? a=some o/\(o.cls=.type "tuple"/\o.dict=none)/\∃ n,o.data=.seq items n
def ba(H:Hp)(h:K1)(a:KE):HO->Prop
 | .lst xs=>xs.length<=KM/\∃ (its:List KC) (n:Nat),Vals xs its/\h.get? a=some { cls:=.type "list",data:=.seq its.toArray n }
 | .tup xs=>xs.length<=KM/\∃ its:List KC,Vals xs its/\oA h a its.toArray
 | .dK kvs=>kvs.length<=KM/\(a == Lw)=false/\∃ vs,KV kvs vs/\h.DictOf (aK P w) a vs
 | .dT kvs=>kvs.length<=KM/\(a == Lw)=false/\∃ xs:List (List ar×KE×KC),
   Nr (fun (p:List ar×V) (q:List ar×KE×KC)=>p.1=q.1/\H q.2.1=some (.tup (p.1.map kV))/\RelV p.2 q.2.2) kvs xs/\
   ∃ o es ep,h.get? a=some o/\o.ExactDict/\o.data=.dict es ep/\es.toList=xs.map (entryOfKey (LW (aK P w)))/\(xs.map (·.1)).Nodup
 | .set S n=>h.SetOf (intKind P w) a S n
 | .ins C dx fs=>H dx=some (.own a)/\fs.length<=1000/\dx≠a/\h.get? a=some (NU C dx)/\
   ∃ mA,h.Ns1 dx mA/\(∀ f,iG (fs.lookup f) (mA f))/\PySem.Within mA (fs.map (·.1))
 | .own _=>∃ o,h.get? a=some o
 | .xd fs=>∃ mA,h.Ns1 a mA/\∀ f,iG (fs.lookup f) (mA f)
 | .rng lo hi=>∃ t u v,h.get? a=some { cls:=.type "range",data:=.fields #[.int lo t,.int hi u,.int 1 v] }
 | .frz o u=>h.get? a=some o/\ba H h a u
 | .tbl ps=>h.get? a=some { cls:=.none,data:=.fields ps }
 | .met f x=>h.get? a=some (O8 (.ref f) (.ref x))
 | .ext φ=>φ h/\(∃ o,h.get? a=some o)/\∀ h1 h2:K1,φ h1->(∀ o,h1.get? a=some o->h2.get? a=some o)->φ h2
theorem oA.new(h:K1)(items:Array KC):oA (h.push { cls:=.type "tuple",data:=.seq items }) h.objs.size items:=⟨_,KJ _ rfl,⟨rfl,rfl⟩,_,rfl⟩
theorem oA.tup{h:K1}{a:KE}{items:Array KC}(x:oA h a items):IsTup h a items:=let ⟨o,e,c,d⟩:=x;⟨o,e,c.1,d⟩
def iH(H:Hp)(h:K1):Prop:=∀ a o,H a=some o->ba P w H h a o
end
section
variable{P:KQ}{w:K2}{H H':Hp}{h h':K1}{a:KE}{o:HO}
theorem ba.lt(x:ba P w H h a o):a < h.objs.size:=by
 cases o with
 | lst xs=>obtain⟨_,_,_,_,e⟩:=x;exact KN e
 | tup xs=>obtain⟨_,_,_,p⟩:=x;exact p.tup.lt
 | dK kvs=>obtain⟨_,_,_,_,o,_,_,e,_⟩:=x;exact KN e
 | dT kvs=>obtain⟨_,_,_,_,o,_,_,e,_⟩:=x;exact KN e
 | set S n=>obtain⟨o,_,_,_,e,_⟩:=x;exact KN e
 | ins C dx fs=>obtain⟨_,_,_,e,_⟩:=x;exact KN e
 | own y=>obtain⟨_,e⟩:=x;exact KN e
 | xd fs=>obtain⟨_,⟨_,_,_,e,_⟩,_⟩:=x;exact KN e
 | rng lo hi=>obtain⟨_,_,_,e⟩:=x;exact KN e
 | frz ob u=>obtain⟨e,_⟩:=x;exact KN e
 | tbl ps=>exact KN (show h.get? a=some _ from x)
 | met f y=>exact KN (show h.get? a=some _ from x)
 | ext φ=>obtain⟨_,⟨_,e⟩,_⟩:=x;exact KN e
theorem Paired.mapP{α β:Type}{F G:α->β->Prop}:∀ {l₁:List α} {l₂:List β},Nr F l₁ l₂->(∀ a b,F a b->G a b)->Nr G l₁ l₂
 | _,_,.nil,_=>.nil
 | _,_,.cons r t,f=>.cons (f _ _ r) (Paired.mapP t f)
theorem ba.stay(x:ba P w H h a o)(k:∀ b u,(b=a\/H b=some (.own a))->h.get? b=some u->h'.get? b=some u)
  (ho:∀ b,H b=some (.own a)->H' b=some (.own a)) (ht:∀ b xs,H b=some (.tup xs)->H' b=some (.tup xs)):ba P w H' h' a o:=by
 induction o with
 | lst xs=>obtain⟨z,its,n,r,e⟩:=x;exact⟨z,its,n,r,k _ _ (.inl rfl) e⟩
 | tup xs=>obtain⟨z,its,r,ob,e,c⟩:=x;exact⟨z,its,r,ob,k _ _ (.inl rfl) e,c⟩
 | dK kvs=>obtain⟨z,y,vs,r,ob,es,ep,e,c⟩:=x;exact⟨z,y,vs,r,ob,es,ep,k _ _ (.inl rfl) e,c⟩
 | dT kvs=>
  obtain⟨z,y,xs,r,ob,es,ep,e,c⟩:=x;exact⟨z,y,xs,Paired.mapP r fun p q z=>⟨z.1,ht _ _ z.2.1,z.2.2⟩,ob,es,ep,k _ _ (.inl rfl) e,c⟩
 | set S n=>obtain⟨ob,es,ep,t,e,c⟩:=x;exact⟨ob,es,ep,t,k _ _ (.inl rfl) e,c⟩
 | ins C dx fs=>
  obtain⟨d,z,ne,e,mA,⟨od,es,ep,e2,c⟩,r⟩:=x;exact⟨ho _ d,z,ne,k _ _ (.inl rfl) e,mA,⟨od,es,ep,k _ _ (.inr d) e2,c⟩,r⟩
 | own y=>obtain⟨ob,e⟩:=x;exact⟨ob,k _ _ (.inl rfl) e⟩
 | xd fs=>obtain⟨mA,⟨od,es,ep,e,c⟩,r⟩:=x;exact⟨mA,⟨od,es,ep,k _ _ (.inl rfl) e,c⟩,r⟩
 | rng lo hi=>obtain⟨t,u,v,e⟩:=x;exact⟨t,u,v,k _ _ (.inl rfl) e⟩
 | frz ob u ih=>obtain⟨e,q⟩:=x;exact⟨k _ _ (.inl rfl) e,ih q⟩
 | tbl ps=>
  have e:h.get? a=some { cls:=.none,data:=.fields ps }:=x;show h'.get? a=some { cls:=.none,data:=.fields ps }
  exact k a _ (.inl rfl) e
 | met f y=>
  have e:h.get? a=some (O8 (.ref f) (.ref y)):=x;show h'.get? a=some (O8 (.ref f) (.ref y))
  exact k a _ (.inl rfl) e
 | ext φ=>obtain⟨p,⟨o,e⟩,st⟩:=x;exact⟨st _ _ p fun o q=>k _ _ (.inl rfl) q,⟨o,k _ _ (.inl rfl) e⟩,st⟩
theorem iH.lt(x:iH P w H h)(e:H a=some o):a < h.objs.size:=(x a o e).lt
theorem iH.fresh(x:iH P w H h)(e:h.objs.size<=a):H a=none:=by
 cases q:H a with
 | none=>rfl
 | some u=>exact absurd (K7 (x.lt q) e) (lt_irrefl _)
theorem iH.kept(x:iH P w H h)(k:∀ b u,h.get? b=some u->h'.get? b=some u):iH P w H h':=fun a o e=>
 (x a o e).stay (fun b u _ q=>k b u q) (fun _ q=>q) fun _ _ q=>q
theorem iH.laid(x:iH P w H h)(k:∀ b u,h.get? b=some u->h'.get? b=some u)(hp:h.objs.size<=a)(new:ba P w (aI H a o) h' a o):iH P w (aI H a o) h':=fun b u e=>by
 have hn:=x.fresh hp
 by_cases hb:b=a
 ·subst hb;rw[ay]at e;cases e;exact new
 ·rw[aj hb]at e;exact (x b u e).stay (fun c v _ q=>k c v q) (fun c q=>by rw[aj (bf q hn)];exact q) fun c xs q=>by rw[aj (bf q hn)];exact q
end
def Rd(H:Hp)(a:KE)(u:HO):Prop:=H a=some u\/∃ o,H a=some (.frz o u)
theorem Rd.of{H:Hp}{a:KE}{u:HO}(h:H a=some u):Rd H a u:=.inl h
theorem Rd.ok{P:KQ}{w:K2}{H:Hp}{h:K1}{a:KE}{u:HO}(r:Rd H a u)(x:iH P w H h):ba P w H h a u:=by
 rcases r with r|⟨o,r⟩
 ·exact x a u r
 ·obtain⟨_,q⟩:=x a _ r;exact q
def CV:Option HO->Prop
 | some (.lst _)=>True
 | some (.dK _)=>True
 | some (.dT _)=>True
 | some (.set _ _)=>True
 | some (.ins _ _ _)=>True
 | some (.ext _)=>True
 | _=>False
section
variable{P:KQ}{w:K2}{H:Hp}{h h':K1}{x e:KE}{o':HO}
theorem iH.write(ok:iH P w H h)(mu:CV (H x))(he:e=x\/H e=some (.own x))(k:∀ b u,b≠e->h.get? b=some u->h'.get? b=some u)(heo:∃ u,h'.get? e=some u)
  (new:ba P w (aI H x o') h' x o'):iH P w (aI H x o') h':=fun b u q=>by
 have Sr:∀ c y,H c=some (.own y)->c≠x:=fun c y r z=>by subst z;rw[r]at mu;exact mu
 have SD:∀ c xs,H c=some (.tup xs)->c≠x:=fun c xs r z=>by subst z;rw[r]at mu;exact mu
 by_cases hb:b=x
 ·subst hb;rw[ay]at q;cases q;exact new
 ·rw[aj hb]at q
  by_cases hbe:b=e
  ·have q':H b=some (.own x):=by
    rcases he with z|z
    ·exact absurd (hbe.trans z) hb
    ·rw[hbe];exact z
   rw[q]at q';cases q';obtain⟨v,hv⟩:=heo;exact⟨v,by rw[hbe];exact hv⟩
  ·refine (ok b u q).stay (fun c v hc r=>k c v ?_ r) (fun c r=>by rw[aj (Sr c b r)];exact r) fun c xs r=>by rw[aj (SD c xs r)];exact r
   rcases hc with rfl|hc
   ·exact hbe
   ·rintro rfl
    rcases he with z|z
    ·exact Sr c b hc z
    ·rw[hc]at z;cases z;exact hb rfl
end
structure Un(fs ex:List KE)(H H':Hp)(h h':K1):Prop where
 keep:∀ b o,h.get? b=some o->H b=none->b∉fs->b∉ex->h'.get? b=some o
 slot:∀ b o,h.get? b=some o->H b=none->b∈fs->b∉ex->∃ sl,h'.get? b=some { o with slots:=sl }
 free:∀ b o,h.get? b=some o->H b=none->b∉ex->H' b=none
 there:∀ b o,h.get? b=some o->b∉ex->∃ o',h'.get? b=some o'
 tups:∀ b xs,H b=some (.tup xs)->H' b=some (.tup xs)
 frzs:∀ b o u,H b=some (.frz o u)->H' b=some (.frz o u)
 tbls:∀ b ps,H b=some (.tbl ps)->∃ more,H' b=some (.tbl (ps ++ more))
section
variable{fs fs' ex ex':List KE}{H H1 H2:Hp}{h h1 h2 h':K1}{a x e:KE}{o:HO}
theorem Un.any(u:Un fs ex H H1 h h1){b:KE}{ob:Obj}(q:h.get? b=some ob)(n:H b=none)(hx:b∉ex):∃ sl,h1.get? b=some { ob with slots:=sl }:=by
 by_cases hb:b∈fs
 ·exact u.slot b ob q n hb hx
 ·exact⟨ob.slots,u.keep b ob q n hb hx⟩
theorem Un.trans(a:Un fs ex H H1 h h1)(b:Un fs ex H1 H2 h1 h2):Un fs ex H H2 h h2 where
 keep:=fun c ob q n hc hx=>b.keep c ob (a.keep c ob q n hc hx) (a.free c ob q n hx) hc hx
 slot:=fun c ob q n hc hx=>by
  obtain⟨sl,e1⟩:=a.slot c ob q n hc hx;obtain⟨sl',e2⟩:=b.slot c _ e1 (a.free c ob q n hx) hc hx;exact⟨sl',e2⟩
 free:=fun c ob q n hx=>by
  obtain⟨o',e1⟩:=a.there c ob q hx;exact b.free c o' e1 (a.free c ob q n hx) hx
 there:=fun c ob q hx=>by
  obtain⟨o',e1⟩:=a.there c ob q hx;exact b.there c o' e1 hx
 tups:=fun c xs q=>b.tups c xs (a.tups c xs q)
 frzs:=fun c ob xs q=>b.frzs c ob xs (a.frzs c ob xs q)
 tbls:=fun c ps q=>by
  obtain⟨m1,e1⟩:=a.tbls c ps q;obtain⟨m2,e2⟩:=b.tbls c _ e1;exact⟨m1 ++ m2,by rw[e2,Array.append_assoc]⟩
theorem Un.kept(k:∀ b u,h.get? b=some u->h'.get? b=some u):Un fs ex H H h h':=
 ⟨fun b ob q _ _ _=>k b ob q,fun b ob q _ _ _=>⟨ob.slots,k b ob q⟩,fun _ _ _ n _=>n,fun b ob q _=>⟨ob,k b ob q⟩,fun _ _ q=>q,fun _ _ _ q=>q,fun _ ps q=>⟨#[],by rw[q];simp⟩⟩
theorem Un.refl:Un fs ex H H h h:=Un.kept fun _ _ q=>q
theorem Un.laid(k:∀ b u,h.get? b=some u->h'.get? b=some u)(hp:h.objs.size<=a)(hn:H a=none):Un fs ex H (aI H a o) h h' where
 keep:=fun b u q _ _ _=>k b u q
 slot:=fun b u q _ _ _=>⟨u.slots,k b u q⟩
 free:=fun b u q n _=>by rw[aj (K_ (K7 (KN q) hp))];exact n
 there:=fun b u q _=>⟨u,k b u q⟩
 tups:=fun b xs q=>by rw[aj (bf q hn)];exact q
 frzs:=fun b u xs q=>by rw[aj (bf q hn)];exact q
 tbls:=fun b ps q=>⟨#[],by rw[aj (bf q hn),q];simp⟩
theorem Un.write(mu:CV (H x))(he:e=x\/H e=some (.own x))(k:∀ b u,b≠e->h.get? b=some u->h'.get? b=some u)(heo:∃ u,h'.get? e=some u):Un fs ex H (aI H x o) h h':=by
 have hx:∀ b,H b=none->b≠x:=fun b n z=>by subst z;rw[n]at mu;exact mu
 have hb:∀ b,H b=none->b≠e:=fun b n z=>by
  subst z;rcases he with r|r
  ·exact hx b n r
  ·rw[n]at r;cases r
 have hm:∀ b u,H b=some u->¬ CV (some u)->b≠x:=fun b u q nm z=>by subst z;rw[q]at mu;exact nm mu
 refine⟨fun b u q n _ _=>k b u (hb b n) q,fun b u q n _ _=>⟨u.slots,k b u (hb b n) q⟩,fun b u q n _=>by rw[aj (hx b n)];exact n,fun b u q _=>?_,
  fun b xs q=>by rw[aj (hm b _ q fun z=>z)];exact q,fun b u xs q=>by rw[aj (hm b _ q fun z=>z)];exact q,fun b ps q=>⟨#[],by rw[aj (hm b _ q fun z=>z),q];simp⟩⟩
 by_cases hbe:b=e
 ·subst hbe;exact heo
 ·exact⟨u,k b u hbe q⟩
theorem Un.mono(u:Un fs ex H H1 h h1)(hs:∀ b∈fs,b∈fs')(hx:∀ b∈ex,b∈ex'):Un fs' ex' H H1 h h1:=
 ⟨fun b ob q n hb he=>u.keep b ob q n (fun z=>hb (hs b z)) fun z=>he (hx b z),fun _ _ q n _ he=>u.any q n fun z=>he (hx _ z),fun b ob q n he=>u.free b ob q n fun z=>he (hx b z),fun b ob q he=>u.there b ob q fun z=>he (hx b z),u.tups,u.frzs,u.tbls⟩
end
def IP(h:K1)(H:Hp):List KE:=(List.range h.objs.size).filter fun a=>(H a).isSome
def ub(h:K1)(H:Hp):K1:=PySem.W.hideAll h (IP h H)
theorem Am(h:K1)(H:Hp):(ub h H).objs.size=h.objs.size:=PySem.W.hideAll_size _ _
theorem Cj{h:K1}{H:Hp}{b:KE}{o:Obj}(e:h.get? b=some o)(n:H b=none):(ub h H).get? b=some o:=
 PySem.W.hideAll_get _ e fun hm=>by
  have q:(H b).isSome=true:=(mem_filter.mp hm).2;rw[n]at q;simp at q
theorem D7{h:K1}{H:Hp}{b:KE}{o:Obj}(e:(ub h H).get? b=some o):h.get? b=some o/\H b=none:=by
 have e':h.get? b=some o:=PySem.W.of_hideAll (IP h H) e;refine⟨e',?_⟩;cases q:H b with
 | none=>rfl
 | some x=>
  have hm:b∈IP h H:=mem_filter.mpr ⟨mem_range.mpr (KN e'),by simp[q]⟩
  have z:(ub h H).get? b=none:=PySem.W.hideAll_none (IP h H) hm;rw[z]at e;cases e
def EE(g h:K1)(L:KE):List (KE×Obj):=(List.range h.objs.size).filterMap fun a=>if a=L\/(g.get? a).isSome=true then none else (h.get? a).map fun o=>(a,o)
def bP(g h:K1)(L d:KE):List (KE×Obj):=(EE g h L).filter fun p=>decide (p.1≠d)
structure Mod(K:Nq)(mg:Str->Option KC)(base:K1):Prop where
 kin:K.In base
 glob:base.Ns KR mg
 blt:∃ mb,base.Ns Qf mb/\∀ x:Str,x≠"__name__"->mb x=LM x
 nolimit:base.NoLimit
structure Cx where
 prog:KQ
 w:K2
 K:Nq
 mg:Str->Option KC
 base:K1
 A:KY
 N:List Str
 s₀:KF
 H₀:Hp
 env:Env
 outer:List Env
 stack:List Env
 ex:List KE
 fn:Str->Bool
 calm:Bool
 pn:List (KE×Obj)
 xe:KC->KF->Prop
def ue(l:List Env):List KE:=l.filterMap (·.frame)
abbrev Cx.fs(X:Cx):List KE:=ue X.outer
def E_(sc:MX)(x:Str):Prop:=sc.names.lookup x=some .local\/sc.names.lookup x=some .cell\/sc.names.lookup x=some .free
def GF(sc:MX)(x:Str):Prop:=sc.names.lookup x=some .local\/sc.names.lookup x=some .cell
def JX(env:Env)(h:K1)(m:Str->Option KC)(x:Str)(u:KC):Prop:=
 (env.kindOf x=some .local/\m x=some u)\/((env.kindOf x=some .cell\/env.kindOf x=some .free)/\∃ c,env.cells.lookup x=some c/\h.IsCell c (some u))
structure Cx.Ok(X:Cx):Prop where
 mod:Mod X.K X.mg X.base
 kind:X.env.scope.kind=.function
 glob:X.env.globals=KR
 blt:X.env.builtins=Qf
 above:X.s₀.heap.objs.size<=X.env.locals
 inj:∀ x y c,X.env.cells.lookup x=some c->X.env.cells.lookup y=some c->x=y
 has:∀ x,(X.env.kindOf x=some .cell\/X.env.kindOf x=some .free)->∃ c,X.env.cells.lookup x=some c
 cab:∀ x c,X.fn x=true->X.env.cells.lookup x=some c->X.s₀.heap.objs.size<=c
 hd:X.calm=true->X.A.handled=none
 frames:X.A.frames=some X.stack
 stk:X.stack=X.outer\/(X.stack=X.env::X.outer/\X.env.frame=some X.env.locals)
 exf:∀ b∈X.ex,b≠X.env.locals/\∀ x c,X.env.cells.lookup x=some c->c≠b
 bs:∀ b o,X.base.get? b=some o->X.s₀.heap.get? b=some o/\X.H₀ b=none
 bsz:X.base.objs.size<=X.s₀.heap.objs.size
 noex:∀ b o,X.base.get? b=some o->b∉X.ex
 exfs:∀ b∈X.ex,b∉X.fs
 funs:X.s₀.heap.FunFrames X.base X.outer
 frf:∀ b∈X.fs,X.H₀ b=none
structure Inv(X:Cx)(pins:List (KE×Obj))(σ:List (Option V))(H:Hp)(s:KF):Prop where
 ok:X.Ok
 os:s.os=X.s₀.os
 bare:NI s.gens
 base:Un X.fs X.ex X.H₀ H X.s₀.heap s.heap
 loc:∃ m,s.heap.Ns X.env.locals m/\∀ (i:Nat) (x:Str) (v:V),X.N[i]?=some x->σ[i]?=some (some v)->E_ X.env.scope x->∃ u,RelV v u/\JX X.env s.heap m x u
 cell:∀ x c,X.env.cells.lookup x=some c->∃ v,s.heap.IsCell c v
 free:H X.env.locals=none
 freeC:∀ x c,X.env.cells.lookup x=some c->H c=none
 pin:∀ p∈X.pn ++ pins,s.heap.get? p.1=some p.2/\H p.1=none/\p.1≠X.env.locals/\p.1∉X.fs/\∀ v,p.2.data≠.cell v
 hok:iH X.prog X.w H s.heap
 len:σ.length=X.N.length
section
variable{X:Cx}{pins:List (KE×Obj)}{σ:List (Option V)}{H H':Hp}{s:KF}{h':K1}
theorem Cx.Ok.nofr(ok:X.Ok){b:KE}{o:Obj}(e:X.base.get? b=some o):b∉X.fs:=fun hb=>by
 have:=(ok.funs.mem hb).1;rw[e]at this;cases this
theorem Inv.bs(I:Inv X pins σ H s):∀ b o,X.base.get? b=some o->s.heap.get? b=some o/\H b=none:=fun b o e=>
 ⟨I.base.keep b o (I.ok.bs b o e).1 (I.ok.bs b o e).2 (I.ok.nofr e) (I.ok.noex b o e),I.base.free b o (I.ok.bs b o e).1 (I.ok.bs b o e).2 (I.ok.noex b o e)⟩
theorem Inv.bk(I:Inv X pins σ H s):∀ b o,X.base.get? b=some o->s.heap.get? b=some o:=fun b o e=>(I.bs b o e).1
theorem Inv.mod(I:Inv X pins σ H s):Mod X.K X.mg X.base:=I.ok.mod
theorem Inv.kIn(I:Inv X pins σ H s):X.K.In s.heap:=I.ok.mod.kin.keeps I.bk
theorem Inv.nolimit(I:Inv X pins σ H s):s.heap.NoLimit:=I.ok.mod.nolimit.keeps I.bk
theorem Inv.fr(I:Inv X pins σ H s):∃ m,Fr X.base X.env.locals s.heap m:=
 let ⟨m,hn,_⟩:=I.loc
 ⟨m,hn,I.bk,le_trans I.ok.bsz I.ok.above⟩
theorem Inv.lt(I:Inv X pins σ H s):X.env.locals < s.heap.objs.size:=let ⟨_,hn,_⟩:=I.loc;hn.lt
theorem Inv.sz(I:Inv X pins σ H s):X.s₀.heap.objs.size<=s.heap.objs.size:=le_trans I.ok.above (le_of_lt I.lt)
theorem Inv.nofs(I:Inv X pins σ H s){a:KE}(h:s.heap.objs.size<=a):a∉X.fs:=fun hb=>by
 obtain⟨_,o,ho,_⟩:=I.ok.funs.mem hb;exact absurd (K7 (KN ho) (le_trans I.sz h)) (lt_irrefl _)
theorem Inv.cne(I:Inv X pins σ H s):∀ x c,X.env.cells.lookup x=some c->c≠X.env.locals:=fun x c e z=>by
 obtain⟨v,o,ho,hd⟩:=I.cell x c e;obtain⟨m,⟨o',es,ep,ho',hd',_⟩,_⟩:=I.loc;rw[z,ho']at ho;cases ho;rw[hd']at hd;cases hd
theorem Inv.funs(I:Inv X pins σ H s):s.heap.FunFrames X.base X.outer:=by
 have all:∀ (l:List Env),(∀ b∈ue l,b∈X.fs)->X.s₀.heap.FunFrames X.base l->s.heap.FunFrames X.base l:=by
  intro l
  induction l with
  | nil=>intro _ _;trivial
  | cons env r ih=>
   intro hs hl;obtain⟨hk,⟨L,o,hf,hn,ho,hd⟩,hr⟩:=hl;have hL:L∈X.fs:=hs L (by unfold ue;rw[L6,hf];exact KU)
   obtain⟨sl,e⟩:=I.base.slot L o ho (I.ok.frf L hL) hL fun z=>I.ok.exfs L z hL;exact⟨hk,⟨L,_,hf,hn,e,hd⟩,ih (fun b hb=>hs b (by unfold ue;rw[L6,hf];exact KZ _ hb)) hr⟩
 exact all X.outer (fun _ hb=>hb) I.ok.funs
theorem Inv.stack(I:Inv X pins σ H s):s.heap.FunFrames X.base X.stack:=by
 rcases I.ok.stk with e|⟨e,hf⟩
 ·rw[e];exact I.funs
 ·rw[e];obtain⟨m,hn,_⟩:=I.loc;refine .cons (by rw[I.ok.kind];decide) hf hn ?_ I.funs
  exact Heap.get?_none_of_le (le_trans I.ok.bsz I.ok.above)
theorem Inv.stkSub(I:Inv X pins σ H s):∀ b∈ue X.stack,b∈X.env.locals::X.fs:=fun b hb=>by
 rcases I.ok.stk with e|⟨e,hf⟩
 ·rw[e]at hb;exact KZ _ hb
 ·rw[e]at hb;unfold ue at hb;rw[L6,hf]at hb;exact hb
theorem Inv.stkFree(I:Inv X pins σ H s):∀ b∈ue X.stack,H b=none:=fun b hb=>by
 rcases Le.mp (I.stkSub b hb)with e|hb
 ·rw[e];exact I.free
 ·obtain⟨_,o,ho,_⟩:=I.ok.funs.mem hb;exact I.base.free b o ho (I.ok.frf b hb) fun z=>I.ok.exfs b z hb
theorem Inv.step{g':Array GenState}{t':Nat}{d':Drawn}{ch:List KE}(I:Inv X pins σ H s)
  (hch:∀ b∈ch,(b∈X.ex\/X.s₀.heap.objs.size<=b)/\b≠X.env.locals/\(∀ x c,X.env.cells.lookup x=some c->c≠b)/\∀ p∈X.pn ++ pins,p.1≠b)
  (keep:∀ b o,b≠X.env.locals->b∉X.fs->b∉ch->s.heap.get? b=some o->H b=none->h'.get? b=some o)
  (slot:∀ b o,b≠X.env.locals->b∈X.fs->b∉ch->s.heap.get? b=some o->H b=none->∃ sl,h'.get? b=some { o with slots:=sl }) (free:∀ b o,b∉ch->s.heap.get? b=some o->H b=none->H' b=none)
  (there:∀ b o,b∉ch->s.heap.get? b=some o->∃ o',h'.get? b=some o')
  (tups:∀ b xs,H b=some (.tup xs)->H' b=some (.tup xs)) (frzs:∀ b o u,H b=some (.frz o u)->H' b=some (.frz o u)) (tbls:∀ b ps,H b=some (.tbl ps)->∃ more,H' b=some (.tbl (ps ++ more)))
  (ns:∀ m,s.heap.Ns X.env.locals m->h'.Ns X.env.locals m) (hok:iH X.prog X.w H' h') (hg:NI g'):
  Inv X pins σ H' { s with heap:=h',gens:=g',drawn:=d',toks:=t' }:=by
 have neL:∀ b o,X.s₀.heap.get? b=some o->b≠X.env.locals:=fun b o e=>K_ (K7 (KN e) I.ok.above);have neC:∀ b o,X.s₀.heap.get? b=some o->b∉X.ex->b∉ch:=fun b o e hx hb=>by
  rcases (hch b hb).1 with z|z
  ·exact hx z
  ·exact absurd (K7 (KN e) z) (lt_irrefl _)
 have cellK:∀ x c,X.env.cells.lookup x=some c->∀ v,s.heap.IsCell c v->h'.IsCell c v:=fun x c e v zz=>by
  obtain⟨o,ho,hd⟩:=zz;have nch:c∉ch:=fun z=>(hch c z).2.2.1 x c e rfl
  by_cases hc:c∈X.fs
  ·obtain⟨sl,q⟩:=slot c o (I.cne x c e) hc nch ho (I.freeC x c e);exact⟨_,q,hd⟩
  ·exact⟨o,keep c o (I.cne x c e) hc nch ho (I.freeC x c e),hd⟩
 refine⟨I.ok,I.os,hg,⟨fun b o e n hb hx=>?_,fun b o e n hb hx=>?_,fun b o e n hx=>?_,fun b o e hx=>?_,fun b xs e=>tups b xs (I.base.tups b xs e),fun b o xs e=>frzs b o xs (I.base.frzs b o xs e),fun b ps e=>?_⟩,?_,fun x c e=>?_,?_,fun x c e=>?_,fun p hp=>?_,hok,I.len⟩
 ·exact keep b o (neL b o e) hb (neC b o e hx) (I.base.keep b o e n hb hx) (I.base.free b o e n hx)
 ·obtain⟨sl,e1⟩:=I.base.slot b o e n hb hx;obtain⟨sl',e2⟩:=slot b _ (neL b o e) hb (neC b o e hx) e1 (I.base.free b o e n hx);exact⟨sl',e2⟩
 ·obtain⟨o',e1⟩:=I.base.there b o e hx;exact free b o' (neC b o e hx) e1 (I.base.free b o e n hx)
 ·obtain⟨o',e1⟩:=I.base.there b o e hx;exact there b o' (neC b o e hx) e1
 ·obtain⟨m1,e1⟩:=I.base.tbls b ps e;obtain⟨m2,e2⟩:=tbls b _ e1;exact⟨m1 ++ m2,by rw[e2,Array.append_assoc]⟩
 ·obtain⟨m,hn,hl⟩:=I.loc;refine⟨m,ns m hn,fun i x v e1 e2 e3=>?_⟩;obtain⟨u,r,l⟩:=hl i x v e1 e2 e3;refine⟨u,r,?_⟩;rcases l with l|⟨k,c,e,z⟩
  ·exact .inl l
  ·exact .inr ⟨k,c,e,cellK x c e _ z⟩
 ·obtain⟨v,z⟩:=I.cell x c e;exact⟨v,cellK x c e v z⟩
 ·obtain⟨m,⟨o,_,_,ho,_⟩,_⟩:=I.loc;exact free _ o (fun z=>(hch _ z).2.1 rfl) ho I.free
 ·obtain⟨v,o,ho,hd⟩:=I.cell x c e;exact free c o (fun z=>(hch c z).2.2.1 x c e rfl) ho (I.freeC x c e)
 ·obtain⟨e,n,ne,nf,d⟩:=I.pin p hp;have nch:p.1∉ch:=fun z=>(hch p.1 z).2.2.2 p hp rfl;exact⟨keep p.1 p.2 ne nf nch e n,free p.1 p.2 nch e n,ne,nf,d⟩
theorem Inv.un{t':Nat}(I:Inv X pins σ H s)(u:Un X.fs [] H H' s.heap h')(hok:iH X.prog X.w H' h'):Inv X pins σ H' { s with heap:=h',toks:=t' }:=by
 obtain⟨m,⟨o,es,ep,ho,r⟩,_⟩:=id I.loc;obtain⟨sl,hL⟩:=u.any ho I.free (by simp)
 exact I.step (g':=s.gens) (d':=s.drawn) (ch:=[]) (fun _ z=>nomatch z) (fun b o _ hb _ e n=>u.keep b o e n hb (by simp)) (fun b o _ hb _ e n=>u.slot b o e n hb (by simp)) (fun b o _ e n=>u.free b o e n (by simp)) (fun b o _ e=>u.there b o e (by simp)) u.tups u.frzs u.tbls (fun m' hm=>by
  obtain⟨o',es',ep',ho',r'⟩:=hm;rw[ho]at ho';cases ho';exact⟨_,es',ep',hL,r'⟩) hok I.bare
theorem Inv.call{g':Array GenState}{t':Nat}{d':Drawn}{ch:List KE}(I:Inv X pins σ H s)(u:Un (ue X.stack) ch H H' s.heap h')(hok:iH X.prog X.w H' h')(hg:NI g')
  (hch:∀ b∈ch,(b∈X.ex\/X.s₀.heap.objs.size<=b)/\b≠X.env.locals/\(∀ x c,X.env.cells.lookup x=some c->c≠b)/\∀ p∈X.pn ++ pins,p.1≠b):
  Inv X pins σ H' { s with heap:=h',gens:=g',drawn:=d',toks:=t' }:=by
 obtain⟨m,⟨o,es,ep,ho,r⟩,_⟩:=id I.loc;obtain⟨sl,hL⟩:=u.any ho I.free fun z=>(hch _ z).2.1 rfl;exact I.step (ch:=ch) hch (fun b o hL hb hc e n=>u.keep b o e n (fun z=>(Le.mp (I.stkSub b z)).elim hL hb) hc) (fun b o _ _ hc e n=>u.any e n hc) (fun b o hc e n=>u.free b o e n hc) (fun b o hc e=>u.there b o e hc) u.tups u.frzs u.tbls (fun m' hm=>by
  obtain⟨o',es',ep',ho',r'⟩:=hm;rw[ho]at ho';cases ho';exact⟨_,es',ep',hL,r'⟩) hok hg
theorem Inv.turned{t':Nat}{it:KE}(I:Inv X pins σ H s)(k:∀ b o,b≠it->s.heap.get? b=some o->h'.get? b=some o)(hn:H it=none)(hL:it≠X.env.locals)
  (h1:it∈X.ex\/X.s₀.heap.objs.size<=it) (h2:∀ x c,X.env.cells.lookup x=some c->c≠it) (h3:∀ p∈X.pn ++ pins,p.1≠it):Inv X pins σ H { s with heap:=h',toks:=t' }:=by
 have nit:∀ b u,H b=some u->b≠it:=fun b u e z=>by rw[z,hn]at e;cases e
 refine I.step (g':=s.gens) (d':=s.drawn) (ch:=[it]) (fun b hb=>?_) (fun b o _ _ hc e _=>k b o (fun z=>hc (by simp[z])) e) (fun b o _ _ hc e _=>⟨o.slots,k b o (fun z=>hc (by simp[z])) e⟩) (fun _ _ _ _ n=>n)
  (fun b o hc e=>⟨o,k b o (fun z=>hc (by simp[z])) e⟩) (fun _ _ e=>e) (fun _ _ _ e=>e) (fun b ps e=>⟨#[],by rw[e];simp⟩) (fun m hm=>?_) (fun b u e=>?_) I.bare
 ·have e:b=it:=by simpa using hb
  subst e;exact⟨h1,hL,h2,h3⟩
 ·obtain⟨o,es,ep,ho,r⟩:=hm;exact⟨o,es,ep,k _ o (Ne.symm hL) ho,r⟩
 ·refine (I.hok b u e).stay (fun c v hc q=>k c v ?_ q) (fun _ q=>q) fun _ _ q=>q;rcases hc with z|z
  ·rw[z];exact nit b u e
  ·exact nit c _ z
theorem Inv.tok(I:Inv X pins σ H s)(t:Nat):Inv X pins σ H { s with toks:=t }:=I.un (h':=s.heap) (t':=t) Un.refl I.hok
theorem Inv.kept{t':Nat}(I:Inv X pins σ H s)(k:∀ b u,s.heap.get? b=some u->h'.get? b=some u):Inv X pins σ H { s with heap:=h',toks:=t' }:=I.un (Un.kept k) (I.hok.kept k)
theorem Inv.laid{a:KE}{o:HO}{t':Nat}(I:Inv X pins σ H s)(k:∀ b u,s.heap.get? b=some u->h'.get? b=some u)(hp:s.heap.objs.size<=a)(new:ba X.prog X.w (aI H a o) h' a o):
  Inv X pins σ (aI H a o) { s with heap:=h',toks:=t' }:=I.un (Un.laid k hp (I.hok.fresh hp)) (I.hok.laid k hp new)
theorem Inv.write{x e:KE}{o:HO}{t':Nat}(I:Inv X pins σ H s)(mu:CV (H x))(he:e=x\/H e=some (.own x))(k:∀ b u,b≠e->s.heap.get? b=some u->h'.get? b=some u)(heo:∃ u,h'.get? e=some u)
  (new:ba X.prog X.w (aI H x o) h' x o):Inv X pins σ (aI H x o) { s with heap:=h',toks:=t' }:=I.un (Un.write mu he k heo) (I.hok.write mu he k heo new)
theorem Inv.pins_of{QA:List (KE×Obj)}(I:Inv X pins σ H s)(h:∀ p∈QA,s.heap.get? p.1=some p.2/\H p.1=none/\p.1≠X.env.locals/\p.1∉X.fs/\∀ v,p.2.data≠.cell v):Inv X QA σ H s:=
 ⟨I.ok,I.os,I.bare,I.base,I.loc,I.cell,I.free,I.freeC,fun p hp=>(mem_append.mp hp).elim (fun z=>I.pin p (List.mem_append_left _ z)) (h p),I.hok,I.len⟩
theorem pS{N:List Str}(hN:N.Nodup){i j:Nat}{x:Str}(a:N[i]?=some x)(b:N[j]?=some x):i=j:=by
 obtain⟨h1,e1⟩:=List.getElem?_eq_some_iff.mp a;obtain⟨h2,e2⟩:=List.getElem?_eq_some_iff.mp b;exact (List.getElem_inj hN).mp (e1.trans e2.symm)
theorem rR{M:PK}{A:KY}{E:KC->KF->Prop}{i:Nat}{x:Str}{v:V}{u:KC}{Q:Unit->KF->Prop}(I:Inv X pins σ H s)(hN:X.N.Nodup)(hi:X.N[i]?=some x)(hx:GF X.env.scope x)(r:RelV v u)
  (h:∀ s',Inv X pins (σ.set i (some v)) H s'->(∃ a,LS a s.heap s'.heap/\(a=X.env.locals\/X.env.cells.lookup x=some a))->Q () s') (hf:X.fn x=true\/X.env.scope.names.lookup x=some .local:=by first|exact .inl rfl|exact .inr rfl|assumption):KI M A (storeName X.env x u) Q E s:=by
 obtain⟨m,hn,hl⟩:=id I.loc;have Si:(X.env.scope.kind == .class || (X.env.scope.kind == .module && X.env.locals != X.env.globals))=false:=by rw[I.ok.kind];rfl
 have hiσ:i < σ.length:=by rw[I.len];exact (List.getElem?_eq_some_iff.mp hi).1
 have cne:=I.cne;have tracked:∀ {a:KE} {h':K1},(∃ o,s.heap.get? a=some o/\H a=none)->LS a s.heap h'->iH X.prog X.w H h':=fun {a h'} ha hs b ob e=>by
  obtain⟨_,_,QD⟩:=ha;refine (I.hok b ob e).stay (fun c w' hc q=>(hs.2 c ?_).trans q) (fun _ q=>q) fun _ _ q=>q
  rintro rfl
  rcases hc with rfl|hc
  ·rw[QD]at e;cases e
  ·rw[QD]at hc;cases hc
 rcases hx with hk|hk
 ·refine wpAny_storeName_local hk hn (fun h' hn' hs=>?_) Si;obtain⟨oL,_,_,hoL,_⟩:=id hn;refine h _ ⟨I.ok,I.os,I.bare,⟨fun b o e n hb hx=>?_,fun b o e n hb hx=>?_,I.base.free,fun b o e hx=>?_,I.base.tups,I.base.frzs,I.base.tbls⟩,⟨_,hn',fun j y v' e1 e2 e3=>?_⟩,fun y c e=>?_,I.free,I.freeC,fun p hp=>?_,tracked ⟨oL,hoL,I.free⟩ hs,by simpa using I.len⟩ ⟨_,hs,.inl rfl⟩
  ·exact (hs.2 b (K_ (K7 (KN e) I.ok.above))).trans (I.base.keep b o e n hb hx)
  ·obtain⟨sl,e1⟩:=I.base.slot b o e n hb hx;exact⟨sl,(hs.2 b (K_ (K7 (KN e) I.ok.above))).trans e1⟩
  ·obtain⟨o',e1⟩:=I.base.there b o e hx;exact⟨o',(hs.2 b (K_ (K7 (KN e) I.ok.above))).trans e1⟩
  ·by_cases hj:j=i
   ·subst hj;rw[hi]at e1;cases e1;rw[List.getElem?_set_self hiσ]at e2;cases e2;exact⟨u,r,.inl ⟨hk,by simp⟩⟩
   ·rw[List.getElem?_set_ne (Ne.symm hj)]at e2;obtain⟨u',r',q⟩:=hl j y v' e1 e2 e3;refine⟨u',r',?_⟩;rcases q with ⟨k,e⟩|⟨k,c,e,z⟩
    ·refine .inl ⟨k,?_⟩;have:y≠x:=fun e=>hj (pS hN e1 (e ▸ hi));simp[this,e]
    ·exact .inr ⟨k,c,e,z.sameBut hs (cne y c e)⟩
  ·obtain⟨w',z⟩:=I.cell y c e;exact⟨w',z.sameBut hs (cne y c e)⟩
  ·obtain⟨e,n,ne,nf,d⟩:=I.pin p hp;exact⟨(hs.2 p.1 ne).trans e,n,ne,nf,d⟩
 ·have hfn:X.fn x=true:=by
   rcases hf with z|z
   ·exact z
   ·rw[z]at hk;cases hk
  obtain⟨c,hc⟩:=I.ok.has x (.inl hk);obtain⟨w',z⟩:=I.cell x c hc;refine wpAny_storeName_cell I.ok.kind hk hc z (fun h' hc' hs=>?_);obtain⟨oc,hoc,hocd⟩:=id z;refine h { s with heap:=h' } ⟨I.ok,I.os,I.bare,⟨fun b o e n hb hx=>?_,fun b o e n hb hx=>?_,I.base.free,fun b o e hx=>?_,I.base.tups,I.base.frzs,I.base.tbls⟩,⟨m,hn.sameBut hs (Ne.symm (cne x c hc)),fun j y v' e1 e2 e3=>?_⟩,fun y c' e=>?_,I.free,I.freeC,fun p hp=>?_,tracked ⟨oc,hoc,I.freeC x c hc⟩ hs,by simpa using I.len⟩ ⟨c,hs,.inr hc⟩
  ·exact (hs.2 b (K_ (K7 (KN e) (I.ok.cab x c hfn hc)))).trans (I.base.keep b o e n hb hx)
  ·obtain⟨sl,e1⟩:=I.base.slot b o e n hb hx;exact⟨sl,(hs.2 b (K_ (K7 (KN e) (I.ok.cab x c hfn hc)))).trans e1⟩
  ·obtain⟨o',e1⟩:=I.base.there b o e hx;exact⟨o',(hs.2 b (K_ (K7 (KN e) (I.ok.cab x c hfn hc)))).trans e1⟩
  ·by_cases hj:j=i
   ·subst hj;rw[hi]at e1;cases e1;rw[List.getElem?_set_self hiσ]at e2;cases e2;exact⟨u,r,.inr ⟨.inl hk,c,hc,hc'⟩⟩
   ·rw[List.getElem?_set_ne (Ne.symm hj)]at e2;obtain⟨u',r',q⟩:=hl j y v' e1 e2 e3;refine⟨u',r',?_⟩;rcases q with q|⟨k,c',e,z'⟩
    ·exact .inl q
    ·refine .inr ⟨k,c',e,z'.sameBut hs ?_⟩
     rintro rfl
     exact hj (pS hN e1 (I.ok.inj _ _ _ e hc ▸ hi))
  ·by_cases hcc:c'=c
   ·subst hcc;exact⟨_,hc'⟩
   ·obtain⟨w2,z2⟩:=I.cell y c' e;exact⟨w2,z2.sameBut hs hcc⟩
  ·obtain⟨e,n,ne,nf,d⟩:=I.pin p hp;refine⟨(hs.2 p.1 ?_).trans e,n,ne,nf,d⟩;intro q;rw[q,hoc]at e;have q':oc=p.2:=Option.some.inj e;exact d w' (by rw[<- q'];exact hocd)
theorem kU{M:PK}{A:KY}{E:KC->KF->Prop}{i:Nat}{x:Str}{v:V}{u:KC}{Q:Unit->KF->Prop}(I:Inv X pins σ H s)(hN:X.N.Nodup)(hi:X.N[i]?=some x)(hx:GF X.env.scope x)(r:RelV v u)
  (h:∀ s',Inv X pins (σ.set i (some v)) H s'->Q () s') (hf:X.fn x=true\/X.env.scope.names.lookup x=some .local:=by first|exact .inl rfl|exact .inr rfl|assumption):KI M A (storeName X.env x u) Q E s:=
 rR I hN hi hx r (fun s' I' _=>h s' I') hf
theorem Inv.call'{s':KF}{ch:List KE}(I:Inv X pins σ H s)(ho:s'.os=s.os)(u:Un (ue X.stack) ch H H' s.heap s'.heap)(hok:iH X.prog X.w H' s'.heap)(hg:NI s'.gens)
  (hch:∀ b∈ch,(b∈X.ex\/X.s₀.heap.objs.size<=b)/\b≠X.env.locals/\(∀ x c,X.env.cells.lookup x=some c->c≠b)/\∀ p∈X.pn ++ pins,p.1≠b):Inv X pins σ H' s':=by
 obtain⟨h',g',d',t',o'⟩:=s';have e:o'=s.os:=ho;subst e;exact I.call (g':=g') (t':=t') (d':=d') u hok hg hch
end
abbrev XK:=KC->Option KE->Hp->Prop
abbrev St:=List (Option V)
abbrev VK:=V->Hp->Prop
abbrev TE:=St->Hp->VK->Prop
abbrev TT:=St->Hp->(Bool->Hp->Prop)->Prop
abbrev TA:=St->Hp->(List V->Hp->Prop)->Prop
structure Ends where
 nx:St->Hp->Prop
 rt:VK
 bk:St->Hp->Prop:=fun _ _=>False
 ct:St->Hp->Prop:=fun _ _=>False
abbrev TS:=Ends->St->Hp->Prop
def EP(X:Cx)(pins:List (KE×Obj))(σ:St)(Q:VK)(u:KC)(s':KF):Prop:=∃ v H',Inv X pins σ H' s'/\RelV v u/\Q v H'
def TP(X:Cx)(pins:List (KE×Obj))(σ:St)(Q:Bool->Hp->Prop)(b:Bool)(s':KF):Prop:=∃ H',Inv X pins σ H' s'/\Q b H'
def AP(X:Cx)(pins:List (KE×Obj))(σ:St)(Q:List V->Hp->Prop)(us:List KC)(s':KF):Prop:=∃ vs H',Inv X pins σ H' s'/\Vals vs us/\Q vs H'
def SP(X:Cx)(pins:List (KE×Obj))(D:Ends)(f:Flow)(s':KF):Prop:=
 match f with
 | .next=>∃ σ' H',Inv X pins σ' H' s'/\D.nx σ' H'
 | .brk=>∃ σ' H',Inv X pins σ' H' s'/\D.bk σ' H'
 | .cont=>∃ σ' H',Inv X pins σ' H' s'/\D.ct σ' H'
 | .ret u=>∃ v σ' H',Inv X pins σ' H' s'/\RelV v u/\D.rt v H'
def PE(X:Cx)(e:K4)(t:TE):Prop:=
 ∀ (pins:List (KE×Obj)) (s:KF) (σ:St) (H:Hp) (Q:VK),Inv X pins σ H s->t σ H Q->KI (KL X.prog X.w) X.A (eval e X.env) (EP X pins σ Q) X.xe s
def PT(X:Cx)(e:K4)(t:TT):Prop:=
 ∀ (pins:List (KE×Obj)) (s:KF) (σ:St) (H:Hp) (Q:Bool->Hp->Prop),Inv X pins σ H s->t σ H Q->KI (KL X.prog X.w) X.A (Pk e X.env (eval e X.env)) (TP X pins σ Q) X.xe s
def PW(X:Cx)(e:K4)(t:TT):Prop:=
 ∀ (whole:Sem KC) (pins:List (KE×Obj)) (s:KF) (σ:St) (H:Hp) (Q:Bool->Hp->Prop),Inv X pins σ H s->t σ H Q->KI (KL X.prog X.w) X.A (Pk e X.env whole) (TP X pins σ Q) X.xe s
theorem PW.pt{X:Cx}{e:K4}{t:TT}(h:PW X e t):PT X e t:=h _
def PA(X:Cx)(es:List K4)(t:TA):Prop:=
 ∀ (pos:Pos) (pins:List (KE×Obj)) (s:KF) (σ:St) (H:Hp) (Q:List V->Hp->Prop),Inv X pins σ H s->t σ H Q->KI (KL X.prog X.w) X.A (spliced (LN pos (KO es X.env))) (AP X pins σ Q) X.xe s
def PS(X:Cx)(st:Lf)(t:TS):Prop:=
 ∀ (pins:List (KE×Obj)) (s:KF) (σ:St) (H:Hp) (D:Ends),Inv X pins σ H s->t D σ H->KI (KL X.prog X.w) X.A (exec st X.env) (SP X pins D) X.xe s
def fh(X:Cx)(st:List Lf)(t:TS):Prop:=
 ∀ (pins:List (KE×Obj)) (s:KF) (σ:St) (H:Hp) (D:Ends),Inv X pins σ H s->t D σ H->KI (KL X.prog X.w) X.A (execs st X.env) (SP X pins D) X.xe s
theorem br{α:Type}{t:Sem α}{Q Q':α->KF->Prop}{M:PK}{A:KY}{E:KC->KF->Prop}{s:KF}(h:KI M A t Q E s)(hQ:∀ a s,Q a s->Q' a s):KI M A t Q' E s:=K9 h hQ fun _ _ x=>x
section
variable{X:Cx}
def GW(i:Nat):TE:=fun σ H Q=>∃ v,σ[i]?=some (some v)/\Q v H
def tC(v:V):TE:=fun _ H Q=>Q v H
theorem mF{i:Nat}{x:Str}{pos:Pos}(hN:X.N[i]?=some x)(hv:E_ X.env.scope x)(hd:(x == ("__debug__":Str))=false:=by decide)(hcd:(x == ("__classdict__":Str))=false:=by decide):PE X (.Name x pos) (GW i):=by
 intro pins s σ H Q I h;obtain⟨v,e,h⟩:=h;obtain⟨m,hn,hl⟩:=I.loc;obtain⟨u,r,l⟩:=hl i x v hN e hv;have fin:EP X pins σ Q u s:=⟨v,H,I,r,h⟩;rcases l with ⟨hk,hm⟩|⟨hk,c,hc,QE⟩
 ·exact P5 (wpAny_loadName_local I.ok.kind hk hn hm fin) hd
 ·rcases hk with hk|hk
  ·exact P5 (wpAny_loadName_cell I.ok.kind hk hc QE fin) hd
  ·exact P5 (wpAny_loadName_free I.ok.kind hk hc QE fin hcd) hd
theorem w6{i j pos}:PE X (.Constant (.int i) j pos) (tC (.int i)):=fun _ _ _ H _ I h=>wpAny_Constant_int ⟨.int i,H,I.tok _,⟨_,rfl⟩,h⟩
theorem Hx{b j pos}:PE X (.Constant (.bool b) j pos) (tC (.bl b)):=fun _ _ _ H _ I h=>Constant_bool ⟨.bl b,H,I,rfl,h⟩
theorem FM{j pos}:PE X (.Constant .none j pos) (tC .non):=fun _ _ _ H _ I h=>Constant_none ⟨.non,H,I,rfl,h⟩
theorem tH{x j pos}:PE X (.Constant (.str x) j pos) (tC (.str x)):=fun _ _ _ H _ I h=>Calls.Constant_str ⟨.str x,H,I.tok _,⟨_,rfl⟩,h⟩
def Gl(X:Cx)(x:Str):Prop:=X.env.kindOf x=some .globalImplicit
theorem jw{E:KC->KF->Prop}{pins:List (KE×Obj)}{s:KF}{σ:St}{H:Hp}{x:Str}{u:KC}{pos:Pos}{Q:KC->KF->Prop}(I:Inv X pins σ H s)(hg:Gl X x)(hm:X.mg x=some u)(h:Q u s)
  (hd:(x == ("__debug__":Str))=false:=by decide):KI (KL X.prog X.w) X.A (eval (.Name x pos) X.env) Q E s:=
 O2 I.ok.kind hg (Calls.loadGlobal_global (by rw[I.ok.glob];exact I.mod.glob.keeps I.bk) hm h) hd
theorem eV{E:KC->KF->Prop}{pins:List (KE×Obj)}{s:KF}{σ:St}{H:Hp}{x:Str}{u:KC}{pos:Pos}{Q:KC->KF->Prop}(I:Inv X pins σ H s)(hg:Gl X x)(hm:X.mg x=none)(hv:LM x=some u)(h:Q u s)
  (hn:x≠"__name__":=by decide) (hd:(x == ("__debug__":Str))=false:=by decide):KI (KL X.prog X.w) X.A (eval (.Name x pos) X.env) Q E s:=by
 obtain⟨mb,h1,h2⟩:=I.mod.blt;exact O2 I.ok.kind hg (Calls.loadGlobal_builtin (by rw[I.ok.glob];exact I.mod.glob.keeps I.bk) hm (by rw[I.ok.blt];exact h1.keeps I.bk) ((h2 x hn).trans hv) h) hd
theorem yE{x:Str}{v:V}{u:KC}{pos:Pos}(hg:Gl X x)(hm:X.mg x=some u)(r:RelV v u)(hd:(x == ("__debug__":Str))=false:=by decide):PE X (.Name x pos) (tC v):=
 fun _ _ _ H _ I h=>jw I hg hm ⟨v,H,I,r,h⟩ hd
theorem DT{x:Str}{v:V}{u:KC}{pos:Pos}(hg:Gl X x)(hm:X.mg x=none)(hv:LM x=some u)(r:RelV v u)(hn:x≠"__name__":=by decide)(hd:(x == ("__debug__":Str))=false:=by decide):PE X (.Name x pos) (tC v):=
 fun _ _ _ H _ I h=>eV I hg hm hv ⟨v,H,I,r,h⟩ hn hd
variable{a b:K4}{ta tb:TE}{pos:Pos}
def PC(X:Cx)(op:N3)(a b:K4)(t:TE):Prop:=
 ∀ (pins:List (KE×Obj)) (s:KF) (σ:St) (H:Hp) (Q:VK),Inv X pins σ H s->t σ H Q->
  KI (KL X.prog X.w) X.A (eval a X.env) (fun v s₁=>KI (KL X.prog X.w) X.A (eval b X.env) (fun u s₂=>KI (KL X.prog X.w) X.A (Ll op v u) (EP X pins σ Q) X.xe s₂) X.xe s₁) X.xe s
theorem B3(b:K4){op:N3}(h:op≠.In)(h2:op≠.NotIn):LO op b=false:=by
 have e1:(op == CmpOp.In)=false:=by cases op<;>first|rfl|exact absurd rfl h
 have e2:(op == CmpOp.NotIn)=false:=by cases op<;>first|rfl|exact absurd rfl h2
 cases b<;>simp[LO,e1,e2]
def tB(t:TE):TT:=fun σ H Q=>t σ H fun x H1=>∃ c,x=.bl c/\Q c H1
theorem Bw{op:N3}{t:TE}(h:PC X op a b t)(h1:LO op b=false:=by first|exact B3 _ (by decide) (by decide)|rfl):PT X (.Compare a [op] [b] pos) (tB t):=by
 intro pins s σ H Q I hw;refine Pu (br (h pins s σ H _ I hw) fun v s1 h1=>br h1 fun u s2 h2=>br h2 fun c s3 zz=>?_) h1;obtain⟨x,H1,I1,r1,q1⟩:=zz;obtain⟨d,rfl,q⟩:=q1;cases r1;exact MF ⟨H1,I1,q⟩
variable{tA tB':TT}{bP:List K4}
def Jn(t u:TT):TT:=fun σ H Q=>t σ H fun c H1=>if c=true then u σ H1 Q else Q false H1
def Ke(t u:TT):TT:=fun σ H Q=>t σ H fun c H1=>if c=true then Q true H1 else u σ H1 Q
def Jh(t:TT):TT:=fun σ H Q=>t σ H fun c H1=>Q (!c) H1
theorem DD(ha:PT X a tA):PW X (.BoolOp .And [a] pos) tA:=by
 intro wh pins s σ H Q I h;refine isTrue_and (br (ha pins s σ H Q I h) fun c s1 e=>?_);cases c with
 | true=>exact isTrue_and_nil e
 | false=>exact e
theorem FD(ha:PT X a tA):PW X (.BoolOp .Or [a] pos) tA:=by
 intro wh pins s σ H Q I h;refine isTrue_or (br (ha pins s σ H Q I h) fun c s1 e=>?_);cases c with
 | false=>exact isTrue_or_nil e
 | true=>exact e
theorem FE(ha:PT X a tA)(hb:PW X (.BoolOp .And (b::bP) pos) tB'):PW X (.BoolOp .And (a::b::bP) pos) (Jn tA tB'):=by
 intro wh pins s σ H Q I h;refine isTrue_and (br (ha pins s σ H _ I h) fun c s1 zz=>?_);obtain⟨H1,I1,q1⟩:=zz;cases c with
 | true=>exact hb wh pins s1 σ H1 Q I1 q1
 | false=>exact⟨H1,I1,q1⟩
theorem Ho(ha:PT X a tA)(hb:PW X (.BoolOp .Or (b::bP) pos) tB'):PW X (.BoolOp .Or (a::b::bP) pos) (Ke tA tB'):=by
 intro wh pins s σ H Q I h;refine isTrue_or (br (ha pins s σ H _ I h) fun c s1 zz=>?_);obtain⟨H1,I1,q1⟩:=zz;cases c with
 | true=>exact⟨H1,I1,q1⟩
 | false=>exact hb wh pins s1 σ H1 Q I1 q1
theorem FF(ha:PT X a tA):PT X (.UnaryOp .Not a pos) (Jh tA):=by
 intro pins s σ H Q I h;exact isTrue_not (ha pins s σ H (fun c H1=>Q (!c) H1) I h)
def Hc(ta tb:TE):TE:=fun σ H Q=>ta σ H fun x H1=>∃ c,x=.bl c/\if c=true then tb σ H1 Q else Q (.bl false) H1
theorem FL{op}{t:TE}(h:PE X a t):PE X (.BoolOp op [a] pos) t:=fun pins s σ H Q I hw=>BoolOp_one (h pins s σ H Q I hw)
theorem FO(ha:PE X a ta)(hb:PE X (.BoolOp .And (b::bP) pos) tb):PE X (.BoolOp .And (a::b::bP) pos) (Hc ta tb):=by
 intro pins s σ H Q I h;refine BoolOp_and (br (ha pins s σ H _ I h) fun v s1 zz=>?_);obtain⟨x,H1,I1,r1,q1⟩:=zz;obtain⟨c,rfl,q1⟩:=q1;cases r1;refine MF ?_;cases c with
 | true=>exact hb pins s1 σ H1 Q I1 q1
 | false=>exact⟨.bl false,H1,I1,rfl,q1⟩
end
def fV(K:Nq)(H:Hp)(a:KE)(xs:List V):Prop:=
 Rd H a (.lst xs)\/
  ∃ (o:Obj) (its:Array KC) (n:Nat),K.lookup a=some o/\o.cls=.type "list"/\o.dict=none/\o.data=.seq its n/\its.size<=KM/\Vals xs its.toList
def ij(K:Nq)(H:Hp)(a:KE)(xs:List V):Prop:=
 Rd H a (.tup xs)\/
  ∃ (o:Obj) (its:Array KC) (n:Nat),K.lookup a=some o/\(o.cls=.type "tuple"/\o.dict=none)/\o.data=.seq its n/\its.size<=KM/\Vals xs its.toList
def JT:KC->Option V
 | .none=>some .non
 | .bool b=>some (.bl b)
 | .int i _=>some (.int i)
 | .str x _=>some (.str x)
 | .bytes b _=>some (.byt b)
 | .float b _=>some (.flt b)
 | .ref a=>some (.ref a)
 | .type n=>some (.ty n)
 | _=>none
theorem RelV.abs{x:V}{u:KC}(r:RelV x u):JT u=some x:=by
 cases x with
 | non=>cases r;rfl
 | bl _=>cases r;rfl
 | int _=>obtain⟨t,rfl⟩:=r;rfl
 | str _=>obtain⟨t,rfl⟩:=r;rfl
 | byt _=>obtain⟨t,rfl⟩:=r;rfl
 | flt _=>obtain⟨t,rfl⟩:=r;rfl
 | ref _=>cases r;rfl
 | ty _=>cases r;rfl
theorem RelV.inj{x y:V}{u:KC}(r:RelV x u)(q:RelV y u):x=y:=Option.some.inj (r.abs.symm.trans q.abs)
theorem Vals.inj:∀ {xs ys:List V} {us:List KC},Vals xs us->Vals ys us->xs=ys
 | _,_,_,.nil,.nil=>rfl
 | _,_,_,.cons r t,.cons r' t'=>by rw[r.inj r',Vals.inj t t']
section
variable{X:Cx}{pins:List (KE×Obj)}{σ:St}{H:Hp}{s:KF}{a:KE}{xs ys:List V}
theorem fV.of{K:Nq}(h:H a=some (.lst xs)):fV K H a xs:=.inl (.inl h)
theorem ij.of{K:Nq}(h:H a=some (.tup xs)):ij K H a xs:=.inl (.inl h)
theorem Inv.list(I:Inv X pins σ H s)(h:fV X.K H a xs):∃ its:List KC,Vals xs its/\PlainL s.heap a its.toArray/\xs.length<=KM:=by
 rcases h with h|⟨o,its,n,hk,hc,hd,hs,hz,r⟩
 ·obtain⟨z,its,n,r,e⟩:=h.ok I.hok;exact⟨its,r,⟨_,n,e,rfl,rfl,rfl⟩,z⟩
 ·refine⟨its.toList,r,⟨o,n,I.kIn a o hk,hc,hd,by simpa using hs⟩,?_⟩
  have e:=r.length;simp only[Array.length_toList]at e;omega
theorem Inv.tuple(I:Inv X pins σ H s)(h:ij X.K H a xs):∃ its:List KC,Vals xs its/\IsTup s.heap a its.toArray/\xs.length<=KM:=by
 rcases h with h|⟨o,its,n,hk,hc,hs,hz,r⟩
 ·obtain⟨z,its,r,p⟩:=h.ok I.hok;exact⟨its,r,p.tup,z⟩
 ·refine⟨its.toList,r,⟨o,I.kIn a o hk,hc.1,n,by simpa using hs⟩,?_⟩
  have e:=r.length;simp only[Array.length_toList]at e;omega
theorem Inv.list_inj(I:Inv X pins σ H s)(h:fV X.K H a xs)(h':fV X.K H a ys):xs=ys:=by
 obtain⟨its,r,⟨o,n,e,_,_,d⟩,_⟩:=I.list h;obtain⟨its',r',⟨o',n',e',_,_,d'⟩,_⟩:=I.list h';rw[e]at e';cases e';rw[d]at d';injection d' with d1 _
 have:its=its':=by simpa using congrArg Array.toList d1
 subst this;exact r.inj r'
theorem Inv.tuple_inj(I:Inv X pins σ H s)(h:ij X.K H a xs)(h':ij X.K H a ys):xs=ys:=by
 obtain⟨its,r,⟨o,e,_,n,d⟩,_⟩:=I.tuple h;obtain⟨its',r',⟨o',e',_,n',d'⟩,_⟩:=I.tuple h';rw[e]at e';cases e';rw[d]at d';injection d' with d1 _
 have:its=its':=by simpa using congrArg Array.toList d1
 subst this;exact r.inj r'
end
abbrev Cx.wish(X:Cx)(E:KC->KF->Prop):Cx:={ X with xe:=E }
abbrev Cx.nox(X:Cx):Cx:=X.wish fun _ _=>False
theorem Cx.Ok.wish{X:Cx}(ok:X.Ok)(E:KC->KF->Prop):(X.wish E).Ok:=
 ⟨ok.mod,ok.kind,ok.glob,ok.blt,ok.above,ok.inj,ok.has,ok.cab,ok.hd,ok.frames,ok.stk,ok.exf,ok.bs,ok.bsz,ok.noex,ok.exfs,ok.funs,ok.frf⟩
theorem Cx.Ok.unwish{X:Cx}{E:KC->KF->Prop}(ok:(X.wish E).Ok):X.Ok:=
 ⟨ok.mod,ok.kind,ok.glob,ok.blt,ok.above,ok.inj,ok.has,ok.cab,ok.hd,ok.frames,ok.stk,ok.exf,ok.bs,ok.bsz,ok.noex,ok.exfs,ok.funs,ok.frf⟩
section
variable{X:Cx}{pins:List (KE×Obj)}{σ:St}{H:Hp}{s:KF}{E:KC->KF->Prop}
theorem Inv.wish(I:Inv X pins σ H s)(E:KC->KF->Prop):Inv (X.wish E) pins σ H s:=⟨I.ok.wish E,I.os,I.bare,I.base,I.loc,I.cell,I.free,I.freeC,I.pin,I.hok,I.len⟩
theorem Inv.unwish(I:Inv (X.wish E) pins σ H s):Inv X pins σ H s:=⟨I.ok.unwish,I.os,I.bare,I.base,I.loc,I.cell,I.free,I.freeC,I.pin,I.hok,I.len⟩
theorem SP.unwish{D:Ends}{f:Flow}{s':KF}(h:SP (X.wish E) pins D f s'):SP X pins D f s':=by
 cases f with
 | next=>obtain⟨σ',H',I,q⟩:=h;exact⟨σ',H',I.unwish,q⟩
 | brk=>obtain⟨σ',H',I,q⟩:=h;exact⟨σ',H',I.unwish,q⟩
 | cont=>obtain⟨σ',H',I,q⟩:=h;exact⟨σ',H',I.unwish,q⟩
 | ret u=>obtain⟨v,σ',H',I,r,q⟩:=h;exact⟨v,σ',H',I.unwish,r,q⟩
theorem PE.nox{e:K4}{t:TE}(h:PE X.nox e t):PE X e t:=fun pins s σ H Q I hw=>
 K9 (h pins s σ H Q (I.wish _) hw) (fun _ _ ⟨v,H',I',r,q⟩=>⟨v,H',I'.unwish,r,q⟩) fun _ _ z=>False.elim z
theorem PT.nox{e:K4}{t:TT}(h:PT X.nox e t):PT X e t:=fun pins s σ H Q I hw=>
 K9 (h pins s σ H Q (I.wish _) hw) (fun _ _ ⟨H',I',q⟩=>⟨H',I'.unwish,q⟩) fun _ _ z=>False.elim z
theorem fh.nox{st:List Lf}{t:TS}(h:fh X.nox st t):fh X st t:=fun pins s σ H D I hw=>
 K9 (h pins s σ H D (I.wish _) hw) (fun _ _ q=>q.unwish) fun _ _ z=>False.elim z
end
section
variable{X:Cx}{st:Lf}{bP:List Lf}{t u:TS}{e:K4}{te:TE}{pos:Pos}
def GZ:TS:=fun D σ H=>D.nx σ H
def Jf(t u:TS):TS:=fun D σ H=>t { D with nx:=u D } σ H
theorem DG:fh X [] GZ:=fun _ _ σ H _ I h=>MB ⟨σ,H,I,h⟩
theorem pL(h1:PS X st t)(h2:fh X bP u):fh X (st::bP) (Jf t u):=by
 intro pins s σ H D I h;refine OH (br (h1 pins s σ H { D with nx:=u D } I h) fun f s1 q=>?_)
 cases f with
 | next=>
  obtain⟨σ',H',I',q⟩:=q;exact h2 pins s1 σ' H' D I' q
 | ret v=>exact q
 | brk=>exact q
 | cont=>exact q
theorem oJ(h1:PS X st t):fh X [st] t:=by
 intro pins s σ H D I h;refine OH (br (h1 pins s σ H D I h) fun f s1 q=>?_);cases f with
 | next=>exact MB q
 | ret v=>exact q
 | brk=>exact q
 | cont=>exact q
theorem Inv.quiet{pins:List (KE×Obj)}{σ:St}{H:Hp}{s:KF}(I:Inv X pins σ H s):interactive X.env=false:=by simp[interactive,I.ok.kind]
def G_(te:TE):TS:=fun D σ H=>te σ H fun _ H1=>D.nx σ H1
theorem x3(he:PE X e te)(hs:Mb e none pos.line X.env=pure false:=by rfl):PS X (.Expr e pos) (G_ te):=by
 intro pins s σ H D I h;exact wpAny_Expr_any (br (he pins s σ H _ I h) fun v s1 ⟨x,H1,I1,r1,q1⟩=>⟨σ,H1,I1,q1⟩) I.quiet hs
def Jg(te:TE):TS:=fun D σ H=>te σ H D.rt
theorem wT(he:PE X e te):PS X (.Return (some e) pos) (Jg te):=by
 intro pins s σ H D I h;exact wpAny_Return_some (br (he pins s σ H _ I h) fun v s1 ⟨x,H1,I1,r1,q1⟩=>⟨x,σ,H1,I1,r1,q1⟩)
def Jj(c:TT)(t u:TS):TS:=fun D σ H=>c σ H fun b H1=>if b=true then t D σ H1 else u D σ H1
theorem BC{c:K4}{a b:List Lf}{tc:TT}(hc:PT X c tc)(ha:fh X a t)(hb:fh X b u):PS X (.If c a b pos) (Jj tc t u):=by
 intro pins s σ H D I h;refine wpAny_If (br (hc pins s σ H _ I h) fun d s1 zz=>?_);obtain⟨H1,I1,q1⟩:=zz;cases d with
 | true=>exact ha pins s1 σ H1 D I1 q1
 | false=>exact hb pins s1 σ H1 D I1 q1
def tNever:TS:=fun _ _ _=>False
theorem BB:PS X st tNever:=fun _ _ _ _ _ _ h=>h.elim
theorem zQ{sts:List Lf}:fh X sts tNever:=fun _ _ _ _ _ _ h=>h.elim
end
abbrev TG:=V->St->Hp->(St->Hp->Prop)->Prop
abbrev EI:=List V->St->Hp->(St->Hp->Prop)->Prop
def PG(X:Cx)(target:K4)(t:TG):Prop:=
 ∀ (pins:List (KE×Obj)) (s:KF) (σ:St) (H:Hp) (v:V) (u:KC) (Q:St->Hp->Prop),Inv X pins σ H s->RelV v u->t v σ H Q->
  KI (KL X.prog X.w) X.A (assign target X.env u) (fun _ s'=>∃ σ' H',Inv X pins σ' H' s'/\Q σ' H') X.xe s
def CU(X:Cx)(ts:List K4)(t:EI):Prop:=
 ∀ (pins:List (KE×Obj)) (s:KF) (σ:St) (H:Hp) (vs:List V) (us:List KC) (Q:St->Hp->Prop),Inv X pins σ H s->Vals vs us->t vs σ H Q->
  KI (KL X.prog X.w) X.A (assignInOrder ((MA ts X.env).map (·.2)) us) (fun _ s'=>∃ σ' H',Inv X pins σ' H' s'/\Q σ' H') X.xe s
abbrev EH:=V->V->V->Hp->(Hp->Prop)->Prop
def GD(X:Cx)(t:EH):Prop:=
 ∀ (pins:List (KE×Obj)) (s:KF) (σ:St) (H:Hp) (o i v:V) (ov iv u:KC) (Q:Hp->Prop),Inv X pins σ H s->RelV o ov->RelV i iv->RelV v u->t o i v H Q->
  KI (KL X.prog X.w) X.A (Ql ov iv u) (fun _ s'=>∃ H',Inv X pins σ H' s'/\Q H') X.xe s
section
variable{X:Cx}{pos:Pos}
def v3(i:Nat):TG:=fun v σ H Q=>Q (σ.set i (some v)) H
theorem DO{i:Nat}{x:Str}(hN:X.N.Nodup)(hi:X.N[i]?=some x)(hx:GF X.env.scope x)(hf:X.fn x=true\/X.env.scope.names.lookup x=some .local:=by first|exact .inl rfl|exact .inr rfl|assumption):PG X (.Name x pos) (v3 i):=by
 intro pins s σ H v u Q I r h;exact Qk (kU I hN hi hx r (fun s' I'=>⟨_,H,I',h⟩) hf)
def JJ:EI:=fun vs σ H Q=>vs=[]/\Q σ H
def HQ(t:TG)(u:EI):EI:=fun vs σ H Q=>∃ v r,vs=v::r/\t v σ H fun σ' H'=>u r σ' H' Q
theorem DN:CU X [] JJ:=by
 intro pins s σ H vs us Q I r h;obtain⟨e,h⟩:=h;subst e;cases r;exact assignInOrder_nil ⟨σ,H,I,h⟩
theorem BJ{e:K4}{es:List K4}{t:TG}{u:EI}(h1:PG X e t)(h2:CU X es u)
  (hs:(MA (e::es) X.env).map (·.2)=assign e X.env::(MA es X.env).map (·.2):=by rfl):CU X (e::es) (HQ t u):=by
 intro pins s σ H vs us Q I r h;obtain⟨v,vr,e1,h⟩:=h;subst e1;cases r with
 | cons r rr=>
  rw[hs];refine assignInOrder_cons (br (h1 pins s σ H _ _ _ I r h) fun _ s1 zz=>?_);obtain⟨σ1,H1,I1,q1⟩:=zz;exact h2 pins s1 σ1 H1 _ _ Q I1 rr q1
def JH(K:Nq)(n:Nat)(t:EI):TG:=fun v σ H Q=>∃ a xs,v=.ref a/\ij K H a xs/\xs.length=n/\t xs σ H Q
theorem FI{es:List K4}{k:Nat}{t:EI}{n:Nat}(hc:X.calm=true)(h:CU X es t)
  (hn:(MA es X.env).length=n:=by rfl) (hst:(MA es X.env).findIdx? (·.1)=none:=by rfl):PG X (.Tuple es k pos) (JH X.K n t):=by
 intro pins s σ H v u Q I r hw;obtain⟨a,xs,e1,hq,hl,hw⟩:=hw;subst e1;cases r;obtain⟨its,rv,ht,hz⟩:=I.tuple hq;refine assign_Tuple_tuple (I.ok.hd hc) ht (by simp[hn,<- hl,rv.length]) hst fun h' hx=>?_
 have I1:Inv X pins σ H { s with heap:=h' }:=I.kept (t':=s.toks) fun b o e=>hx b o (K_ (KN e)) e
 exact h pins _ σ H xs _ Q I1 (by simpa using rv) hw
def JI(to ti:TE)(t:EH):TG:=fun v σ H Q=>to σ H fun o H1=>ti σ H1 fun i H2=>t o i v H2 fun H3=>Q σ H3
theorem FJ{o i:K4}{to ti:TE}{t:EH}(ho:PE X o to)(hi:PE X i ti)(hs:GD X t)
  (ha:∀ v,assign (.Subscript o i pos) X.env v=(do
   let ov <- holding [v] (eval o X.env)
   let iv <- holding [v,ov] (eval i X.env)
   Nu pos
   holding [v,ov,iv] (Ql ov iv v)
   release [v,ov,iv] []):=by intro _;rfl):PG X (.Subscript o i pos) (JI to ti t):=by
 intro pins s σ H v u Q I r h;rw[ha];refine KB (Lm (br (ho pins s σ H _ I h) fun ov s1 zz=>?_));obtain⟨x,H1,I1,r1,q1⟩:=zz;refine KB (Lm (br (hi pins s1 σ H1 _ I1 q1) fun iv s2 zz=>?_));obtain⟨y,H2,I2,r2,q2⟩:=zz;refine KB (Nl (KB (Lm (br (hs pins s2 σ H2 x y v ov iv u _ I2 r1 r2 r q2) fun _ s3 zz=>?_))));obtain⟨H3,I3,q3⟩:=zz;exact wpAny_release ⟨σ,H3,I3,q3⟩
def Ft(te:TE)(g:TG):TS:=fun D σ H=>te σ H fun x H1=>g x σ H1 D.nx
theorem FG{tg e:K4}{te:TE}{g:TG}(he:PE X e te)(hg:PG X tg g)(hs:swapsWithSole [tg] e pos.line X.env=pure false:=by rfl)(hw:swappedStores [tg] e X.env=pure none:=by rfl)
  (h1:(MA [tg] X.env).map (·.2)=[assign tg X.env]:=by rfl):PS X (.Assign [tg] e pos) (Ft te g):=by
 intro pins s σ H D I h;refine wpAny_Assign_stores (br (he pins s σ H _ I h) fun v s1 zz=>?_) hs hw;obtain⟨x,H1,I1,r1,q1⟩:=zz;rw[h1];exact br (hg pins s1 σ H1 x v _ I1 r1 q1) fun _ s2 q=>q
theorem Bz{i:Nat}{x:Str}{e:K4}{te:TE}{pos':Pos}(hN:X.N.Nodup)(hi:X.N[i]?=some x)(hx:GF X.env.scope x)(he:PE X e te)(hs:Mb e (some (.Name x pos')) pos.line X.env=pure false:=by rfl)(hf:X.fn x=true\/X.env.scope.names.lookup x=some .local:=by first|exact .inl rfl|exact .inr rfl|assumption):
  PS X (.Assign [.Name x pos'] e pos) (Ft te (v3 i)):=by
 intro pins s σ H D I h;refine wpAny_Assign_Name (br (he pins s σ H _ I h) fun v s1 zz=>?_) hs;obtain⟨y,H1,I1,r1,q1⟩:=zz;exact kU I1 hN hi hx r1 (fun s2 I2=>⟨_,H1,I2,q1⟩) hf
def Fp(c:TT)(tb:TS):TS:=fun D σ H=>∃ W:Nat->St->Hp->Prop,(∃ m,W m σ H)/\∀ m σ H,W m σ H->
 c σ H fun b H1=>if b=true then ∃ N:St->Hp->Prop,(∀ σ' H',N σ' H'->∃ m',m' < m/\W m' σ' H')/\tb { D with nx:=N,ct:=N,bk:=D.nx } σ H1 else D.nx σ H1
theorem By{c:K4}{body:List Lf}{tc:TT}{tb:TS}(hp:Oj (KL X.prog X.w) X.A X.env X.xe)(hc:PT X c tc)(hb:fh X body tb):PS X (.While c body [] pos) (Fp tc tb):=by
 intro pins s σ H D I h;obtain⟨W,⟨m0,w0⟩,turn⟩:=h;refine wpAny_While (codeAny_whileLoop (fun n s'=>∃ σ' H',Inv X pins σ' H' s'/\W n σ' H') ?_ m0 ⟨σ,H,I,w0⟩)
 rintro n s1 ⟨σ1,H1,I1,w1⟩
 refine LD hp (br (hc pins s1 σ1 H1 _ I1 (turn n σ1 H1 w1)) fun b s2 zz=>?_);obtain⟨H2,I2,q2⟩:=zz;cases b with
 | true=>
  obtain⟨N,hN,q2⟩:=q2;rw[if_pos rfl];refine LD hp (br (hb pins s2 σ1 H2 _ I2 q2) fun f s3 q3=>?_);cases f with
  | next=>
   obtain⟨σ3,H3,I3,n3⟩:=q3;obtain⟨m',hm,w3⟩:=hN σ3 H3 n3;exact⟨m',hm,σ3,H3,I3,w3⟩
  | cont=>
   obtain⟨σ3,H3,I3,n3⟩:=q3;obtain⟨m',hm,w3⟩:=hN σ3 H3 n3;exact⟨m',hm,σ3,H3,I3,w3⟩
  | brk=>exact q3
  | ret v=>exact q3
 | false=>
  rw[if_neg Bool.false_ne_true];exact MB ⟨σ1,H2,I2,q2⟩
end
structure It where
 go:Nat->Hp->Prop
 yld:Nat->Hp->V->Hp->Prop
 stop:Nat->Hp->Prop
def kO(X:Cx)(pins:List (KE×Obj))(H:Hp)(b:KE):Prop:=
 H b=none/\b≠X.env.locals/\b∉X.fs/\(b∈X.ex\/X.s₀.heap.objs.size<=b)/\(∀ x c,X.env.cells.lookup x=some c->c≠b)/\∀ p∈X.pn ++ pins,p.1≠b
theorem Inv.fpOk{X:Cx}{pins:List (KE×Obj)}{σ:St}{H H':Hp}{s:KF}{b:KE}(I:Inv X pins σ H s)(hb:s.heap.objs.size<=b)(hn:H' b=none):kO X pins H' b:=by
 refine⟨hn,Nb (K7 I.lt hb),I.nofs hb,.inr (le_trans I.sz hb),fun x c e z=>?_,fun p hp z=>?_⟩
 ·obtain⟨v,q⟩:=I.cell x c e;exact absurd (K7 q.lt (by rw[z];exact hb)) (lt_irrefl _)
 ·exact absurd (K7 (KN (I.pin p hp).1) (by rw[z];exact hb)) (lt_irrefl _)
structure Turn(P:KQ)(w:K2)(K:Nq)(tg:K4)(J:It)(fp:List KE)(it:KE)(tn:Nat->K1->Prop):Prop where
 mem:it∈fp
 obj:∀ i h,tn i h->∀ b∈fp,∃ o,h.get? b=some o/\∀ v,o.data≠.cell v
 keep:∀ i h h',tn i h->(∀ b∈fp,∀ o,h.get? b=some o->h'.get? b=some o)->tn i h'
 item:∀ (X:Cx),X.prog=P->X.w=w->X.K=K->X.calm=true->∀ (i:Nat) (pins:List (KE×Obj)) (s:KF) (σ:St) (H:Hp) (E:KC->KF->Prop),Inv X pins σ H s->(∀ b∈fp,kO X pins H b)->tn i s.heap->J.go i H->
  KI (KL P w) X.A (Me (.ref it)) (fun r s1=>∃ u,r=some u/\
   KI (KL P w) X.A (Mj tg (.ref it) u) (fun _ s2=>∃ x H',Inv X pins σ H' s2/\RelV x u/\J.yld i H x H'/\tn (i+1) s2.heap/\∀ b∈fp,H' b=none) E s1) E s
 done:∀ (X:Cx),X.prog=P->X.w=w->X.K=K->X.calm=true->∀ (i:Nat) (pins:List (KE×Obj)) (s:KF) (σ:St) (H:Hp) (E:KC->KF->Prop),Inv X pins σ H s->(∀ b∈fp,kO X pins H b)->tn i s.heap->J.stop i H->
  KI (KL P w) X.A (Me (.ref it)) (fun r s1=>r=none/\Inv X pins σ H s1) E s
 self:∀ (A:KY) (i:Nat) (s:KF) (Q:KC->KF->Prop) (E:KC->KF->Prop),tn i s.heap->Q (.ref it) s->KI (KL P w) A (Ni (.ref it)) Q E s
abbrev TI:=St->Hp->(It->Hp->Prop)->Prop
def Fb(X:Cx)(pins:List (KE×Obj))(σ:St)(tg:K4)(R:It->Hp->Prop)(itv:KC)(s2:KF):Prop:=
 ∃ (it:KE) (fp:List KE) (tn:Nat->K1->Prop) (J:It) (H':Hp),itv=.ref it/\Inv X pins σ H' s2/\Turn X.prog X.w X.K tg J fp it tn/\tn 0 s2.heap/\(∀ b∈fp,kO X pins H' b)/\R J H'
def PI(X:Cx)(tg iter:K4)(wi:TI):Prop:=
 ∀ (pins:List (KE×Obj)) (s:KF) (σ:St) (H:Hp) (R:It->Hp->Prop),Inv X pins σ H s->wi σ H R->
  KI (KL X.prog X.w) X.A (eval iter X.env) (fun v s1=>KI (KL X.prog X.w) X.A (Ni v) (Fb X pins σ tg R) X.xe s1) X.xe s
theorem vY{M:PK}{A:KY}{E:KC->KF->Prop}{s:KF}{tg:K4}{it:KE}{u:KC}{o:Obj}{n:String}{vs:Array KC}{Q:Unit->KF->Prop}(ho:s.heap.get? it=some o)(hc:o.cls=.type n)(hd:o.data=.fields vs)
  (hn:["enumerate","zip","dict_itemiterator","dict_reverseitemiterator","odict_iterator","itertools.zip_longest","itertools.pairwise"].contains n=false) (hQ:Q () s):KI M A (Mj tg (.ref it) u) Q E s:=by
 unfold Mj;cases tg<;>first
  | exact KD hQ
  | (cases u<;>first
    | exact KD hQ
    | (refine KB (P0 ho ?_)
       rw[hc,hd];show KI M A (if (["enumerate","zip","dict_itemiterator","dict_reverseitemiterator","odict_iterator","itertools.zip_longest","itertools.pairwise"].contains n && vs[0]? == some (LP _))=true then _ else _) Q E s
       rw[if_neg (by intro h;rw[hn,Bool.false_and]at h;cases h)]
       exact KD hQ))
def IJ(K:Nq)(a:KE):It:=
 ⟨fun i H=>∃ xs x,fV K H a xs/\xs[i]?=some x,fun i H x H'=>H'=H/\∀ xs,fV K H a xs->xs[i]?=some x,fun i H=>∃ xs,fV K H a xs/\xs.length<=i⟩
def JY(K:Nq)(a:KE):It:=
 ⟨fun i H=>∃ xs x,ij K H a xs/\xs[i]?=some x,fun i H x H'=>H'=H/\∀ xs,ij K H a xs->xs[i]?=some x,fun i H=>∃ xs,ij K H a xs/\xs.length<=i⟩
def II(lo:Int)(n:Nat):It:=⟨fun i _=>i < n,fun i H x H'=>H'=H/\x=.int (lo+i),fun i _=>n<=i⟩
theorem zx{P:KQ}{w:K2}{K:Nq}{tg:K4}(a it:KE):Turn P w K tg (IJ K a) [it] it (fun i h=>h.IsListIter it a i) where
 mem:=by simp
 obj:=fun i h st b hb=>by
  have e:b=it:=by simpa using hb
  subst e;obtain⟨o,e,c,d⟩:=st;exact⟨o,e,fun v z=>by rw[d]at z;cases z⟩
 keep:=fun i h h' st k=>st.at fun o e=>k it (by simp) o e
 item:=by
  intro X hP hw hK hc i pins s σ H E I hf st hg;subst hP hw hK;obtain⟨xs,x,hq,hx⟩:=hg;obtain⟨its,rv,p,hz⟩:=I.list hq;obtain⟨u,hu,ru⟩:=rv.get hx;obtain⟨f0,f1,f2,f3,f4,f5⟩:=hf it (by simp)
  refine Pg st p.isList (x:=u) (by simpa using hu) fun h' st' sb=>?_
  have I1:Inv X pins σ H { s with heap:=h' }:=I.turned (t':=s.toks) (fun b o hb e=>(sb.2 b hb).trans e) f0 f1 f3 f4 f5
  obtain⟨o,e,c,d⟩:=id st';exact⟨u,rfl,vY (s:={ s with heap:=h' }) e c d (by decide) ⟨x,H,I1,ru,⟨rfl,fun ys hy=>by rw[I.list_inj hy hq];exact hx⟩,st',fun b hb=>(hf b hb).1⟩⟩
 done:=by
  intro X hP hw hK hc i pins s σ H E I hf st hg;subst hP hw hK;obtain⟨xs,hq,hx⟩:=hg;obtain⟨its,rv,p,hz⟩:=I.list hq;obtain⟨f0,f1,f2,f3,f4,f5⟩:=hf it (by simp)
  have hl:=rv.length;exact Pt (I.ok.hd hc) st p.isList (by simp;omega) fun h' eb=>⟨rfl,I.turned (t':=s.toks) (fun b o hb e=>eb b o hb e) f0 f1 f3 f4 f5⟩
 self:=fun _ _ _ _ _ st h=>wpAny_pyIter_listiter st h
theorem wD{P:KQ}{w:K2}{K:Nq}{tg:K4}(a it:KE):Turn P w K tg (JY K a) [it] it (fun i h=>h.IsTupleIter it a i) where
 mem:=by simp
 obj:=fun i h st b hb=>by
  have e:b=it:=by simpa using hb
  subst e;obtain⟨o,e,c,d⟩:=st;exact⟨o,e,fun v z=>by rw[d]at z;cases z⟩
 keep:=fun i h h' st k=>st.at fun o e=>k it (by simp) o e
 item:=by
  intro X hP hw hK hc i pins s σ H E I hf st hg;subst hP hw hK;obtain⟨xs,x,hq,hx⟩:=hg;obtain⟨its,rv,p,hz⟩:=I.tuple hq;obtain⟨u,hu,ru⟩:=rv.get hx;obtain⟨f0,f1,f2,f3,f4,f5⟩:=hf it (by simp)
  refine wpAny_pyNext_tuple_item st (show s.heap.IsTuple a its.toArray from p) (x:=u) (by simpa using hu) fun h' st' sb=>?_
  have I1:Inv X pins σ H { s with heap:=h' }:=I.turned (t':=s.toks) (fun b o hb e=>(sb.2 b hb).trans e) f0 f1 f3 f4 f5
  obtain⟨o,e,c,d⟩:=id st';exact⟨u,rfl,vY (s:={ s with heap:=h' }) e c d (by decide) ⟨x,H,I1,ru,⟨rfl,fun ys hy=>by rw[I.tuple_inj hy hq];exact hx⟩,st',fun b hb=>(hf b hb).1⟩⟩
 done:=by
  intro X hP hw hK hc i pins s σ H E I hf st hg;subst hP hw hK;obtain⟨xs,hq,hx⟩:=hg;obtain⟨its,rv,p,hz⟩:=I.tuple hq;obtain⟨f0,f1,f2,f3,f4,f5⟩:=hf it (by simp)
  have hl:=rv.length;exact wpAny_pyNext_tuple_end (I.ok.hd hc) st (show s.heap.IsTuple a its.toArray from p) (by simp;omega) fun h' eb=>⟨rfl,I.turned (t':=s.toks) (fun b o hb e=>eb b o hb e) f0 f1 f3 f4 f5⟩
 self:=fun _ _ _ _ _ st h=>wpAny_pyIter_tupleiter st h
theorem wE{P:KQ}{w:K2}{K:Nq}{tg:K4}(it:KE)(lo:Int)(n:Nat):Turn P w K tg (II lo n) [it] it (fun i h=>IsRangeIter h it (lo+(i:Nat)*1) ((n:Int) - (i:Nat)) 1) where
 mem:=by simp
 obj:=fun i h st b hb=>by
  have e:b=it:=by simpa using hb
  subst e;exact⟨_,st,fun v z=>by
   have z':Data.fields _=Data.cell v:=z;cases z'⟩
 keep:=fun i h h' st k=>k it (by simp) _ st
 item:=by
  intro X hP hw hK hc i pins s σ H E I hf st hg;subst hP hw hK;obtain⟨f0,f1,f2,f3,f4,f5⟩:=hf it (by simp)
  have W:=Walks.range (prog:=X.prog) (w:=X.w) (I.ok.hd hc) it lo 1 n;refine W.item i s _ _ hg st fun v h' tk hv st' kk=>?_;obtain⟨t,rfl⟩:=hv;have I1:Inv X pins σ H { s with heap:=h',toks:=tk }:=I.turned (fun b o hb e=>kk b o (by simpa using hb) e) f0 f1 f3 f4 f5
  refine⟨_,rfl,vY (s:={ s with heap:=h',toks:=tk }) (n:="range_iterator") st' rfl rfl (by decide) ⟨.int (lo+i),H,I1,⟨t,?_⟩,⟨rfl,rfl⟩,st',fun b hb=>(hf b hb).1⟩⟩
  rw[Int.mul_one]
 done:=by
  intro X hP hw hK hc i pins s σ H E I hf st hg;subst hP hw hK;obtain⟨f0,f1,f2,f3,f4,f5⟩:=hf it (by simp)
  exact wpAny_pyNext_range_end (I.ok.hd hc) st (by have:n<=i:=hg;omega) fun h' eb=>⟨rfl,I.turned (t':=s.toks) (fun b o hb e=>eb b o hb e) f0 f1 f3 f4 f5⟩
 self:=fun _ _ _ _ _ st h=>wpAny_pyIter_rangeiter st h
section
variable{X:Cx}{tg:K4}
theorem va{pins:List (KE×Obj)}{σ:St}{H:Hp}{s:KF}{R:It->Hp->Prop}{E:KC->KF->Prop}{lo hi:Int}{t u v:Tok}{tk:Nat}(I:Inv X pins σ H s)(h1:-(2 ^ 62)<=lo)(h2:lo < 2 ^ 62)(h3:-(2 ^ 62)<=hi)(h4:hi < 2 ^ 62)
  (q:R (II lo (hi - lo).toNat) H):KI (KL X.prog X.w) X.A (Ni (.ref s.heap.objs.size)) (Fb X pins σ tg R) E { s with heap:=s.heap.push { cls:=.type "range",data:=.fields #[.int lo t,.int hi u,.int 1 v] },toks:=tk }:=by
 refine wpAny_pyIter_range (IsRange.new ..) (small_one h1 h2 h3 h4) ?_;have I1:Inv X pins σ H { s with heap:=s.heap.push { cls:=.type "range",data:=.fields #[.int lo t,.int hi u,.int 1 v] },toks:=tk }:=I.kept fun b o e=>KG _ e
 refine⟨(s.heap.push { cls:=.type "range",data:=.fields #[.int lo t,.int hi u,.int 1 v] }).objs.size,[(s.heap.push { cls:=.type "range",data:=.fields #[.int lo t,.int hi u,.int 1 v] }).objs.size],_,_,H,rfl,
  I1.kept (t':=tk) fun b o e=>KG _ e,wE _ lo (hi - lo).toNat,?_,fun b hb=>?_,q⟩
 ·have e1:lo+((0:Nat):Int)*1=lo:=by simp
  have e2:(((hi - lo).toNat:Nat):Int) - ((0:Nat):Int)=Builtin.Range.rangeSize lo hi 1:=by rw[rangeSize_one];split<;>omega
  show IsRangeIter _ _ (lo+((0:Nat):Int)*1) ((((hi - lo).toNat:Nat):Int) - ((0:Nat):Int)) 1
  rw[e1,e2];exact KJ _ rfl
 ·have e:b=(s.heap.push { cls:=.type "range",data:=.fields #[.int lo t,.int hi u,.int 1 v] }).objs.size:=by simpa using hb
  subst e;exact I1.fpOk (le_refl _) (I1.hok.fresh (le_refl _))
def HP(ta:TA):TI:=fun σ H R=>ta σ H fun vs H1=>∃ j:Int,vs=[.int j]/\-(2 ^ 62)<=j/\j < 2 ^ 62/\R (II 0 j.toNat) H1
def HN(ta:TA):TI:=fun σ H R=>ta σ H fun vs H1=>∃ i j:Int,vs=[.int i,.int j]/\(-(2 ^ 62)<=i/\i < 2 ^ 62/\-(2 ^ 62)<=j/\j < 2 ^ 62)/\R (II i (j - i).toNat) H1
theorem zT{a:K4}{ta:TA}{p pos:Pos}(hg:Gl X "range")(hm:X.mg "range"=none)(ha:PA X [a] ta)(hs:KO [a] X.env=[(false,eval a X.env)]:=by rfl):PI X tg (.Call (.Name "range" p) [a] [] pos) (HP ta):=by
 intro pins s σ H R I h;refine PN (eV I hg hm boot_range (PyProof.Rows.callWith_type1 (br (ha pos pins s σ H _ I h) fun us s1 ⟨vs,H1,I1,r1,q1⟩=>?_) hs rfl));obtain⟨j,e,q1,q2,q⟩:=q1;subst e;cases r1 with
 | cons r rr=>
  cases rr;obtain⟨t,rfl⟩:=r;exact call_range_1 (va I1 (by walk_at "o") (by walk_at "o") q1 q2 (by simpa using q))
theorem zS{a b:K4}{ta:TA}{p pos:Pos}(hg:Gl X "range")(hm:X.mg "range"=none)(ha:PA X [a,b] ta)(hs:KO [a,b] X.env=[(false,eval a X.env),(false,eval b X.env)]:=by rfl)(hs2:KO [b] X.env=[(false,eval b X.env)]:=by rfl):
  PI X tg (.Call (.Name "range" p) [a,b] [] pos) (HN ta):=by
 intro pins s σ H R I h;refine PN (eV I hg hm boot_range (PyProof.Rows.callWith_type1 (br (ha pos pins s σ H _ I h) fun us s1 ⟨vs,H1,I1,r1,q1⟩=>?_) (by rw[hs,hs2]) (by rw[hs2];rfl)))
 obtain⟨i,j,e,⟨q1,q2,q3,q4⟩,q⟩:=q1;subst e;cases r1 with
 | cons r rr=>
  cases rr with
  | cons r' rr=>
   cases rr;obtain⟨t,rfl⟩:=r;obtain⟨t',rfl⟩:=r';exact call_range_2 (va I1 q1 q2 q3 q4 q)
def Jk(wi:TI)(g:TG)(tb:TS):TS:=fun D σ H=>wi σ H fun J H1=>∃ W:Nat->Nat->St->Hp->Prop,(∃ m,W 0 m σ H1)/\∀ i m σ H,W i m σ H->
 (J.stop i H/\D.nx σ H)\/(J.go i H/\∃ N:St->Hp->Prop,(∀ σ' H',N σ' H'->∃ m',m' < m/\W (i+1) m' σ' H')/\∀ x H',J.yld i H x H'->g x σ H' fun σ2 H2=>tb { D with nx:=N,ct:=N,bk:=D.nx } σ2 H2)
def mE(fp:List KE)(h:K1):List (KE×Obj):=fp.filterMap fun b=>(h.get? b).map fun o=>(b,o)
theorem fE{fp:List KE}{h:K1}{b:KE}{o:Obj}(hb:b∈fp)(e:h.get? b=some o):(b,o)∈mE fp h:=List.mem_filterMap.mpr ⟨b,hb,by rw[e];rfl⟩
theorem z_{fp:List KE}{h:K1}{p:KE×Obj}(hp:p∈mE fp h):p.1∈fp/\h.get? p.1=some p.2:=by
 obtain⟨b,hb,e⟩:=List.mem_filterMap.mp hp;cases q:h.get? b with
 | none=>rw[q]at e;cases e
 | some o=>
  rw[q]at e;have e':(b,o)=p:=Option.some.inj e;subst e';exact⟨hb,q⟩
theorem Inv.pinned{pins:List (KE×Obj)}{σ:St}{H:Hp}{s:KF}{fp:List KE}(I:Inv X pins σ H s)(hf:∀ b∈fp,kO X pins H b)(ho:∀ b∈fp,∃ o,s.heap.get? b=some o/\∀ v,o.data≠.cell v):Inv X (pins ++ mE fp s.heap) σ H s:=
 I.pins_of fun p hp=>(mem_append.mp hp).elim (fun z=>I.pin p (Lr _ z)) fun z=>by
  obtain⟨hb,e⟩:=z_ z;obtain⟨f0,f1,f2,_⟩:=hf p.1 hb;obtain⟨o,e',d⟩:=ho p.1 hb;rw[e]at e';cases e';exact⟨e,f0,f1,f2,d⟩
theorem Inv.unpinned{pins pl:List (KE×Obj)}{σ:St}{H:Hp}{s:KF}(I:Inv X (pins ++ pl) σ H s):Inv X pins σ H s:=I.pins_of fun p hp=>I.pin p (Lr _ (List.mem_append_left _ hp))
theorem BD{iter:K4}{body:List Lf}{wi:TI}{g:TG}{tb:TS}{pos:Pos}(hp:Oj (KL X.prog X.w) X.A X.env X.xe)(hc:X.calm=true)(hi:PI X tg iter wi)(hg:PG X tg g)(hb:fh X body tb)
  (hs:∀ x,LI iter X.env x=pure x:=by intro _;rfl):PS X (.For tg iter body [] pos) (Jk wi g tb):=by
 intro pins s σ H D I h;refine wpAny_For (br (hi pins s σ H _ I h) fun v s1 h1=>br h1 fun itv s2 h2=>?_) hs;obtain⟨it,fp,tn,J,H2,e,I2,T,st2,f2,W,⟨m0,w0⟩,turn⟩:=h2;subst e;have Sa:∀ {H':Hp},(∀ b∈fp,H' b=none)->∀ b∈fp,kO X pins H' b:=fun hn b hb=>⟨hn b hb,(f2 b hb).2⟩;refine PU (fun n s'=>∃ i σ' H',Inv X pins σ' H' s'/\tn i s'.heap/\(∀ b∈fp,H' b=none)/\W i n σ' H') ?_ m0 ⟨0,σ,H2,I2,st2,fun b hb=>(f2 b hb).1,w0⟩
 rintro n s3 ⟨i,σ3,H3,I3,st3,fr3,w3⟩
 rcases turn i n σ3 H3 w3 with ⟨stop,qn⟩|⟨go,N,hN,step⟩
 ·refine LD hp (br (T.done X rfl rfl rfl hc i pins s3 σ3 H3 X.xe I3 (Sa fr3) st3 stop) fun r s4 zz=>?_);obtain⟨hr,I4⟩:=zz;subst hr;exact MB ⟨σ3,H3,I4,qn⟩
 ·refine LD hp (br (T.item X rfl rfl rfl hc i pins s3 σ3 H3 X.xe I3 (Sa fr3) st3 go) fun r s4 zz=>?_);obtain⟨u,hr,h4⟩:=zz;subst hr;refine LD hp (br h4 fun _ s5 zz=>?_);obtain⟨x,H5,I5,r5,y5,st5,fr5⟩:=zz;have I5':=I5.pinned (Sa fr5) (T.obj _ _ st5);refine LD hp (br (hg _ s5 σ3 H5 x u _ I5' r5 (step x H5 y5)) fun _ s6 zz=>?_);obtain⟨σ6,H6,I6,q6⟩:=zz;refine LD hp (br (hb _ s6 σ6 H6 _ I6 q6) fun f s7 q7=>?_);have again:∀ {σ7:St} {H7:Hp},Inv X (pins ++ mE fp s5.heap) σ7 H7 s7->N σ7 H7->∃ m,m < n/\∃ i σ' H',Inv X pins σ' H' s7/\tn i s7.heap/\(∀ b∈fp,H' b=none)/\W i m σ' H':=fun {σ7 H7} I7 n7=>by
   obtain⟨m',hm,w7⟩:=hN σ7 H7 n7;refine⟨m',hm,i+1,σ7,H7,I7.unpinned,T.keep _ _ _ st5 fun b hb o e=>(I7.pin (b,o) (Lr _ (Lr _ (fE hb e)))).1,fun b hb=>?_,w7⟩;obtain⟨o,e,d⟩:=T.obj _ _ st5 b hb;exact (I7.pin (b,o) (Lr _ (Lr _ (fE hb e)))).2.1
  cases f with
  | next=>obtain⟨σ7,H7,I7,n7⟩:=q7;exact again I7 n7
  | cont=>obtain⟨σ7,H7,I7,n7⟩:=q7;exact again I7 n7
  | brk=>obtain⟨σ7,H7,I7,q7⟩:=q7;exact⟨σ7,H7,I7.unpinned,q7⟩
  | ret v=>obtain⟨x7,σ7,H7,I7,r7,q7⟩:=q7;exact⟨x7,σ7,H7,I7.unpinned,r7,q7⟩
end
abbrev R2:=V->V->Hp->VK->Prop
def fe(X:Cx)(f:KC->KC->Sem KC)(r:R2):Prop:=
 ∀ (pins:List (KE×Obj)) (s:KF) (σ:St) (H:Hp) (x y:V) (v u:KC) (Q:VK),Inv X pins σ H s->RelV x v->RelV y u->r x y H Q->
  KI (KL X.prog X.w) X.A (f v u) (EP X pins σ Q) X.xe s
def JU(X:Cx)(f:KC->Sem KC)(r:V->Hp->VK->Prop):Prop:=
 ∀ (pins:List (KE×Obj)) (s:KF) (σ:St) (H:Hp) (x:V) (v:KC) (Q:VK),Inv X pins σ H s->RelV x v->r x H Q->
  KI (KL X.prog X.w) X.A (f v) (EP X pins σ Q) X.xe s
def cJ(X:Cx)(f:KC)(r:List V->Hp->VK->Prop):Prop:=
 ∀ (pins:List (KE×Obj)) (s:KF) (σ:St) (H:Hp) (xs:List V) (us:List KC) (Q:VK),Inv X pins σ H s->Vals xs us->r xs H Q->
  KI (KL X.prog X.w) X.A (call f us) (EP X pins σ Q) X.xe s
def JV(X:Cx)(r:V->Hp->(Bool->Hp->Prop)->Prop):Prop:=
 ∀ (pins:List (KE×Obj)) (s:KF) (σ:St) (H:Hp) (x:V) (v:KC) (Q:Bool->Hp->Prop),Inv X pins σ H s->RelV x v->r x H Q->
  KI (KL X.prog X.w) X.A (truthy v) (TP X pins σ Q) X.xe s
def GK(r:R2)(ta tb:TE):TE:=fun σ H Q=>ta σ H fun x H1=>tb σ H1 fun y H2=>r x y H2 Q
def Kc(r:V->Hp->VK->Prop)(ta:TE):TE:=fun σ H Q=>ta σ H fun x H1=>r x H1 Q
def rI(C:Int->Int->Prop)(g:Int->Int->V):R2:=fun x y H Q=>∃ i j,x=.int i/\y=.int j/\C i j/\Q (g i j) H
def FA(g:Int->Int->V):R2:=fun x y H Q=>∃ i j,x=.int i/\y=.int j/\Q (g i j) H
def rU(g:Int->V):V->Hp->VK->Prop:=fun x H Q=>∃ i,x=.int i/\Q (g i) H
section
variable{X:Cx}{a b c:K4}{ta tb tc:TE}{pos:Pos}
theorem Gy(ha:PE X a ta)(hb:PE X b tb){pins:List (KE×Obj)}{s:KF}{σ:St}{H:Hp}{R:V->V->Hp->Prop}(I:Inv X pins σ H s)
  (h:ta σ H fun x H1=>tb σ H1 fun y H2=>R x y H2) {Q:KC->KF->Prop} {f:KC->KC->Sem KC}
  (hf:∀ v u s2 x y H2,Inv X pins σ H2 s2->RelV x v->RelV y u->R x y H2->KI (KL X.prog X.w) X.A (f v u) Q X.xe s2):
  KI (KL X.prog X.w) X.A (eval a X.env) (fun v s₁=>KI (KL X.prog X.w) X.A (eval b X.env) (fun u s₂=>KI (KL X.prog X.w) X.A (f v u) Q X.xe s₂) X.xe s₁) X.xe s:=by
 refine br (ha pins s σ H _ I h) fun v s1 zz=>?_;obtain⟨x,H1,I1,r1,q1⟩:=zz;refine br (hb pins s1 σ H1 _ I1 q1) fun u s2 zz=>?_;obtain⟨y,H2,I2,r2,q2⟩:=zz;exact hf v u s2 x y H2 I2 r1 r2 q2
theorem Ht{op:Operator}{r:R2}(ho:fe X (Mh op) r)(ha:PE X a ta)(hb:PE X b tb):PE X (.BinOp a op b pos) (GK r ta tb):=by
 intro pins s σ H Q I h;exact wpAny_BinOp (Gy ha hb I h fun v u s2 x y H2 I2 rx ry q=>ho pins s2 σ H2 x y v u Q I2 rx ry q)
theorem Hs{op:UnaryOp}{r:V->Hp->VK->Prop}(ho:JU X (unaryOp op) r)(ha:PE X a ta):PE X (.UnaryOp op a pos) (Kc r ta):=by
 intro pins s σ H Q I h;exact UnaryOp_ (br (ha pins s σ H _ I h) fun v s1 ⟨x,H1,I1,r1,q1⟩=>ho pins s1 σ H1 x v Q I1 r1 q1)
theorem IQ{f:KC->KC->Sem KC}{C:Int->Int->Prop}{g:Int->Int->Int}
  (rule:∀ (i j:Int) (t u:Tok) (s:KF) (Q:KC->KF->Prop) (E:KC->KF->Prop),C i j->Q (.int (g i j) s.toks) { s with toks:=s.toks+1 }->KI (KL X.prog X.w) X.A (f (.int i t) (.int j u)) Q E s):
  fe X f (rI C fun i j=>.int (g i j)):=by
 intro pins s σ H x y v u Q I rx ry h;obtain⟨i,j,rfl,rfl,hc,q⟩:=h;obtain⟨t,rfl⟩:=rx;obtain⟨t',rfl⟩:=ry;exact rule i j t t' s _ _ hc ⟨.int (g i j),H,I.tok _,⟨_,rfl⟩,q⟩
theorem Jt{f:KC->KC->Sem KC}{g:Int->Int->Int}
  (rule:∀ (i j:Int) (t u:Tok) (s:KF) (Q:KC->KF->Prop) (E:KC->KF->Prop),Q (.int (g i j) s.toks) { s with toks:=s.toks+1 }->KI (KL X.prog X.w) X.A (f (.int i t) (.int j u)) Q E s):
  fe X f (FA fun i j=>.int (g i j)):=by
 intro pins s σ H x y v u Q I rx ry h;obtain⟨i,j,rfl,rfl,q⟩:=h;obtain⟨t,rfl⟩:=rx;obtain⟨t',rfl⟩:=ry;exact rule i j t t' s _ _ ⟨.int (g i j),H,I.tok _,⟨_,rfl⟩,q⟩
theorem FW{f:KC->KC->Sem KC}{g:Int->Int->Bool}
  (rule:∀ (i j:Int) (t u:Tok) (s:KF) (Q:KC->KF->Prop) (E:KC->KF->Prop),Q (.bool (g i j)) s->KI (KL X.prog X.w) X.A (f (.int i t) (.int j u)) Q E s):
  fe X f (FA fun i j=>.bl (g i j)):=by
 intro pins s σ H x y v u Q I rx ry h;obtain⟨i,j,rfl,rfl,q⟩:=h;obtain⟨t,rfl⟩:=rx;obtain⟨t',rfl⟩:=ry;exact rule i j t t' s _ _ ⟨.bl (g i j),H,I,rfl,q⟩
def IM(i j:Int):Prop:=0 < j/\j < 1073741824
def GJ(i j:Int):Prop:=0<=j/\j<=1000000/\i.natAbs < 2 ^ 64
def EN(i j:Int):Prop:=(-(2 ^ 64) < i/\i < 2 ^ 64)\/(-(2 ^ 64) < j/\j < 2 ^ 64)
theorem EN.ok{i j:Int}(h:EN i j):IntMulOk i j:=by
 rcases h with ⟨h1,h2⟩|⟨h1,h2⟩
 ·exact .of_left (intBits_le_64 h1 h2)
 ·exact .of_right (intBits_le_64 h1 h2)
theorem FV:fe X (Mh .Add) (FA fun i j=>.int (i+j)):=Jt fun _ _ _ _ _ _ _ q=>add_int q
theorem FT:fe X (Mh .Mult) (rI EN fun i j=>.int (i*j)):=IQ fun _ _ _ _ _ _ _ hc q=>mul_int q hc.ok
theorem D4:fe X (Mh .FloorDiv) (rI IM fun i j=>.int (i / j)):=IQ fun i j _ _ _ _ _ hc q=>by
 have h1:(0:Int) < j:=hc.1;have h2:j < 1073741824:=hc.2;exact floordiv_int (by walk_at "o") (by rw[Int.fdiv_eq_ediv_of_nonneg i (by walk_at "o")];exact q) (.inl (PyProof.noPylong_small (by walk_at "o")))
theorem FU:fe X (Mh .Mod) (rI (fun _ j=>0 < j) fun i j=>.int (i % j)):=IQ fun i j _ _ _ _ _ hc q=>by
 have h1:(0:Int) < j:=hc;exact mod_int' (by walk_at "o") (by rw[Int.fmod_eq_emod_of_nonneg i (by walk_at "o")];exact q)
theorem FS:fe X (Mh .Pow) (rI GJ fun i j=>.int (i ^ j.toNat)):=IQ fun _ _ _ _ _ _ _ hc q=>pow_int_small hc.1 hc.2.1 hc.2.2 q
theorem Kb{f:KC->Sem KC}{g:Int->Int}
  (rule:∀ (i:Int) (t:Tok) (s:KF) (Q:KC->KF->Prop) (E:KC->KF->Prop),Q (.int (g i) s.toks) { s with toks:=s.toks+1 }->KI (KL X.prog X.w) X.A (f (.int i t)) Q E s):
  JU X f (rU fun i=>.int (g i)):=by
 intro pins s σ H x v Q I rx h;obtain⟨i,rfl,q⟩:=h;obtain⟨t,rfl⟩:=rx;exact rule i t s _ _ ⟨.int (g i),H,I.tok _,⟨_,rfl⟩,q⟩
theorem Fj:JU X (unaryOp .USub) (rU fun i=>.int (-i)):=Kb fun _ _ _ _ _ q=>neg_int q
theorem HD:fe X (Ll .Lt) (FA fun i j=>.bl (decide (i < j))):=FW fun _ _ _ _ _ _ _ q=>lt_int q
theorem HE:fe X (Ll .LtE) (FA fun i j=>.bl (decide (i<=j))):=FW fun _ _ _ _ _ _ _ q=>le_int q
theorem HF:fe X (Ll .Gt) (FA fun i j=>.bl (decide (j < i))):=FW fun _ _ _ _ _ _ _ q=>gt_int q
theorem fe.or{f:KC->KC->Sem KC}{r r':R2}(h:fe X f r)(h':fe X f r'):fe X f (fun x y H Q=>r x y H Q\/r' x y H Q):=by
 intro pins s σ H x y v u Q I rx ry q;rcases q with q|q
 ·exact h pins s σ H x y v u Q I rx ry q
 ·exact h' pins s σ H x y v u Q I rx ry q
theorem cu(b:K4){op:N3}(h:op≠.In:=by decide)(h2:op≠.NotIn:=by decide):LO op b=false:=by
 have e1:(op == CmpOp.In)=false:=by cases op<;>first|rfl|exact absurd rfl h
 have e2:(op == CmpOp.NotIn)=false:=by cases op<;>first|rfl|exact absurd rfl h2
 cases b<;>simp[LO,e1,e2]
theorem DS{op:N3}{r:R2}(ho:fe X (Ll op) r)(ha:PE X a ta)(hb:PE X b tb)(hm:LO op b=false):PE X (.Compare a [op] [b] pos) (GK r ta tb):=by
 intro pins s σ H Q I h;exact wpAny_Compare1 (Gy ha hb I h fun v u s2 x y H2 I2 rx ry q=>ho pins s2 σ H2 x y v u Q I2 rx ry q) hm
def A3(t:TE):TT:=fun σ H Q=>t σ H fun x H'=>∃ k,x=.bl k/\Q k H'
theorem xZ{op:N3}{r:R2}(ho:fe X (Ll op) r)(ha:PE X a ta)(hb:PE X b tb)(hm:LO op b=false):PT X (.Compare a [op] [b] pos) (A3 (GK r ta tb)):=by
 intro pins s σ H Q I h;refine Pu (br (ha pins s σ H _ I h) fun v s1 zz=>?_) hm;obtain⟨x,H1,I1,r1,q1⟩:=zz;refine br (hb pins s1 σ H1 _ I1 q1) fun u s2 zz=>?_;obtain⟨y,H2,I2,r2,q2⟩:=zz;refine br (ho pins s2 σ H2 x y v u _ I2 r1 r2 q2) fun c s3 zz=>?_;obtain⟨z,H3,I3,r3,k,e,q3⟩:=zz;subst e;cases r3;exact MF ⟨H3,I3,q3⟩
def A5(r r':R2)(ta tb tc:TE):TE:=fun σ H Q=>ta σ H fun x H1=>tb σ H1 fun y H2=>r x y H2 fun z H3=>∃ k,z=.bl k/\
 (if k=true then tc σ H3 fun w' H4=>r' y w' H4 Q else Q (.bl false) H3)
theorem Bx{op op':N3}{r r':R2}(ho:fe X (Ll op) r)(ho':fe X (Ll op') r')(ha:PE X a ta)(hb:PE X b tb)(hc:PE X c tc)
  (hm:lastMarks [op,op'] [b,c]=false:=by with_unfolding_all rfl):PT X (.Compare a [op,op'] [b,c] pos) (A3 (A5 r r' ta tb tc)):=by
 intro pins s σ H Q I h;refine isTrue_chain (br (ha pins s σ H _ I h) fun v s1 ⟨x,H1,I1,r1,q1⟩=>test_link (br (hb pins s1 σ H1 _ I1 q1) fun u s2 zz=>?_)) hm;obtain⟨y,H2,I2,r2,q2⟩:=zz;refine br (ho pins s2 σ H2 x y v u _ I2 r1 r2 q2) fun d s3 zz=>?_;obtain⟨z,H3,I3,r3,k,e,q3⟩:=zz;subst e;cases r3;refine MF ?_;cases k with
 | false=>
  obtain⟨k',e',q'⟩:=q3;cases e';exact ite_ff ⟨H3,I3,q'⟩
 | true=>
  refine ite_tt (test_last (br (hc pins s3 σ H3 _ I3 q3) fun w' s4 zz=>?_));obtain⟨z',H4,I4,r4,q4⟩:=zz;refine br (ho' pins s4 σ H4 y z' u w' _ I4 r2 r4 q4) fun d' s5 zz=>?_;obtain⟨z2,H5,I5,r5,k2,e2,q5⟩:=zz;subst e2;cases r5;exact MF ⟨H5,I5,q5⟩
def IC(K:Nq)(x:V)(H:Hp)(k:Bool):Prop:=
 match x with
 | .non=>k=false
 | .bl b=>k=b
 | .int i=>k=(i != 0)
 | .str y=>y.length<=KM/\k=((y.length:Int) != 0)
 | .byt y=>y.size<=KM/\k=((y.size:Int) != 0)
 | .ref p=>(∃ xs,fV K H p xs/\k=!xs.isEmpty)\/(∃ xs,ij K H p xs/\k=!xs.isEmpty)\/∃ kvs,H p=some (.dK kvs)/\k=!kvs.isEmpty
 | _=>False
theorem xp{κ:Type}{kvs:List (κ×V)}{vs:List (κ×KC)}(r:KV kvs vs):(!vs.isEmpty)=!kvs.isEmpty:=by
 cases r<;>rfl
theorem qh{xs:List V}{its:List KC}(r:Vals xs its):(!its.toArray.isEmpty)=!xs.isEmpty:=by
 cases r<;>simp
theorem i_:(KM:Nat) < 2 ^ 63:=by rw[LB];decide
theorem Fl:JV X (fun x H Q=>∃ k,IC X.K x H k/\Q k H):=by
 intro pins s σ H x v Q I rx h;obtain⟨k,e,q⟩:=h;have hl:=i_;have hs:KM=16777216:=LB;cases x with
 | non=>
  cases rx;have e':k=false:=e;subst e';exact truthy_none ⟨H,I,q⟩
 | bl b=>
  cases rx;have e':k=b:=e;subst e';exact MF ⟨H,I,q⟩
 | int i=>
  obtain⟨t,rfl⟩:=rx;have e':k=(i != 0):=e;subst e';exact PySem.P.truthy_int ⟨H,I,q⟩
 | str y=>
  obtain⟨t,rfl⟩:=rx;obtain⟨hy,e'⟩:y.length<=KM/\k=((y.length:Int) != 0):=e;subst e';exact PySem.P.truthy_str (by walk_at "o") ⟨H,I.tok _,q⟩
 | byt y=>
  obtain⟨t,rfl⟩:=rx;obtain⟨hy,e'⟩:y.size<=KM/\k=((y.size:Int) != 0):=e;subst e';exact PySem.W.truthy_bytes (by walk_at "o") ⟨H,I.tok _,q⟩
 | ref p=>
  cases rx;have e':(∃ xs,fV X.K H p xs/\k=!xs.isEmpty)\/(∃ xs,ij X.K H p xs/\k=!xs.isEmpty)\/∃ kvs,H p=some (.dK kvs)/\k=!kvs.isEmpty:=e;rcases e' with ⟨xs,hx,e'⟩|⟨xs,hx,e'⟩|⟨kvs,hx,e'⟩
  ·subst e';obtain⟨its,r,pl,hz⟩:=I.list hx;have hlen:=r.length;exact wpAny_truthy_list pl.isList (by simp only[KS];omega) ⟨H,I.tok _,by rw[qh r];exact q⟩
  ·subst e';obtain⟨its,r,pl,hz⟩:=I.tuple hx;have hlen:=r.length;exact truthy_tuple pl (by simp only[KS];omega) ⟨H,I.tok _,by rw[qh r];exact q⟩
  ·subst e';obtain⟨hz,hS,vs,r,m⟩:kvs.length<=KM/\(p == Lw)=false/\∃ vs,KV kvs vs/\s.heap.DictOf (aK X.prog X.w) p vs:=I.hok p _ hx;have hlen:kvs.length=vs.length:=MY r;exact wpAny_truthy_dict hS m (by walk_at "o") ⟨H,I.tok _,by rw[xp r];exact q⟩
 | _=>exact (show False from e).elim
theorem Bv(ha:PE X a ta)(he:∀ whole,Pk a X.env whole=(do let v <- whole;Nu a.pos;holding [v] (truthy v))):
  PT X a (fun σ H Q=>ta σ H fun x H'=>∃ k,IC X.K x H' k/\Q k H'):=by
 intro pins s σ H Q I h;exact isTrue_plain (br (ha pins s σ H _ I h) fun v s1 ⟨x,H1,I1,r1,q1⟩=>Fl pins s1 σ H1 x v Q I1 r1 q1) (he _)
theorem xb:fe X (Mh .Add) (fun x y H Q=>∃ i j,x=.str i/\y=.str j/\i.length+j.length<=KM/\Q (.str (i ++ j)) H):=by
 intro pins s σ H x y v u Q I rx ry h;obtain⟨i,j,rfl,rfl,hz,q⟩:=h;obtain⟨t,rfl⟩:=rx;obtain⟨t',rfl⟩:=ry;exact add_str (fun t' tk=>⟨.str (i ++ j),H,I.tok _,⟨_,rfl⟩,q⟩) hz
theorem oX{x:V}{us:List KC}(r:Vals [x] us):∃ u,us=[u]/\RelV x u:=by
 cases r with
 | cons r1 r2=>cases r2;exact⟨_,rfl,r1⟩
theorem ER{x y:V}{us:List KC}(r:Vals [x,y] us):∃ u w',us=[u,w']/\RelV x u/\RelV y w':=by
 cases r with
 | cons r1 r2=>
  cases r2 with
  | cons r3 r4=>cases r4;exact⟨_,_,rfl,r1,r3⟩
theorem AD(hc:X.calm=true):cJ X (.builtin "max") (fun xs H Q=>∃ i j,xs=[.int i,.int j]/\Q (.int (if j > i then j else i)) H):=by
 intro pins s σ H xs us Q I r h;obtain⟨i,j,rfl,q⟩:=h;obtain⟨u,w',rfl,⟨t,rfl⟩,⟨t',rfl⟩⟩:=ER r;refine max_two_ints (I.ok.hd hc) fun h' tk k=>⟨_,H,I.kept k,?_,q⟩
 by_cases hj:j > i
 ·rw[if_pos hj,if_pos hj];exact⟨_,rfl⟩
 ·rw[if_neg hj,if_neg hj];exact⟨_,rfl⟩
end
structure ObjM(h:K1)(x dx C:KE)(mA:Str->Option KC):Prop where
 obj:h.get? x=some (NU C dx)
 ns:h.Ns1 dx mA
 ne:dx≠x
theorem sf{h:K1}{dx:KE}{mA:Str->Option KC}(n:h.Ns1 dx mA):∃ od,h.get? dx=some od/\∀ name,S1 name od=some (mA name):=by
 obtain⟨o,es,ep,ho,hd,hk,_,hm⟩:=n;refine⟨o,ho,fun name=>?_⟩;have e:=hm name;unfold nsFind findBy at e;rw[<- Array.find?_toList]at e;unfold S1;rw[hd];dsimp only;split
 ·rename_i y q;rw[q]at e;exact congrArg some e
 ·rename_i q;rw[q]at e;have a:es.toList.any (·.refKey)=false:=by
   rw[List.any_eq_false];intro y hy;obtain⟨z,t,hkey⟩:=hk y (Array.mem_toList_iff.mp hy);simp[DictEntry.refKey,hkey]
  have a':¬ es.toList.any (·.refKey)=true:=by rw[a];exact Bool.false_ne_true
  rw[if_neg a'];exact congrArg some e
theorem ObjM.look{h:K1}{x dx C:KE}{mA:Str->Option KC}(I:ObjM h x dx C mA):∃ od,S3 h x (NU C dx) C (some od)/\∀ name,S1 name od=some (mA name):=
 let ⟨od,ho,hl⟩:=sf I.ns
 ⟨od,⟨I.obj,rfl,rfl,ho⟩,hl⟩
section
variable{prog:KQ}{w:K2}{A:KY}{E:KC->KF->Prop}{s:KF}{K:Nq}{x dx C f:KE}{mA:Str->Option KC}{name:Str}{v:KC}
theorem Em{expr:Bool}{Q:KC->KF->Prop}(X:K.In s.heap)(I:ObjM s.heap x dx C mA)(hg:O0 K C name=true)(hh:SY K C=true)
  (ha:Oc K (.ref C) name=some none) (hv:mA name=some v) (hv':PySem.W.handedIn v=true) (h:Q v { s with toks:=s.toks+1 }):
  KI (KL prog w) A (Pl (.ref x) name expr) Q E s:=by
 obtain⟨od,J,hl⟩:=I.look;exact PySem.W.get_value X J (OO hg).1 (PySem.W.findObj_own hh ha rfl (by rw[hl,hv])) hv' h
theorem Cn{pl:Sem Bool}{Q:KC×List KC->KF->Prop}(X:K.In s.heap)(I:ObjM s.heap x dx C mA)(hg:O0 K C name=true)
  (hf:Oc K (.ref C) name=some (some (.ref f))) (ht:S4 K (.ref f)=true) (hv:mA name=none) (h:Q (.ref f,[.ref x]) s):
  KI (KL prog w) A (Nv (.ref x) name pl) Q E s:=by
 obtain⟨od,J,hl⟩:=I.look;exact PySem.W.method_fn X J (OO hg).1 (OO hg).2 hf (beq_iff_eq.mp ht) (by show (S1 name od).map (·.isSome)=some false;rw[hl,hv];rfl) h
theorem Ds{ns:List Str}{Q:Unit->KF->Prop}(X:K.In s.heap)(I:ObjM s.heap x dx C mA)
  (hs:Oc K (.ref C) "__setattr__"=some (some (.builtin "object.__setattr__"))) (hp:PySem.W.plainOver K C=true) (ht:SX K C name=some none) (hh:SY K C=true)
  (hw:PySem.Within mA ns) (hsz:ns.length<=KM)
  (h:∀ h',ObjM h' x dx C (fun y=>if y=name then some v else mA y)->LS dx s.heap h'->Q () { s with heap:=h',toks:=s.toks+2 }):
  KI (KL prog w) A (Qm (.ref x) name v) Q E s:=by
 obtain⟨od,J,hl⟩:=I.look;refine PySem.W.set_plain X J hs (PySem.W.osa_open (s:={ s with toks:=s.toks+1 }) (r:=none) X J hp ht fun b=>?_)
 obtain⟨cd,hc,hd'⟩:=PySem.W.any_some hh;have hx:s.heap.get? x=some ⟨.ref C,some dx,.plain,#[]⟩:=I.obj;refine KB (KD (KB (KB (OZ hx (KB (PySem.W.Looks.here (s:={ s with toks:=s.toks+1 }) (PySem.W.looks_clsIn X hc) ?_))))))
 rw[hd'];refine KD (a:=some dx) (KB (KD (KB ?_)));refine wpAny_nsSet1 (s:={ s with toks:=s.toks+1 }) I.ns fun h' hn2 hs2=>?_
 obtain⟨oD,esD,epD,hoD,hdD,hcD⟩:=hn2.count (PySem.Within.cons name v hw);refine KB (wpAny_lookBehind hoD (by rw[hdD];exact pastItsLine_dict (le_trans hcD (by rw[Lb];omega))) ?_)
 exact KD (h _ ⟨(hs2.2 _ (Ne.symm I.ne)).trans I.obj,hn2,I.ne⟩ hs2)
theorem B8{R:NW->KF->Prop}{vs:List KC}{kw:List (Str×KC)}(X:K.In s.heap)(hm:ST K C=true)
  (hi:Oc K (.ref C) "__init__"=some (some (.ref f))) (hf:SZ K (.ref f)=some (.type "function"))
  (h:Ml (KL prog w) (A.under (.builtin "type.__call__" ⟨.ref C::vs,kw⟩)) (.call (.ref f) ⟨.ref (s.heap.objs.size+1)::vs,kw⟩) (PySem.W.InitBack (s.heap.objs.size+1) R)
   { s with heap:=(s.heap.push M_).push (NU C s.heap.objs.size) }):
  Ml (KL prog w) A (.call (.ref C) ⟨vs,kw⟩) R s:=by
 obtain⟨hh,g,d,t,os⟩:=s;exact PySem.W.make_core (PySem.W.makes_of X hm) (Oy X hi) (fun self=>PySem.W.bind_fn X self hf) (.inl rfl) h
end
def e_(f:Str)(v:V):List (Str×V)->List (Str×V)
 | []=>[(f,v)]
 | (g,x)::r=>if g=f then (g,v)::r else (g,x)::e_ f v r
theorem nA(f g:Str)(v:V):∀ fs:List (Str×V),(e_ f v fs).lookup g=if g=f then some v else fs.lookup g
 | []=>by
  show List.lookup g [(f,v)]=_
  by_cases h:g=f
  ·have hb:(g == f)=true:=beq_iff_eq.mpr h;simp only[List.lookup,hb,if_pos h]
  ·have hb:(g == f)=false:=beq_eq_false_iff_ne.mpr h;simp only[List.lookup,hb,if_neg h]
 | (k,x)::r=>by
  have ih:=nA f g v r;rw[show e_ f v ((k,x)::r)=(if k=f then (k,v)::r else (k,x)::e_ f v r)from rfl]
  by_cases hk:k=f
  ·rw[if_pos hk]
   by_cases h:g=k
   ·have hb:(g == k)=true:=beq_iff_eq.mpr h;simp only[List.lookup,hb,if_pos (h.trans hk)]
   ·have hb:(g == k)=false:=beq_eq_false_iff_ne.mpr h;simp only[List.lookup,hb,if_neg (fun e:g=f=>h (e.trans hk.symm))]
  ·rw[if_neg hk]
   by_cases h:g=k
   ·have hb:(g == k)=true:=beq_iff_eq.mpr h;simp only[List.lookup,hb,if_neg (fun e:g=f=>hk (h.symm.trans e))]
   ·have hb:(g == k)=false:=beq_eq_false_iff_ne.mpr h;simp only[List.lookup,hb];exact ih
theorem mO(f:Str)(v:V):∀ fs:List (Str×V),f∈(e_ f v fs).map (·.1)/\∀ g,g∈fs.map (·.1)->g∈(e_ f v fs).map (·.1)
 | []=>⟨by simp[e_],fun g h=>by simp at h⟩
 | (k,x)::r=>by
  obtain⟨i1,i2⟩:=mO f v r;rw[show e_ f v ((k,x)::r)=(if k=f then (k,v)::r else (k,x)::e_ f v r)from rfl]
  by_cases hk:k=f
  ·rw[if_pos hk];subst hk;exact⟨by simp,fun g h=>by simpa using h⟩
  ·rw[if_neg hk];refine⟨?_,fun g h=>?_⟩
   ·rw[K3];exact KZ _ i1
   ·rw[K3]at h ⊢;rcases Le.mp h with e|e
    ·exact Le.mpr (.inl e)
    ·exact KZ _ (i2 g e)
theorem nC(f:Str)(v:V):∀ fs:List (Str×V),(e_ f v fs).length<=fs.length+1
 | []=>by simp[e_]
 | (k,x)::r=>by
  have ih:=nC f v r;rw[show e_ f v ((k,x)::r)=(if k=f then (k,v)::r else (k,x)::e_ f v r)from rfl]
  by_cases hk:k=f
  ·rw[if_pos hk,Lb,Lb];omega
  ·rw[if_neg hk,Lb,Lb];omega
theorem iG.some_of{v:V}{o:Option KC}(r:iG (some v) o):∃ u,o=some u/\RelV v u:=by
 cases o with
 | none=>exact (show False from r).elim
 | some u=>exact⟨u,rfl,r⟩
theorem iG.none_of{o:Option KC}(r:iG none o):o=none:=by
 cases o with
 | none=>rfl
 | some u=>exact (show False from r).elim
theorem Ao{v:V}{u:KC}(r:RelV v u):PySem.W.handedIn u=true:=by
 cases v with
 | non=>cases (show u=Value.none from r);rfl
 | bl b=>cases (show u=Value.bool b from r);rfl
 | int i=>obtain⟨t,e⟩:=(show ∃ t,u=Value.int i t from r);cases e;rfl
 | str x=>obtain⟨t,e⟩:=(show ∃ t,u=Value.str x t from r);cases e;rfl
 | byt b=>obtain⟨t,e⟩:=(show ∃ t,u=Value.bytes b t from r);cases e;rfl
 | flt b=>obtain⟨t,e⟩:=(show ∃ t,u=Value.float b t from r);cases e;rfl
 | ref a=>cases (show u=Value.ref a from r);rfl
 | ty n=>cases (show u=Value.type n from r);rfl
section
variable{P:KQ}{w:K2}{H H':Hp}{h h':K1}{a C dx:KE}{fs fs':List (Str×V)}
theorem t9(hok:iH P w H h)(e:H a=some (.ins C dx fs)):∃ mA,ObjM h a dx C mA/\(∀ f,iG (fs.lookup f) (mA f))/\PySem.Within mA (fs.map (·.1))/\fs.length<=1000/\H dx=some (.own a):=by
 obtain⟨d,z,ne,ob,mA,n,r,q⟩:=(show ba P w H h a (.ins C dx fs)from hok a _ e)
 exact⟨mA,⟨ob,n,ne⟩,r,q,z,d⟩
end
structure Cls(K:Nq)(C:KE):Prop where
 pg:O0 K C Str.empty=true
 hd:SY K C=true
 po:PySem.W.plainOver K C=true
 sa:Oc K (.ref C) "__setattr__"=some (some (.builtin "object.__setattr__"))
theorem Cls.get{K:Nq}{C:KE}(c:Cls K C)(f:Str):O0 K C f=true:=c.pg
def bE(K:Nq)(C:KE)(f:Str):Prop:=Oc K (.ref C) f=some none
theorem bE.taker{K:Nq}{C:KE}{f:Str}(n:bE K C f):SX K C f=some none:=by
 unfold SX;rw[show Oc K (.ref C) f=some none from n]
 rfl
structure Con(K:Nq)(C:KE)(f:Str)(v:V)(u:KC):Prop where
 at_:Oc K (.ref C) f=some (some u)
 rel:RelV v u
 get:OI K u "__get__"=some none
 cp:PySem.W.copiedNames.contains f=false
structure Meth(K:Nq)(C:KE)(m:Str)(f:KE):Prop where
 at_:Oc K (.ref C) m=some (some (.ref f))
 fn:S4 K (.ref f)=true
 kp:OK K (.ref f)=true
section
variable{X:Cx}{pins:List (KE×Obj)}{σ:St}{H:Hp}{s:KF}{a C dx:KE}{fs:List (Str×V)}{f:Str}{v:V}{A:KY}{E:KC->KF->Prop}
theorem xu{b:Bool}{Q:KC->KF->Prop}(I:Inv X pins σ H s)(e:H a=some (.ins C dx fs))(c:Cls X.K C)(n:bE X.K C f)(l:fs.lookup f=some v)
  (h:∀ u s',Inv X pins σ H s'->RelV v u->Q u s'):KI (KL X.prog X.w) A (Pl (.ref a) f b) Q E s:=by
 obtain⟨mA,O,r,_,_,_⟩:=t9 I.hok e;obtain⟨u,hu,ru⟩:=iG.some_of (v:=v) (o:=mA f) (by rw[<- l];exact r f)
 exact Em I.kIn O (c.get f) c.hd n hu (Ao ru) (h u _ (I.tok _) ru)
theorem kK{m:Str}{g:KE}{pl:Sem Bool}{Q:KC×List KC->KF->Prop}(I:Inv X pins σ H s)(e:H a=some (.ins C dx fs))(c:Cls X.K C)(k:Meth X.K C m g)(l:fs.lookup m=none)
  (h:Q (.ref g,[.ref a]) s):KI (KL X.prog X.w) A (Nv (.ref a) m pl) Q E s:=by
 obtain⟨mA,O,r,_,_,_⟩:=t9 I.hok e;have hn:mA m=none:=iG.none_of (by rw[<- l];exact r m)
 exact Cn I.kIn O (c.get m) k.at_ k.fn hn h
theorem wJ{y:V}{u:KC}{Q:Unit->KF->Prop}(I:Inv X pins σ H s)(e:H a=some (.ins C dx fs))(c:Cls X.K C)(n:bE X.K C f)(hl:fs.length < 1000)(ry:RelV y u)
  (h:∀ s',Inv X pins σ (aI H a (.ins C dx (e_ f y fs))) s'->Q () s'):KI (KL X.prog X.w) A (Qm (.ref a) f u) Q E s:=by
 obtain⟨mA,O,r,wi,_,ho⟩:=t9 I.hok e;have hz:(fs.map (·.1)).length<=KM:=by rw[KP,LB];omega
 refine Ds I.kIn O c.sa c.po n.taker c.hd wi hz fun h' O' sb=>h _ ?_;have hd:∃ o,h'.get? dx=some o:=let ⟨o,_,_,e',_⟩:=O'.ns;⟨o,e'⟩;refine I.write (x:=a) (e:=dx) (by rw[e];exact True.intro) (.inr ho) (fun b q hb z=>(sb.2 b hb).trans z) hd ?_
 refine⟨by rw[aj O.ne];exact ho,?_,O.ne,O'.obj,_,O'.ns,fun g=>?_,fun g hg=>?_⟩
 ·have:=nC f y fs;omega
 ·show iG ((e_ f y fs).lookup g) (if g=f then some u else mA g)
  rw[nA]
  by_cases q:g=f
  ·rw[if_pos q,if_pos q];exact ry
  ·rw[if_neg q,if_neg q];exact r g
 ·by_cases q:g=f
  ·rw[q];exact (mO f y fs).1
  ·refine (mO f y fs).2 g (wi g fun z=>hg ?_);show (if g=f then some u else mA g)=none
   rw[if_neg q];exact z
theorem Inv.made(I:Inv X pins σ H s):Inv X pins σ (aI (aI H s.heap.objs.size (.own (s.heap.objs.size+1))) (s.heap.objs.size+1) (.ins C s.heap.objs.size []))
  { s with heap:=(s.heap.push M_).push (NU C s.heap.objs.size) }:=by
 have e1:(s.heap.push M_).get? s.heap.objs.size=some M_:=KJ s.heap rfl;have e2:((s.heap.push M_).push (NU C s.heap.objs.size)).get? (s.heap.objs.size+1)=some (NU C s.heap.objs.size):=by
  have:=KJ (s.heap.push M_) (o:=NU C s.heap.objs.size) rfl;rwa[Lj]at this
 have e3:(s.heap.push M_).Ns s.heap.objs.size (fun _=>none):=⟨M_,#[],_,e1,rfl,(fun e he=>absurd he (by simp)),fun _=>rfl⟩
 have I1:=I.laid (a:=s.heap.objs.size) (o:=.own (s.heap.objs.size+1)) (h':=s.heap.push M_) (t':=s.toks) (fun b u q=>KG _ q) (le_refl _) ⟨_,e1⟩;refine I1.laid (a:=s.heap.objs.size+1) (o:=.ins C s.heap.objs.size []) (t':=s.toks) (fun b u q=>KG _ q) (Oa (Lj _ _)) ?_;have ne:s.heap.objs.size≠s.heap.objs.size+1:=K_ (Nat.lt_succ_self _);refine⟨by rw[aj ne,ay],LG _,ne,e2,fun _=>none,(Qp e3).at fun o q=>KG _ q,fun _=>True.intro,fun y hy=>absurd rfl hy⟩
theorem uz{prog:KQ}{w:K2}{env:Env}{e:K4}{f:Str}{pos:Pos}{s:KF}{Q:KC->KF->Prop}(hb:Ls e f env (eval e env)=eval e env)
  (h:KI (KL prog w) A (eval e env) (fun o s₁=>KI (KL prog w) A (Pl o f true) Q E s₁) E s):KI (KL prog w) A (eval (.Attribute e f pos) env) Q E s:=
 Attribute_any_ h (by rw[arm_eval_Attribute,hb])
end
def Jl(K:Nq)(ta:TE)(f:Str):TE:=fun σ H Q=>ta σ H fun x H1=>∃ a C dx fs v,x=.ref a/\H1 a=some (.ins C dx fs)/\Cls K C/\bE K C f/\fs.lookup f=some v/\Q v H1
def Jp(K:Nq)(ta tv:TE)(f:Str):TS:=fun D σ H=>tv σ H fun y H1=>ta σ H1 fun x H2=>∃ a C dx fs,x=.ref a/\H2 a=some (.ins C dx fs)/\Cls K C/\bE K C f/\fs.length < 1000/\
 D.nx σ (aI H2 a (.ins C dx (e_ f y fs)))
section
variable{X:Cx}{o e value:K4}{f:Str}{pos pos' Sn:Pos}{ta tv:TE}
theorem BN(he:PE X e ta)(hb:Ls e f X.env (eval e X.env)=eval e X.env):PE X (.Attribute e f pos) (Jl X.K ta f):=by
 intro pins s σ H Q I h;refine uz hb (br (he pins s σ H _ I h) fun u s1 zz=>?_);obtain⟨x,H1,I1,rx,a,C,dx,fs,v,ex,ea,c,n,l,q⟩:=zz;subst ex;obtain rfl:u=Value.ref a:=rx;exact xu I1 ea c n l fun u' s2 I2 ru=>⟨v,H1,I2,ru,q⟩
theorem BE(ha:PE X o ta)(hv:PE X value tv)(hs:Mb value (some (.Attribute o f pos')) pos.line X.env=pure false):PS X (.Assign [.Attribute o f pos'] value pos) (Jp X.K ta tv f):=by
 intro pins s σ H D I h;refine OE (br (hv pins s σ H _ I h) fun u s1 zz=>?_) hs;obtain⟨y,H1,I1,ry,q⟩:=zz;refine br (ha pins s1 σ H1 _ I1 q) fun ov s2 zz=>?_;obtain⟨x,H2,I2,rx,a,C,dx,fs,ex,ea,c,n,l,q2⟩:=zz;subst ex;obtain rfl:ov=Value.ref a:=rx;exact wJ I2 ea c n l ry fun s3 I3=>⟨σ,_,I3,q2⟩
end
section
variable{X:Cx}{pins:List (KE×Obj)}{σ:St}{H:Hp}{s:KF}{A:KY}{E:KC->KF->Prop}{Q:KC->KF->Prop}{c:KC}{b:Bool}
inductive TyOf(K:Nq)(H:Hp):V->KC->Prop where
 | non:TyOf K H .non (.type "NoneType")
 | bl (x:Bool):TyOf K H (.bl x) (.type "bool")
 | int (i:Int):TyOf K H (.int i) (.type "int")
 | str (x:Str):TyOf K H (.str x) (.type "str")
 | flt (x:UInt64):TyOf K H (.flt x) (.type "float")
 | lst {a:KE} {xs:List V} (e:H a=some (.lst xs)):TyOf K H (.ref a) (.type "list")
 | frz {a:KE} {o:Obj} {xs:List V} (e:H a=some (.frz o (.lst xs))):TyOf K H (.ref a) (.type "list")
 | tup {a:KE} {xs:List V} (e:H a=some (.tup xs)):TyOf K H (.ref a) (.type "tuple")
 | dK {a:KE} {kvs:List (ar×V)} (e:H a=some (.dK kvs)):TyOf K H (.ref a) (.type "dict")
 | dT {a:KE} {kvs:List (List ar×V)} (e:H a=some (.dT kvs)):TyOf K H (.ref a) (.type "dict")
 | ins {a C dx:KE} {fs:List (Str×V)} (e:H a=some (.ins C dx fs)) (cl:Cls K C) (ha:Oc K (.ref C) "__class__"=some (some (.builtin "object.__class__")))
   (hn:OI K (.builtin "object.__class__") "__get__"=some (some (.builtin "getset_descriptor.__get__"))) (htk:S0 K (.builtin "object.__class__")=some true)
   (hm:SW K C (.type "object")=some true):TyOf K H (.ref a) (.ref C)
end
structure Room(k:Nat)(A:KY):Prop where
 hd:A.handled=none
 dp:A.depth+3*k+5 < recursionLimit
 un:A.units+16*k+200 < Ly
theorem Room.mono{j k:Nat}{A:KY}(r:Room k A)(h:j<=k):Room j A:=⟨r.hd,by have:=r.dp;omega,by have:=r.un;omega⟩
theorem Room.deeper{k:Nat}{A:KY}(r:Room (k+1) A)(env:Env):Room k (A.deeper env):=
 ⟨r.hd,by have:=r.dp;show A.depth+1+3*k+5 < _;omega,by have:=r.un;show A.units+3+16*k+200 < _;omega⟩
theorem Room.in1{k:Nat}{A:KY}(r:Room (k+1) A):Room k A.in1:=
 ⟨r.hd,by have:=r.dp;show A.depth+3*k+5 < _;omega,by have:=r.un;show A.units+1+16*k+200 < _;omega⟩
theorem xj{A:KY}{C:KE}{us:List KC}{kw:List (Str×KC)}:(A.under (.builtin "type.__call__" ⟨.ref C::us,kw⟩)).depth=A.depth+1:=by
 first|rfl|simp[Ps,Code.weight,Code.isCreation,Code.isGuard,Code.isCaller,Code.frames,Pq,guardIds]
theorem xi{A:KY}{C:KE}{us:List KC}{kw:List (Str×KC)}:(A.under (.builtin "type.__call__" ⟨.ref C::us,kw⟩)).units=A.units+1:=by
 first|rfl|simp[Ps,Code.cUnits,Code.frames,Pq]
theorem Room.make{k:Nat}{A:KY}(r:Room (k+1) A)(C:KE)(us:List KC)(kw:List (Str×KC)):Room k (A.under (.builtin "type.__call__" ⟨.ref C::us,kw⟩)):=
 ⟨r.hd,by have:=r.dp;rw[xj];omega,by have:=r.un;rw[xi];omega⟩
theorem Room.depth{k:Nat}{A:KY}(r:Room k A):A.depth < recursionLimit:=by have:=r.dp;omega
theorem Room.units{k:Nat}{A:KY}(r:Room k A):A.units+64 < Ly:=by have:=r.un;omega
def GY:TA:=fun _ H Q=>Q [] H
def Hb(ta:TE)(tr:TA):TA:=fun σ H Q=>ta σ H fun x H1=>tr σ H1 fun xs H2=>Q (x::xs) H2
section
variable{X:Cx}{e:K4}{es:List K4}{te:TE}{t:TA}{pos:Pos}
theorem BQ:PA X [] GY:=fun _ _ _ _ H Q I h=>Mm ⟨[],H,I,.nil,h⟩
theorem tI(ha:PE X e te)(hr:PA X es t)(hs:KO (e::es) X.env=(false,eval e X.env)::KO es X.env:=by rfl):PA X (e::es) (Hb te t):=by
 intro pos pins s σ H Q I h;rw[hs];show KI _ _ (spliced ((false,eval e X.env)::LN pos (KO es X.env))) _ _ s
 refine LZ (br (ha pins s σ H _ I h) fun u s1 zz=>?_);obtain⟨x,H1,I1,r1,q1⟩:=zz;exact br (hr pos pins s1 σ H1 _ I1 q1) fun us s2 ⟨xs,H2,I2,r2,q2⟩=>⟨x::xs,H2,I2,.cons r1 r2,q2⟩
def Je(t:TA):TE:=fun σ H Q=>t σ H fun xs H1=>xs.length<=KM/\∀ p,H1 p=none->Q (.ref p) (aI H1 p (.tup xs))
def Ji(t:TA):TE:=fun σ H Q=>t σ H fun xs H1=>xs.length<=KM/\∀ p,H1 p=none->Q (.ref p) (aI H1 p (.lst xs))
theorem BK{x1}(h:PA X es t):PE X (.Tuple es x1 pos) (Je t):=by
 intro pins s σ H Q I hq;refine wpAny_Tuple_spliced (br (h pos pins s σ H _ I hq) fun us s1 ⟨xs,H1,I1,r,z,q⟩=>⟨by rw[<- r.length];exact z,?_⟩)
 have hf:H1 s1.heap.objs.size=none:=I1.hok.fresh (le_refl _);refine⟨.ref s1.heap.objs.size,aI H1 s1.heap.objs.size (.tup xs),I1.laid (t':=s1.toks) (fun b u e=>KG _ e) (le_refl _) ?_,rfl,q _ hf⟩;exact⟨z,us,r,oA.new _ _⟩
theorem FN(h:PA X es t):PE X (.List es pos) (Ji t):=by
 intro pins s σ H Q I hq;refine wpAny_List_spliced (br (h pos pins s σ H _ I hq) fun us s1 ⟨xs,H1,I1,r,z,q⟩=>⟨by rw[<- r.length];exact z,?_⟩)
 have hf:H1 s1.heap.objs.size=none:=I1.hok.fresh (le_refl _);refine⟨.ref s1.heap.objs.size,aI H1 s1.heap.objs.size (.lst xs),I1.laid (t':=s1.toks) (fun b u e=>KG _ e) (le_refl _) ?_,rfl,q _ hf⟩;exact⟨z,us,0,r,KJ _ rfl⟩
end
abbrev Sp:=List V->Hp->VK->XK->Prop
abbrev zo:=List Env->Hp->KF->XK->KC->KF->Prop
structure Env0(P:KQ)(w:K2)(K:Nq)(mg:Str->Option KC)(base:K1)(A:KY)(outer:List Env)(s:KF)(H:Hp):Prop where
 frames:A.frames=some outer
 mod:Mod K mg base
 bs:∀ b o,base.get? b=some o->s.heap.get? b=some o/\H b=none
 bsz:base.objs.size<=s.heap.objs.size
 funs:s.heap.FunFrames base outer
 frf:∀ b∈ue outer,H b=none
 hok:iH P w H s.heap
 bare:NI s.gens
def CE(outer:List Env)(P:KQ)(w:K2)(H:Hp)(s:KF)(Q:VK)(u:KC)(s':KF):Prop:=
 ∃ v H',s'.os=s.os/\NI s'.gens/\Un (ue outer) [] H H' s.heap s'.heap/\iH P w H' s'.heap/\RelV v u/\Q v H'
def CR(CX:zo)(outer:List Env)(P:KQ)(w:K2)(H:Hp)(s:KF)(Q:VK)(E:XK)(r:NW)(s':KF):Prop:=
 match r with
 | .ok (.ret u)=>CE outer P w H s Q u s'
 | .ok _=>False
 | .error e=>CX outer H s E e s'
structure FnOk(P:KQ)(w:K2)(K:Nq)(mg:Str->Option KC)(base:K1)(CX:zo)(k:Nat)(f:KE)(fd:Lz)(ps:List Str)(sp:Sp):Prop where
 len:∀ vs H Q E,sp vs H Q E->vs.length=ps.length
 run:∀ (A:KY) (outer:List Env) (s:KF) (H:Hp) (args:Args) (us:List KC) (vs:List V) (Q:VK) (E:XK),Room k A->Env0 P w K mg base A outer s H->OD s fd args (ps.zip us)->Vals vs us->sp vs H Q E->
  Ml (KL P w) A (.call (.ref f) args) (CR CX outer P w H s Q E) s
theorem FnOk.mono{P:KQ}{w:K2}{K:Nq}{mg:Str->Option KC}{base:K1}{CX:zo}{j k:Nat}{f:KE}{fd:Lz}{ps:List Str}{sp:Sp}(F:FnOk P w K mg base CX j f fd ps sp)(h:j<=k):
  FnOk P w K mg base CX k f fd ps sp:=⟨F.len,fun A outer s H args us vs Q E hr=>F.run A outer s H args us vs Q E (hr.mono h)⟩
theorem FnOk.imp{P:KQ}{w:K2}{K:Nq}{mg:Str->Option KC}{base:K1}{CX:zo}{k:Nat}{f:KE}{fd:Lz}{ps:List Str}{sp sp':Sp}(F:FnOk P w K mg base CX k f fd ps sp)
  (h:∀ vs H Q E,sp' vs H Q E->sp vs H Q E):FnOk P w K mg base CX k f fd ps sp':=
 ⟨fun vs H Q E q=>F.len vs H Q E (h _ _ _ _ q),fun A outer s H args us vs Q E hr he hb hv hs=>F.run A outer s H args us vs Q E hr he hb hv (h _ _ _ _ hs)⟩
theorem Env0.make{P:KQ}{w:K2}{K:Nq}{mg:Str->Option KC}{base:K1}{A:KY}{outer:List Env}{s:KF}{H:Hp}(e:Env0 P w K mg base A outer s H)(C:KE)(us:List KC)(kw:List (Str×KC)):
  Env0 P w K mg base (A.under (.builtin "type.__call__" ⟨.ref C::us,kw⟩)) outer s H:=⟨by first|exact e.frames|(simpa[Ps,Code.envs,Pq,pushEnvs]using e.frames),e.mod,e.bs,e.bsz,e.funs,e.frf,e.hok,e.bare⟩
theorem Env0.in1{P:KQ}{w:K2}{K:Nq}{mg:Str->Option KC}{base:K1}{A:KY}{outer:List Env}{s:KF}{H:Hp}(e:Env0 P w K mg base A outer s H):
  Env0 P w K mg base A.in1 outer s H:=⟨e.frames,e.mod,e.bs,e.bsz,e.funs,e.frf,e.hok,e.bare⟩
section
variable{X:Cx}{pins:List (KE×Obj)}{σ:St}{H:Hp}{s s':KF}
theorem Inv.env0(I:Inv X pins σ H s):Env0 X.prog X.w X.K X.mg X.base X.A X.stack s H:=
 ⟨I.ok.frames,I.ok.mod,I.bs,le_trans I.ok.bsz I.sz,I.stack,I.stkFree,I.hok,I.bare⟩
theorem Inv.after{Q:VK}{u:KC}(I:Inv X pins σ H s)(h:CE X.stack X.prog X.w H s Q u s'):EP X pins σ Q u s':=by
 obtain⟨v,H',os,bare,un,hok,r,q⟩:=h;obtain⟨hh,g,d,t,os'⟩:=s';obtain rfl:os'=s.os:=os;exact⟨v,H',I.call (h':=hh) (g':=g) (d':=d) (t':=t) (ch:=[]) un hok bare (fun b z=>absurd z (by simp)),r,q⟩
end
def EU(sp:Sp)(dvs:List V)(E:XK)(t:TA):TE:=fun σ H Q=>t σ H fun vs H1=>sp (vs ++ dvs) H1 Q E
def A4(C:KE)(m:Str)(sp:Sp)(dvs:List V)(E:XK)(ta:TE)(t:TA):TE:=fun σ H Q=>ta σ H fun x H1=>∃ a dx fs,x=.ref a/\H1 a=some (.ins C dx fs)/\fs.lookup m=none/\
 t σ H1 fun vs H2=>sp (x::(vs ++ dvs)) H2 Q E
def ET(C:KE)(sp:Sp)(dvs:List V)(E:XK)(t:TA):TE:=fun σ H Q=>t σ H fun vs H1=>∀ x dx,H1 x=none->H1 dx=none->dx≠x->
 sp (.ref x::(vs ++ dvs)) (aI (aI H1 dx (.own x)) x (.ins C dx [])) (fun v H2=>v=.non/\Q (.ref x) H2) E
def db(K:Nq)(fd:Lz)(ps:List Str)(ds:List KC):Prop:=
 ∀ (s:KF) (us:List KC),K.In s.heap->(us ++ ds).length=ps.length->OD s fd ⟨us,[]⟩ (ps.zip (us ++ ds))
theorem db.all{K:Nq}{fd:Lz}{ps:List Str}(h:∀ us:List KC,us.length=ps.length->bindArgs fd ⟨us,[]⟩=pure (ps.zip us)):db K fd ps []:=fun s us _ hl=>by
 rw[M5]at hl ⊢;exact .of_eq (h us hl)
def ji(CX:zo)(X:Cx)(E:XK):Prop:=∀ (pins:List (KE×Obj)) (σ:St) (H:Hp) (s:KF) (e:KC) (s':KF),Inv X pins σ H s->CX X.stack H s E e s'->X.xe e s'
section
variable{X:Cx}{CX:zo}{k:Nat}{f C:KE}{fd:Lz}{ps:List Str}{sp:Sp}{dvs:List V}{ds:List KC}{E:XK}{x m:Str}{p pos apos:Pos}{e o:K4}{es:List K4}{ta:TE}{t:TA}
theorem sO{pins:List (KE×Obj)}{σ:St}{H:Hp}{s:KF}{Q:VK}{us:List KC}{vs:List V}(F:FnOk X.prog X.w X.K X.mg X.base CX k f fd ps sp)(hr:Room k X.A)(hb:db X.K fd ps ds)(hd:Vals dvs ds)(hx:ji CX X E)
  (I:Inv X pins σ H s) (r:Vals vs us) (h:sp (vs ++ dvs) H Q E):KI (KL X.prog X.w) X.A (call (.ref f) us) (EP X pins σ Q) X.xe s:=by
 have r2:Vals (vs ++ dvs) (us ++ ds):=r.append hd;have hl:(us ++ ds).length=ps.length:=by rw[<- r2.length];exact F.len _ _ _ _ h
 refine Nh (Mz (F.run X.A X.stack s H ⟨us,[]⟩ (us ++ ds) (vs ++ dvs) Q E hr I.env0 (hb s us I.kIn hl) r2 h) fun r s' hq=>?_);cases r with
 | error e=>exact hx pins σ H s e s' I hq
 | ok fl=>
  cases fl with
  | ret u=>exact I.after hq
  | next=>exact False.elim hq
  | brk=>exact False.elim hq
  | cont=>exact False.elim hq
theorem yG(F:FnOk X.prog X.w X.K X.mg X.base CX k f fd ps sp)(hr:Room k X.A)(hg:Gl X x)(hm:X.mg x=some (.ref f))(hk:OK X.K (.ref f)=true)(hb:db X.K fd ps ds)(hd:Vals dvs ds)(hx:ji CX X E)
  (ha:PA X (e::es) t) (hdb:(x == ("__debug__":Str))=false:=by decide) (he:KO (e::es) X.env=(false,eval e X.env)::KO es X.env:=by rfl) (hpl:(LN pos (KO es X.env)).any (·.1)=false:=by rfl):
  PE X (.Call (.Name x p) (e::es) [] pos) (EU sp dvs E t):=by
 intro pins s σ H Q I h;refine Md (jw I hg hm ?_ hdb);refine Nx (h₀:=X.base) I.ok.mod.kin hk (br (ha pos pins s σ H _ I h) fun us s1 ⟨vs,H1,I1,r,q⟩=>⟨I1.kIn,?_⟩) he hpl;exact sO F hr hb hd hx I1 r q
theorem DP{pl:Sem Bool}(he:PE X o ta)(c:Cls X.K C)(hm:Meth X.K C m f)(F:FnOk X.prog X.w X.K X.mg X.base CX k f fd ps sp)(hr:Room k X.A)(hb:db X.K fd ps ds)(hd:Vals dvs ds)(hx:ji CX X E)(ha:PA X (e::es) t)
  (hst:KO (e::es) X.env=(false,eval e X.env)::KO es X.env:=by rfl) (hpl:(LN pos (KO es X.env)).any (·.1)=false:=by rfl)
  (ht:eval (.Call (.Attribute o m apos) (e::es) [] pos) X.env=(do
   let ov <- eval o X.env
   Nu apos.atName
   let (f,first) <- holding [ov] (Nv ov m pl)
   Oz pos f first (LN pos (KO (e::es) X.env)) (No pos (Mv [] X.env))):=by rfl):
  PE X (.Call (.Attribute o m apos) (e::es) [] pos) (A4 C m sp dvs E ta t):=by
 intro pins s σ H Q I h;refine NK (pl:=pl) (br (he pins s σ H _ I h) fun u s1 zz=>?_) ht;obtain⟨x,H1,I1,rx,a,dx,fs,ex,ea,l,q⟩:=zz;subst ex;obtain rfl:u=Value.ref a:=rx;refine kK I1 ea c hm l ?_;refine Nx (first:=[.ref a]) (h₀:=X.base) I.ok.mod.kin hm.kp (br (ha pos pins s1 σ H1 _ I1 q) fun us s2 ⟨vs,H2,I2,r,q2⟩=>⟨I2.kIn,?_⟩) hst hpl
 exact sO (us:=.ref a::us) (vs:=.ref a::vs) F hr hb hd hx I2 (.cons rfl r) q2
theorem BM{pl:Sem Bool}(he:PE X o ta)(c:Cls X.K C)(hm:Meth X.K C m f)(F:FnOk X.prog X.w X.K X.mg X.base CX k f fd ps sp)(hr:Room k X.A)(hb:db X.K fd ps ds)(hd:Vals dvs ds)(hx:ji CX X E)
  (ht:eval (.Call (.Attribute o m apos) [] [] pos) X.env=(do
   let ov <- eval o X.env
   Nu apos.atName
   let (f,first) <- holding [ov] (Nv ov m pl)
   Oz pos f first (LN pos (KO [] X.env)) (No pos (Mv [] X.env))):=by rfl):
  PE X (.Call (.Attribute o m apos) [] [] pos) (A4 C m sp dvs E ta GY):=by
 intro pins s σ H Q I h;refine NK (pl:=pl) (br (he pins s σ H _ I h) fun u s1 zz=>?_) ht;obtain⟨x,H1,I1,rx,a,dx,fs,ex,ea,l,q⟩:=zz;subst ex;obtain rfl:u=Value.ref a:=rx;refine kK I1 ea c hm l ?_;exact PySem.W.callWith_K0 (first:=[.ref a]) I1.kIn hm.kp (sO (us:=[.ref a]) (vs:=[.ref a]) F hr hb hd hx I1 (.cons rfl .nil) q)
structure Mk(K:Nq)(C f:KE):Prop where
 makes:ST K C=true
 init:Oc K (.ref C) "__init__"=some (some (.ref f))
 fn:S4 K (.ref f)=true
 kp:OK K (.ref C)=true
theorem Bg{pins:List (KE×Obj)}{σ:St}{H:Hp}{s:KF}{Q:VK}{us:List KC}{vs:List V}(M:Mk X.K C f)(F:FnOk X.prog X.w X.K X.mg X.base CX k f fd ps sp)(hr:Room (k+1) X.A)(hb:db X.K fd ps ds)(hd:Vals dvs ds)
  (hx:ji CX X E) (I:Inv X pins σ H s) (r:Vals vs us)
  (h:∀ x dx,H x=none->H dx=none->dx≠x->sp (.ref x::(vs ++ dvs)) (aI (aI H dx (.own x)) x (.ins C dx [])) (fun v H2=>v=.non/\Q (.ref x) H2) E):
  KI (KL X.prog X.w) X.A (call (.ref C) us) (EP X pins σ Q) X.xe s:=by
 have hq:=h (s.heap.objs.size+1) s.heap.objs.size (I.hok.fresh (NE _)) (I.hok.fresh (le_refl _)) (K_ (Nat.lt_succ_self _));have I2:=Inv.made (C:=C) I;have r2:Vals (V.ref (s.heap.objs.size+1)::(vs ++ dvs)) (Value.ref (s.heap.objs.size+1)::(us ++ ds)):=.cons rfl (r.append hd);have hl:(Value.ref (s.heap.objs.size+1)::us ++ ds).length=ps.length:=by
  have e:=r2.length;rw[F.len _ _ _ _ hq]at e;exact e.symm
 refine Nh (B8 (f:=f) I.kIn M.makes M.init (beq_iff_eq.mp M.fn) (Mz (F.run _ X.stack _ _ ⟨Value.ref (s.heap.objs.size+1)::us,[]⟩ (Value.ref (s.heap.objs.size+1)::(us ++ ds)) _ _ E (hr.make C us [])
  (I2.env0.make C us []) (hb _ (Value.ref (s.heap.objs.size+1)::us) I2.kIn hl) r2 hq) fun r s' hq'=>?_))
 cases r with
 | error e=>exact hx pins σ _ _ e s' I2 hq'
 | ok fl=>
  cases fl with
  | ret u=>
   obtain⟨v,H',I3,rv,ev,q3⟩:=I2.after hq';subst ev;exact⟨rv,⟨V.ref (s.heap.objs.size+1),H',I3,rfl,q3⟩⟩
  | next=>exact False.elim hq'
  | brk=>exact False.elim hq'
  | cont=>exact False.elim hq'
theorem DQ(M:Mk X.K C f)(F:FnOk X.prog X.w X.K X.mg X.base CX k f fd ps sp)(hr:Room (k+1) X.A)(hg:Gl X x)(hm:X.mg x=some (.ref C))(hb:db X.K fd ps ds)(hd:Vals dvs ds)(hx:ji CX X E)
  (ha:PA X (e::es) t) (hdb:(x == ("__debug__":Str))=false:=by decide) (he:KO (e::es) X.env=(false,eval e X.env)::KO es X.env:=by rfl) (hpl:(LN pos (KO es X.env)).any (·.1)=false:=by rfl):
  PE X (.Call (.Name x p) (e::es) [] pos) (ET C sp dvs E t):=by
 intro pins s σ H Q I h;refine Md (jw I hg hm ?_ hdb);refine Nx (h₀:=X.base) I.ok.mod.kin M.kp (br (ha pos pins s σ H _ I h) fun us s1 ⟨vs,H1,I1,r,q⟩=>⟨I1.kIn,?_⟩) he hpl;exact Bg M F hr hb hd hx I1 r q
end
section
variable{X:Cx}{CX:zo}{k:Nat}{f C:KE}{fd:Lz}{ps ks:List Str}{sp:Sp}{E:XK}{x m:Str}{p pos apos Su:Pos}{e o:K4}{es:List K4}{kws:List NY}{te ta:TE}{t tk:TA}{nm:Option Str}
structure KBinds(K:Nq)(fd:Lz)(ps ks:List Str)(g:List KC->List KC->List KC)(gV:List V->List V->List V):Prop where
 to:∀ (s:KF) (us ws:List KC),K.In s.heap->(g us ws).length=ps.length->OD s fd ⟨us,ks.zip ws⟩ (ps.zip (g us ws))
 rel:∀ {vs:List V} {us:List KC} {zs:List V} {ws:List KC},Vals vs us->Vals zs ws->Vals (gV vs zs) (g us ws)
variable{g:List KC->List KC->List KC}{gV:List V->List V->List V}
end
structure FnScope(N P:List Str)(sc:MX):Prop where
 kind:sc.kind=.function
 co:sc.isCoroutine=false
 gen:sc.isGenerator=false
 nd:N.Nodup
 pre:N.take P.length=P
 par:∀ x∈P,sc.names.lookup x=some .local\/sc.names.lookup x=some .cell
 nofree:∀ y∈sc.names,y.2≠.free
theorem sw{kindOf:Str->Option Ny}{x:Str}:∀ {binds:List (Str×KC)} {m:Str->Option KC},(∀ v,(x,v)∉binds)->Pa kindOf binds m x=m x
 | [],_,_=>rfl
 | (n,v)::r,m,h=>by
  unfold Pa;rw[sw fun w hw=>h w (KZ _ hw)];split
  ·have:x≠n:=by rintro rfl;exact h v KU
   simp[this]
  ·rfl
theorem sy{kindOf:Str->Option Ny}{x:Str}:∀ {binds:List (Str×KC)} {m:Str->Option KC},(∀ v,(x,v)∉binds)->Pc kindOf binds m x=m x
 | [],_,_=>rfl
 | (n,v)::r,m,h=>by
  unfold Pc;rw[sy fun w hw=>h w (KZ _ hw)];split
  ·rfl
  ·have:x≠n:=by rintro rfl;exact h v KU
   simp[this]
theorem sx{kindOf:Str->Option Ny}{x:Str}{v:KC}:∀ {P:List Str} {vs:List KC} {i:Nat} {m:Str->Option KC},P.Nodup->P[i]?=some x->vs[i]?=some v->kindOf x=some .local->
  Pa kindOf (P.zip vs) m x=some v
 | [],_,_,_,_,h,_,_=>by simp at h
 | _::_,[],_,_,_,_,h,_=>by simp at h
 | p::P,w::vs,0,m,nd,h1,h2,hk=>by
  simp at h1 h2;subst h1;subst h2;show Pa kindOf ((p,w)::P.zip vs) m p=_
  unfold Pa;rw[sw fun v hv=>(L7.mp nd).1 (List.of_mem_zip hv).1,if_pos hk];simp
 | p::P,w::vs,i+1,m,nd,h1,h2,hk=>by
  show Pa kindOf ((p,w)::P.zip vs) m x=_
  unfold Pa;exact sx (i:=i) (L7.mp nd).2 (by simpa using h1) (by simpa using h2) hk
theorem sA{kindOf:Str->Option Ny}{x:Str}{v:KC}:∀ {P:List Str} {vs:List KC} {i:Nat} {m:Str->Option KC},P.Nodup->P[i]?=some x->vs[i]?=some v->kindOf x≠some .local->
  Pc kindOf (P.zip vs) m x=some v
 | [],_,_,_,_,h,_,_=>by simp at h
 | _::_,[],_,_,_,_,h,_=>by simp at h
 | p::P,w::vs,0,m,nd,h1,h2,hk=>by
  simp at h1 h2;subst h1;subst h2;show Pc kindOf ((p,w)::P.zip vs) m p=_
  unfold Pc;rw[sy fun v hv=>(L7.mp nd).1 (List.of_mem_zip hv).1,if_neg hk];simp
 | p::P,w::vs,i+1,m,nd,h1,h2,hk=>by
  show Pc kindOf ((p,w)::P.zip vs) m x=_
  unfold Pc;exact sA (i:=i) (L7.mp nd).2 (by simpa using h1) (by simpa using h2) hk
def start(N:List Str)(vs:List V):St:=vs.map some ++ List.replicate (N.length - vs.length) none
def ow(CX:zo)(P:KQ)(w:K2)(K:Nq)(mg:Str->Option KC)(base:K1)(N:List Str)(qual:Str)(scope:MX)(f:KE)(cd:KC)(A:KY)(outer:List Env)(s:KF)(H:Hp)(E:XK):Cx where
 prog:=P
 w:=w
 K:=K
 mg:=mg
 base:=base
 A:=A.deeper (MR qual scope s.heap.objs.size f cd)
 N:=N
 s₀:=s
 H₀:=H
 env:=MR qual scope s.heap.objs.size f cd
 outer:=outer
 stack:=MR qual scope s.heap.objs.size f cd::outer
 ex:=[]
 calm:=true
 fn:=fun _=>true
 pn:=[]
 xe:=fun e s'=>KI (KL P w) (A.deeper (MR qual scope s.heap.objs.size f cd)) (Pj (MR qual scope s.heap.objs.size f cd) e) (fun _ s''=>CX outer H s E e s'') (fun e' s''=>CX outer H s E e' s'') s'
theorem wj{sc:MX}{n:Nat}{x:Str}(h:sc.names.lookup x=some .cell):∃ c,(cellsFrom n sc.names []).lookup x=some c:=by
 have q:=PySem.W.cellsFrom_some sc.names n [] (.inl h);exact Option.isSome_iff_exists.mp q
theorem Al{CX:zo}{P:KQ}{w:K2}{K:Nq}{mg:Str->Option KC}{base:K1}{N ps:List Str}{qual:Str}{scope:MX}{f:KE}{cd:KC}{A:KY}{outer:List Env}{s s1:KF}{H:Hp}{E:XK}{us:List KC}{vs:List V}
  (S:FnScope N ps scope) (hd:A.handled=none) (e0:Env0 P w K mg base A outer s H) (hl:vs.length=ps.length) (r:Vals vs us)
  (x:InCallC s s.heap.objs.size (Pa (MR qual scope s.heap.objs.size f cd).kindOf (ps.zip us) fun _=>none) (cellsFrom (s.heap.objs.size+1) scope.names []) (Pc (MR qual scope s.heap.objs.size f cd).kindOf (ps.zip us) fun _=>none) s1):
  Inv (ow CX P w K mg base N qual scope f cd A outer s H E) [] (start N vs) H s1:=by
 have hpl:ps.length<=N.length:=by have:=congrArg List.length S.pre;rw[M8]at this;omega
 obtain⟨h1,tk,rfl,hk⟩:=x.done;have noA:∀ b:KE,b∉(ow CX P w K mg base N qual scope f cd A outer s H E).ex:=fun b z=>absurd (show b∈([]:List KE)from z) (by simp)
 refine⟨⟨e0.mod,S.kind,rfl,rfl,le_refl _,fun y z c h1 h2=>?_,fun y hy=>?_,fun y c _ h=>?_,fun _=>hd,Around.frames_deeper e0.frames,.inr ⟨rfl,rfl⟩,fun b z=>absurd z (noA b),e0.bs,e0.bsz,fun b _ _=>noA b,fun b z=>absurd z (noA b),e0.funs,e0.frf⟩,
  rfl,e0.bare,Un.kept hk,⟨_,x.toInCall.ns,fun i y v h1 h2 h3=>?_⟩,fun y c h=>⟨_,x.cell y c h⟩,e0.hok.fresh (le_refl _),fun y c h=>?_,fun p hp=>absurd (show p∈([]:List (KE×Obj))from hp) (by simp),e0.hok.kept hk,?_⟩
 ·exact name_of_addr x.apart (PySem.mem_of_lookup h1) (PySem.mem_of_lookup h2)
 ·have hy:scope.names.lookup y=some .cell\/scope.names.lookup y=some .free:=hy;rcases hy with hy|hy
  ·exact wj hy
  ·exact absurd rfl (S.nofree _ (PySem.mem_of_lookup hy))
 ·exact le_of_lt (x.above y c (PySem.mem_of_lookup h))
 ·have hi:i < vs.length:=by
   unfold start at h2
   by_cases hi:i < vs.length
   ·exact hi
   ·rw[LJ (by simpa using hi)]at h2
    rw[List.getElem?_replicate]at h2;split at h2<;>cases h2
  have ha:vs[i]?=some v:=by
   unfold start at h2;rw[L5 (by simpa using hi),K8]at h2
   cases e:vs[i]? with
   | none=>rw[e]at h2;cases h2
   | some a=>rw[e]at h2;cases h2;rfl
  obtain⟨u,hu,rv⟩:=r.get ha;have hp:ps[i]?=some y:=by
   rw[<- S.pre,List.getElem?_take_of_lt (by walk_at "o")];exact h1
  have ndP:ps.Nodup:=by rw[<- S.pre];exact S.nd.sublist (List.take_sublist _ _)
  refine⟨u,rv,?_⟩;rcases S.par y (K0 hp)with k|k
  ·exact .inl ⟨k,sx ndP hp hu k⟩
  ·obtain⟨c,e⟩:=wj (n:=s.heap.objs.size+1) k;refine .inr ⟨.inl k,c,e,?_⟩;have q:=x.cell y c e;rw[sA ndP hp hu (by show scope.names.lookup y≠_;rw[k];decide)]at q
   exact q
 ·exact e0.hok.fresh (le_of_lt (x.above y c (PySem.mem_of_lookup h)))
 ·unfold start;show _=N.length
  rw[Lc,KP,List.length_replicate];omega
theorem yU{CX:zo}{P:KQ}{w:K2}{K:Nq}{mg:Str->Option KC}{base:K1}{k:Nat}{f:KE}{name qual:Str}{params:Arguments}{body:List Lf}{scope:MX}{dV kV doc pm cdv ct oc:KC}{an od:Option KE}
  {osl:Array (Option KC)} {N ps:List Str} {sp:Sp} (lk:K.lookup f=some ⟨oc,od,.func (SV name qual params body scope dV kV doc pm an cdv ct),osl⟩) (hcd:Pn K cdv qual=true) (S:FnScope N ps scope)
  (len:∀ vs H Q E,sp vs H Q E->vs.length=ps.length)
  (Qz:∀ (A:KY) (outer:List Env) (s:KF) (H:Hp) (vs:List V) (Q:VK) (E:XK),Room k (A.deeper (MR qual scope s.heap.objs.size f cdv))->sp vs H Q E->
   ∃ t,fh (ow CX P w K mg base N qual scope f cdv A outer s H E) body t/\t { nx:=fun _ H'=>Q .non H',rt:=Q } (start N vs) H):
  FnOk P w K mg base CX (k+1) f (SV name qual params body scope dV kV doc pm an cdv ct) ps sp:=by
 refine⟨len,fun A outer s H args us vs Q E hr e0 hb r hsp=>?_⟩;have hl:=len _ _ _ _ hsp;have KX:K.In s.heap:=e0.mod.kin.keeps fun b o e=>(e0.bs b o e).1;have lim:s.heap.NoLimit:=e0.mod.nolimit.keeps fun b o e=>(e0.bs b o e).1;have Sv:∀ y∈ps.zip us,scope.names.lookup y.1=some .local\/(scope.names.lookup y.1=some .cell/\((cellsFrom (s.heap.objs.size+1) scope.names []).lookup y.1).isSome=true):=fun⟨n,v⟩ hy=>by
  rcases S.par n (List.of_mem_zip hy).1 with q|q
  ·exact .inl q
  ·exact .inr ⟨q,PySem.W.cellsFrom_some _ _ _ (.inl q)⟩
 refine codeAny_call_function hr.depth (KX _ _ lk) rfl S.co S.gen rfl (PySem.W.codeRec_of KX hcd) (hb _ _ _ _ ?_);refine wpAny_newFunctionEnv_cells S.kind Sv fun env he s1 x=>?_;subst he;refine⟨lim.keeps x.toInCall.keep,codeAny_func ?_⟩;obtain⟨t,ht,hq⟩:=Qz A outer s H vs Q E (hr.deeper _) hsp;have I:Inv (ow CX P w K mg base N qual scope f cdv A outer s H E) [] (start N vs) H s1:=Al S hr.hd e0 hl r x;refine K9 (ht [] s1 (start N vs) H _ I hq) (fun fl s' hs=>?_) fun e s' hs=>hs;have fin:∀ {σ':St} {H':Hp} {v:V} {u:KC},Inv (ow CX P w K mg base N qual scope f cdv A outer s H E) [] σ' H' s'->RelV v u->Q v H'->CE outer P w H s Q u s':=
  fun {σ' H' v u} J rv q=>⟨v,H',J.os,J.bare,J.base,J.hok,rv,q⟩
 cases fl with
 | ret u=>
  obtain⟨v,σ',H',J,rv,q⟩:=hs;exact fin J rv q
 | next=>
  obtain⟨σ',H',J,q⟩:=hs;exact fin (v:=V.non) (u:=Value.none) J rfl q
 | brk=>
  obtain⟨_,_,_,q⟩:=hs;exact False.elim q
 | cont=>
  obtain⟨_,_,_,q⟩:=hs;exact False.elim q
section
variable{X:Cx}{x:Str}{p pos:Pos}{e:K4}{es:List K4}{t:TA}{id T:String}{r:List V->Hp->VK->Prop}
def Jm(r:List V->Hp->VK->Prop)(t:TA):TE:=fun σ H Q=>t σ H fun vs H1=>r vs H1 Q
theorem BP(hc:cJ X (.builtin id) r)(hg:Gl X x)(hm:X.mg x=none)(hv:LM x=some (.builtin id))(ha:PA X (e::es) t)(hn:x≠"__name__":=by decide)(hdb:(x == ("__debug__":Str))=false:=by decide)
  (he:KO (e::es) X.env=(false,eval e X.env)::KO es X.env:=by rfl) (hpl:(LN pos (KO es X.env)).any (·.1)=false:=by rfl):PE X (.Call (.Name x p) (e::es) [] pos) (Jm r t):=by
 intro pins s σ H Q I h;refine Md (eV I hg hm hv ?_ hn hdb);exact PyProof.Rows.callWith_builtin1 (br (ha pos pins s σ H _ I h) fun us s1 ⟨vs,H1,I1,r1,q1⟩=>hc pins s1 σ H1 vs us Q I1 r1 q1) he hpl
theorem zY(hc:cJ X (.type T) r)(hg:Gl X x)(hm:X.mg x=none)(hv:LM x=some (.type T))(ha:PA X (e::es) t)(hn:x≠"__name__":=by decide)(hdb:(x == ("__debug__":Str))=false:=by decide)
  (he:KO (e::es) X.env=(false,eval e X.env)::KO es X.env:=by rfl) (hpl:(LN pos (KO es X.env)).any (·.1)=false:=by rfl):PE X (.Call (.Name x p) (e::es) [] pos) (Jm r t):=by
 intro pins s σ H Q I h;refine Md (eV I hg hm hv ?_ hn hdb);exact PyProof.Rows.callWith_type1 (br (ha pos pins s σ H _ I h) fun us s1 ⟨vs,H1,I1,r1,q1⟩=>hc pins s1 σ H1 vs us Q I1 r1 q1) he hpl
end
end L2
namespace HT
open PySem PyProof.Rows
section
open PySem.SeqAt
open PySem.AutoSeq1 (wpAny_loadPart')
open PySem.MeetsSeq PySem.MeetsSeq2 PySem.MeetsSeq3
end
section
variable{prog:KQ}{w:K2}{A:KY}{E:KC->KF->Prop}{s:KF}
theorem cat_tup{t b:KE}{vs ws:List KC}{Q:KC->KF->Prop}(ht:IsTup s.heap t vs.toArray)(hb:IsTup s.heap b ws.toArray)(hv:vs≠[])
  (h1:ws=[]->Q (.ref t) s) (h2:ws≠[]->Q (.ref s.heap.objs.size) { s with heap:=s.heap.push { cls:=.type "tuple",data:=.seq (vs ++ ws).toArray } })
  (hsz:vs.length+ws.length<=KM):KI (KL prog w) A (Mh .Add (.ref t) (.ref b)) Q E s:=by
 obtain⟨⟨cls,dd,data,sl⟩,ho,hc,n,hd⟩:=id ht;obtain⟨⟨cls2,dd2,data2,sl2⟩,ho2,hc2,n2,hd2⟩:=id hb;simp only at hc hd hc2 hd2;subst hc hd hc2 hd2;have e:vs.toArray ++ ws.toArray=(vs ++ ws).toArray:=by simp
 by_cases hw:ws=[]
 ·exact Pm ⟨_,ho,rfl⟩ ⟨_,ho2,rfl⟩ noFill_tuple_add seq_tuple_add PySem.F.slot_tuple_add PySem.F.entry_tuple_add (PySem.F.args_tuple_add_2 _ _)
   (tuple_addW1 t b vs.toArray ws.toArray n n2 dd dd2 sl sl2 (by simpa using hv) (by simp[hw])) ⟨ho,ho2,h1 hw⟩
 ·refine Pm ⟨_,ho,rfl⟩ ⟨_,ho2,rfl⟩ noFill_tuple_add seq_tuple_add PySem.F.slot_tuple_add PySem.F.entry_tuple_add (PySem.F.args_tuple_add_2 _ _)
   (tuple_addW2 t b vs.toArray ws.toArray n n2 dd dd2 sl sl2 (by simpa using hv) (by simpa using hw) (by rw[KS,KS];exact hsz)) ⟨ho,ho2,?_⟩
  rw[e];exact h2 hw
def sIx(n d:Nat):Option Int->Nat
 | none=>d
 | some v=>if v < 0 then (v+(n:Int)).toNat else min v.toNat n
theorem sIx_le(n d:Nat)(hd:d<=n)(o:Option Int):sIx n d o<=n:=by
 cases o with
 | none=>exact hd
 | some v=>
  show (if v < 0 then (v+(n:Int)).toNat else min v.toNat n)<=n
  by_cases hv:v < 0
  ·rw[if_pos hv];omega
  ·rw[if_neg hv];exact Nat.min_le_right _ _
theorem za(v:Int)(n d:Nat):(if v < 0 then max (v+(n:Int)) 0 else min v (n:Int))=((sIx n d (some v):Nat):Int):=by
 show (if v < 0 then max (v+(n:Int)) 0 else min v (n:Int))=(((if v < 0 then (v+(n:Int)).toNat else min v.toNat n):Nat):Int)
 by_cases hv:v < 0
 ·simp only[if_pos hv];omega
 ·simp only[if_neg hv];omega
theorem xH(lo hi:Option Int)(n:Nat):Nz lo hi 1 (n:Int)=(((sIx n 0 lo:Nat):Int),((sIx n n hi:Nat):Int)):=by
 have h1:¬ ((1:Int) < 0):=by walk_at "o"
 unfold Nz;simp only[h1,if_false];refine Prod.ext ?_ ?_
 ·cases lo with
  | none=>rfl
  | some v=>exact za v n 0
 ·cases hi with
  | none=>rfl
  | some v=>exact za v n n
theorem wU(i j:Nat):MQ (i:Int) (j:Int) 1=j - i:=by
 unfold MQ;have h1:(1:Int) > 0:=by walk_at "o"
 simp only[h1,if_true,Int.ediv_one];split<;>omega
theorem o0{v:KC}{o:Option Int}{Q:Option Int->KF->Prop}(p:Ov v o)(h:Q o s):KI (KL prog w) A (Builtin.Slice.slicePartIndex v) Q E s:=by
 cases p with
 | none=>exact slicePart_none h
 | int i t=>exact slicePart_int h
theorem mi{sl:KE}{vl vu:KC}{lo hi:Option Int}{n:Nat}{Q:Int×Int×Nat->KF->Prop}(hs:s.heap.IsSliceOf sl vl vu .none)(pl:Ov vl lo)(pu:Ov vu hi)
  (h:Q (((sIx n 0 lo:Nat):Int),1,sIx n n hi - sIx n 0 lo) s):KI (KL prog w) A (O3 (.ref sl) (pure (n:Int))) Q E s:=by
 obtain⟨os,hos,hcs,hds⟩:=id hs;unfold O3 Builtin.Slice.sliceFields;refine KB (KB (Lk hos hds (x:=vl) rfl (KB (Lk hos hds (x:=vu) rfl (KB (Lk hos hds (x:=.none) rfl (KD ?_)))))));refine KB (slicePart_none ?_);show KI _ _ (if ((1:Int) == 0)=true then _ else _) _ _ s
 rw[if_neg (by decide)]
 refine KB (o0 pl (KB (o0 pu (KB (KD ?_)))));show KI _ _ (match Nz lo hi 1 (n:Int) with|(lo,hi)=>pure (lo,(1:Int),MQ lo hi 1)) _ _ s
 rw[xH lo hi n];show KI _ _ (pure (((sIx n 0 lo:Nat):Int),(1:Int),MQ ((sIx n 0 lo:Nat):Int) ((sIx n n hi:Nat):Int) 1)) _ _ s
 rw[wU];exact KD h
theorem BG(xs:Array KC)(i k:Nat):((List.range k).filterMap fun (m:Nat)=>xs[((i:Int)+(m:Int)*1).toNat]?).toArray=((xs.toList.drop i).take k).toArray:=by
 have e:(fun (m:Nat)=>xs[((i:Int)+(m:Int)*1).toNat]?)=fun m=>xs[i+m]?:=by
  funext m;have:((i:Int)+(m:Int)*1).toNat=i+m:=by walk_at "o"
  rw[this]
 rw[e];have:=pick_run xs i k;rw[List.filterMap_map]at this;have e2:((fun x=>xs[x]?) ∘ fun x=>i+x)=fun m=>xs[i+m]?:=rfl;rw[e2]at this;rw[this]
theorem getItem_tuple_cut{t sl:KE}{items:Array KC}{vl vu:KC}{lo hi:Option Int}{Q:KC->KF->Prop}(ht:IsTup s.heap t items)(hs:s.heap.IsSliceOf sl vl vu .none)(pl:Ov vl lo)(pu:Ov vu hi)
  (hw:¬ (sIx items.size 0 lo=0/\sIx items.size items.size hi=items.size))
  (h:Q (.ref s.heap.objs.size) { s with heap:=s.heap.push { cls:=.type "tuple",data:=.seq ((items.toList.drop (sIx items.size 0 lo)).take (sIx items.size items.size hi - sIx items.size 0 lo)).toArray } })
  (hsz:items.size<=KM):KI (KL prog w) A (NV (.ref t) (.ref sl)) Q E s:=by
 have QL:sizeOk (.seq ((items.toList.drop (sIx items.size 0 lo)).take (sIx items.size items.size hi - sIx items.size 0 lo)).toArray):=by
  show ((items.toList.drop (sIx items.size 0 lo)).take (sIx items.size items.size hi - sIx items.size 0 lo)).toArray.size<=KM
  rw[KS,M8,ND,Array.length_toList];omega
 have hj:sIx items.size items.size hi<=items.size:=sIx_le _ _ (le_refl _) hi;obtain⟨os,hos,hcs,hds⟩:=id hs;have hTs:s.TypeIs (.ref sl) "slice":=⟨os,hos,hcs⟩;unfold NV
 try with_reducible refine Lm ?_
 first|refine KB (KD ?_)|skip
 refine KB (wpAny_sequenceKey ht.typeIs (by decide) ?_)
 refine KB (Lq (name:=KH "__getitem__") ht.typeIs PyProof.Rows.slot_tuple_getitem
  (Lh PyProof.Rows.slot_tuple_getitem ht.typeIs entry_tuple_getitem ?_ (args_tuple_getitem _ _)))
 show KI _ _ (Builtin.Tuple.tupleItemsOf (.ref t) >>= _) _ _ s
 refine KB (tupleItemsOf_ ht ?_);refine KB (Pf hTs ?_);rw[if_pos (by decide)]
 refine KB (mi hs pl pu ?_);have hno:¬ ((((sIx items.size 0 lo:Nat):Int) == 0 && (1:Int) == 1 && (sIx items.size items.size hi - sIx items.size 0 lo) == items.size)=true):=by
  intro q;rw[Bool.and_eq_true,Bool.and_eq_true]at q;have q1:((sIx items.size 0 lo:Nat):Int)=0:=eq_of_beq q.1.1;have q2:sIx items.size items.size hi - sIx items.size 0 lo=items.size:=eq_of_beq q.2;exact hw ⟨by walk_at "o",by walk_at "o"⟩
 show KI _ _ (if (((sIx items.size 0 lo:Nat):Int) == 0 && (1:Int) == 1 && (sIx items.size items.size hi - sIx items.size 0 lo) == items.size)=true then _ else _) _ _ s
 rw[if_neg hno,BG]
 first
  | exact KB (m:=M0 _) (K6 (KD ⟨_,rfl,KD h⟩) QL)
  | exact KB (m:=M0 _) (K6 (KB (KD (KD ⟨_,rfl,KD h⟩))) QL)
  | exact KB (KB (m:=M0 _) (K6 (KD (KD ⟨_,rfl,KD h⟩)) QL))
  | exact KB (KB (m:=M0 _) (K6 (KD ⟨_,rfl,KD h⟩) QL))
end
end HT
namespace L2
open PySem PySem.Spec PyProof.Rows
abbrev TO:=St->Hp->(Option Int->Hp->Prop)->Prop
def PO(X:Cx)(e:Option K4)(t:TO):Prop:=
 ∀ (pins:List (KE×Obj)) (s:KF) (σ:St) (H:Hp) (Q:Option Int->Hp->Prop),Inv X pins σ H s->t σ H Q->
  KI (KL X.prog X.w) X.A (evalPart e X.env) (fun u s'=>∃ o H',Inv X pins σ H' s'/\Ov u o/\Q o H') X.xe s
def Dm:TO:=fun _ H Q=>Q none H
def GX(t:TE):TO:=fun σ H Q=>t σ H fun x H1=>∃ i,x=.int i/\Q (some i) H1
theorem xq{ns:List Int}:∀ {us:List KC},Vals (ns.map V.int) us->OA us ns:=by
 induction ns with
 | nil=>intro us r;rw[NS]at r;cases r;exact .nil
 | cons n ns ih=>
  intro us r;rw[K3]at r;cases r with
  | cons r1 r2=>
   obtain⟨t,e⟩:=r1;subst e;exact .cons n t (ih r2)
section
variable{X:Cx}{e:K4}{te:TE}{lo hi:Option K4}{tl th:TO}{pos p2:Pos}
theorem DL:PO X none Dm:=by
 intro pins s σ H Q I h;rw[evalPart_none];exact KD ⟨none,H,I,.none,h⟩
theorem DK(h:PE X e te):PO X (some e) (GX te):=by
 intro pins s σ H Q I hw;rw[evalPart_some];refine br (h pins s σ H _ I hw) fun u s1 zz=>?_;obtain⟨x,H1,I1,r1,q1⟩:=zz;obtain⟨i,rfl,q⟩:=q1;obtain⟨t,rfl⟩:=r1;exact⟨some i,H1,I1,.int i t,q⟩
def AH(X:Cx)(r:V->Option Int->Option Int->Hp->VK->Prop):Prop:=
 ∀ (pins:List (KE×Obj)) (s:KF) (σ:St) (H:Hp) (x:V) (v vl vu:KC) (lo hi:Option Int) (sl:KE) (Q:VK),Inv X pins σ H s->RelV x v->s.heap.IsSliceOf sl vl vu .none->Ov vl lo->Ov vu hi->r x lo hi H Q->
  ∃ T id,NR (.type T) "__getitem__"=pure (some (.builtin id))/\s.TypeIs v T/\KI (KL X.prog X.w) X.A (NV v (.ref sl)) (EP X pins σ Q) X.xe s
theorem AH.or{r r':V->Option Int->Option Int->Hp->VK->Prop}(h:AH X r)(h':AH X r'):AH X (fun x lo hi H Q=>r x lo hi H Q\/r' x lo hi H Q):=by
 intro pins s σ H x v vl vu lo hi sl Q I rx hs pl pu q;rcases q with q|q
 ·exact h pins s σ H x v vl vu lo hi sl Q I rx hs pl pu q
 ·exact h' pins s σ H x v vl vu lo hi sl Q I rx hs pl pu q
def Kd(r:V->Option Int->Option Int->Hp->VK->Prop)(te:TE)(tl th:TO):TE:=fun σ H Q=>te σ H fun x H1=>tl σ H1 fun l H2=>th σ H2 fun u H3=>r x l u H3 Q
theorem BL{r:V->Option Int->Option Int->Hp->VK->Prop}(hr:AH X r)(he:PE X e te)(hl:PO X lo tl)(hu:PO X hi th):PE X (.Subscript e (.Slice lo hi none p2) pos) (Kd r te tl th):=by
 intro pins s σ H Q I h;refine Qg (br (he pins s σ H _ I h) fun v s1 zz=>?_);obtain⟨x,H1,I1,r1,q1⟩:=zz;refine wpAny_Slice (br (hl pins s1 σ H1 _ I1 q1) fun vl s2 zz=>?_);obtain⟨l,H2,I2,pl,q2⟩:=zz;refine br (hu pins s2 σ H2 _ I2 q2) fun vu s3 zz=>?_;obtain⟨u,H3,I3,pu,q3⟩:=zz;rw[evalPart_none];refine KD ?_;have I4:Inv X pins σ H3 { s3 with heap:=s3.heap.push { cls:=.type "slice",data:=.fields #[vl,vu,.none] } }:=I3.kept (t':=s3.toks) fun b ob q=>KG _ q
 obtain⟨T,id,hT,ht,hg⟩:=hr pins { s3 with heap:=s3.heap.push { cls:=.type "slice",data:=.fields #[vl,vu,.none] } } σ H3 x v vl vu l u s3.heap.objs.size Q I4 r1 (Heap.IsSliceOf.new ..) pl pu q3
 show KI (KL X.prog X.w) X.A (O6 e (.Slice lo hi none p2) v (.ref s3.heap.objs.size)) (EP X pins σ Q) X.xe { s3 with heap:=s3.heap.push { cls:=.type "slice",data:=.fields #[vl,vu,.none] } }
 exact tail_any (ops:=[.ref s3.heap.objs.size,v]) ht hT hg (by with_unfolding_all rfl)
def wd(xs:List V)(lo hi:Option Int):List V:=(xs.drop (HT.sIx xs.length 0 lo)).take (HT.sIx xs.length xs.length hi - HT.sIx xs.length 0 lo)
theorem nH(xs:List V)(lo hi:Option Int):(wd xs lo hi).length<=xs.length:=by
 unfold wd;rw[M8,ND];omega
def Jr(K:Nq):V->Option Int->Option Int->Hp->VK->Prop:=fun x lo hi H Q=>∃ a xs,x=.ref a/\ij K H a xs/\
 ¬ (HT.sIx xs.length 0 lo=0/\HT.sIx xs.length xs.length hi=xs.length)/\∀ p,H p=none->Q (.ref p) (aI H p (.tup (wd xs lo hi)))
theorem Fu:AH X (Jr X.K):=by
 intro pins s σ H x v vl vu lo hi sl Q I rx hs pl pu h;obtain⟨a,xs,rfl,hx,hw,q⟩:=h;cases rx;obtain⟨its,r,ht,hz⟩:=I.tuple hx;have hlen:its.toArray.size=xs.length:=by rw[KS];exact r.length.symm
 refine⟨"tuple",_,PyProof.Rows.slot_tuple_getitem.lookup,ht.typeIs,?_⟩;refine HT.getItem_tuple_cut ht hs pl pu (by rw[hlen];exact hw) ?_ (by rw[hlen];exact hz)
 rw[hlen];refine⟨.ref s.heap.objs.size,_,I.laid (t':=s.toks) (o:=.tup (wd xs lo hi)) (fun b ob q=>KG _ q) (le_refl _) ?_,rfl,q _ (I.hok.fresh (le_refl _))⟩;exact⟨le_trans (nH xs lo hi) hz,_,(r.drop (HT.sIx xs.length 0 lo)).take (HT.sIx xs.length xs.length hi - HT.sIx xs.length 0 lo),oA.new _ _⟩
def Hl(K:Nq):R2:=fun x y H Q=>∃ a b xs ys,x=.ref a/\y=.ref b/\ij K H a xs/\ij K H b ys/\xs≠[]/\xs.length+ys.length<=KM/\
 (ys=[]->Q (.ref a) H)/\(ys≠[]->∀ p,H p=none->Q (.ref p) (aI H p (.tup (xs ++ ys))))
theorem Vals.nil_iff{xs:List V}{us:List KC}(r:Vals xs us):us=[]↔xs=[]:=by
 cases r with
 | nil=>simp
 | cons _ _=>simp
theorem D5:fe X (Mh .Add) (Hl X.K):=by
 intro pins s σ H x y v u Q I rx ry h;obtain⟨a,b,xs,ys,rfl,rfl,ha,hb,hx,hz,q1,q2⟩:=h;cases rx;cases ry;obtain⟨its,r1,p1,_⟩:=I.tuple ha;obtain⟨its2,r2,p2,_⟩:=I.tuple hb;refine HT.cat_tup p1 p2 (fun z=>hx (r1.nil_iff.mp z)) (fun z=>⟨.ref a,H,I,rfl,q1 (r2.nil_iff.mp z)⟩) (fun z=>?_) (by rw[<- r1.length,<- r2.length];exact hz)
 refine⟨.ref s.heap.objs.size,_,I.laid (t':=s.toks) (o:=.tup (xs ++ ys)) (fun b ob q=>KG _ q) (le_refl _) ?_,rfl,q2 (fun w=>z (r2.nil_iff.mpr w)) _ (I.hok.fresh (le_refl _))⟩;exact⟨by rw[Lc];exact hz,_,r1.append r2,oA.new _ _⟩
end
def E6(n:Nat)(i:Int):Option Nat:=if 0<=i then (if i < n then some i.toNat else none)else if -(n:Int)<=i then some (i+n).toNat else none
def l6{α:Type}(xs:List α)(i:Int):Option α:=(E6 xs.length i).bind fun j=>xs[j]?
theorem yQ{n:Nat}{i:Int}{j:Nat}(h:E6 n i=some j):seqIndex? i n=some j/\j < n/\-(n:Int)<=i/\i < n:=by
 unfold E6 at h
 by_cases h0:0<=i
 ·rw[if_pos h0]at h
  by_cases h1:i < n
  ·rw[if_pos h1]at h;have e:i.toNat=j:=Option.some.inj h;exact⟨by rw[Pz h0 h1,e],by walk_at "o",by walk_at "o",h1⟩
  ·rw[if_neg h1]at h;cases h
 ·rw[if_neg h0]at h
  by_cases h1:-(n:Int)<=i
  ·rw[if_pos h1]at h;have e:(i+n).toNat=j:=Option.some.inj h;exact⟨by rw[seqIndex_neg (by walk_at "o") h1,e],by walk_at "o",h1,by walk_at "o"⟩
  ·rw[if_neg h1]at h;cases h
theorem uB{α:Type}{xs:List α}{i:Int}{v:α}(h:l6 xs i=some v):∃ j,seqIndex? i xs.length=some j/\xs[j]?=some v/\j < xs.length/\-(xs.length:Int)<=i/\i < xs.length:=by
 unfold l6 at h;cases e:E6 xs.length i with
 | none=>rw[e]at h;cases h
 | some j=>
  rw[e]at h;obtain⟨h1,h2,h3,h4⟩:=yQ e;exact⟨j,h1,h,h2,h3,h4⟩
def zm(b:K4):Prop:=∀ o i,ON b false o i=operate [o,i] (NV o i)
def AJ(X:Cx)(r:R2):Prop:=
 ∀ (value slice:K4) (pins:List (KE×Obj)) (s:KF) (σ:St) (H:Hp) (x y:V) (v u:KC) (Q:VK),Inv X pins σ H s->RelV x v->RelV y u->r x y H Q->
  ON slice false v u=operate [v,u] (NV v u)->KI (KL X.prog X.w) X.A (O6 value slice v u) (EP X pins σ Q) X.xe s
def IH(X:Cx)(id:String)(r:V->List V->Hp->VK->Prop):Prop:=
 ∀ (pins:List (KE×Obj)) (s:KF) (σ:St) (H:Hp) (x:V) (xs:List V) (v:KC) (us:List KC) (Q:VK),Inv X pins σ H s->RelV x v->Vals xs us->r x xs H Q->
  KI (KL X.prog X.w) X.A (call (.builtin id) (v::us)) (EP X pins σ Q) X.xe s
section
variable{X:Cx}{a b:K4}{ta tb:TE}{pos:Pos}
theorem AJ.or{r r':R2}(h:AJ X r)(h':AJ X r'):AJ X (fun x y H Q=>r x y H Q\/r' x y H Q):=by
 intro value slice pins s σ H x y v u Q I rx ry q hs;rcases q with q|q
 ·exact h value slice pins s σ H x y v u Q I rx ry q hs
 ·exact h' value slice pins s σ H x y v u Q I rx ry q hs
theorem IH.or{id:String}{r r':V->List V->Hp->VK->Prop}(h:IH X id r)(h':IH X id r'):IH X id (fun x xs H Q=>r x xs H Q\/r' x xs H Q):=by
 intro pins s σ H x xs v us Q I rx rs q;rcases q with q|q
 ·exact h pins s σ H x xs v us Q I rx rs q
 ·exact h' pins s σ H x xs v us Q I rx rs q
theorem Hu{r:R2}(hr:AJ X r)(ha:PE X a ta)(hb:PE X b tb)(hs:zm b):PE X (.Subscript a b pos) (GK r ta tb):=by
 intro pins s σ H Q I h;exact Qg (Gy ha hb I h fun v u s2 x y H2 I2 rx ry q=>hr a b pins s2 σ H2 x y v u Q I2 rx ry q (hs _ _))
def Hk(K:Nq):R2:=fun x y H Q=>∃ p xs i v,x=.ref p/\y=.int i/\fV K H p xs/\l6 xs i=some v/\Q v H
def Hi(K:Nq):R2:=fun x y H Q=>∃ p xs i v,x=.ref p/\y=.int i/\ij K H p xs/\l6 xs i=some v/\Q v H
def Hj:R2:=fun x y H Q=>∃ z i c,x=.str z/\y=.int i/\z.length<=KM/\l6 z.cps.toList i=some c/\Q (.str ⟨#[c]⟩) H
theorem Ef:AJ X (Hk X.K):=by
 intro value slice pins s σ H x y v u Q I rx ry h hs;obtain⟨p,xs,i,z,rfl,rfl,hq,he,q⟩:=h;cases rx;obtain⟨t,rfl⟩:=ry;obtain⟨its,r,pl,hz⟩:=I.list hq;obtain⟨j,h1,h2,h3,h4,h5⟩:=uB he;obtain⟨w,ew,rw'⟩:=r.get h2;have hl:=r.length;have hn:=i_;have fin:EP X pins σ Q w s:=⟨z,H,I,rw',q⟩
 by_cases h0:0<=i
 ·have hj:i.toNat=j:=by
   rw[Pz h0 h5]at h1;exact Option.some.inj h1
  exact item_listR pl.isList h0 (by walk_at "o") (by rw[hj];simpa using ew) fin hs
 ·have hj:(i+(its.toArray.size:Int)).toNat=j:=by
   rw[seqIndex_neg (by walk_at "o") h4]at h1
   rw[KS,<- hl];exact Option.some.inj h1
  exact Ph (x:=w) pl.isList.typeIs slot_list_getitem.lookup
   (wpAny_getItem_list_neg (Q:=fun r s'=>r=w/\EP X pins σ Q r s') pl.isList (by walk_at "o") (by rw[KS]<;>omega) (by walk_at "o") (by rw[hj];simpa using ew) ⟨rfl,fin⟩) hs
theorem Gb:AJ X (Hi X.K):=by
 intro value slice pins s σ H x y v u Q I rx ry h hs;obtain⟨p,xs,i,z,rfl,rfl,hq,he,q⟩:=h;cases rx;obtain⟨t,rfl⟩:=ry;obtain⟨its,r,pl,hz⟩:=I.tuple hq;obtain⟨j,h1,h2,h3,h4,h5⟩:=uB he;obtain⟨w,ew,rw'⟩:=r.get h2;have hl:=r.length;have hn:=i_;have fin:EP X pins σ Q w s:=⟨z,H,I,rw',q⟩;exact Ph (x:=w) pl.typeIs slot_tuple_getitem.lookup
  (getItem_tuple (j:=j) (Q:=fun r s'=>r=w/\EP X pins σ Q r s') pl (by walk_at "o") (by walk_at "o") (by rw[KS,<- hl];exact h1) (by simpa using ew) ⟨rfl,fin⟩) hs
theorem Gc:AJ X Hj:=by
 intro value slice pins s σ H x y v u Q I rx ry h hs;obtain⟨z,i,c,rfl,rfl,hz,he,q⟩:=h;obtain⟨t,rfl⟩:=rx;obtain⟨t',rfl⟩:=ry;obtain⟨j,h1,h2,h3,h4,h5⟩:=uB he;have hl:z.cps.toList.length=z.length:=by simp[Ou]
 rw[hl]at h1 h4 h5;have hn:=i_;exact tail_any (P6 s z t) slot_str_getitem.lookup (getItem_str (c:=c) (by
  have e1:decide (i < -(2 ^ 63:Int))=false:=decide_eq_false (by walk_at "o")
  have e2:decide (i>=2 ^ 63)=false:=decide_eq_false (by walk_at "o")
  rw[e1,e2,Bool.or_false]) (by rw[h1];simpa using h2) ⟨.str ⟨#[c]⟩,H,I.tok _,⟨_,rfl⟩,q⟩) hs
def Kh(K:Nq):R2:=fun x y H Q=>Hk K x y H Q\/Hi K x y H Q\/Hj x y H Q
theorem Gd:AJ X (Kh X.K):=Ef.or (Gb.or Gc)
theorem xh(its:List KC)(n j:Nat)(u:KC):Mn (·.setIfInBounds j u) { cls:=.type "list",data:=.seq its.toArray n }={ cls:=.type "list",data:=.seq (its.set j u).toArray n }:=by
 simp[Mn]
theorem Inv.lst{pins:List (KE×Obj)}{σ:St}{H:Hp}{s:KF}{p:KE}{xs:List V}(I:Inv X pins σ H s)(h:H p=some (.lst xs)):
  ∃ (its:List KC) (n:Nat),Vals xs its/\s.heap.get? p=some { cls:=.type "list",data:=.seq its.toArray n }/\xs.length<=KM:=by
 obtain⟨z,its,n,r,e⟩:=I.hok p _ h;exact⟨its,n,r,e,z⟩
theorem Inv.lstUpd{pins:List (KE×Obj)}{σ:St}{H:Hp}{s:KF}{p:KE}{xs ys:List V}{its its':List KC}{n n':Nat}{f:Obj->Obj}(I:Inv X pins σ H s)(h:H p=some (.lst xs))
  (ho:s.heap.get? p=some { cls:=.type "list",data:=.seq its.toArray n }) (hf:f { cls:=.type "list",data:=.seq its.toArray n }={ cls:=.type "list",data:=.seq its'.toArray n' }) (r:Vals ys its') (hz:ys.length<=KM) (t:Nat):
  Inv X pins σ (aI H p (.lst ys)) { s with heap:=s.heap.update p f,toks:=t }:=by
 have e:(s.heap.update p f).get? p=some { cls:=.type "list",data:=.seq its'.toArray n' }:=by
  rw[LV f ho (by rw[hf]<;>rfl),hf]
 refine I.write (x:=p) (e:=p) (by rw[h];trivial) (.inl rfl) (fun b u hb q=>(Ln _ _ (Ne.symm hb)).trans q) ⟨_,e⟩ ?_
 exact⟨hz,its',n',r,e⟩
def Hh:V->V->V->Hp->(Hp->Prop)->Prop:=fun o i v H Q=>∃ p xs k j,o=.ref p/\i=.int k/\H p=some (.lst xs)/\E6 xs.length k=some j/\Q (aI H p (.lst (xs.set j v)))
theorem A_:GD X Hh:=by
 intro pins s σ H o i v ov iv u Q I ro ri rv h;obtain⟨p,xs,k,j,rfl,rfl,hp,hj,q⟩:=h;cases ro;obtain⟨t,rfl⟩:=ri;obtain⟨its,n,r,ho,hz⟩:=I.lst hp;obtain⟨h1,h2,h3,h4⟩:=yQ hj;have hl:=r.length;have hn:=i_;have I':Inv X pins σ (aI H p (.lst (xs.set j v))) { s with heap:=s.heap.update p (Mn (·.setIfInBounds j u)) }:=
  I.lstUpd hp ho (xh its n j u) (r.set rv j) (by rw[MK];exact hz) s.toks
 by_cases h0:0<=k
 ·have hk:k.toNat=j:=by
   rw[Pz h0 h4]at h1;exact Option.some.inj h1
  exact PySem.W.ki_setAt ho h0 (by walk_at "o") (by rw[KS,<- hl];exact h4) (by rw[hk];exact⟨_,I',q⟩)
 ·have hk:(k+(its.toArray.size:Int)).toNat=j:=by
   rw[seqIndex_neg (by walk_at "o") h3]at h1
   rw[KS,<- hl];exact Option.some.inj h1
  exact PySem.W.ki_setBack ho (by walk_at "o") (by rw[KS,<- hl];exact h3) (by walk_at "o") (by rw[hk];exact⟨_,I',q⟩)
theorem sI(lo hi:Option Int)(n:Nat):(Mu lo hi none n).1=((HT.sIx n 0 lo:Nat):Int)/\(Mu lo hi none n).2.1=((HT.sIx n n hi:Nat):Int)/\(Mu lo hi none n).2.2=1:=by
 refine⟨?_,?_,rfl⟩
 ·cases lo with
  | none=>simp[Mu,HT.sIx]
  | some i=>
   simp only[Mu,HT.sIx,Option.getD_none,show (1:Int) > 0 by decide,if_true]
   by_cases h:i < 0
   ·simp only[h,if_true]<;>omega
   ·simp only[h,if_false]<;>omega
 ·cases hi with
  | none=>simp[Mu,HT.sIx]
  | some i=>
   simp only[Mu,HT.sIx,Option.getD_none,show (1:Int) > 0 by decide,if_true]
   by_cases h:i < 0
   ·simp only[h,if_true]<;>omega
   ·simp only[h,if_false]<;>omega
theorem qU(its:List KC)(lo hi:Option Int):slicePick its.toArray lo hi none=((its.drop (HT.sIx its.length 0 lo)).take (HT.sIx its.length its.length hi - HT.sIx its.length 0 lo)).toArray:=by
 obtain⟨h1,h2,h3⟩:=sI lo hi its.toArray.size;unfold slicePick;rw[h1,h2,h3];simp only[sliceRange_one,pick_run,KS]<;>rfl
def Js(K:Nq):V->Option Int->Option Int->Hp->VK->Prop:=fun x lo hi H Q=>∃ a xs,x=.ref a/\fV K H a xs/\∀ p,H p=none->Q (.ref p) (aI H p (.lst (wd xs lo hi)))
theorem Dq:AH X (Js X.K):=by
 intro pins s σ H x v vl vu lo hi sl Q I rx hs pl pu h;obtain⟨a,xs,rfl,hx,q⟩:=h;cases rx;obtain⟨its,r,ht,hz⟩:=I.list hx;have hlen:=r.length;refine⟨"list",_,slot_list_getitem.lookup,ht.isList.typeIs,?_⟩;refine wpAny_getItem_list_slice ht.isList hs pl pu .none (by simp) ?_ (by rw[KS]<;>omega)
 rw[qU,<- hlen];refine⟨.ref s.heap.objs.size,_,I.laid (t':=s.toks) (o:=.lst (wd xs lo hi)) (fun b ob q=>KG _ q) (le_refl _) ?_,rfl,q _ (I.hok.fresh (le_refl _))⟩;exact⟨le_trans (nH xs lo hi) hz,_,0,(r.drop (HT.sIx xs.length 0 lo)).take (HT.sIx xs.length xs.length hi - HT.sIx xs.length 0 lo),KJ _ rfl⟩
theorem uy:cJ X (.builtin "len") (fun xs H Q=>∃ p ys,xs=[.ref p]/\(fV X.K H p ys\/ij X.K H p ys)/\Q (.int ys.length) H):=by
 intro pins s σ H xs us Q I r h;obtain⟨p,ys,rfl,hq,q⟩:=h;obtain⟨u,rfl,rx⟩:=oX r;cases rx;have hn:=i_;rcases hq with hq|hq
 ·obtain⟨its,r',pl,hz⟩:=I.list hq;have hlen:=r'.length;exact Calls.call_len_list pl.isList (by simp only[KS]<;>omega) ⟨.int ys.length,H,I.tok _,⟨s.toks+1,by rw[KS,hlen]⟩,q⟩
 ·obtain⟨its,r',pl,hz⟩:=I.tuple hq;have hlen:=r'.length;exact len_tuple pl (by simp only[KS]<;>omega) ⟨.int ys.length,H,I.tok _,⟨s.toks+1,by rw[KS,hlen]⟩,q⟩
theorem ux:cJ X (.builtin "len") (fun xs H Q=>∃ z,xs=[.str z]/\z.length<=KM/\Q (.int z.length) H):=by
 intro pins s σ H xs us Q I r h;obtain⟨z,rfl,hz,q⟩:=h;obtain⟨u,rfl,t,rfl⟩:=oX r;have hn:=i_;exact len_str (by walk_at "o") ⟨.int z.length,H,I.tok _,⟨_,rfl⟩,q⟩
theorem cJ.or{f:KC}{r r':List V->Hp->VK->Prop}(h:cJ X f r)(h':cJ X f r'):cJ X f (fun xs H Q=>r xs H Q\/r' xs H Q):=by
 intro pins s σ H xs us Q I rs q;rcases q with q|q
 ·exact h pins s σ H xs us Q I rs q
 ·exact h' pins s σ H xs us Q I rs q
theorem uw:cJ X (.type "list") (fun xs H Q=>∃ p ys,xs=[.ref p]/\(fV X.K H p ys\/ij X.K H p ys)/\∀ l,H l=none->Q (.ref l) (aI H l (.lst ys))):=by
 intro pins s σ H xs us Q I r h;obtain⟨p,ys,rfl,hq,q⟩:=h;obtain⟨u,rfl,rx⟩:=oX r;cases rx;have fin:∀ (its:List KC),Vals ys its->ys.length<=KM->∀ (h':K1) (c':Nat),(∀ b o',s.heap.get? b=some o'->h'.get? b=some o')->
   h'.get? s.heap.objs.size=some { cls:=.type "list",dict:=none,data:=.seq its.toArray c',slots:=#[] }->EP X pins σ Q (.ref s.heap.objs.size) { s with heap:=h' }:=fun its r' hz h' c' kp e=>
  ⟨.ref s.heap.objs.size,_,I.laid (t':=s.toks) kp (le_refl _) (show ba X.prog X.w _ h' _ (.lst ys)from ⟨hz,its,c',r',e⟩),rfl,q _ (I.hok.fresh (le_refl _))⟩
 rcases hq with hq|hq
 ·obtain⟨its,r',pl,hz⟩:=I.list hq;have hlen:=r'.length;obtain⟨o,ho,hc,n,hd⟩:=pl.isList;exact call_list_seq p (.inl rfl) ho hc hd (fun h' c' kp e=>fin its r' hz h' c' kp e) (by simp only[KS]<;>omega)
 ·obtain⟨its,r',pl,hz⟩:=I.tuple hq;have hlen:=r'.length;obtain⟨o,ho,hc,n,hd⟩:=pl;exact call_list_seq p (.inr rfl) ho hc hd (fun h' c' kp e=>fin its r' hz h' c' kp e) (by simp only[KS]<;>omega)
theorem rL:cJ X (.type "tuple") (fun xs H Q=>∃ p ys,xs=[.ref p]/\((fV X.K H p ys/\∀ l,H l=none->Q (.ref l) (aI H l (.tup ys)))\/(ij X.K H p ys/\Q (.ref p) H))):=by
 intro pins s σ H xs us Q I r h;obtain⟨p,ys,rfl,h⟩:=h;obtain⟨u,rfl,rx⟩:=oX r;cases rx;rcases h with ⟨hq,q⟩|⟨hq,q⟩
 ·obtain⟨its,r',pl,hz⟩:=I.list hq;have hlen:=r'.length;refine call_tuple_list pl.isList (fun h' kp=>?_) (by simp only[KS]<;>omega)
  have I1:Inv X pins σ H { s with heap:=h' }:=I.kept (t':=s.toks) kp
  have I2:Inv X pins σ (aI H h'.objs.size (.tup ys)) { s with heap:=h'.push { cls:=.type "tuple",data:=.seq its.toArray } }:=
   I1.laid (t':=s.toks) (fun b o e=>KG _ e) (le_refl _) (show ba X.prog X.w _ _ _ (.tup ys)from ⟨hz,its,r',oA.new _ _⟩)
  exact⟨.ref h'.objs.size,_,I2,rfl,q _ (I1.hok.fresh (le_refl _))⟩
 ·obtain⟨its,r',pl,hz⟩:=I.tuple hq;exact call_tuple_same pl ⟨.ref p,H,I,rfl,q⟩
def J4(K:Nq)(T:String)(x:V)(H:Hp):Prop:=match x with
 | .str _=>T="str"
 | .int _=>T="int"
 | .ref p=>(T="list"/\∃ xs,fV K H p xs)\/(T="tuple"/\∃ o,K.lookup p=some o/\o.cls=.type "tuple"/\o.dict=none)\/
   (T="dict"/\((∃ kvs,H p=some (.dK kvs))\/∃ kvs,H p=some (.dT kvs)))\/(T="set"/\∃ S n,H p=some (.set S n))
 | _=>False
theorem Fk{pins:List (KE×Obj)}{σ:St}{H:Hp}{s:KF}{T:String}{x:V}{v:KC}(I:Inv X pins σ H s)(r:RelV x v)(ty:J4 X.K T x H):
  s.TypeIs v T/\∀ a,v=.ref a->∃ ob,s.heap.get? a=some ob/\ob.dict=none:=by
 cases x with
 | str z=>
  obtain⟨t,rfl⟩:=r;cases (show T="str" from ty)
  exact⟨P6 s z t,fun _ e=>nomatch e⟩
 | int i=>
  obtain⟨t,rfl⟩:=r;cases (show T="int" from ty)
  exact⟨typeIs_int s i t,fun _ e=>nomatch e⟩
 | ref p=>
  cases r;rcases ty with ⟨rfl,xs,hq⟩|⟨rfl,o,hk,hc,hd⟩|⟨rfl,hk⟩|⟨rfl,S,n,hk⟩
  ·obtain⟨its,_,pl,_⟩:=I.list hq;refine⟨pl.isList.typeIs,fun a e=>?_⟩;cases e;obtain⟨o,n,e,c,hd,_⟩:=pl;exact⟨o,e,hd⟩
  ·refine⟨⟨o,I.kIn p o hk,hc⟩,fun a e=>?_⟩;cases e;exact⟨o,I.kIn _ o hk,hd⟩
  ·have z:∃ o,s.heap.get? p=some o/\o.ExactDict:=by
    rcases hk with ⟨kvs,hk⟩|⟨kvs,hk⟩
    ·obtain⟨_,_,_,_,o,_,_,e,ex,_⟩:=I.hok p _ hk;exact⟨o,e,ex⟩
    ·obtain⟨_,_,_,_,o,_,_,e,ex,_⟩:=I.hok p _ hk;exact⟨o,e,ex⟩
   obtain⟨o,e,ex⟩:=z;refine⟨⟨o,e,ex.1⟩,fun a e2=>?_⟩;cases e2;exact⟨o,e,ex.2.1⟩
  ·obtain⟨o,_,_,_,e,ex,_⟩:=I.hok p _ hk;refine⟨⟨o,e,ex.1⟩,fun a e2=>?_⟩;cases e2;exact⟨o,e,ex.2.1⟩
 | _=>exact False.elim ty
def Kf(K:Nq)(T:String)(r:V->List V->Hp->VK->Prop)(to:TE)(t:TA):TE:=fun σ H Q=>to σ H fun x H1=>J4 K T x H1/\t σ H1 fun xs H2=>r x xs H2 Q
variable{o e:K4}{es:List K4}{to:TE}{t:TA}{name:Str}{apos cpos:Pos}{T id:String}{r:V->List V->Hp->VK->Prop}
theorem Hw(pa:PlainAttrs T)(slot:Slot T name id)(hty:typeOf (.builtin id)=pure (.type "method_descriptor"))(hm:IH X id r)(ho:PE X o to)(ha:PA X (e::es) t)
  (Qx:Ls o name X.env (eval o X.env)=eval o X.env:=by rfl)
  (Sf:((LN cpos (KO (e::es) X.env)).all (fun x=>!x.1) && (No cpos (Mv [] X.env)).all (fun x=>x.1.isSome)
   && decide ((e::es).length+([]:List NY).length+(if ([]:List NY).isEmpty then 0 else 1) < 30))=true:=by rfl)
  (Qy:(apos.endLine == cpos.line)=true:=by rfl) (hs:KO (e::es) X.env=(false,eval e X.env)::KO es X.env:=by rfl) (QH:(LN cpos (KO es X.env)).any (·.1)=false:=by rfl):
  PE X (.Call (.Attribute o name apos) (e::es) [] cpos) (Kf X.K T r to t):=by
 intro pins s σ H Q I h;refine wpAny_Call_method_late Qx Sf Qy rfl (br (ho pins s σ H _ I h) fun v s1 zz=>?_);obtain⟨x,H1,I1,r1,ty,q1⟩:=zz;obtain⟨h1,h2⟩:=Fk I1 r1 ty;refine⟨T,id,pa,slot,hty,h1,h2,?_⟩;have hA:=ha cpos pins s1 σ H1 _ I1 q1;rw[hs]at hA ⊢;refine L8 (by show (false || (LN cpos (KO es X.env)).any (·.1))=false;rw[QH]<;>rfl) (PM ?_)
 exact br hA fun us s2 ⟨vs,H2,I2,r2,q2⟩=>hm pins s2 σ H2 x vs v us Q I2 r1 r2 q2
end
def Kv(X:Cx)(id:String)(r:V->List V->Hp->VK->Prop):Prop:=
 ∀ (pins:List (KE×Obj)) (s:KF) (σ:St) (H:Hp) (x:V) (xs:List V) (v:KC) (us:List KC) (Q:VK),Inv X pins σ H s->RelV x v->Vals xs us->r x xs H Q->
  KI (KL X.prog X.w) X.A (call (.builtin id) (v::us)) (EP X pins σ Q) X.xe s
theorem Vals.one:∀ {x:V} {us:List KC},Vals [x] us->∃ u,us=[u]/\RelV x u
 | _,_,.cons r .nil=>⟨_,rfl,r⟩
theorem Vals.two:∀ {x y:V} {us:List KC},Vals [x,y] us->∃ u v,us=[u,v]/\RelV x u/\RelV y v
 | _,_,_,.cons r (.cons q .nil)=>⟨_,_,rfl,r,q⟩
theorem Vals.reverse{xs:List V}{us:List KC}(h:Vals xs us):Vals xs.reverse us.reverse:=by
 induction h with
 | nil=>exact .nil
 | cons r t ih=>rw[List.reverse_cons,List.reverse_cons];exact Vals.append ih (.cons r .nil)
section
variable{X:Cx}{pins:List (KE×Obj)}{σ:St}{H:Hp}{s:KF}{l b:KE}{xs ys zs:List V}
theorem Inv.lset{its its':List KC}{n:Nat}{f:Array KC->Array KC}{t':Nat}(I:Inv X pins σ H s)(hH:H l=some (.lst xs))
  (e:s.heap.get? l=some { cls:=.type "list",data:=.seq its.toArray n }) (hf:f its.toArray=its'.toArray) (hv:Vals ys its') (hz:ys.length<=KM):
  Inv X pins σ (aI H l (.lst ys)) { s with heap:=s.heap.update l (Mn f),toks:=t' }:=by
 have q:=PySem.IsL.update e f;rw[hf]at q;refine I.write (x:=l) (e:=l) (by rw[hH];exact trivial) (.inl rfl) (fun b' u hb hu=>(Ln s.heap (Mn f) (Ne.symm hb)).trans hu) ⟨_,q⟩ ?_
 exact⟨hz,its',_,hv,q⟩
theorem Inv.lnew{its:List KC}{t':Nat}(I:Inv X pins σ H s)(hv:Vals ys its)(hz:ys.length<=KM):
  Inv X pins σ (aI H s.heap.objs.size (.lst ys)) { s with heap:=s.heap.push { cls:=.type "list",data:=.seq its.toArray },toks:=t' }:=
 I.laid (fun _ _ q=>KG _ q) (le_refl _) ⟨hz,its,0,hv,KJ _ rfl⟩
theorem Inv.fresh(I:Inv X pins σ H s):H s.heap.objs.size=none:=I.hok.fresh (le_refl _)
theorem Inv.lstM(I:Inv X pins σ H s)(hH:H l=some (.lst xs)):xs.length<=KM/\∃ (its:List KC) (n:Nat),Vals xs its/\xs.length=its.length/\s.heap.get? l=some { cls:=.type "list",data:=.seq its.toArray n }:=by
 obtain⟨z,its,n,r,e⟩:=I.hok l _ hH;exact⟨z,its,n,r,r.length,e⟩
end
section
variable{X:Cx}
def rAppend:V->List V->Hp->VK->Prop:=fun x vs H Q=>∃ l xs y,x=.ref l/\vs=[y]/\H l=some (.lst xs)/\xs.length < KM/\Q .non (aI H l (.lst (xs ++ [y])))
theorem se:Kv X "list.append" rAppend:=by
 intro pins s σ H x vs v us Q I rx rv h;obtain⟨l,xs,y,rfl,rfl,hH,hz,q⟩:=h;cases rx;obtain⟨u,rfl,ru⟩:=rv.one;obtain⟨z,its,n,r,hl,e⟩:=I.lstM hH;refine Qe F.slot_list_append ⟨_,e,rfl⟩ F.entry_list_append (F.args_list_append_2 _ _) (PySem.list_append l its.toArray n u (by rw[KS];omega)) ⟨e,?_⟩
 refine⟨.non,_,I.lset (its':=its ++ [u]) hH e (by simp) (r.append (.cons ru .nil)) ?_,rfl,q⟩
 rw[Lc,List.length_singleton];omega
theorem yO{α:Type}(xs:List α)(k:Nat):(List.replicate k xs).flatten.length=k*xs.length:=by
 induction k with
 | zero=>simp
 | succ k ih=>rw[List.replicate_succ,List.flatten_cons,Lc,ih,Nat.succ_mul,Nat.add_comm]
end
end L2
namespace Att
open PySem PySem.W PySem.Calls PyProof.Rows
theorem oh{P:Params}{h:K1}:∀ (ns:List Int) (vs:List KC),WellAll P h vs (ns.map WData.int)->OA vs ns:=by
 intro ns
 induction ns with
 | nil=>
  intro vs w;rw[NS]at w;cases w;exact .nil
 | cons n ns ih=>
  intro vs w;rw[K3]at w;cases w with
  | cons a b=>
   cases a;exact .cons _ _ (ih _ b)
theorem zH{l:OpenLaw}{n:Nat}(hn:l.most=some n){P:Params}{h:K1}{args:List WData}{vals:List KC}
  (Q1:l.row.toRowW.claim.pre args=true) (hwl:WellAll P h vals args):
  ∃ a vs ns,vals=[Value.ref a]/\args=[WData.list (ns.map WData.int)]/\h.get? a=some { cls:=.type "list",data:=.seq vs.toArray }/\OA vs ns/\ns.length<=n:=by
 have hsh:WShape.hasAll [] args [.list .int]=true:=(pre_splitW Q1).1;have hc:l.pre.holds [] { args:=args }=true:=(pre_splitW Q1).2;obtain⟨d,r,rfl,h1,h2⟩:=hasAllW_cons hsh;obtain rfl:=hasAllW_nil h2;obtain⟨xs,rfl,h3⟩:=hasW_list h1;obtain⟨ns,rfl⟩:=items_int h3;have hlen:ns.length<=n:=by
  unfold OpenLaw.pre at hc;have h4:(WTm.not (.lt (.lit (.int (n:Int))) (.len (.arg 0)))).holds [] { args:=[.list (ns.map .int)] }=true:=by
   have h4:=(holds_andW hc).1;rw[hn]at h4;exact h4
  have h5:=condW_of h4 (w_not (w_lt w_lit (w_len_list (w_arg rfl))));rw[KP]at h5;refine Nat.le_of_not_lt fun q=>?_;have q':(n:Int) < ((ns.length:Nat):Int):=by walk_at "o"
  first
   | (rw[decide_eq_true q']at h5;exact absurd h5 (by decide))
   | (simp at h5;omega)
 cases hwl with
 | cons w1 w2=>
  cases w2;cases w1 with
  | list ho Sj=>exact⟨_,_,ns,rfl,rfl,ho,oh ns _ Sj,hlen⟩
theorem zR(l:OpenLaw)(args:List WData):l.row.toRowW.claim.post args (.bool true) args=true:=
 postW_of (r:=l.row.toRowW) (X:=(true == true))
  (show WShape.has [] (.bool true) .bool=true by first|rfl|decide|simp[WShape.has,WShape.arms,WShape.armsAll])
  (show (WTm.eq .res (.lit (.bool true))).value [] { args:=args,res:=some (.bool true),after:=args }=some (.bool (true == true))from w_eq_bool (w_res rfl) w_lit) rfl
theorem attach_call{l:OpenLaw}{n:Nat}{q:KQ}{loose:List Str}{XP:(Str->Option KC)->K1->Prop}{YP:K2->K1->Prop}{d:DefRec}
  (hn:l.most=some n) (hdf:d.params.defaults=[])
  (call:∀ (w:K2) (s₀ s₁:KF) (mg mb:Str->Option KC) (fa:KE) (o:Obj) (pm cd doc:KC) (a:KE) (vs:List KC) (ns:List Int),
   Ground q loose [] XP w s₀ mg mb s₁.heap->YP w s₁.heap->
   s₁.heap.get? fa=some o->o.data=.func (docDef d.name d.params d.body d.scope pm cd doc)->s₁.heap.CodeRec cd d.name->mg d.name=some (.ref fa)->
   s₁.heap.get? a=some { cls:=.type "list",data:=.seq vs.toArray }->OA vs ns->ns.length<=n->s₁.gens=#[]->
   Ml (KL l.prog w) Oi (.call (.ref fa) ⟨[.ref a],[]⟩) (fun r s'=>r=.ok (.ret (.bool true))/\OldK s₁.heap s'.heap/\s'.os=s₁.os/\NI s'.gens) s₁):
  WalkO q loose XP YP l.row.toRowW d [] (fun f vs=>PySem.call f vs):=by
 intro w s₀ s₁ mg mb G Y fa o pm cd doc dV kV ho hd hcd hD hmg hg args vals as Q1 hlay hrd hwl hlo;obtain rfl:dV=.none:=Dflts.none hD hdf;obtain rfl:kV=.none:=Dflts.noKw hD;obtain⟨a,vs,ns,rfl,rfl,Se,hints,hlen⟩:=zH hn Q1 hwl;refine enter_call (Mz (call w s₀ s₁ mg mb fa o pm cd doc a vs ns G Y ho (fd_plain hd) hcd hmg Se hints hlen hg) fun r s' hq=>?_);obtain⟨rfl,h2,h3,h4⟩:=hq;exact⟨.inl ⟨.bool true,.bool true,[],rfl,fun _=>rfl,.bool true,zR l _,fun _=>⟨List.Pairwise.nil,fun _ hm=>(nomatch hm)⟩⟩,h2,h3,h4⟩
end Att
namespace L2
open PySem PySem.Spec PyProof.Rows
theorem rQ:∀ {vs:List KC} {ns:List Int},OA vs ns->Vals (ns.map V.int) vs
 | _,_,.nil=>.nil
 | _,_,.cons n t h=>.cons ⟨t,rfl⟩ (rQ h)
def EK(H:Hp):Prop:=∀ b,H b=none\/∃ o xs,H b=some (.frz o (.lst xs))
theorem Ca{P:KQ}{w:K2}{K:Nq}{mg mb:Str->Option KC}{CX:zo}{k:Nat}{fa a:KE}{fd:Lz}{x:Str}{sp:Sp}{s₁:KF}{vs:List KC}{ns:List Int}
  (KX:K.In s₁.heap) (hns:s₁.heap.Ns KR mg) (hb:s₁.heap.Ns Qf mb) (hbb:∀ x:Str,x≠"__name__"->mb x=LM x) (SI:s₁.heap.NoLimit) (hg:s₁.gens=#[])
  (ha:s₁.heap.get? a=some { cls:=.type "list",data:=.seq vs.toArray }) (hi:OA vs ns) (hl:ns.length<=KM) (hr:Room k Oi)
  (F:∀ base:K1,K.In base->base.Ns KR mg->FnOk P w K mg base CX k fa fd [x] sp) (Sy:∀ (s:KF) (u:KC),OD s fd ⟨[u],[]⟩ [(x,u)])
  (hsp:∀ H:Hp,EK H->fV K H a (ns.map V.int)->sp [.ref a] H (fun v _=>v=.bl true) fun _ _ _=>False)
  (hCX:∀ H e s',CX [] H s₁ (fun _ _ _=>False) e s'->False):
  Ml (KL P w) Oi (.call (.ref fa) ⟨[.ref a],[]⟩) (fun r s'=>r=.ok (.ret (.bool true))/\OldK s₁.heap s'.heap/\s'.os=s₁.os/\NI s'.gens) s₁:=by
 have rv:=rQ hi;have SE:=hi.length;have core:∀ H:Hp,EK H->fV K H a (ns.map V.int)->iH P w H s₁.heap->(∀ b,H b≠none->b=a)->(H a≠none->K.lookup a=none)->
   Ml (KL P w) Oi (.call (.ref fa) ⟨[.ref a],[]⟩) (fun r s'=>r=.ok (.ret (.bool true))/\OldK s₁.heap s'.heap/\s'.os=s₁.os/\NI s'.gens) s₁:=by
  intro H hO hS hok hA hK;have QS:∀ {b:KE} {o:Obj},s₁.heap.get? b=some o->H b=none->(ub s₁.heap H).get? b=some o:=fun e n=>Cj e n;have noA:∀ {b:KE} {o:Obj} {es:Array Ol} {ep:Nat},s₁.heap.get? b=some o->o.data=.dict es ep->H b=none:=fun {b o es ep} e d=>by
   cases q:H b with
   | none=>rfl
   | some u=>
    have e':b=a:=hA b (by rw[q];simp)
    subst e';rw[ha]at e;cases e;have d':Data.seq vs.toArray _=Data.dict es ep:=d;cases d'
  have nsK:∀ {b:KE} {m:Str->Option KC},s₁.heap.Ns b m->(ub s₁.heap H).Ns b m:=fun {b m} ⟨o,es,ep,e,d,r⟩=>⟨o,es,ep,QS e (noA e d),d,r⟩;have hKb:K.In (ub s₁.heap H):=fun b o e=>QS (KX b o e) (by
   cases q:H b with
   | none=>rfl
   | some u=>
    have e':b=a:=hA b (by rw[q];simp)
    subst e';rw[hK (by rw[q];simp)]at e;cases e)
  have hM:Mod K mg (ub s₁.heap H):=⟨hKb,nsK hns,⟨mb,nsK hb,hbb⟩,let ⟨mc,h1,h2⟩:=SI;⟨mc,nsK h1,h2⟩⟩;have e0:Env0 P w K mg (ub s₁.heap H) Oi [] s₁ H:=⟨rfl,hM,fun b o e=>D7 e,Oa (Am _ _),trivial,fun b hb=>absurd (show b∈([]:List KE)from hb) (by simp),hok,.of_eq hg⟩
  refine Mz ((F _ hKb (nsK hns)).run Oi [] s₁ H ⟨[.ref a],[]⟩ [.ref a] [.ref a] _ _ hr e0 (Sy s₁ (.ref a)) (.cons rfl .nil) (hsp H hO hS)) fun r s' h=>?_;cases r with
  | error e=>exact (hCX H e s' h).elim
  | ok fl=>
   cases fl with
   | next=>exact False.elim h
   | brk=>exact False.elim h
   | cont=>exact False.elim h
   | ret u=>
    obtain⟨v,H',os,bare,un,hok',r',q⟩:=h;have q':v=.bl true:=q;subst q';obtain rfl:u=Value.bool true:=r';refine⟨rfl,OldK.of_keep fun b o e=>?_,os,bare⟩;cases q:H b with
    | none=>exact un.keep b o e q (by intro z;exact absurd (show b∈([]:List KE)from z) (by simp)) (by simp)
    | some u=>
     rcases hO b with z|⟨ob,xs,z⟩
     ·rw[q]at z;cases z
     ·have z2:=un.frzs b ob _ z;obtain⟨e1,_⟩:=hok b _ z;obtain⟨e2,_⟩:=hok' b _ z2;rw[e]at e1;cases e1;exact e2
 cases hk:K.lookup a with
 | some o=>
  have e:=KX a o hk;rw[ha]at e;cases e;refine core (fun _=>none) (fun _=>.inl rfl) (.inr ⟨_,vs.toArray,_,hk,rfl,rfl,rfl,by rw[KS,SE];exact hl,by simpa using rv⟩) (fun b u z=>by have z':(none:Option HO)=some u:=z;cases z') (fun b z=>absurd rfl z) fun z=>absurd rfl z
 | none=>
  refine core (fun b=>if b=a then some (.frz { cls:=.type "list",data:=.seq vs.toArray } (.lst (ns.map V.int)))else none) (fun b=>?_) (.inl (.inr ⟨{ cls:=.type "list",data:=.seq vs.toArray },if_pos rfl⟩)) (fun b u z=>?_) (fun b z=>?_) fun _=>hk
  ·by_cases hb:b=a
   ·exact .inr ⟨_,_,if_pos hb⟩
   ·exact .inl (if_neg hb)
  ·by_cases hb:b=a
   ·have z':=(if_pos hb).symm.trans z;cases z';subst hb;exact⟨ha,by rw[KP];exact hl,vs,_,rv,ha⟩
   ·have z':=(if_neg hb).symm.trans z;cases z'
  ·by_cases hb:b=a
   ·exact hb
   ·exact absurd (if_neg hb) z
abbrev KA{K:Nq}{h:K1}(_:K.In h):Nq:=K
theorem walk_of{l:PySem.W.OpenLaw}{n k:Nat}{q:KQ}{loose:List Str}{XP:(Str->Option KC)->K1->Prop}{YP:K2->K1->Prop}{d:DefRec}{K:Params->Nq}{CX:K2->zo}{sp:K2->Sp}{x:Str}
  (hn:l.most=some n) (hn2:n<=KM) (hdf:d.params.defaults=[]) (hr:Room k Oi)
  (hY:∀ (w:K2) (h:K1),YP w h->(K w.params).In h)
  (F:∀ (w:K2) (mg:Str->Option KC) (fa:KE) (h:K1),(K w.params).In h->h.Ns KR mg->mg d.name=some (.ref fa)->
   ∃ fd:Lz,(∀ (s:KF) (u:KC),OD s fd ⟨[u],[]⟩ [(x,u)])/\
    ∀ base:K1,(K w.params).In base->base.Ns KR mg->FnOk l.prog w (K w.params) mg base (CX w) k fa fd [x] (sp w))
  (hsp:∀ (w:K2) (H:Hp) (a:KE) (ns:List Int),ns.length<=n->EK H->fV (K w.params) H a (ns.map V.int)->sp w [.ref a] H (fun v _=>v=.bl true) fun _ _ _=>False)
  (hCX:∀ (w:K2) (H:Hp) (s:KF) (e:KC) (s':KF),CX w [] H s (fun _ _ _=>False) e s'->False):
  PySem.W.WalkO q loose XP YP l.row.toRowW d [] (fun f vs=>PySem.call f vs):=by
 refine Att.attach_call hn hdf fun w s₀ s₁ mg mb fa o pm cd doc a vs ns G Y ho hd hcd hmg Se hints hlen hg=>?_;have KX:=hY w _ Y;obtain⟨fd,hb,hF⟩:=F w mg fa _ KX G.T.g hmg;exact Ca KX G.T.g G.T.b G.T.builtins G.T.nolimit hg Se hints (le_trans hlen hn2) hr hF hb (fun H hO hS=>hsp w H a ns hlen hO hS) fun H e s'=>hCX w H s₁ e s'
def bZ(s:Lf)(j:Nat):Lf:=match s with
 | .ClassDef _ _ _ body _ _ _ _ _ _ _=>body.getD j (.Pass ⟨0,0,0,0⟩)
 | _=>.Pass ⟨0,0,0,0⟩
def cw(s:Lf):Arguments:=match s with
 | .FunctionDef _ a _ _ _ _ _ _ _ _=>a
 | _=>{ posonlyargs:=[],args:=[],vararg:=none,kwonlyargs:=[],kw_defaults:=[],kwarg:=none,defaults:=[] }
def bn(s:Lf):List Lf:=match s with
 | .FunctionDef _ _ b _ _ _ _ _ _ _=>b
 | _=>[]
def ah(s:Lf):MX:=match s with
 | .FunctionDef _ _ _ _ _ _ sc _ _ _=>sc
 | _=>{ kind:=.function,names:=[],isGenerator:=false,isCoroutine:=false }
abbrev l_:zo:=fun _ _ _ _ _ _=>False
abbrev E0:XK:=fun _ _ _=>False
theorem vn{X:Cx}:ji l_ X E0:=fun _ _ _ _ _ _ _ h=>h.elim
structure Fun(K:Nq)(x qual:Str)(st:Lf)(f:KE)(fd:Lz):Prop where
 ex:∃ (oc:KC) (od:Option KE) (kV doc pm:KC) (an:Option KE) (cdv ct:KC) (osl:Array (Option KC)),
  fd=SV x qual (cw st) (bn st) (ah st) .none kV doc pm an cdv ct/\K.lookup f=some ⟨oc,od,.func fd,osl⟩/\Pn K cdv qual=true
 kp:OK K (.ref f)=true
section
variable{P:KQ}{w:K2}{K:Nq}{mg:Str->Option KC}{base:K1}
theorem Fun.ok{x qual:Str}{st:Lf}{f:KE}{fd:Lz}{N ps:List Str}{k:Nat}{sp:Sp}(F:Fun K x qual st f fd)(S:FnScope N ps (ah st))(len:∀ vs H Q E,sp vs H Q E->vs.length=ps.length)
  (Qz:∀ (cdv:KC) (A:KY) (outer:List Env) (s:KF) (H:Hp) (vs:List V) (Q:VK) (E:XK),Room k (A.deeper (MR qual (ah st) s.heap.objs.size f cdv))->sp vs H Q E->
   ∃ t,fh (ow l_ P w K mg base N qual (ah st) f cdv A outer s H E).nox (bn st) t/\t { nx:=fun _ H'=>Q .non H',rt:=Q } (start N vs) H):FnOk P w K mg base l_ (k+1) f fd ps sp:=by
 obtain⟨oc,od,kV,doc,pm,an,cdv,ct,osl,rfl,lk,hcd⟩:=F.ex;refine yU lk hcd S len fun A outer s H vs Q E hr hsp=>?_;obtain⟨t,h,q⟩:=Qz cdv A outer s H vs Q E hr hsp;exact⟨t,h.nox,q⟩
end
section
variable{X:Cx}
theorem pv(i:Nat){x:Str}{pos:Pos}(hN:X.N[i]?=some x:=by rfl)(hv:E_ X.env.scope x:=by first|exact Or.inl rfl|exact Or.inr (Or.inl rfl)|exact Or.inr (Or.inr rfl))(hd:(x == ("__debug__":Str))=false:=by decide)
  (hcd:(x == ("__classdict__":Str))=false:=by decide):PE X (.Name x pos) (GW i):=mF hN hv hd hcd
end
theorem iteF{A B:Prop}(h:B):if false=true then A else B:=by
 rw[if_neg Bool.false_ne_true];exact h
theorem iteT{A B:Prop}(h:A):if true=true then A else B:=by
 rw[if_pos rfl];exact h
theorem ite2{c A B:Prop}[Decidable c](h1:c->A)(h2:¬ c->B):if c then A else B:=by
 by_cases h:c
 ·rw[if_pos h];exact h1 h
 ·rw[if_neg h];exact h2 h
def rM(H H':Hp):Prop:=∀ b o,H b=some o->H' b=some o
theorem rM.refl(H:Hp):rM H H:=fun _ _ h=>h
theorem rM.trans{H H1 H2:Hp}(a:rM H H1)(b:rM H1 H2):rM H H2:=fun c o h=>b c o (a c o h)
theorem rM.free{H H':Hp}(e:rM H H'){l:KE}(h:H' l=Option.none):H l=Option.none:=by
 cases q:H l with
 | none=>rfl
 | some o=>
  rw[e l o q]at h;cases h
theorem rM.seq{K:Nq}{H H':Hp}{a:KE}{xs:List V}(e:rM H H')(h:fV K H a xs):fV K H' a xs:=by
 rcases h with (h|⟨o,h⟩)|h
 ·exact .inl (.inl (e _ _ h))
 ·exact .inl (.inr ⟨o,e _ _ h⟩)
 ·exact .inr h
section
variable{κ:Type}[DecidableEq κ]
def jC(kvs:List (κ×V))(k:κ):Option V:=(kvs.find? fun kv=>decide (kv.1=k)).map (·.2)
def gL(kvs:List (κ×V))(k:κ)(v:V):List (κ×V):=
 if (kvs.any fun kv=>decide (kv.1=k))=true then kvs.map (fun kv=>if kv.1=k then (kv.1,v)else kv)else kvs ++ [(k,v)]
def E7(kvs:List (κ×V))(k:κ):List (κ×V):=kvs.filter fun kv=>decide (kv.1≠k)
theorem kQ{p:κ×V}{r:List (κ×V)}{k:κ}(e:p.1=k):jC (p::r) k=some p.2:=by simp[jC,Li,e]
theorem kR{p:κ×V}{r:List (κ×V)}{k:κ}(e:¬ p.1=k):jC (p::r) k=jC r k:=by simp[jC,Li,e]
theorem oY(k:κ):∀ kvs:List (κ×V),(kvs.any fun kv=>decide (kv.1=k))=(jC kvs k).isSome
 | []=>rfl
 | p::r=>by
  rw[Of]
  by_cases e:p.1=k
  ·simp only[kQ e,decide_eq_true e,Bool.true_or,Option.isSome_some]
  ·rw[kR e,decide_eq_false e,Bool.false_or];exact oY k r
theorem ja(kvs:List (κ×V))(k:κ)(v:V):(gL kvs k v).length<=kvs.length+1:=by
 unfold gL;split
 ·rw[KP];omega
 ·rw[Lc,Lb,Lx];omega
theorem iG.isSome_eq{o:Option V}{u:Option KC}(r:iG o u):o.isSome=u.isSome:=by
 cases o with
 | none=>cases u with
  | none=>rfl
  | some _=>exact (show False from r).elim
 | some _=>cases u with
  | none=>exact (show False from r).elim
  | some _=>rfl
theorem iG.getD{o:Option V}{u:Option KC}{d:V}{d':KC}(r:iG o u)(rd:RelV d d'):RelV (o.getD d) (u.getD d'):=by
 cases o with
 | none=>cases u with
  | none=>exact rd
  | some _=>exact (show False from r).elim
 | some _=>cases u with
  | none=>exact (show False from r).elim
  | some _=>exact r
theorem KV.val{kvs:List (κ×V)}{vs:List (κ×KC)}(r:KV kvs vs)(k:κ):iG (jC kvs k) (Ox vs k):=by
 unfold KV at r
 induction r with
 | nil=>exact True.intro
 | @cons p q ps qs h t ih=>
  obtain⟨h1,h2⟩:=h
  by_cases e:p.1=k
  ·have e':q.1=k:=h1.symm.trans e;have b:Ox (q::qs) k=some q.2:=by simp[Ox,Li,e']
   rw[kQ e,b];exact h2
  ·have e':¬ q.1=k:=fun z=>e (h1.trans z);have b:Ox (q::qs) k=Ox qs k:=by simp[Ox,Li,e']
   rw[kR e,b];exact ih
theorem KV.any{kvs:List (κ×V)}{vs:List (κ×KC)}(r:KV kvs vs)(k:κ):(kvs.any fun kv=>decide (kv.1=k))=vs.any fun kv=>decide (kv.1=k):=by
 unfold KV at r
 induction r with
 | nil=>rfl
 | cons h t ih=>rw[Of,Of,ih,h.1]
theorem KV.repl{kvs:List (κ×V)}{vs:List (κ×KC)}(r:KV kvs vs)(k:κ){y:V}{u:KC}(ry:RelV y u):
  KV (kvs.map fun kv=>if kv.1=k then (kv.1,y)else kv) (vs.map fun kv=>if kv.1=k then (kv.1,u)else kv):=by
 unfold KV at r ⊢
 induction r with
 | nil=>exact .nil
 | @cons p q ps qs h t ih=>
  rw[K3,K3];refine .cons ?_ ih;obtain⟨h1,h2⟩:=h
  by_cases e:p.1=k
  ·rw[if_pos e,if_pos (h1.symm.trans e)];exact⟨h1,ry⟩
  ·rw[if_neg e,if_neg (fun z=>e (h1.trans z))];exact⟨h1,h2⟩
theorem KV.put{kvs:List (κ×V)}{vs:List (κ×KC)}(r:KV kvs vs)(k:κ){y:V}{u:KC}(ry:RelV y u):KV (gL kvs k y) (stored vs k u):=by
 unfold gL stored;rw[r.any k]
 by_cases e:(vs.any fun kv=>decide (kv.1=k))=true
 ·rw[if_pos e,if_pos e];exact r.repl k ry
 ·rw[if_neg e,if_neg e];exact OS r ⟨rfl,ry⟩
theorem KV.drop{kvs:List (κ×V)}{vs:List (κ×KC)}(r:KV kvs vs)(k:κ):KV (E7 kvs k) (without vs k):=by
 unfold KV at r ⊢;unfold E7 without
 induction r with
 | nil=>exact .nil
 | @cons p q ps qs h t ih=>
  obtain⟨h1,h2⟩:=h;rw[List.filter_cons,List.filter_cons]
  by_cases e:p.1=k
  ·have a:¬ decide (p.1≠k)=true:=by simp[e]
   have b:¬ decide (q.1≠k)=true:=by simp[h1.symm.trans e]
   rw[if_neg a,if_neg b];exact ih
  ·have e':¬ q.1=k:=fun z=>e (h1.trans z);have a:decide (p.1≠k)=true:=by simp[e]
   have b:decide (q.1≠k)=true:=by simp[e']
   rw[if_pos a,if_pos b];exact .cons ⟨h1,h2⟩ ih
theorem KV.keys{kvs:List (κ×V)}{vs:List (κ×KC)}(r:KV kvs vs):kvs.map (·.1)=vs.map (·.1):=by
 unfold KV at r
 induction r with
 | nil=>rfl
 | cons h t ih=>rw[K3,K3,ih,h.1]
theorem KV.length{kvs:List (κ×V)}{vs:List (κ×KC)}(r:KV kvs vs):kvs.length=vs.length:=MY r
end
theorem qf{P:KQ}{w:K2}{k:ar}{u:KC}(r:RelV (kV k) u):(aK P w).is k u=true:=by
 cases k with
 | inl i=>obtain⟨t,e⟩:=(show ∃ t,u=Value.int i t from r);subst e;exact vG P w i t
 | inr x=>obtain⟨t,e⟩:=(show ∃ t,u=Value.str x t from r);subst e;exact vF P w x t
theorem mS{P:KQ}{w:K2}:∀ {ks:List ar} {us:List KC},Vals (ks.map kV) us->ItemsAre (aK P w) ks us
 | [],_,r=>by rw[NS]at r;cases r;exact .nil
 | k::ks,_,r=>by
  rw[K3]at r;cases r with
  | cons h t=>exact .cons (qf h) (mS t)
abbrev KT(H:Hp):List (List ar×V)->List (List ar×KE×KC)->Prop:=Nr fun p q=>p.1=q.1/\H q.2.1=some (.tup (p.1.map kV))/\RelV p.2 q.2.2
theorem KT.val{H:Hp}{kvs:List (List ar×V)}{xs:List (List ar×KE×KC)}(r:KT H kvs xs)(k:List ar):iG (jC kvs k) ((Np xs k).map (·.2)):=by
 induction r with
 | nil=>exact True.intro
 | @cons p q ps qs h t ih=>
  obtain⟨h1,_,h2⟩:=h
  by_cases e:p.1=k
  ·have e':q.1=k:=h1.symm.trans e;have b:Np (q::qs) k=some q.2:=by simp[Np,Li,e']
   rw[kQ e,b];exact h2
  ·have e':¬ q.1=k:=fun z=>e (h1.trans z);have b:Np (q::qs) k=Np qs k:=by simp[Np,Li,e']
   rw[kR e,b];exact ih
theorem KT.repl{H:Hp}{kvs:List (List ar×V)}{xs:List (List ar×KE×KC)}(r:KT H kvs xs)(k:List ar){y:V}{u:KC}(ry:RelV y u):
  KT H (kvs.map fun kv=>if kv.1=k then (kv.1,y)else kv) (xs.map (putAt k u)):=by
 induction r with
 | nil=>exact .nil
 | @cons p q ps qs h t ih=>
  rw[K3,K3];refine .cons ?_ ih;obtain⟨h1,h2,h3⟩:=h;unfold putAt
  by_cases e:p.1=k
  ·rw[if_pos e,if_pos (h1.symm.trans e)];exact⟨h1,h2,ry⟩
  ·rw[if_neg e,if_neg (fun z=>e (h1.trans z))];exact⟨h1,h2,h3⟩
theorem KT.put{H:Hp}{kvs:List (List ar×V)}{xs:List (List ar×KE×KC)}(r:KT H kvs xs)(k:List ar){b:KE}{y:V}{u:KC}(hb:H b=some (.tup (k.map kV)))(ry:RelV y u):
  KT H (gL kvs k y) (Og xs k b u):=by
 have e:(kvs.any fun kv=>decide (kv.1=k))=(Np xs k).isSome:=by
  rw[oY,(r.val k).isSome_eq,Option.isSome_map]
 unfold gL Og;rw[e]
 by_cases q:(Np xs k).isSome=true
 ·rw[if_pos q,if_pos q];exact r.repl k ry
 ·rw[if_neg q,if_neg q];exact OS r ⟨rfl,hb,ry⟩
theorem KT.keeps{H H':Hp}{kvs:List (List ar×V)}{xs:List (List ar×KE×KC)}(r:KT H kvs xs)(ht:∀ b ys,H b=some (.tup ys)->H' b=some (.tup ys)):KT H' kvs xs:=
 Paired.mapP r fun _ _ z=>⟨z.1,ht _ _ z.2.1,z.2.2⟩
section
variable{P:KQ}{w:K2}{H:Hp}{h:K1}{a:KE}
theorem EW{u:HO}(ok:iH P w H h)(e:Rd H a u):ba P w H h a u:=e.ok ok
theorem sm{kvs:List (ar×V)}(ok:iH P w H h)(e:Rd H a (.dK kvs)):kvs.length<=KM/\(a == Lw)=false/\∃ vs,KV kvs vs/\h.DictOf (aK P w) a vs:=
 show ba P w H h a (.dK kvs)from EW ok e
theorem E8{kvs:List (ar×V)}(ok:iH P w H h)(e:H a=some (.dK kvs)):kvs.length<=KM/\(a == Lw)=false/\∃ vs,KV kvs vs/\h.DictOf (aK P w) a vs:=sm ok (.inl e)
theorem mP{ks:List ar}(ok:iH P w H h)(e:H a=some (.tup (ks.map kV))):(LW (aK P w)).is h ks a:=by
 obtain⟨_,its,r,o,h1,h2,n,h3⟩:=(show ba P w H h a (.tup (ks.map kV))from ok a _ e)
 exact⟨o,its.toArray,n,h1,h2.1,h3,by simpa using mS r⟩
theorem sj{kvs:List (List ar×V)}(ok:iH P w H h)(e:Rd H a (.dT kvs)):kvs.length<=KM/\(a == Lw)=false/\
  ∃ xs,KT H kvs xs/\h.DictOfH (LW (aK P w)) a xs:=by
 obtain⟨z,y,xs,r,o,es,ep,h1,h2,h3,h4,h5⟩:=(show ba P w H h a (.dT kvs)from EW ok e)
 refine⟨z,y,xs,r,o,es,ep,h1,h2,h3,h4,fun x hx=>?_,h5⟩;have all:∀ {l:List (List ar×V)} {m:List (List ar×KE×KC)},KT H l m->∀ x∈m,(LW (aK P w)).is h x.1 x.2.1:=by
  intro l m q
  induction q with
  | nil=>intro x hx;exact nomatch hx
  | @cons p q ps qs hq t ih=>
   intro x hx;rcases Le.mp hx with e|hx
   ·subst e;exact mP ok (by rw[<- hq.1];exact hq.2.1)
   ·exact ih x hx
 exact all r x hx
theorem Ia{kvs:List (List ar×V)}(ok:iH P w H h)(e:H a=some (.dT kvs)):kvs.length<=KM/\(a == Lw)=false/\
  ∃ xs,KT H kvs xs/\h.DictOfH (LW (aK P w)) a xs:=sj ok (.inl e)
end
def qT(H:Hp)(a:KE)(y:V)(r:Option V):Prop:=
 (∃ kvs k,Rd H a (.dK kvs)/\y=kV k/\r=jC kvs k)\/∃ kvs k b,Rd H a (.dT kvs)/\y=.ref b/\H b=some (.tup (k.map kV))/\r=jC kvs k
def AN(H:Hp)(a:KE)(y v:V)(H':Hp):Prop:=
 (∃ kvs k,H a=some (.dK kvs)/\y=kV k/\kvs.length < KM/\H'=aI H a (.dK (gL kvs k v)))\/
 ∃ kvs k b,H a=some (.dT kvs)/\y=.ref b/\H b=some (.tup (k.map kV))/\kvs.length < KM/\H'=aI H a (.dT (gL kvs k v))
theorem qT.k{H:Hp}{a:KE}{kvs:List (ar×V)}{k:ar}(e:H a=some (.dK kvs)):qT H a (kV k) (jC kvs k):=.inl ⟨kvs,k,.inl e,rfl,rfl⟩
theorem qT.t{H:Hp}{a b:KE}{kvs:List (List ar×V)}{k:List ar}(e:H a=some (.dT kvs))(eb:H b=some (.tup (k.map kV))):qT H a (.ref b) (jC kvs k):=.inr ⟨kvs,k,b,.inl e,rfl,eb,rfl⟩
theorem AN.k{H:Hp}{a:KE}{kvs:List (ar×V)}{k:ar}{v:V}(e:H a=some (.dK kvs))(hl:kvs.length < KM):AN H a (kV k) v (aI H a (.dK (gL kvs k v))):=.inl ⟨kvs,k,e,rfl,hl,rfl⟩
theorem AN.t{H:Hp}{a b:KE}{kvs:List (List ar×V)}{k:List ar}{v:V}(e:H a=some (.dT kvs))(eb:H b=some (.tup (k.map kV)))(hl:kvs.length < KM):
  AN H a (.ref b) v (aI H a (.dT (gL kvs k v))):=.inr ⟨kvs,k,b,e,rfl,eb,hl,rfl⟩
section
variable{X:Cx}{pins:List (KE×Obj)}{σ:St}{H:Hp}{s:KF}{a:KE}{y v:V}{u r:KC}{o:Option V}{A:KY}{E:KC->KF->Prop}
theorem Inv.big(I:Inv X pins σ H s):Lw < s.heap.objs.size:=by
 have h:KR < s.heap.objs.size:=(I.mod.glob.keeps I.bk).lt;exact Nat.lt_trans (by decide) h
theorem Ax{Q:KC->KF->Prop}(hu:A.units+1 < Ly)(I:Inv X pins σ H s)(g:qT H a y (some v))(ry:RelV y u)(h:∀ w' s',Inv X pins σ H s'->RelV v w'->Q w' s'):
  KI (KL X.prog X.w) A (NV (.ref a) u) Q E s:=by
 rcases g with ⟨kvs,k,e,ey,l⟩|⟨kvs,k,b,e,ey,eb,l⟩
 ·subst ey;obtain⟨z,hd,vs,rel,dd⟩:=sm I.hok e;obtain⟨w',hw,rw'⟩:=iG.some_of (v:=v) (o:=Ox vs k) (by rw[l];exact rel.val k)
  exact wpAny_getItem_of (qf ry) dd.mapOf hw (h w' _ (I.tok _) rw')
 ·subst ey;cases (show u=Value.ref b from ry)
  obtain⟨z,hd,xs,rel,dd⟩:=sj I.hok e;obtain⟨w',hw,rw'⟩:=iG.some_of (v:=v) (o:=(Np xs k).map (·.2)) (by rw[l];exact rel.val k)
  obtain⟨p,hp,hp2⟩:=Option.map_eq_some_iff.mp hw;refine P3 (LA hu) (mP I.hok eb) dd hp ?_;rw[hp2];exact h w' _ (I.tok _) rw'
theorem JN{Q:KC->KF->Prop}(hu:A.units+1 < Ly)(I:Inv X pins σ H s)(g:qT H a y o)(ry:RelV y u)(h:∀ s',Inv X pins σ H s'->Q (.bool o.isSome) s'):
  KI (KL X.prog X.w) A (Ll .In u (.ref a)) Q E s:=by
 rcases g with ⟨kvs,k,e,ey,l⟩|⟨kvs,k,b,e,ey,eb,l⟩
 ·subst ey;obtain⟨z,hd,vs,rel,dd⟩:=sm I.hok e;refine wpAny_in_of (qf ry) hd dd.mapOf ?_;rw[<- (rel.val k).isSome_eq,<- l];exact h _ (I.tok _)
 ·subst ey;cases (show u=Value.ref b from ry)
  obtain⟨z,hd,xs,rel,dd⟩:=sj I.hok e;refine wpAny_in_heap (LA hu) (mP I.hok eb) hd dd ?_;have q:=(rel.val k).isSome_eq;rw[Option.isSome_map]at q;rw[<- q,<- l];exact h _ (I.tok _)
theorem Et{Q:KC->KF->Prop}(hu:A.units+1 < Ly)(I:Inv X pins σ H s)(g:qT H a y o)(ry:RelV y u)(h:∀ s',Inv X pins σ H s'->Q (.bool (!o.isSome)) s'):
  KI (KL X.prog X.w) A (Ll .NotIn u (.ref a)) Q E s:=by
 rcases g with ⟨kvs,k,e,ey,l⟩|⟨kvs,k,b,e,ey,eb,l⟩
 ·subst ey;obtain⟨z,hd,vs,rel,dd⟩:=sm I.hok e;refine wpAny_notIn_of (qf ry) hd dd.mapOf ?_;rw[<- (rel.val k).isSome_eq,<- l];exact h _ (I.tok _)
 ·subst ey;cases (show u=Value.ref b from ry)
  obtain⟨z,hd,xs,rel,dd⟩:=sj I.hok e;refine wpAny_notIn_heap (LA hu) (mP I.hok eb) hd dd ?_;have q:=(rel.val k).isSome_eq;rw[Option.isSome_map]at q;rw[<- q,<- l];exact h _ (I.tok _)
theorem lZ{h':K1}{t':Nat}{ob:HO}(I:Inv X pins σ H s)(mu:CV (H a))(hs:LS a s.heap h')(he:∃ q,h'.get? a=some q)(new:ba X.prog X.w (aI H a ob) h' a ob):
  Inv X pins σ (aI H a ob) { s with heap:=h',toks:=t' }:=
 I.write (x:=a) (e:=a) mu (.inl rfl) (fun b q hb z=>(hs.2 b hb).trans z) he new
theorem Cz{P:KQ}{w:K2}{H':Hp}{h':K1}{kvs:List (ar×V)}{vs:List (ar×KC)}(z:kvs.length<=KM)(hd:(a == Lw)=false)(rel:KV kvs vs)(dd:h'.DictOf (aK P w) a vs):
  ba P w H' h' a (.dK kvs):=⟨z,hd,vs,rel,dd⟩
theorem Aw{H':Hp}{Q:Unit->KF->Prop}(hu:A.units+1 < Ly)(I:Inv X pins σ H s)(g:AN H a y v H')(ry:RelV y u)(rv:RelV v r)(h:∀ s',Inv X pins σ H' s'->Q () s'):
  KI (KL X.prog X.w) A (Ql (.ref a) u r) Q E s:=by
 rcases g with ⟨kvs,k,e,ey,l,eH⟩|⟨kvs,k,b,e,ey,eb,l,eH⟩
 ·subst ey eH;obtain⟨z,hd,vs,rel,dd⟩:=E8 I.hok e;have hz:vs.length<=KM:=by rw[<- rel.length];exact z
  have hl:(gL kvs k v).length<=KM:=by have:=ja kvs k v;omega
  refine wpAny_setItem_pairs (hsz:=hz) (qf ry) dd fun h' dd' hs=>h _ ?_;have he:∃ q,h'.get? a=some q:=let ⟨q,_,_,hq,_⟩:=dd';⟨q,hq⟩;exact lZ I (by rw[e];exact True.intro) hs he (Cz hl hd (rel.put k rv) dd')
 ·subst ey eH;cases (show u=Value.ref b from ry)
  obtain⟨z,hd,xs,rel,dd⟩:=Ia I.hok e;have hz:xs.length<=KM:=by rw[<- MY rel];exact z
  have hl:(gL kvs k v).length<=KM:=by have:=ja kvs k v;omega
  refine PZ (hsz:=hz) (LA hu) (mP I.hok eb) dd fun h' dd' hs=>h _ ?_;obtain⟨q,es,ep,hq,h2,h3,h4,_,h5⟩:=dd';refine lZ I (by rw[e];exact True.intro) hs ⟨q,hq⟩ ⟨hl,hd,_,(rel.put k eb rv).keeps fun c ys ec=>?_,q,es,ep,hq,h2,h3,h4,h5⟩
  rw[aj (HH ec e (fun z=>nomatch z))];exact ec
end
def IF(i:K4):Prop:=∀ ov iv,ON i false ov iv=operate [ov,iv] (NV ov iv)
theorem Dn{prog:KQ}{w:K2}{A:KY}{E:KC->KF->Prop}{s:KF}{env:Env}{value slice:K4}{pos:Pos}{T id:String}{Q:KC->KF->Prop}
  (hl:NR (.type T) "__getitem__"=pure (some (.builtin id))) (hs:IF slice)
  (h:KI (KL prog w) A (eval value env) (fun o s₁=>KI (KL prog w) A (eval slice env) (fun i s₂=>s₂.TypeIs o T/\KI (KL prog w) A (NV o i) Q E s₂) E s₁) E s):
  KI (KL prog w) A (eval (.Subscript value slice pos) env) Q E s:=by
 refine Qg (K9 h (fun o s₁ h₁=>K9 h₁ (fun i s₂ h₂=>?_) fun _ _ x=>x) fun _ _ x=>x);obtain⟨hT,h₂⟩:=h₂;unfold O6;refine KB ?_;rw[getitemInPython_of_ne hT.not_modules];refine KB (wpAny_specialOf hT hl ?_);have fin:KI (KL prog w) A (ON slice false o i) (fun r s₃=>KI (KL prog w) A (letTemporaryGo value o r >>= fun _=>pure r) Q E s₃) E s₂:=by
  rw[hs o i];exact wpAny_operating (K9 h₂ (fun r s₃ h₃=>KB (wpAny_letTemporaryGo (KD h₃))) fun _ _ x=>x)
 first
  | exact KD (KB fin)
  | exact KB (KD (KB fin))
  | exact KB fin
theorem v9{P:KQ}{w:K2}{H:Hp}(h:K1)(hb:Lw < h.objs.size):ba P w H (h.push { cls:=.type "dict",data:=.dict #[] }) h.objs.size (.dK []):=
 ⟨LG _,beq_eq_false_iff_ne.mpr (Ne.symm (K_ hb)),[],.nil,Heap.DictOf.new h⟩
def Fs:TE:=fun _ H Q=>∀ p,H p=none->Q (.ref p) (aI H p (.dK []))
section
variable{X:Cx}{pos:Pos}
theorem BO:PE X (.Dict [] [] pos) Fs:=fun pins s σ H Q I h=>
 wpAny_Dict_empty ⟨.ref s.heap.objs.size,_,I.laid (a:=s.heap.objs.size) (o:=.dK []) (t':=s.toks) (fun _ _ q=>KG _ q) (le_refl _) (v9 s.heap I.big),rfl,h _ (I.hok.fresh (le_refl _))⟩
end
def wH:List (TE×TE)->St->Hp->(List (V×V)->Hp->Prop)->Prop
 | [],_,H,Q=>Q [] H
 | (tk,tv)::r,σ,H,Q=>tk σ H fun x H1=>tv σ H1 fun y H2=>wH r σ H2 fun ps H3=>Q ((x,y)::ps) H3
abbrev VV:List (V×V)->List (KC×KC)->Prop:=Nr fun p q=>RelV p.1 q.1/\RelV p.2 q.2
def IV(X:Cx)(pos:Pos)(keys:List (Option K4))(values:List K4)(trs:List (TE×TE)):Prop:=
 ∀ (pins:List (KE×Obj)) (s:KF) (σ:St) (H:Hp) (Q:List (V×V)->Hp->Prop),Inv X pins σ H s->wH trs σ H Q->
  KI (KL X.prog X.w) X.A (evalPairs (pairTrees keys values X.env pos)) (fun vs s'=>∃ ps H',Inv X pins σ H' s'/\VV ps vs/\Q ps H') X.xe s
theorem DJ{X:Cx}{pos:Pos}:IV X pos [] [] []:=fun pins s σ H Q I h=>P_ ⟨[],H,I,.nil,h⟩
theorem vh{X:Cx}{pos:Pos}{k v:K4}{ks:List (Option K4)}{vs:List K4}{tk tv:TE}{trs:List (TE×TE)}(hk:PE X k tk)(hv:PE X v tv)(hr:IV X pos ks vs trs):
  IV X pos (some k::ks) (v::vs) ((tk,tv)::trs):=fun pins s σ H Q I h=>
 PR (br (hk pins s σ H _ I h) fun u s1 ⟨x,H1,I1,rx,q1⟩=>br (hv pins s1 σ H1 _ I1 q1) fun w2 s2 ⟨y,H2,I2,ry,q2⟩=>
  br (hr pins s2 σ H2 _ I2 q2) fun ws s3 ⟨ps,H3,I3,rel,q3⟩=>⟨(x,y)::ps,H3,I3,.cons ⟨rx,ry⟩ rel,q3⟩)
def kF(kvs more:List (ar×V)):List (ar×V):=more.foldl (fun acc kv=>gL acc kv.1 kv.2) kvs
theorem KV.merge:∀ {more:List (ar×V)} {rs:List (ar×KC)} {kvs:List (ar×V)} {vs:List (ar×KC)},KV more rs->KV kvs vs->KV (kF kvs more) (merged vs rs):=by
 intro more rs kvs vs r;unfold KV at r
 induction r generalizing kvs vs with
 | nil=>intro q;exact q
 | @cons p q ps qs h t ih=>
  intro r0;have e:KV (gL kvs p.1 p.2) (stored vs q.1 q.2):=by
   have:=r0.put p.1 h.2;rw[<- h.1];exact this
  exact ih e
theorem j8:∀ (more kvs:List (ar×V)),(kF kvs more).length<=kvs.length+more.length
 | [],kvs=>by show kvs.length<=kvs.length+0;omega
 | p::r,kvs=>by
  have h1:=j8 r (gL kvs p.1 p.2);have h2:=ja kvs p.1 p.2;show (kF (gL kvs p.1 p.2) r).length<=_
  rw[Lb];omega
theorem qG{P:KQ}{w:K2}:∀ {kvs:List (ar×V)} {ws:List (KC×KC)},VV (kvs.map fun kv=>(kV kv.1,kv.2)) ws->∃ rs,Carries (aK P w) ws rs/\KV kvs rs
 | [],_,r=>by rw[NS]at r;cases r;exact⟨[],True.intro,.nil⟩
 | p::kvs,_,r=>by
  rw[K3]at r;cases r with
  | @cons a b as bs h t=>
   obtain⟨rs,c,q⟩:=qG (P:=P) (w:=w) t;obtain⟨b1,b2⟩:=b;exact⟨(p.1,b2)::rs,⟨qf h.1,rfl,c⟩,.cons ⟨rfl,h.2⟩ q⟩
def Ha(trs:List (TE×TE)):TE:=fun σ H Q=>∀ p,H p=none->wH trs σ (aI H p (.dK [])) fun ps H2=>H2 p=some (.dK [])/\∃ kvs:List (ar×V),ps=kvs.map (fun kv=>(kV kv.1,kv.2))/\kvs.length<=15/\Q (.ref p) (aI H2 p (.dK (kF [] kvs)))
theorem DR{X:Cx}{pos:Pos}{keys:List (Option K4)}{values:List K4}{trs:List (TE×TE)}(h:IV X pos keys values trs)(Sj:keys.all (·.isSome)=true)(hl:keys.length=values.length)(h0:keys≠[])
  (h15:keys.length<=15):PE X (.Dict keys values pos) (Ha trs):=by
 intro pins s σ H Q I q;have hn:=I.hok.fresh (le_refl s.heap.objs.size);have I1:=I.laid (a:=s.heap.objs.size) (o:=.dK []) (h':=s.heap.push { cls:=.type "dict",data:=.dict #[] }) (t':=s.toks) (fun _ _ q=>KG _ q) (le_refl _) (v9 s.heap I.big);refine wpAny_Dict_walk (knd:=aK X.prog X.w) Sj hl h0 h15 (br (h pins _ σ _ _ I1 (q _ hn)) fun ws s2 zz=>?_);obtain⟨ps,H2,I2,rel,e,kvs,ep,lk,q2⟩:=zz;subst ep;obtain⟨rs,c,rk⟩:=qG (P:=X.prog) (w:=X.w) rel;obtain⟨z,hd,vs0,r0,dd⟩:=E8 I2.hok e;cases r0;refine⟨rs,c,dd,fun h' dd' hs=>⟨.ref s.heap.objs.size,_,?_,rfl,q2⟩⟩;have hz:(kF [] kvs).length<=KM:=by
  have h1:=j8 kvs [];rw[Lx]at h1;rw[LB];omega
 have he:∃ q,h'.get? s.heap.objs.size=some q:=let ⟨q,_,_,hq,_⟩:=dd';⟨q,hq⟩;exact lZ I2 (by rw[e];exact True.intro) hs he (Cz hz hd (rk.merge .nil) dd')
structure M1(X:Cx)(o:K4)(m:Str)(apos:Pos)(e:K4)(cpos:Pos):Prop where
 base:Ls o m X.env (eval o X.env)=eval o X.env
 few:((LN cpos (KO [e] X.env)).all (fun x=>!x.1) && (No cpos (Mv [] X.env)).all (fun x=>x.1.isSome)
  && decide (([e]:List K4).length+([]:List NY).length+(if ([]:List NY).isEmpty then 0 else 1) < 30))=true
 line:(apos.endLine == cpos.line)=true
 trees:LN cpos (KO [e] X.env)=[(false,eval e X.env)]
structure M2(X:Cx)(o:K4)(m:Str)(apos:Pos)(e f:K4)(cpos:Pos):Prop where
 base:Ls o m X.env (eval o X.env)=eval o X.env
 few:((LN cpos (KO [e,f] X.env)).all (fun x=>!x.1) && (No cpos (Mv [] X.env)).all (fun x=>x.1.isSome)
  && decide (([e,f]:List K4).length+([]:List NY).length+(if ([]:List NY).isEmpty then 0 else 1) < 30))=true
 line:(apos.endLine == cpos.line)=true
 trees:LN cpos (KO [e,f] X.env)=[(false,eval e X.env),(false,eval f X.env)]
def Kz(H:Hp)(a:KE):Prop:=(∃ kvs,Rd H a (.dK kvs))\/∃ kvs,Rd H a (.dT kvs)
theorem Ge{X:Cx}{pins:List (KE×Obj)}{σ:St}{H:Hp}{s:KF}{a:KE}(I:Inv X pins σ H s)(d:Kz H a):
  s.TypeIs (.ref a) "dict"/\(∀ b,Value.ref a=.ref b->∃ ob,s.heap.get? b=some ob/\ob.dict=none)/\(a == Lw)=false:=by
 rcases d with ⟨kvs,e⟩|⟨kvs,e⟩
 ·obtain⟨_,hd,vs,_,dd⟩:=sm I.hok e;refine⟨dd.typeIs,fun b q=>?_,hd⟩;cases q;obtain⟨ob,_,_,h1,h2,_⟩:=dd;exact⟨ob,h1,h2.2.1⟩
 ·obtain⟨_,hd,xs,_,dd⟩:=sj I.hok e;refine⟨dd.typeIs,fun b q=>?_,hd⟩;cases q;obtain⟨ob,_,_,h1,h2,_⟩:=dd;exact⟨ob,h1,h2.2.1⟩
section
variable{X:Cx}{pins:List (KE×Obj)}{σ:St}{H:Hp}{s:KF}{a:KE}{y d:V}{u r:KC}{o:Option V}{A:KY}{E:KC->KF->Prop}
theorem Gm{Q:KC->KF->Prop}(hu:A.units+1 < Ly)(I:Inv X pins σ H s)(g:qT H a y o)(ry:RelV y u)(rd:RelV d r)(h:∀ w' s',Inv X pins σ H s'->RelV (o.getD d) w'->Q w' s'):
  KI (KL X.prog X.w) A (call (.builtin "dict.get") [.ref a,u,r]) Q E s:=by
 rcases g with ⟨kvs,k,e,ey,l⟩|⟨kvs,k,b,e,ey,eb,l⟩
 ·subst ey;obtain⟨z,hd,vs,rel,dd⟩:=sm I.hok e;refine Ng PySem.F.slot_dict_get dd.typeIs PySem.F.entry_dict_get (PySem.F.args_dict_get_3 _ _ _) (meets_dict_get_default (aK X.prog X.w) a (qf ry) hd r) ⟨_,dd.mapOf,h _ _ (I.tok _) ?_⟩;rw[l];exact (rel.val k).getD rd
 ·subst ey;cases (show u=Value.ref b from ry)
  obtain⟨z,hd,xs,rel,dd⟩:=sj I.hok e;refine Ng PySem.F.slot_dict_get dd.typeIs PySem.F.entry_dict_get (PySem.F.args_dict_get_3 _ _ _) (O9 (LW (aK X.prog X.w)) a b hd r) ⟨LA hu,k,xs,mP I.hok eb,dd,h _ _ (I.tok _) ?_⟩;rw[l];exact (rel.val k).getD rd
end
end L2
namespace L3
open PySem PySem.Spec PyProof.Rows L2
abbrev St:=L2.St
inductive D where
 | non|bl (b:Bool)|int (i:Int)|str (x:Str)|tup (ds:List D)|lst (ds:List D)|fl (ds:List D)|ref (a:KE)|ty (n:String)
inductive GO where
 | lst (ds:List D)
 | ins (C:KE) (L:List Str) (ds:List D)
 | dK (kvs:List (ar×D))
 | dT (hw:List ar->Int) (kvs:List (List ar×D))
 | dF (ob:Obj) (hw:List ar->Int) (xs:List (List ar×KE×KC)) (kvs:List (List ar×D))
abbrev Gp:=KE->Option GO
def gset(G:Gp)(a:KE)(o:GO):Gp:=fun b=>if b=a then some o else G b
def d_(G:Gp)(a:KE):Gp:=fun b=>if b=a then none else G b
theorem ai{G:Gp}{a:KE}{o:GO}:gset G a o a=some o:=by unfold gset;rw[if_pos rfl]
theorem af{G:Gp}{a b:KE}{o:GO}(h:b≠a):gset G a o b=G b:=by unfold gset;rw[if_neg h]
theorem d9{G:Gp}{a:KE}{o u:GO}:gset (gset G a o) a u=gset G a u:=by
 funext b;unfold gset;split<;>rfl
theorem c7{G:Gp}{a:KE}:d_ G a a=none:=by unfold d_;rw[if_pos rfl]
theorem c8{G:Gp}{a b:KE}(h:b≠a):d_ G a b=G b:=by unfold d_;rw[if_neg h]
def AQ(K:Nq)(H:Hp)(a:KE)(xs:List V):Prop:=
 (∃ o,H a=some (.frz o (.lst xs)))\/
  ∃ (o:Obj) (its:Array KC) (n:Nat),K.lookup a=some o/\o.cls=.type "list"/\o.dict=none/\o.data=.seq its n/\its.size<=KM/\Vals xs its.toList
theorem AQ.sq{K:Nq}{H:Hp}{a:KE}{xs:List V}(h:AQ K H a xs):fV K H a xs:=by
 rcases h with ⟨o,e⟩|h
 ·exact .inl (.inr ⟨o,e⟩)
 ·exact .inr h
mutual
def RD(K:Nq)(H:Hp):D->V->Prop
 | .non,v=>v=.non
 | .bl b,v=>v=.bl b
 | .int i,v=>v=.int i
 | .str x,v=>v=.str x
 | .ref a,v=>v=.ref a
 | .ty n,v=>v=.ty n
 | .fl _,_=>False
 | .tup ds,v=>∃ a xs,v=.ref a/\ij K H a xs/\RDs K H ds xs
 | .lst ds,v=>∃ a xs,v=.ref a/\AQ K H a xs/\RDs K H ds xs
def RDs(K:Nq)(H:Hp):List D->List V->Prop
 | [],xs=>xs=[]
 | d::ds,xs=>∃ x r,xs=x::r/\RD K H d x/\RDs K H ds r
end
structure Stb(K:Nq)(H H':Hp):Prop where
 t:∀ a xs,ij K H a xs->ij K H' a xs
 l:∀ a xs,AQ K H a xs->AQ K H' a xs
mutual
theorem RD.mono{K:Nq}{H H':Hp}(s:Stb K H H'):∀ (d:D) (v:V),RD K H d v->RD K H' d v
 | .non,v,h=>by simp only[RD]at h ⊢;exact h
 | .bl b,v,h=>by simp only[RD]at h ⊢;exact h
 | .int i,v,h=>by simp only[RD]at h ⊢;exact h
 | .str x,v,h=>by simp only[RD]at h ⊢;exact h
 | .ref a,v,h=>by simp only[RD]at h ⊢;exact h
 | .ty n,v,h=>by simp only[RD]at h ⊢;exact h
 | .fl _,v,h=>by simp only[RD]at h
 | .tup ds,v,h=>by
  simp only[RD]at h ⊢;obtain⟨a,xs,e,q,r⟩:=h;exact⟨a,xs,e,s.t _ _ q,RDs.mono s ds xs r⟩
 | .lst ds,v,h=>by
  simp only[RD]at h ⊢;obtain⟨a,xs,e,q,r⟩:=h;exact⟨a,xs,e,s.l _ _ q,RDs.mono s ds xs r⟩
theorem RDs.mono{K:Nq}{H H':Hp}(s:Stb K H H'):∀ (ds:List D) (xs:List V),RDs K H ds xs->RDs K H' ds xs
 | [],xs,h=>by simp only[RDs]at h ⊢;exact h
 | d::ds,xs,h=>by
  simp only[RDs]at h ⊢;obtain⟨x,r,e,h1,h2⟩:=h;exact⟨x,r,e,RD.mono s d x h1,RDs.mono s ds r h2⟩
end
section
variable{K:Nq}{H:Hp}
theorem RDs.nil:RDs K H [] []:=by simp only[RDs]
theorem RDs.cons{d:D}{x:V}{ds:List D}{xs:List V}(h:RD K H d x)(t:RDs K H ds xs):RDs K H (d::ds) (x::xs):=by
 simp only[RDs];exact⟨x,xs,rfl,h,t⟩
theorem RDs.inv_nil{xs:List V}(h:RDs K H [] xs):xs=[]:=by simpa only[RDs]using h
theorem RDs.inv_cons{d:D}{ds:List D}{xs:List V}(h:RDs K H (d::ds) xs):∃ x r,xs=x::r/\RD K H d x/\RDs K H ds r:=by simpa only[RDs]using h
theorem RDs.length:∀ {ds:List D} {xs:List V},RDs K H ds xs->ds.length=xs.length
 | [],xs,h=>by rw[h.inv_nil];rfl
 | d::ds,xs,h=>by
  obtain⟨x,r,e,_,h2⟩:=h.inv_cons;subst e;simp[RDs.length h2]
theorem RDs.get:∀ {ds:List D} {xs:List V} {i:Nat} {d:D},RDs K H ds xs->ds[i]?=some d->∃ x,xs[i]?=some x/\RD K H d x
 | [],xs,i,d,h,e=>by simp at e
 | c::ds,xs,0,d,h,e=>by
  obtain⟨x,r,e1,h1,h2⟩:=h.inv_cons;subst e1;simp at e;subst e;exact⟨x,rfl,h1⟩
 | c::ds,xs,i+1,d,h,e=>by
  obtain⟨x,r,e1,h1,h2⟩:=h.inv_cons;subst e1;obtain⟨y,q1,q2⟩:=RDs.get (i:=i) (d:=d) h2 (by simpa using e)
  exact⟨y,by simpa using q1,q2⟩
theorem RDs.append:∀ {ds es:List D} {xs ys:List V},RDs K H ds xs->RDs K H es ys->RDs K H (ds ++ es) (xs ++ ys)
 | [],es,xs,ys,h,h'=>by rw[h.inv_nil];exact h'
 | d::ds,es,xs,ys,h,h'=>by
  obtain⟨x,r,e,h1,h2⟩:=h.inv_cons;subst e;exact RDs.cons h1 (RDs.append h2 h')
theorem RDs.take:∀ {ds:List D} {xs:List V} (n:Nat),RDs K H ds xs->RDs K H (ds.take n) (xs.take n)
 | _,_,0,_=>by simp only[List.take_zero];exact RDs.nil
 | [],xs,n+1,h=>by rw[h.inv_nil];simp only[List.take_nil];exact RDs.nil
 | d::ds,xs,n+1,h=>by
  obtain⟨x,r,e,h1,h2⟩:=h.inv_cons;subst e;exact RDs.cons h1 (RDs.take n h2)
theorem RDs.drop:∀ {ds:List D} {xs:List V} (n:Nat),RDs K H ds xs->RDs K H (ds.drop n) (xs.drop n)
 | _,_,0,h=>by simpa only[List.drop_zero]using h
 | [],xs,n+1,h=>by rw[h.inv_nil];simp only[List.drop_nil];exact RDs.nil
 | d::ds,xs,n+1,h=>by
  obtain⟨x,r,e,h1,h2⟩:=h.inv_cons;subst e;exact RDs.drop n h2
theorem RDs.set:∀ {ds:List D} {xs:List V} {d:D} {x:V} (n:Nat),RDs K H ds xs->RD K H d x->RDs K H (ds.set n d) (xs.set n x)
 | [],xs,d,x,n,h,_=>by rw[h.inv_nil];simp only[List.set_nil];exact RDs.nil
 | c::ds,xs,d,x,0,h,h'=>by
  obtain⟨y,r,e,h1,h2⟩:=h.inv_cons;subst e;exact RDs.cons h' h2
 | c::ds,xs,d,x,n+1,h,h'=>by
  obtain⟨y,r,e,h1,h2⟩:=h.inv_cons;subst e;exact RDs.cons h1 (RDs.set n h2 h')
theorem RDs.reverse:∀ {ds:List D} {xs:List V},RDs K H ds xs->RDs K H ds.reverse xs.reverse
 | [],xs,h=>by rw[h.inv_nil];exact RDs.nil
 | d::ds,xs,h=>by
  obtain⟨x,r,e,h1,h2⟩:=h.inv_cons;subst e;rw[List.reverse_cons,List.reverse_cons];exact RDs.append (RDs.reverse h2) (RDs.cons h1 RDs.nil)
theorem RDs.ints:∀ ns:List Int,RDs K H (ns.map D.int) (ns.map V.int)
 | []=>RDs.nil
 | n::r=>RDs.cons (by simp only[RD]) (RDs.ints r)
theorem RDs.strs:∀ ns:List Str,RDs K H (ns.map D.str) (ns.map V.str)
 | []=>RDs.nil
 | n::r=>RDs.cons (by simp only[RD]) (RDs.strs r)
theorem RDs.ints_inv:∀ (ns:List Int) {xs:List V},RDs K H (ns.map D.int) xs->xs=ns.map V.int
 | [],xs,h=>h.inv_nil
 | n::r,xs,h=>by
  obtain⟨x,t,e,h1,h2⟩:=RDs.inv_cons (d:=.int n) (ds:=r.map D.int) h;simp only[RD]at h1;subst e h1;rw[RDs.ints_inv r h2];rfl
end
def nL(hw:List ar->Int)(a:KE)(xs:List (List ar×KE×KC)):K1->Prop:=fun h=>(a == Lw)=false/\∃ o es ep,h.get? a=some o/\o.ExactDict/\o.data=.dict es ep/\es.toList=xs.map fun x=>(⟨hw x.1,.ref x.2.1,x.2.2⟩:Ol)
def AR(ob:Obj)(hw:List ar->Int)(a:KE)(xs:List (List ar×KE×KC)):K1->Prop:=fun h=>h.get? a=some ob/\nL hw a xs h
def jM(K:Nq)(H:Hp):List (List ar×D)->List (List ar×KE×KC)->Prop:=Nr fun p q=>p.1=q.1/\ij K H q.2.1 (p.1.map kV)/\∃ v,RD K H p.2 v/\RelV v q.2.2
def uM(K:Nq)(H:Hp):List (ar×D)->List (ar×V)->Prop:=Nr fun p q=>p.1=q.1/\RD K H p.2 q.2
def RO(K:Nq)(H:Hp)(a:KE):GO->HO->Prop
 | .lst ds,.lst xs=>RDs K H ds xs
 | .ins C L ds,.ins C' _ gs=>C'=C/\gs.map (·.1)=L/\RDs K H ds (gs.map (·.2))
 | .dK kvs,.dK hs=>uM K H kvs hs
 | .dT hw kvs,.ext φ=>∃ xs,φ=nL hw a xs/\jM K H kvs xs/\(kvs.map (·.1)).Nodup/\kvs.length<=KM
 | .dF ob hw xs kvs,.ext φ=>φ=AR ob hw a xs/\jM K H kvs xs/\(kvs.map (·.1)).Nodup/\kvs.length<=KM
 | _,_=>False
def RG(K:Nq)(H:Hp)(G:Gp):Prop:=∀ a o,G a=some o->∃ h,H a=some h/\RO K H a o h
def Kp(G:Gp)(H:Hp)(G':Gp)(H':Hp):Prop:=∀ a h,H a=some h->G a=none->H' a=some h/\G' a=none
def GG(G:Gp)(H:Hp)(p:KE):Prop:=∀ h,H p=some h->G p≠none
section
variable{K:Nq}{H H' H1 H2:Hp}{G G' G1 G2:Gp}{p:KE}
theorem jM.mono(s:Stb K H H'){kvs:List (List ar×D)}{xs:List (List ar×KE×KC)}(r:jM K H kvs xs):jM K H' kvs xs:=Paired.mapP r fun _ _ zz=>by
 obtain⟨a,b,v,c,d⟩:=zz;exact (
  ⟨a,s.t _ _ b,v,RD.mono s _ _ c,d⟩)
theorem uM.mono(s:Stb K H H'){kvs:List (ar×D)}{xs:List (ar×V)}(r:uM K H kvs xs):uM K H' kvs xs:=Paired.mapP r fun _ _ zz=>by
 obtain⟨a,b⟩:=zz;exact (
  ⟨a,RD.mono s _ _ b⟩)
theorem RO.mono(s:Stb K H H'){a:KE}{o:GO}{h:HO}(r:RO K H a o h):RO K H' a o h:=by
 cases o<;>cases h<;>first
  | exact r.elim
  | exact RDs.mono s _ _ r
  | exact⟨r.1,r.2.1,RDs.mono s _ _ r.2.2⟩
  | exact uM.mono s r
  | (obtain⟨xs,e,q,n⟩:=r;exact⟨xs,e,q.mono s,n⟩)
  | exact⟨r.1,r.2.1.mono s,r.2.2⟩
theorem RG.none_of(rg:RG K H G){a:KE}{h:HO}(e:H a=some h)(n:∀ o,¬ RO K H a o h):G a=none:=by
 cases q:G a with
 | none=>rfl
 | some o=>
  obtain⟨h',e',r⟩:=rg a o q;rw[e]at e';cases e';exact absurd r (n o)
theorem RG.free(rg:RG K H G)(e:H p=none):G p=none:=by
 cases q:G p with
 | none=>rfl
 | some o=>
  obtain⟨h',e',r⟩:=rg p o q;rw[e]at e';cases e'
theorem F2{a:KE}(o:GO)(xs:List V):¬ RO K H a o (.tup xs):=by cases o<;>exact id
theorem B4{a:KE}(o:GO)(ob:Obj)(u:HO):¬ RO K H a o (.frz ob u):=by cases o<;>exact id
theorem Kp.refl:Kp G H G H:=fun _ _ e n=>⟨e,n⟩
theorem Kp.trans(a:Kp G H G1 H1)(b:Kp G1 H1 G2 H2):Kp G H G2 H2:=fun x h e n=>b x h (a x h e n).1 (a x h e n).2
theorem Kp.stb(k:Kp G H G' H')(rg:RG K H G):Stb K H H' where
 t:=fun a xs q=>by
  rcases q with (q|⟨o,q⟩)|q
  ·exact .inl (.inl (k a _ q (rg.none_of q fun o=>F2 o xs)).1)
  ·exact .inl (.inr ⟨o,(k a _ q (rg.none_of q fun o'=>B4 o' o _)).1⟩)
  ·exact .inr q
 l:=fun a xs q=>by
  rcases q with ⟨o,q⟩|q
  ·exact .inl ⟨o,(k a _ q (rg.none_of q fun o'=>B4 o' o _)).1⟩
  ·exact .inr q
theorem Kp.fr(k:Kp G H G1 H1)(f:GG G1 H1 p):GG G H p:=fun h e n=>f h (k p h e n).1 (k p h e n).2
theorem oO(e:H p=none):GG G H p:=fun h q=>by rw[e]at q;cases q
theorem Kp.laid{o:HO}(e:H p=none):Kp G H G (aI H p o):=fun a h q n=>⟨by rw[aj (bf q e)];exact q,n⟩
theorem RG.laid{o:HO}(rg:RG K H G)(e:H p=none):RG K (aI H p o) G:=fun a o' q=>by
 obtain⟨h,e1,r⟩:=rg a o' q;exact⟨h,by rw[aj (bf e1 e)];exact e1,r.mono ((Kp.laid (G:=G) e).stb rg)⟩
end
abbrev cL:=List (Option D)
def AI(K:Nq)(H:Hp):Option D->Option V->Prop
 | some d,some v=>RD K H d v
 | none,_=>True
 | some _,none=>False
def RS(K:Nq)(H:Hp)(σ:cL)(τ:St):Prop:=Nr (AI K H) σ τ
section
variable{K:Nq}{H H':Hp}
theorem AI.mono(s:Stb K H H'):∀ {a:Option D} {b:Option V},AI K H a b->AI K H' a b
 | some d,some v,r=>RD.mono s d v r
 | none,_,_=>trivial
 | some _,none,r=>r.elim
theorem RS.mono(s:Stb K H H'){σ:cL}{τ:St}(r:RS K H σ τ):RS K H' σ τ:=Paired.mapP r fun _ _ q=>q.mono s
theorem RS.get:∀ {σ:cL} {τ:St} {i:Nat} {d:D},RS K H σ τ->σ[i]?=some (some d)->∃ v,τ[i]?=some (some v)/\RD K H d v
 | _,_,_,_,.nil,e=>by simp at e
 | _,_,0,d,.cons (b:=b) r _,e=>by
  simp at e;subst e;cases b with
  | none=>exact r.elim
  | some v=>exact⟨v,rfl,r⟩
 | _,_,i+1,d,.cons _ t,e=>by
  obtain⟨v,h1,h2⟩:=RS.get (i:=i) (d:=d) t (by simpa using e)
  exact⟨v,by simpa using h1,h2⟩
theorem RS.set{d:D}{v:V}(r:RD K H d v):∀ {σ:cL} {τ:St} (i:Nat),RS K H σ τ->RS K H (σ.set i (some d)) (τ.set i (some v))
 | _,_,_,.nil=>.nil
 | _,_,0,.cons _ t=>.cons (show AI K H (some d) (some v)from r) t
 | _,_,i+1,.cons q t=>.cons q (RS.set r i t)
theorem RS.length{σ:cL}{τ:St}(r:RS K H σ τ):σ.length=τ.length:=MY r
end
def RE(K:Nq)(G:Gp)(H:Hp)(G':Gp)(H':Hp)(d:D)(v:V):Prop:=
 (∃ ds p xs,d=.fl ds/\v=.ref p/\H' p=some (.lst xs)/\G' p=none/\RDs K H' ds xs/\GG G H p)\/RD K H' d v
section
variable{K:Nq}{H H' H1 H2:Hp}{G G' G1 G2:Gp}{d:D}{v:V}
theorem RE.of(r:RD K H' d v):RE K G H G' H' d v:=.inr r
theorem RE.wait(r:RE K G H G1 H1 d v)(k:Kp G1 H1 G2 H2)(rg:RG K H1 G1):RE K G H G2 H2 d v:=by
 rcases r with ⟨ds,p,xs,e1,e2,e3,e4,e5,e6⟩|r
 ·exact .inl ⟨ds,p,xs,e1,e2,(k p _ e3 e4).1,(k p _ e3 e4).2,RDs.mono (k.stb rg) _ _ e5,e6⟩
 ·exact .inr (RD.mono (k.stb rg) _ _ r)
theorem RE.base(r:RE K G1 H1 G2 H2 d v)(k:Kp G H G1 H1):RE K G H G2 H2 d v:=by
 rcases r with ⟨ds,p,xs,e1,e2,e3,e4,e5,e6⟩|r
 ·exact .inl ⟨ds,p,xs,e1,e2,e3,e4,e5,k.fr e6⟩
 ·exact .inr r
theorem RE.rd(r:RE K G H G' H' d v)(h:∀ ds,d≠.fl ds):RD K H' d v:=by
 rcases r with ⟨ds,p,xs,e1,_⟩|r
 ·exact absurd e1 (h ds)
 ·exact r
theorem RE.int{i:Int}(r:RE K G H G' H' (.int i) v):v=.int i:=by
 have:=r.rd (by intro ds h;cases h);simpa only[RD]using this
theorem RE.str{i:Str}(r:RE K G H G' H' (.str i) v):v=.str i:=by
 have:=r.rd (by intro ds h;cases h);simpa only[RD]using this
theorem RE.bl{i:Bool}(r:RE K G H G' H' (.bl i) v):v=.bl i:=by
 have:=r.rd (by intro ds h;cases h);simpa only[RD]using this
theorem RE.non(r:RE K G H G' H' .non v):v=.non:=by
 have:=r.rd (by intro ds h;cases h);simpa only[RD]using this
theorem RE.ref{a:KE}(r:RE K G H G' H' (.ref a) v):v=.ref a:=by
 have:=r.rd (by intro ds h;cases h);simpa only[RD]using this
theorem RE.tup{ds:List D}(r:RE K G H G' H' (.tup ds) v):∃ a xs,v=.ref a/\ij K H' a xs/\RDs K H' ds xs:=by
 have:=r.rd (by intro ds h;cases h);simpa only[RD]using this
theorem RE.lst{ds:List D}(r:RE K G H G' H' (.lst ds) v):∃ a xs,v=.ref a/\AQ K H' a xs/\RDs K H' ds xs:=by
 have:=r.rd (by intro ds h;cases h);simpa only[RD]using this
theorem RE.fl{ds:List D}(r:RE K G H G' H' (.fl ds) v):∃ p xs,v=.ref p/\H' p=some (.lst xs)/\G' p=none/\RDs K H' ds xs/\GG G H p:=by
 rcases r with ⟨ds',p,xs,e1,e2,e3,e4,e5,e6⟩|r
 ·cases e1;exact⟨p,xs,e2,e3,e4,e5,e6⟩
 ·simp only[RD]at r
theorem bQ{i:Int}:RD K H (.int i) (.int i):=by simp only[RD]
theorem h8{i:Str}:RD K H (.str i) (.str i):=by simp only[RD]
theorem fu{i:Bool}:RD K H (.bl i) (.bl i):=by simp only[RD]
theorem pG:RD K H .non .non:=by simp only[RD]
theorem d8{a:KE}:RD K H (.ref a) (.ref a):=by simp only[RD]
theorem mz{ds:List D}{xs:List V}{a:KE}(h:ij K H a xs)(r:RDs K H ds xs):RD K H (.tup ds) (.ref a):=by
 simp only[RD];exact⟨a,xs,rfl,h,r⟩
theorem mB{ds:List D}{xs:List V}{a:KE}(h:AQ K H a xs)(r:RDs K H ds xs):RD K H (.lst ds) (.ref a):=by
 simp only[RD];exact⟨a,xs,rfl,h,r⟩
end
def sB(G:Gp):D->Option (List D)
 | .lst ds=>some ds
 | .fl ds=>some ds
 | .ref a=>match G a with
  | some (.lst ds)=>some ds
  | _=>none
 | _=>none
def C9(G:Gp):D->Option (List D)
 | .tup ds=>some ds
 | d=>sB G d
section
variable{K:Nq}{H H':Hp}{G G':Gp}{d:D}{v:V}{ds:List D}
theorem m5(h:sB G' d=some ds)(r:RE K G H G' H' d v)(rg:RG K H' G'):∃ a xs,v=.ref a/\fV K H' a xs/\RDs K H' ds xs:=by
 cases d with
 | lst es=>
  obtain⟨a,xs,e,f,q⟩:=r.lst;simp only[sB,Option.some.injEq]at h;subst h;exact⟨a,xs,e,f.sq,q⟩
 | fl es=>
  obtain⟨a,xs,e,f,_,q,_⟩:=r.fl;simp only[sB,Option.some.injEq]at h;subst h;exact⟨a,xs,e,fV.of f,q⟩
 | ref a=>
  have e:=r.ref;simp only[sB]at h;cases q:G' a with
  | none=>rw[q]at h;cases h
  | some o=>
   rw[q]at h;cases o with
   | lst es=>
    simp only[Option.some.injEq]at h;subst h;obtain⟨ho,e1,e2⟩:=rg a _ q;cases ho with
    | lst xs=>exact⟨a,xs,e,fV.of e1,e2⟩
    | _=>exact e2.elim
   | _=>cases h
 | _=>simp[sB]at h
theorem qK(h:C9 G' d=some ds)(r:RE K G H G' H' d v)(rg:RG K H' G'):∃ a xs,v=.ref a/\(fV K H' a xs\/ij K H' a xs)/\RDs K H' ds xs:=by
 cases d with
 | tup es=>
  obtain⟨a,xs,e,f,q⟩:=r.tup;simp only[C9,Option.some.injEq]at h;subst h;exact⟨a,xs,e,.inr f,q⟩
 | _=>
  obtain⟨a,xs,e,f,q⟩:=m5 (by simpa only[C9]using h) r rg
  exact⟨a,xs,e,.inl f,q⟩
theorem qx{xs:List V}{p:KE}(rg:RG K H G)(e:H p=none)(r:RDs K H ds xs):RE K G H G (aI H p (.lst xs)) (.fl ds) (.ref p):=
 .inl ⟨ds,p,xs,rfl,rfl,ay,rg.free e,RDs.mono ((Kp.laid (G:=G) e).stb rg) _ _ r,oO e⟩
theorem gX{xs:List V}{p:KE}(rg:RG K H G)(e:H p=none)(r:RDs K H ds xs):RD K (aI H p (.tup xs)) (.tup ds) (.ref p):=
 mz (ij.of ay) (RDs.mono ((Kp.laid (G:=G) e).stb rg) _ _ r)
end
end L3
namespace L2
open PySem PySem.Spec PyProof.Rows
section
variable{X:Cx}
theorem PE.imp{e:K4}{t t':TE}(h:PE X e t)(i:∀ σ H Q,t' σ H Q->t σ H Q):PE X e t':=fun pins s σ H Q I q=>h pins s σ H Q I (i σ H Q q)
theorem PT.imp{e:K4}{t t':TT}(h:PT X e t)(i:∀ σ H Q,t' σ H Q->t σ H Q):PT X e t':=fun pins s σ H Q I q=>h pins s σ H Q I (i σ H Q q)
theorem PW.imp{e:K4}{t t':TT}(h:PW X e t)(i:∀ σ H Q,t' σ H Q->t σ H Q):PW X e t':=fun wh pins s σ H Q I q=>h wh pins s σ H Q I (i σ H Q q)
theorem PA.imp{es:List K4}{t t':TA}(h:PA X es t)(i:∀ σ H Q,t' σ H Q->t σ H Q):PA X es t':=fun pos pins s σ H Q I q=>h pos pins s σ H Q I (i σ H Q q)
theorem PS.imp{e:Lf}{t t':TS}(h:PS X e t)(i:∀ D σ H,t' D σ H->t D σ H):PS X e t':=fun pins s σ H D I q=>h pins s σ H D I (i D σ H q)
theorem fh.imp{e:List Lf}{t t':TS}(h:fh X e t)(i:∀ D σ H,t' D σ H->t D σ H):fh X e t':=fun pins s σ H D I q=>h pins s σ H D I (i D σ H q)
theorem fe.imp{f:KC->KC->Sem KC}{r r':R2}(h:fe X f r)(i:∀ x y H Q,r' x y H Q->r x y H Q):fe X f r':=fun pins s σ H x y v u Q I rx ry q=>h pins s σ H x y v u Q I rx ry (i x y H Q q)
theorem cJ.imp{f:KC}{r r':List V->Hp->VK->Prop}(h:cJ X f r)(i:∀ xs H Q,r' xs H Q->r xs H Q):cJ X f r':=fun pins s σ H xs us Q I r q=>h pins s σ H xs us Q I r (i xs H Q q)
theorem AH.imp{r r':V->Option Int->Option Int->Hp->VK->Prop}(h:AH X r)(i:∀ x lo hi H Q,r' x lo hi H Q->r x lo hi H Q):AH X r':=fun pins s σ H x v vl vu lo hi sl Q I rx hs pl pu q=>h pins s σ H x v vl vu lo hi sl Q I rx hs pl pu (i x lo hi H Q q)
theorem AJ.imp{r r':R2}(h:AJ X r)(i:∀ x y H Q,r' x y H Q->r x y H Q):AJ X r':=fun value slice pins s σ H x y v u Q I rx ry q hs=>h value slice pins s σ H x y v u Q I rx ry (i x y H Q q) hs
theorem Inv.freeze{pins:List (KE×Obj)}{σ:St}{H:Hp}{s:KF}{p:KE}{xs:List V}(I:Inv X pins σ H s)(e:H p=some (.lst xs)):∃ o,Inv X pins σ (aI H p (.frz o (.lst xs))) s:=by
 obtain⟨its,n,rv,ho,hz⟩:=I.lst e;have stay:∀ b,H b=none->(aI H p (.frz { cls:=.type "list",data:=.seq its.toArray n } (.lst xs))) b=none:=fun b hb=>by
  rw[aj (fun z=>by subst z;rw[hb]at e;cases e)];exact hb
 refine⟨{ cls:=.type "list",data:=.seq its.toArray n },⟨I.ok,I.os,I.bare,⟨I.base.keep,I.base.slot,fun b o h1 h2 h3=>stay b (I.base.free b o h1 h2 h3),I.base.there,fun b ys q=>?_,fun b o u q=>?_,fun b ps q=>?_⟩,I.loc,I.cell,stay _ I.free,fun x c hc=>stay c (I.freeC x c hc),fun q hq=>?_,fun b u q=>?_,I.len⟩⟩
 ·have q':=I.base.tups b ys q;rw[aj (fun z=>by subst z;rw[e]at q';cases q')];exact q'
 ·have q':=I.base.frzs b o u q;rw[aj (fun z=>by subst z;rw[e]at q';cases q')];exact q'
 ·obtain⟨more,q'⟩:=I.base.tbls b ps q;exact⟨more,by rw[aj (fun z=>by subst z;rw[e]at q';cases q')];exact q'⟩
 ·obtain⟨h1,h2,h3⟩:=I.pin q hq;exact⟨h1,stay _ h2,h3⟩
 ·by_cases hb:b=p
  ·subst hb;rw[ay]at q;cases q;exact⟨ho,hz,its,n,rv,ho⟩
  ·rw[aj hb]at q;refine (I.hok b u q).stay (fun _ _ _ z=>z) (fun c z=>?_) fun c ys z=>?_
   ·rw[aj (fun y=>by subst y;rw[e]at z;cases z)];exact z
   ·rw[aj (fun y=>by subst y;rw[e]at z;cases z)];exact z
def gh(t:TE):TE:=fun σ H Q=>t σ H fun v H1=>Q v H1\/∃ p xs,v=.ref p/\H1 p=some (.lst xs)/\∀ o,Q v (aI H1 p (.frz o (.lst xs)))
theorem Hv{e:K4}{t:TE}(h:PE X e t):PE X e (gh t):=fun pins s σ H Q I q=>
 br (h pins s σ H _ I q) fun u s' zz=>by
  obtain⟨v,H',I',r,q'⟩:=zz;rcases q' with q'|⟨p,xs,rfl,e,q'⟩
  ·exact⟨v,H',I',r,q'⟩
  ·obtain⟨o,I2⟩:=I'.freeze e;exact⟨.ref p,_,I2,r,q' o⟩
end
end L2
namespace L3
open PySem PySem.Spec PyProof.Rows L2
abbrev fK:=D->Gp->Prop
abbrev aL:=cL->Gp->fK->Prop
abbrev iJ:=cL->Gp->(Bool->Gp->Prop)->Prop
abbrev iF:=cL->Gp->(List D->Gp->Prop)->Prop
structure Ends3 where
 nx:cL->Gp->Prop
 rt:fK
 bk:cL->Gp->Prop:=fun _ _=>False
 ct:cL->Gp->Prop:=fun _ _=>False
abbrev bh:=Ends3->cL->Gp->Prop
def oB(K:Nq)(G:Gp)(H:Hp)(Q3:fK)(Q:VK):Prop:=∀ d G' v H',Q3 d G'->Kp G H G' H'->RG K H' G'->RE K G H G' H' d v->Q v H'
def au(K:Nq)(t:aL):TE:=fun τ H Q=>∃ σ G Q3,RS K H σ τ/\RG K H G/\t σ G Q3/\oB K G H Q3 Q
def bu(K:Nq)(t:iJ):TT:=fun τ H Q=>∃ σ G Q3,RS K H σ τ/\RG K H G/\t σ G Q3/\∀ b G' H',Q3 b G'->Kp G H G' H'->RG K H' G'->Q b H'
def cT(K:Nq)(t:iF):TA:=fun τ H Q=>∃ σ G Q3,RS K H σ τ/\RG K H G/\t σ G Q3/\∀ ds G' vs H',Q3 ds G'->Kp G H G' H'->RG K H' G'->RDs K H' ds vs->Q vs H'
structure EndsOk(K:Nq)(G:Gp)(H:Hp)(D3:Ends3)(D:Ends):Prop where
 nx:∀ σ G' τ H',D3.nx σ G'->Kp G H G' H'->RG K H' G'->RS K H' σ τ->D.nx τ H'
 rt:oB K G H D3.rt D.rt
 bk:∀ σ G' τ H',D3.bk σ G'->Kp G H G' H'->RG K H' G'->RS K H' σ τ->D.bk τ H'
 ct:∀ σ G' τ H',D3.ct σ G'->Kp G H G' H'->RG K H' G'->RS K H' σ τ->D.ct τ H'
def aZ(K:Nq)(t:bh):TS:=fun D τ H=>∃ σ G D3,RS K H σ τ/\RG K H G/\t D3 σ G/\EndsOk K G H D3 D
theorem oB.base{K:Nq}{G G1:Gp}{H H1:Hp}{Q3:fK}{Q:VK}(f:oB K G H Q3 Q)(k:Kp G H G1 H1):oB K G1 H1 Q3 Q:=
 fun d G' v H' q k' rg re=>f d G' v H' q (k.trans k') rg (re.base k)
theorem EndsOk.base{K:Nq}{G G1:Gp}{H H1:Hp}{D3:Ends3}{D:Ends}(f:EndsOk K G H D3 D)(k:Kp G H G1 H1):EndsOk K G1 H1 D3 D:=
 ⟨fun σ G' τ H' q k'=>f.nx σ G' τ H' q (k.trans k'),f.rt.base k,fun σ G' τ H' q k'=>f.bk σ G' τ H' q (k.trans k'),fun σ G' τ H' q k'=>f.ct σ G' τ H' q (k.trans k')⟩
def val:D->D
 | .fl ds=>.lst ds
 | d=>d
def p7(K:Nq)(t:aL):TE:=fun τ H Q=>∃ σ G Q3,RS K H σ τ/\RG K H G/\t σ G Q3/\∀ d G' v H',Q3 d G'->Kp G H G' H'->RG K H' G'->RD K H' (val d) v->Q v H'
section
variable{X:Cx}{e:K4}{t:aL}
theorem xw{K:Nq}{G G':Gp}{H H':Hp}{p:KE}{o:HO}(k:Kp G H G' H')(f:GG G H p):Kp G H G' (aI H' p o):=fun a h e n=>by
 have:a≠p:=fun z=>by subst z;exact f h e n
 exact⟨by rw[aj this];exact (k a h e n).1,(k a h e n).2⟩
theorem xv{K:Nq}{G':Gp}{H':Hp}{p:KE}{xs:List V}{o:Obj}(rg:RG K H' G')(e:H' p=some (.lst xs))(n:G' p=none):RG K (aI H' p (.frz o (.lst xs))) G'/\Stb K H' (aI H' p (.frz o (.lst xs))):=by
 have st:Stb K H' (aI H' p (.frz o (.lst xs))):=by
  constructor
  ·intro a ys q;rcases q with (q|⟨ob,q⟩)|q
   ·exact .inl (.inl (by rw[aj (fun z=>by subst z;rw[e]at q;cases q)];exact q))
   ·exact .inl (.inr ⟨ob,by rw[aj (fun z=>by subst z;rw[e]at q;cases q)];exact q⟩)
   ·exact .inr q
  ·intro a ys q;rcases q with ⟨ob,q⟩|q
   ·exact .inl ⟨ob,by rw[aj (fun z=>by subst z;rw[e]at q;cases q)];exact q⟩
   ·exact .inr q
 refine⟨fun a o' q=>?_,st⟩;obtain⟨h,e1,r⟩:=rg a o' q;exact⟨h,by rw[aj (fun z=>by subst z;rw[n]at q;cases q)];exact e1,r.mono st⟩
theorem cH(h:PE X e (au X.K t)):PE X e (p7 X.K t):=(Hv h).imp fun τ H Q zz=>by
 obtain⟨σ,G,Q3,rs,rg,ht,hk⟩:=zz;refine⟨σ,G,Q3,rs,rg,ht,fun d G' v H' q k rg' re=>?_⟩;cases d with
 | fl ds=>
  obtain⟨p,xs,rfl,e1,e2,e3,e4⟩:=re.fl;refine .inr ⟨p,xs,rfl,e1,fun o=>?_⟩;obtain⟨rg2,st⟩:=xv (o:=o) rg' e1 e2;exact hk _ G' _ _ q (xw (K:=X.K) k e4) rg2 (mB (.inl ⟨o,ay⟩) (RDs.mono st _ _ e3))
 | _=>exact .inl (hk _ G' v H' q k rg' (re.rd (by intro ds z;cases z)))
end
def dG:bh:=fun D σ G=>D.nx σ G
def sSeq(t u:bh):bh:=fun D σ G=>t { D with nx:=u D } σ G
section
variable{X:Cx}{st:Lf}{bP:List Lf}{t u:bh}{e:K4}{te:aL}{pos:Pos}
theorem cz:fh X [] (aZ X.K dG):=DG.imp fun D τ H zz=>by
 obtain⟨σ,G,D3,rs,rg,h,k⟩:=zz;exact (
  k.nx σ G τ H h Kp.refl rg rs)
theorem ak(h1:PS X st (aZ X.K t))(h2:fh X bP (aZ X.K u)):fh X (st::bP) (aZ X.K (sSeq t u)):=(pL h1 h2).imp fun D τ H zz=>by
 obtain⟨σ,G,D3,rs,rg,h,k⟩:=zz;exact (
   ⟨σ,G,{ D3 with nx:=u D3 },rs,rg,h,⟨fun σ' G' τ' H' q k' rg' rs'=>⟨σ',G',D3,rs',rg',q,k.base k'⟩,k.rt,k.bk,k.ct⟩⟩)
theorem aG(h1:PS X st (aZ X.K t)):fh X [st] (aZ X.K t):=oJ h1
def iT(te:aL):bh:=fun D σ G=>te σ G fun _ G'=>D.nx σ G'
theorem mD(he:PE X e (au X.K te))(hs:Mb e none pos.line X.env=pure false:=by rfl):PS X (.Expr e pos) (aZ X.K (iT te)):=(x3 he hs).imp fun D τ H zz=>by
 obtain⟨σ,G,D3,rs,rg,h,k⟩:=zz;exact (
   ⟨σ,G,fun _ G'=>D3.nx σ G',rs,rg,h,fun d G' v H' q k' rg' _=>k.nx σ G' τ H' q k' rg' (rs.mono (k'.stb rg))⟩)
def bb(te:aL):bh:=fun D σ G=>te σ G D.rt
theorem aW(he:PE X e (au X.K te)):PS X (.Return (some e) pos) (aZ X.K (bb te)):=(wT he).imp fun D τ H zz=>by
 obtain⟨σ,G,D3,rs,rg,h,k⟩:=zz;exact (
  ⟨σ,G,D3.rt,rs,rg,h,k.rt⟩)
def He:bh:=fun D _ G=>D.rt .non G
def Fy:bh:=fun D σ G=>D.bk σ G
def Hg:bh:=fun D σ G=>D.ct σ G
def iR(c:iJ)(t u:bh):bh:=fun D σ G=>c σ G fun b G'=>if b=true then t D σ G' else u D σ G'
theorem jG{c:K4}{a b:List Lf}{tc:iJ}(hc:PT X c (bu X.K tc))(ha:fh X a (aZ X.K t))(hb:fh X b (aZ X.K u)):PS X (.If c a b pos) (aZ X.K (iR tc t u)):=
 (BC hc ha hb).imp fun D τ H zz=>by
 obtain⟨σ,G,D3,rs,rg,h,k⟩:=zz;exact (
  ⟨σ,G,_,rs,rg,h,fun b G' H' q k' rg'=>by
    cases b with
    | true=>exact⟨σ,G',D3,rs.mono (k'.stb rg),rg',q,k.base k'⟩
    | false=>exact⟨σ,G',D3,rs.mono (k'.stb rg),rg',q,k.base k'⟩⟩)
def cO:bh:=fun _ _ _=>False
theorem oH:PS X st (aZ X.K cO):=BB.imp fun D τ H zz=>by
 obtain⟨σ,G,D3,rs,rg,h,k⟩:=zz;exact (
  h)
theorem cP:fh X bP (aZ X.K cO):=zQ.imp fun D τ H zz=>by
 obtain⟨σ,G,D3,rs,rg,h,k⟩:=zz;exact (
  h)
def bj(i:Nat)(te:aL):bh:=fun D σ G=>te σ G fun d G'=>D.nx (σ.set i (some (val d))) G'
theorem aU{i:Nat}{x:Str}{pos':Pos}(hN:X.N.Nodup)(hi:X.N[i]?=some x)(hx:GF X.env.scope x)(he:PE X e (au X.K te))(hs:Mb e (some (.Name x pos')) pos.line X.env=pure false:=by rfl)
  (hf:X.fn x=true\/X.env.scope.names.lookup x=some .local:=by first|exact .inl rfl|exact .inr rfl|assumption):PS X (.Assign [.Name x pos'] e pos) (aZ X.K (bj i te)):=
 (Bz hN hi hx (cH he) hs hf).imp fun D τ H zz=>by
 obtain⟨σ,G,D3,rs,rg,h,k⟩:=zz;exact (
  ⟨σ,G,_,rs,rg,h,fun d G' v H' q k' rg' rd=>k.nx _ G' _ H' q k' rg' ((rs.mono (k'.stb rg)).set rd i)⟩)
def Fx(i:Nat)(te:aL):bh:=fun D σ G=>te σ G fun d G'=>∃ ds,d=.fl ds/\∀ p,G' p=none->D.nx (σ.set i (some (.ref p))) (gset G' p (.lst ds))
theorem BX{K:Nq}{G:Gp}{H:Hp}{p:KE}{xs:List V}{ds:List D}(rg:RG K H G)(e:H p=some (.lst xs))(r:RDs K H ds xs):RG K H (gset G p (.lst ds)):=fun a o q=>by
 by_cases ha:a=p
 ·subst ha;rw[ai]at q;cases q;exact⟨_,e,r⟩
 ·rw[af ha]at q;exact rg a o q
theorem BY{G G':Gp}{H H':Hp}{p:KE}{o:GO}(k:Kp G H G' H')(f:GG G H p):Kp G H (gset G' p o) H':=fun a h e n=>by
 have:a≠p:=fun z=>by subst z;exact f h e n
 exact⟨(k a h e n).1,by rw[af this];exact (k a h e n).2⟩
theorem Hn{i:Nat}{x:Str}{pos':Pos}(hN:X.N.Nodup)(hi:X.N[i]?=some x)(hx:GF X.env.scope x)(he:PE X e (au X.K te))(hs:Mb e (some (.Name x pos')) pos.line X.env=pure false:=by rfl)
  (hf:X.fn x=true\/X.env.scope.names.lookup x=some .local:=by first|exact .inl rfl|exact .inr rfl|assumption):PS X (.Assign [.Name x pos'] e pos) (aZ X.K (Fx i te)):=
 (Bz hN hi hx he hs hf).imp fun D τ H zz=>by
 obtain⟨σ,G,D3,rs,rg,h,k⟩:=zz;exact (
  ⟨σ,G,_,rs,rg,h,fun d G' v H' q k' rg' re=>by
    obtain⟨ds,rfl,q⟩:=q;obtain⟨p,xs,rfl,e1,e2,e3,e4⟩:=re.fl;exact k.nx _ _ _ H' (q p e2) (BY k' e4) (BX rg' e1 e3) ((rs.mono (k'.stb rg)).set d8 i)⟩)
def jq(i:Nat):bh:=fun D σ G=>match σ[i]? with
 | some (some (.ref p))=>match G p with
  | some (.lst ds)=>D.rt (.fl ds) (d_ G p)
  | _=>False
 | _=>False
theorem Br{i:Nat}{x:Str}{pos':Pos}(hN:X.N[i]?=some x)(hv:E_ X.env.scope x)(hd:(x == ("__debug__":Str))=false:=by decide)(hcd:(x == ("__classdict__":Str))=false:=by decide):
  PS X (.Return (some (.Name x pos')) pos) (aZ X.K (jq i)):=(wT (mF hN hv hd hcd)).imp fun D τ H zz=>by
 obtain⟨σ,G,D3,rs,rg,h,k⟩:=zz;unfold jq at h;split at h
 ·rename_i p hp;split at h
  ·rename_i ds hg;obtain⟨v,e1,r⟩:=rs.get hp;simp only[RD]at r;subst r;obtain⟨ho,e2,ro⟩:=rg p _ hg;refine⟨_,e1,?_⟩;cases ho with
   | lst xs=>
    have rg2:RG X.K H (d_ G p):=fun a o q=>by
     by_cases ha:a=p
     ·subst ha;rw[c7]at q;cases q
     ·rw[c8 ha]at q;exact rg a o q
    refine k.rt _ _ _ H h (fun a ha e n=>⟨e,?_⟩) rg2 (.inl ⟨ds,p,xs,rfl,rfl,e2,c7,ro,fun h' _=>by rw[hg];exact fun z=>nomatch z⟩)
    by_cases hap:a=p
    ·subst hap;exact c7
    ·rw[c8 hap];exact n
   | _=>exact ro.elim
  ·exact h.elim
 ·exact h.elim
end
def ag(i:Nat):aL:=fun σ G Q=>match σ[i]? with
 | some (some d)=>Q d G
 | _=>False
def eC(d:D):aL:=fun _ G Q=>Q d G
section
variable{X:Cx}{pos:Pos}{j:Nat}
theorem Hz{i:Nat}{x:Str}(hN:X.N[i]?=some x)(hv:E_ X.env.scope x)(hd:(x == ("__debug__":Str))=false:=by decide)(hcd:(x == ("__classdict__":Str))=false:=by decide):PE X (.Name x pos) (au X.K (ag i)):=
 (mF hN hv hd hcd).imp fun τ H Q zz=>by
  obtain⟨σ,G,Q3,rs,rg,h,k⟩:=zz;unfold ag at h;split at h
  ·rename_i d hp;obtain⟨v,e1,r⟩:=rs.get hp;exact⟨v,e1,k d G v H h Kp.refl rg (.of r)⟩
  ·exact h.elim
theorem ao(i:Nat){x:Str}(hN:X.N[i]?=some x:=by rfl)(hv:E_ X.env.scope x:=by first|exact Or.inl rfl|exact Or.inr (Or.inl rfl)|exact Or.inr (Or.inr rfl))(hd:(x == ("__debug__":Str))=false:=by decide)
  (hcd:(x == ("__classdict__":Str))=false:=by decide):PE X (.Name x pos) (au X.K (ag i)):=Hz hN hv hd hcd
theorem GL{e:K4}{d:D}{v:V}(h:PE X e (tC v))(r:∀ H,RD X.K H d v):PE X e (au X.K (eC d)):=h.imp fun τ H Q zz=>by
 obtain⟨σ,G,Q3,rs,rg,hq,k⟩:=zz;exact (
  k d G v H hq Kp.refl rg (.of (r H)))
theorem aA{i:Int}:PE X (.Constant (.int i) j pos) (au X.K (eC (.int i))):=GL w6 fun _=>bQ
theorem BW{b:Bool}:PE X (.Constant (.bool b) j pos) (au X.K (eC (.bl b))):=GL Hx fun _=>fu
theorem BS:PE X (.Constant .none j pos) (au X.K (eC .non)):=GL FM fun _=>pG
theorem bv{x:Str}:PE X (.Constant (.str x) j pos) (au X.K (eC (.str x))):=GL tH fun _=>h8
end
abbrev R3:=D->D->Gp->fK->Prop
def cv(K:Nq)(r3:R3):R2:=fun v u H Q=>∃ x y G0 H0 G Q3,RE K G0 H0 G H x v/\RE K G0 H0 G H y u/\RG K H G/\r3 x y G Q3/\oB K G H Q3 Q
def cV(r:R3)(ta tb:aL):aL:=fun σ G Q=>ta σ G fun x G1=>tb σ G1 fun y G2=>r x y G2 Q
section
variable{X:Cx}{a b c:K4}{ta tb tc:aL}{pos:Pos}{r r':R3}
theorem two{K:Nq}{r2:R2}{Q:VK}{τ:St}{H:Hp}(hr:r2=cv K r)(h:au K (cV r ta tb) τ H Q):GK r2 (au K ta) (au K tb) τ H Q:=by
 subst hr;obtain⟨σ,G,Q3,rs,rg,h,k⟩:=h;refine⟨σ,G,fun x G1=>tb σ G1 fun y G2=>r x y G2 Q3,rs,rg,h,fun x G1 v H1 h1 k1 rg1 re1=>⟨σ,G1,fun y G2=>r x y G2 Q3,rs.mono (k1.stb rg),rg1,h1,fun y G2 u H2 h2 k2 rg2 re2=>?_⟩⟩;exact⟨x,y,G,H,G2,Q3,re1.wait k2 rg1,re2.base k1,rg2,h2,k.base (k1.trans k2)⟩
theorem bK{op:Operator}(ho:fe X (Mh op) (cv X.K r))(ha:PE X a (au X.K ta))(hb:PE X b (au X.K tb)):PE X (.BinOp a op b pos) (au X.K (cV r ta tb)):=
 (Ht ho ha hb).imp fun _ _ _ h=>two rfl h
def cK(t:aL):iJ:=fun σ G Q=>t σ G fun d G'=>match d with
 | .bl b=>Q b G'
 | _=>False
theorem sE{K:Nq}{t:aL}{τ:St}{H:Hp}{Q:Bool->Hp->Prop}(h:bu K (cK t) τ H Q):A3 (au K t) τ H Q:=by
 obtain⟨σ,G,Q3,rs,rg,h,k⟩:=h;refine⟨σ,G,_,rs,rg,h,fun d G' v H' q k' rg' re=>?_⟩;cases d with
 | bl b=>exact⟨b,re.bl,k b G' H' q k' rg'⟩
 | _=>exact q.elim
theorem w_{op:N3}(ho:fe X (Ll op) (cv X.K r))(ha:PE X a (au X.K ta))(hb:PE X b (au X.K tb))(hm:LO op b=false):PT X (.Compare a [op] [b] pos) (bu X.K (cK (cV r ta tb))):=
 (xZ ho ha hb hm).imp fun _ _ _ h=>two rfl (sE h)
def kL(r r':R3)(ta tb tc:aL):aL:=fun σ G Q=>ta σ G fun x G1=>tb σ G1 fun y G2=>r x y G2 fun z G3=>match z with
 | .bl k=>if k=true then tc σ G3 fun w G4=>r' y w G4 Q else Q (.bl false) G3
 | _=>False
theorem Ig{K:Nq}{Q:VK}{τ:St}{H:Hp}(h:au K (kL r r' ta tb tc) τ H Q):A5 (cv K r) (cv K r') (au K ta) (au K tb) (au K tc) τ H Q:=by
 obtain⟨σ,G,Q3,rs,rg,h,k⟩:=h;refine⟨σ,G,_,rs,rg,h,fun x G1 v H1 h1 k1 rg1 re1=>⟨σ,G1,_,rs.mono (k1.stb rg),rg1,h1,fun y G2 u H2 h2 k2 rg2 re2=>?_⟩⟩;refine⟨x,y,G,H,G2,_,re1.wait k2 rg1,re2.base k1,rg2,h2,fun z G3 w H3 h3 k3 rg3 re3=>?_⟩;have k13:=k1.trans (k2.trans k3);cases z with
 | bl kk=>
  refine⟨kk,re3.bl,?_⟩;cases kk with
  | true=>
   refine iteT ?_;refine⟨σ,G3,_,rs.mono (k13.stb rg),rg3,h3,fun w' G4 w4 H4 h4 k4 rg4 re4=>?_⟩;exact⟨y,w',G,H,G4,Q3,(re2.base k1).wait (k3.trans k4) rg2,re4.base k13,rg4,h4,k.base (k13.trans k4)⟩
  | false=>exact iteF (k _ G3 _ H3 h3 k13 rg3 (.of fu))
 | _=>exact h3.elim
theorem lH{op op':N3}(ho:fe X (Ll op) (cv X.K r))(ho':fe X (Ll op') (cv X.K r'))(ha:PE X a (au X.K ta))(hb:PE X b (au X.K tb))(hc:PE X c (au X.K tc))
  (hm:lastMarks [op,op'] [b,c]=false:=by with_unfolding_all rfl):PT X (.Compare a [op,op'] [b,c] pos) (bu X.K (cK (kL r r' ta tb tc))):=
 (Bx ho ho' ha hb hc hm).imp fun τ H Q h=>by
  obtain⟨σ,G,Q3,rs,rg,h,k⟩:=h;refine Ig (Q:=fun x H'=>∃ k,x=.bl k/\Q k H') ⟨σ,G,_,rs,rg,h,fun d G' v H' q k' rg' re=>?_⟩;cases d with
  | bl b=>exact⟨b,re.bl,k b G' H' q k' rg'⟩
  | _=>exact q.elim
def kS(t u:iJ):iJ:=fun σ G Q=>t σ G fun c G1=>if c=true then u σ G1 Q else Q false G1
def mh(t u:iJ):iJ:=fun σ G Q=>t σ G fun c G1=>if c=true then Q true G1 else u σ G1 Q
def dX(t:iJ):iJ:=fun σ G Q=>t σ G fun c G1=>Q (!c) G1
variable{tA tB:iJ}{es:List K4}
theorem sD(ha:PT X a (bu X.K tA)):PW X (.BoolOp .And [a] pos) (bu X.K tA):=DD ha
theorem uU(ha:PT X a (bu X.K tA)):PW X (.BoolOp .Or [a] pos) (bu X.K tA):=FD ha
theorem xP(ha:PT X a (bu X.K tA))(hb:PW X (.BoolOp .And (b::es) pos) (bu X.K tB)):PW X (.BoolOp .And (a::b::es) pos) (bu X.K (kS tA tB)):=(FE ha hb).imp fun τ H Q zz=>by
 obtain⟨σ,G,Q3,rs,rg,h,k⟩:=zz;exact (
   ⟨σ,G,_,rs,rg,h,fun c G1 H1 q k1 rg1=>by
    cases c with
    | true=>exact iteT ⟨σ,G1,Q3,rs.mono (k1.stb rg),rg1,q,fun b' G' H' q' k' rg'=>k b' G' H' q' (k1.trans k') rg'⟩
    | false=>exact iteF (k false G1 H1 q k1 rg1)⟩)
theorem wB(ha:PT X a (bu X.K tA))(hb:PW X (.BoolOp .Or (b::es) pos) (bu X.K tB)):PW X (.BoolOp .Or (a::b::es) pos) (bu X.K (mh tA tB)):=(Ho ha hb).imp fun τ H Q zz=>by
 obtain⟨σ,G,Q3,rs,rg,h,k⟩:=zz;exact (
   ⟨σ,G,_,rs,rg,h,fun c G1 H1 q k1 rg1=>by
    cases c with
    | false=>exact iteF ⟨σ,G1,Q3,rs.mono (k1.stb rg),rg1,q,fun b' G' H' q' k' rg'=>k b' G' H' q' (k1.trans k') rg'⟩
    | true=>exact iteT (k true G1 H1 q k1 rg1)⟩)
theorem eR(ha:PT X a (bu X.K tA)):PT X (.UnaryOp .Not a pos) (bu X.K (dX tA)):=(FF ha).imp fun τ H Q zz=>by
 obtain⟨σ,G,Q3,rs,rg,h,k⟩:=zz;exact (
  ⟨σ,G,_,rs,rg,h,fun c G1 H1 q k1 rg1=>k (!c) G1 H1 q k1 rg1⟩)
def Cy(ta tb:aL):aL:=fun σ G Q=>ta σ G fun x G1=>match x with
 | .bl c=>if c=true then tb σ G1 Q else Q (.bl false) G1
 | _=>False
def Kq(ta tb:aL):aL:=fun σ G Q=>ta σ G fun x G1=>match x with
 | .bl c=>if c=true then Q (.bl true) G1 else tb σ G1 Q
 | _=>False
theorem HB{op}(h:PE X a (au X.K ta)):PE X (.BoolOp op [a] pos) (au X.K ta):=FL h
theorem HC(ha:PE X a (au X.K ta))(hb:PE X (.BoolOp .And (b::es) pos) (au X.K tb)):PE X (.BoolOp .And (a::b::es) pos) (au X.K (Cy ta tb)):=(FO ha hb).imp fun τ H Q zz=>by
 obtain⟨σ,G,Q3,rs,rg,h,k⟩:=zz;exact (
   ⟨σ,G,_,rs,rg,h,fun x G1 v H1 q k1 rg1 re=>by
    cases x with
    | bl c=>
     refine⟨c,re.bl,?_⟩;cases c with
     | true=>exact iteT ⟨σ,G1,Q3,rs.mono (k1.stb rg),rg1,q,k.base k1⟩
     | false=>exact iteF (k _ G1 _ H1 q k1 rg1 (.of fu))
    | _=>exact q.elim⟩)
def HX(ta:aL):aL:=fun σ G Q=>ta σ G fun x G1=>match x with
 | .bl c=>Q (.bl (!c)) G1
 | _=>False
def Kr(c:iJ)(ta tb:aL):aL:=fun σ G Q=>c σ G fun b G1=>if b=true then ta σ G1 Q else tb σ G1 Q
def Fm(G:Gp):D->Option Bool
 | .non=>some false
 | .bl b=>some b
 | .int i=>some (i != 0)
 | .str y=>some ((y.length:Int) != 0)
 | d=>(C9 G d).map fun ds=>!ds.isEmpty
def gu(t:aL):iJ:=fun σ G Q=>t σ G fun d G'=>match Fm G' d with
 | some b=>(match d with|.str y=>y.length<=KM|_=>True)/\Q b G'
 | none=>False
theorem bB(ha:PE X a (au X.K ta))(he:∀ whole,Pk a X.env whole=(do let v <- whole;Nu a.pos;holding [v] (truthy v)):=by intro _;rfl):PT X a (bu X.K (gu ta)):=
 (Bv ha he).imp fun τ H Q zz=>by
 obtain⟨σ,G,Q3,rs,rg,h,k⟩:=zz;exact (
  ⟨σ,G,_,rs,rg,h,fun d G' v H' q k' rg' re=>by
    cases d with
    | non=>rw[re.non];exact⟨false,rfl,k _ G' H' q.2 k' rg'⟩
    | bl b=>rw[re.bl];exact⟨b,rfl,k _ G' H' q.2 k' rg'⟩
    | int i=>rw[re.int];exact⟨_,rfl,k _ G' H' q.2 k' rg'⟩
    | str y=>rw[re.str];exact⟨_,⟨q.1,rfl⟩,k _ G' H' q.2 k' rg'⟩
    | ty n=>exact q.elim
    | _=>
     split at q
     ·rename_i b hb;simp only[Fm,Option.map_eq_some_iff]at hb;obtain⟨ds,hq,rfl⟩:=hb;obtain⟨a,xs,rfl,s,r⟩:=qK hq re rg';have el:(!ds.isEmpty)=!xs.isEmpty:=by
       have:=r.length;cases ds<;>cases xs<;>simp_all
      refine⟨!xs.isEmpty,?_,k _ G' H' (by rw[<- el];exact q.2) k' rg'⟩
      rcases s with s|s
      ·exact .inl ⟨xs,s,rfl⟩
      ·exact .inr (.inl ⟨xs,s,rfl⟩)
     ·exact q.elim⟩)
end
end L3
namespace L2
open PySem PySem.Spec PyProof.Rows
section
variable{X:Cx}
def Hm(K:Nq):R2:=fun x y H Q=>∃ l b xs zs,x=.ref l/\y=.ref b/\fV K H l xs/\fV K H b zs/\xs.length+zs.length<=KM/\∀ p,H p=none->Q (.ref p) (aI H p (.lst (xs ++ zs)))
theorem D6:fe X (Mh .Add) (Hm X.K):=by
 intro pins s σ H x y v u Q I rx ry h;obtain⟨l,b,xs,zs,rfl,rfl,hH,hB,hz,q⟩:=h;cases rx;cases ry;obtain⟨its,r,pl,z⟩:=I.list hH;obtain⟨its2,r2,pl2,z2⟩:=I.list hB;obtain⟨⟨cls,dd,data,sl⟩,ho,hc,n,hd⟩:=pl.isList;obtain⟨⟨cls2,dd2,data2,sl2⟩,ho2,hc2,n2,hd2⟩:=pl2.isList;simp only at hc hd hc2 hd2;subst hc hd hc2 hd2;have hl:=r.length;have hl2:=r2.length;have e:its.toArray ++ its2.toArray=(its ++ its2).toArray:=by simp
 refine Pm ⟨_,ho,rfl⟩ ⟨_,ho2,rfl⟩ noFill_list_add seq_list_add PySem.F.slot_list_add PySem.F.entry_list_add (PySem.F.args_list_add_2 _ _) (list_addW l b its.toArray its2.toArray n n2 dd dd2 sl sl2 (by simp only[KS];omega)) ⟨ho,ho2,?_⟩
 rw[e];exact⟨.ref _,_,I.lnew (t':=s.toks) (r.append r2) (by rw[Lc];omega),rfl,q _ I.fresh⟩
end
end L2
namespace L3
open PySem PySem.Spec PyProof.Rows L2
section
variable{X:Cx}
def dM:R3:=fun x y G Q=>match x,y with
 | .int i,.int j=>Q (.int (i+j)) G
 | .str i,.str j=>i.length+j.length<=KM/\Q (.str (i ++ j)) G
 | .tup xs,.tup ys=>xs≠[]/\xs.length+ys.length<=KM/\Q (.tup (xs ++ ys)) G
 | x,y=>match sB G x,sB G y with
  | some xs,some ys=>xs.length+ys.length<=KM/\Q (.fl (xs ++ ys)) G
  | _,_=>False
theorem cb:fe X (Mh .Add) (cv X.K dM):=by
 refine ((FV (X:=X)).or ((xb (X:=X)).or ((D5 (X:=X)).or (D6 (X:=X))))).imp fun v u H Q zz=>?_;obtain⟨x,y,G0,H0,G,Q3,rx,ry,rg,h,k⟩:=zz;unfold dM at h;split at h
 ·rename_i i j;exact .inl ⟨i,j,rx.int,ry.int,k _ G _ H h Kp.refl rg (.of bQ)⟩
 ·rename_i i j;exact .inr (.inl ⟨i,j,rx.str,ry.str,h.1,k _ G _ H h.2 Kp.refl rg (.of h8)⟩)
 ·rename_i ds es;obtain⟨a,xs,rfl,s1,r1⟩:=rx.tup;obtain⟨b,ys,rfl,s2,r2⟩:=ry.tup;have l1:=r1.length;have l2:=r2.length;refine .inr (.inr (.inl ⟨a,b,xs,ys,rfl,rfl,s1,s2,fun z=>h.1 ?_,by have:=h.2.1;omega,fun z=>?_,fun _ p hp=>?_⟩))
  ·subst z;exact List.length_eq_zero_iff.mp l1
  ·subst z;have:es=[]:=List.length_eq_zero_iff.mp l2;subst this;have hh:=h.2.2;rw[M5]at hh;exact k _ G _ H hh Kp.refl rg (.of (mz s1 r1))
  ·exact k _ G _ _ h.2.2 (Kp.laid hp) (rg.laid hp) (.of (gX rg hp (r1.append r2)))
 ·split at h
  ·rename_i ds es hx hy;obtain⟨a,xs,rfl,s1,r1⟩:=m5 hx rx rg;obtain⟨b,ys,rfl,s2,r2⟩:=m5 hy ry rg;have l1:=r1.length;have l2:=r2.length;exact .inr (.inr (.inr ⟨a,b,xs,ys,rfl,rfl,s1,s2,by have:=h.1;omega,fun p hp=>k _ G _ _ h.2 (Kp.laid hp) (rg.laid hp) (qx rg hp (r1.append r2))⟩))
  ·exact h.elim
def oI(C:Int->Int->Prop)(g:Int->Int->D):R3:=fun x y G Q=>match x,y with
 | .int i,.int j=>C i j/\Q (g i j) G
 | _,_=>False
def EZ(g:Int->Int->D):R3:=fun x y G Q=>match x,y with
 | .int i,.int j=>Q (g i j) G
 | _,_=>False
theorem IZ{f:KC->KC->Sem KC}{C:Int->Int->Prop}{g:Int->Int->V}{g3:Int->Int->D}(h:fe X f (rI C g))(r:∀ i j H,RD X.K H (g3 i j) (g i j)):fe X f (cv X.K (oI C g3)):=
 h.imp fun v u H Q zz=>by
  obtain⟨x,y,G0,H0,G,Q3,rx,ry,rg,h,k⟩:=zz;unfold oI at h;split at h
  ·rename_i i j;exact⟨i,j,rx.int,ry.int,h.1,k _ G _ H h.2 Kp.refl rg (.of (r i j H))⟩
  ·exact h.elim
theorem Fh{f:KC->KC->Sem KC}{g:Int->Int->V}{g3:Int->Int->D}(h:fe X f (FA g))(r:∀ i j H,RD X.K H (g3 i j) (g i j)):fe X f (cv X.K (EZ g3)):=
 h.imp fun v u H Q zz=>by
  obtain⟨x,y,G0,H0,G,Q3,rx,ry,rg,h,k⟩:=zz;unfold EZ at h;split at h
  ·rename_i i j;exact⟨i,j,rx.int,ry.int,k _ G _ H h Kp.refl rg (.of (r i j H))⟩
  ·exact h.elim
def Jw:R3:=EZ fun i j=>.int (i - j)
def jI:R3:=oI (fun _ j=>0 < j) fun i j=>.int (i % j)
theorem fL:fe X (Mh .Mod) (cv X.K jI):=IZ FU fun _ _ _=>bQ
def B1:R3:=oI IM fun i j=>.int (i / j)
theorem AW:fe X (Mh .FloorDiv) (cv X.K B1):=IZ D4 fun _ _ _=>bQ
def FX:R3:=oI GJ fun i j=>.int (i ^ j.toNat)
theorem GQ:fe X (Mh .Pow) (cv X.K FX):=IZ FS fun _ _ _=>bQ
def F0:R3:=EZ fun i j=>.bl (decide (i < j))
theorem AV:fe X (Ll .Lt) (cv X.K F0):=Fh HD fun _ _ _=>fu
def GN:R3:=EZ fun i j=>.bl (decide (i<=j))
theorem Dh:fe X (Ll .LtE) (cv X.K GN):=Fh HE fun _ _ _=>fu
def IR:R3:=EZ fun i j=>.bl (decide (j < i))
theorem IY:fe X (Ll .Gt) (cv X.K IR):=Fh HF fun _ _ _=>fu
def Kk:R3:=EZ fun i j=>.bl (decide (j<=i))
def av:iF:=fun _ G Q=>Q [] G
def ae(ta:aL)(tr:iF):iF:=fun σ G Q=>ta σ G fun x G1=>tr σ G1 fun xs G2=>Q (val x::xs) G2
variable{e:K4}{es:List K4}{te:aL}{t:iF}{pos:Pos}
theorem am:PA X [] (cT X.K av):=BQ.imp fun τ H Q zz=>by
 obtain⟨σ,G,Q3,rs,rg,h,k⟩:=zz;exact (
  k [] G [] H h Kp.refl rg RDs.nil)
theorem aa(ha:PE X e (au X.K te))(hr:PA X es (cT X.K t))(hs:KO (e::es) X.env=(false,eval e X.env)::KO es X.env:=by rfl):PA X (e::es) (cT X.K (ae te t)):=
 (tI (cH ha) hr hs).imp fun τ H Q zz=>by
 obtain⟨σ,G,Q3,rs,rg,h,k⟩:=zz;exact (
  ⟨σ,G,_,rs,rg,h,fun x G1 v H1 q k1 rg1 rd=>⟨σ,G1,_,rs.mono (k1.stb rg),rg1,q,fun ds G2 vs H2 q2 k2 rg2 rds=>
    k _ G2 _ H2 q2 (k1.trans k2) rg2 (RDs.cons (RD.mono (k2.stb rg1) _ _ rd) rds)⟩⟩)
def eg(t:iF):aL:=fun σ G Q=>t σ G fun ds G1=>ds.length<=KM/\Q (.tup ds) G1
def v8(t:iF):aL:=fun σ G Q=>t σ G fun ds G1=>ds.length<=KM/\Q (.fl ds) G1
theorem dD{x1}(h:PA X es (cT X.K t)):PE X (.Tuple es x1 pos) (au X.K (eg t)):=(BK h).imp fun τ H Q zz=>by
 obtain⟨σ,G,Q3,rs,rg,h,k⟩:=zz;exact (
  ⟨σ,G,_,rs,rg,h,fun ds G1 vs H1 q k1 rg1 rds=>
   ⟨by rw[<- rds.length];exact q.1,fun p hp=>k _ G1 _ _ q.2 (k1.trans (Kp.laid hp)) (rg1.laid hp) (.of (gX rg1 hp rds))⟩⟩)
theorem pQ(h:PA X es (cT X.K t)):PE X (.List es pos) (au X.K (v8 t)):=(FN h).imp fun τ H Q zz=>by
 obtain⟨σ,G,Q3,rs,rg,h,k⟩:=zz;exact (
  ⟨σ,G,_,rs,rg,h,fun ds G1 vs H1 q k1 rg1 rds=>
   ⟨by rw[<- rds.length];exact q.1,fun p hp=>k _ G1 _ _ q.2 (k1.trans (Kp.laid hp)) (rg1.laid hp) ((qx rg1 hp rds).base k1)⟩⟩)
def EV(x:Str)(i:Int):Option D:=(l6 x.cps.toList i).map fun c=>.str ⟨#[c]⟩
def wt:R3:=fun x y G Q=>match x,y with
 | .str z,.int i=>z.length<=KM/\match EV z i with
  | some d=>Q d G
  | none=>False
 | x,.int i=>match C9 G x with
  | some ds=>match l6 ds i with
   | some d=>Q d G
   | none=>False
  | none=>False
 | _,_=>False
theorem EB{K:Nq}{H:Hp}{ds:List D}{xs:List V}{i:Int}{d:D}(r:RDs K H ds xs)(h:l6 ds i=some d):∃ v,l6 xs i=some v/\RD K H d v:=by
 unfold l6 at h ⊢;rw[<- r.length];cases e:E6 ds.length i with
 | none=>rw[e]at h;cases h
 | some j=>
  rw[e]at h;exact r.get h
theorem IX:AJ X (cv X.K wt):=(Gd (X:=X)).imp fun v u H Q zz=>by
 obtain⟨x,y,G0,H0,G,Q3,rx,ry,rg,h,k⟩:=zz;unfold wt at h;split at h
 ·rename_i z i;obtain⟨h1,h2⟩:=h;split at h2
  ·rename_i d hd;unfold EV at hd;rw[Option.map_eq_some_iff]at hd;obtain⟨c,hc,rfl⟩:=hd;exact .inr (.inr ⟨z,i,c,rx.str,ry.int,h1,hc,k _ G _ H h2 Kp.refl rg (.of h8)⟩)
  ·exact h2.elim
 ·rename_i i _;split at h
  ·rename_i ds hds;split at h
   ·rename_i d hd;obtain⟨a,xs,rfl,s,r⟩:=qK hds rx rg;obtain⟨w,hw,rd⟩:=EB r hd;have fin:=k _ G _ H h Kp.refl rg (.of rd);rcases s with s|s
    ·exact .inl ⟨a,xs,i,w,rfl,ry.int,s,hw,fin⟩
    ·exact .inr (.inl ⟨a,xs,i,w,rfl,ry.int,s,hw,fin⟩)
   ·exact h.elim
  ·exact h.elim
 ·exact h.elim
variable{a b:K4}{ta tb:aL}
theorem vp(ha:PE X a (au X.K ta))(hb:PE X b (au X.K tb))(hs:zm b:=by exact fun _ _=>rfl):PE X (.Subscript a b pos) (au X.K (cV wt ta tb)):=(Hu IX ha hb hs).imp fun _ _ _ h=>two rfl h
abbrev GC:=cL->Gp->(Option Int->Gp->Prop)->Prop
def yN(K:Nq)(t:GC):TO:=fun τ H Q=>∃ σ G Q3,RS K H σ τ/\RG K H G/\t σ G Q3/\∀ o G' H',Q3 o G'->Kp G H G' H'->RG K H' G'->Q o H'
theorem PO.imp{e:Option K4}{t t':TO}(h:PO X e t)(i:∀ σ H Q,t' σ H Q->t σ H Q):PO X e t':=fun pins s σ H Q I q=>h pins s σ H Q I (i σ H Q q)
def GM:GC:=fun _ G Q=>Q none G
def ix(t:aL):GC:=fun σ G Q=>t σ G fun x G1=>match x with
 | .int i=>Q (some i) G1
 | _=>False
theorem tO:PO X none (yN X.K GM):=PO.imp DL fun τ H Q zz=>by
 obtain⟨σ,G,Q3,rs,rg,h,k⟩:=zz;exact (
  k none G H h Kp.refl rg)
theorem i5(h:PE X e (au X.K te)):PO X (some e) (yN X.K (ix te)):=PO.imp (DK h) fun τ H Q ⟨σ,G,Q3,rs,rg,h,k⟩=>⟨σ,G,_,rs,rg,h,fun d G1 v H1 q k1 rg1 re=>by
 cases d with
 | int i=>exact⟨i,re.int,k _ G1 H1 q k1 rg1⟩
 | _=>exact q.elim⟩
abbrev ID:=D->Option Int->Option Int->Gp->fK->Prop
def B_(K:Nq)(r:ID):V->Option Int->Option Int->Hp->VK->Prop:=fun v lo hi H Q=>∃ x G0 H0 G Q3,RE K G0 H0 G H x v/\RG K H G/\r x lo hi G Q3/\oB K G H Q3 Q
def C7(r:ID)(te:aL)(tl th:GC):aL:=fun σ G Q=>te σ G fun x G1=>tl σ G1 fun l G2=>th σ G2 fun u G3=>r x l u G3 Q
theorem js{r:ID}{lo hi:Option K4}{tl th:GC}{p2:Pos}(hr:AH X (B_ X.K r))(he:PE X e (au X.K te))(hl:PO X lo (yN X.K tl))(hu:PO X hi (yN X.K th)):PE X (.Subscript e (.Slice lo hi none p2) pos) (au X.K (C7 r te tl th)):=
 (BL hr he hl hu).imp fun τ H Q zz=>by
 obtain⟨σ,G,Q3,rs,rg,h,k⟩:=zz;exact (
  ⟨σ,G,_,rs,rg,h,fun x G1 v H1 q1 k1 rg1 re=>⟨σ,G1,_,rs.mono (k1.stb rg),rg1,q1,fun l G2 H2 q2 k2 rg2=>
    ⟨σ,G2,_,rs.mono ((k1.trans k2).stb rg),rg2,q2,fun u G3 H3 q3 k3 rg3=>⟨x,G,H,G3,Q3,re.wait (k2.trans k3) rg1,rg3,q3,k.base (k1.trans (k2.trans k3))⟩⟩⟩⟩)
def cutD(ds:List D)(lo hi:Option Int):List D:=(ds.drop (HT.sIx ds.length 0 lo)).take (HT.sIx ds.length ds.length hi - HT.sIx ds.length 0 lo)
theorem yW{K:Nq}{H:Hp}{ds:List D}{xs:List V}(r:RDs K H ds xs)(lo hi:Option Int):RDs K H (cutD ds lo hi) (wd xs lo hi):=by
 unfold cutD wd;rw[r.length];exact (r.drop _).take _
end
end L3
namespace L2
open PySem PySem.Spec PyProof.Rows
def JZ(xs:List V):It:=⟨fun i _=>i < xs.length,fun i H x H'=>H'=H/\xs[i]?=some x,fun i _=>i=xs.length⟩
def cq(x:Str):List V:=x.cps.toList.map fun c=>V.str ⟨#[c]⟩
theorem jP(x:Str):(cq x).length=x.cps.size:=by simp[cq]
theorem A1{P:KQ}{w:K2}{K:Nq}{tg:K4}(it:KE)(x:Str)(t:Tok)(ty:String)(hty:ty="str_ascii_iterator"\/ty="str_iterator"):
  Turn P w K tg (JZ (cq x)) [it] it (fun i h=>h.IsStrIter it ty x t i) where
 mem:=by simp
 obj:=fun i h st b hb=>by
  have e:b=it:=by simpa using hb
  subst e;obtain⟨o,e,c,d⟩:=st;exact⟨o,e,fun v z=>by rw[d]at z;cases z⟩
 keep:=fun i h h' st k=>let ⟨o,ho,r⟩:=st;⟨o,k it (by simp) o ho,r⟩
 item:=by
  intro X hP hw hK hc i pins s σ H E I hf st hg;subst hP hw hK;obtain⟨f0,f1,f2,f3,f4,f5⟩:=hf it (by simp)
  have W:Walks X.prog X.w X.A it [it] [it] x.cps.size (SignAt x) (fun i h=>h.IsStrIter it ty x t i):=by
   rcases hty with rfl|rfl
   ·exact Walks.strAscii (I.ok.hd hc) it x t
   ·exact Walks.strWide (I.ok.hd hc) it x t
  refine W.item i s _ _ (by have:i < (cq x).length:=hg;rw[jP]at this;exact this) st fun v h' tk hv st' kk=>?_
  obtain⟨c,u,hc',rfl⟩:=hv;have I1:Inv X pins σ H { s with heap:=h',toks:=tk }:=I.turned (fun b o hb e=>kk b o (by simpa using hb) e) f0 f1 f3 f4 f5
  obtain⟨o,e,c1,d⟩:=id st';refine⟨_,rfl,vY (s:={ s with heap:=h',toks:=tk }) e c1 d (by rcases hty with rfl|rfl<;>decide) ⟨.str ⟨#[c]⟩,H,I1,⟨u,rfl⟩,⟨rfl,?_⟩,st',fun b hb=>(hf b hb).1⟩⟩
  simp only[cq,K8,Array.getElem?_toList,hc',Option.map_some]
 done:=by
  intro X hP hw hK hc i pins s σ H E I hf st hg;subst hP hw hK;obtain⟨f0,f1,f2,f3,f4,f5⟩:=hf it (by simp)
  have W:Walks X.prog X.w X.A it [it] [it] x.cps.size (SignAt x) (fun i h=>h.IsStrIter it ty x t i):=by
   rcases hty with rfl|rfl
   ·exact Walks.strAscii (I.ok.hd hc) it x t
   ·exact Walks.strWide (I.ok.hd hc) it x t
  have e:i=x.cps.size:=by have:i=(cq x).length:=hg;rw[jP]at this;exact this
  subst e;exact W.done s _ _ st fun h' tk kk=>⟨rfl,I.turned (fun b o hb e=>kk b o (by simpa using hb) e) f0 f1 f3 f4 f5⟩
 self:=fun A i s Q E st h=>by
  rcases hty with rfl|rfl
  ·exact wpAny_pyIter_striter_ascii st h
  ·exact wpAny_pyIter_striter_wide st h
section
variable{X:Cx}{tg:K4}
theorem xD{env:Env}:∀ (names:List (Str×Ny)) (sc:MX),sc.names=names->(∀ x∈names,x.2=.free->∃ c,env.cells.lookup x.1=some c)->
  ∃ cl,Qc sc env=pure cl/\(∀ x c,cl.lookup x=some c->env.cells.lookup x=some c)/\(∀ x∈names,x.2=.free->∃ c,cl.lookup x.1=some c):=by
 have loop:∀ (names:List (Str×Ny)) (cs:List (Str×KE)),(∀ x∈names,x.2=.free->∃ c,env.cells.lookup x.1=some c)->(∀ x c,cs.lookup x=some c->env.cells.lookup x=some c)->
   ∃ cl,(forIn names cs fun (x:Str×Ny) (r:List (Str×KE))=>(match x with
    | (name,kind)=>if (kind == NameKind.free)=true then (do let a <- cellOf env name;pure (ForInStep.yield ((name,a)::r)))else pure (ForInStep.yield r):Sem (ForInStep (List (Str×KE)))))=(pure cl:Sem (List (Str×KE)))/\
    (∀ x c,cl.lookup x=some c->env.cells.lookup x=some c)/\(∀ x,(∃ c,cs.lookup x=some c)->∃ c,cl.lookup x=some c)/\(∀ x∈names,x.2=.free->∃ c,cl.lookup x.1=some c):=by
  intro names
  induction names with
  | nil=>intro cs _ h2;exact⟨cs,rfl,h2,fun _ z=>z,fun _ z=>nomatch z⟩
  | cons y r ih=>
   obtain⟨name,kind⟩:=y;intro cs h1 h2;cases hk:(kind == NameKind.free) with
   | false=>
    obtain⟨cl,e,a,b,c⟩:=ih cs (fun x hx=>h1 x (KZ _ hx)) h2;refine⟨cl,?_,a,b,fun x hx hf=>?_⟩
    ·rw[M4];simp only[hk,Bool.false_eq_true,if_false];exact e
    ·rcases Le.mp hx with rfl|hx
     ·rw[show kind=NameKind.free from hf]at hk;cases hk
     ·exact c x hx hf
   | true=>
    have hkf:kind=NameKind.free:=by simpa using hk
    obtain⟨ca,hca⟩:=h1 (name,kind) KU hkf;have Sx:env.cells.lookup name=some ca:=hca;have nx:∀ x c,((name,ca)::cs).lookup x=some c->env.cells.lookup x=some c:=fun x c hx=>by
     rw[L_]at hx;split at hx
     ·rename_i hb;have:x=name:=by simpa using hb
      cases hx;rw[this];exact Sx
     ·exact h2 x c hx
    obtain⟨cl,e,a,b,c⟩:=ih ((name,ca)::cs) (fun x hx=>h1 x (KZ _ hx)) nx;refine⟨cl,?_,a,fun x ⟨c',hx⟩=>?_,fun x hx hf=>?_⟩
    ·rw[M4];simp only[hk,if_true];unfold cellOf;rw[Sx];exact e
    ·by_cases hxn:x=name
     ·exact b x ⟨ca,by rw[L_,hxn,beq_self_eq_true]⟩
     ·exact b x ⟨c',by rw[L_,show (x == name)=false by simpa using hxn];exact hx⟩
    ·rcases Le.mp hx with rfl|hx
     ·exact b name ⟨ca,by rw[L_,beq_self_eq_true]⟩
     ·exact c x hx hf
 intro names sc hsc h;subst hsc;obtain⟨cl,e,a,_,c⟩:=loop sc.names [] h (fun x c z=>by simp at z)
 refine⟨cl,?_,a,c⟩;unfold Qc;show (forIn sc.names [] _ >>= fun r=>pure r)=_
 refine Eq.trans ?_ (congrArg (fun m=>m >>= fun r=>(pure r:Sem (List (Str×KE)))) e);rfl
def aV(X:Cx)(N':List Str)(scope:MX)(cl:List (Str×KE))(C:KE)(s₀:KF)(H₀:Hp)(fp:List KE):Cx:=
 { X with N:=N',s₀:=s₀,H₀:=H₀,env:=compEnvC scope cl C X.env,outer:=X.stack,ex:=fp,fn:=fun _=>false,pn:=[],xe:=fun _ _=>False }
end
section
variable{prog:KQ}{w:K2}{A:KY}{R:NW->KF->Prop}{s:KF}
theorem je{elt target iter:K4}{ifs:List K4}{scope:MX}{pos:Pos}{it acc:KC}{env:Env}(J:Nat->KF->Prop)
  (turn:∀ n s,J n s->KI (KL prog w) A (Me it) (fun r s₁=>match r with
   | none=>R (.ok .next) s₁
   | some v=>KI (KL prog w) A (Mj target it v) (fun _ s₁'=>KI (KL prog w) A (assign target env v) (fun _ s₂=>
     KI (KL prog w) A (forIn ifs true fun c r=>if r=true then do let ok <- Pk c env (eval c env);pure (ForInStep.yield ok)else pure (ForInStep.yield r)) (fun ok s₃=>
      if ok=true then KI (KL prog w) A (eval elt env) (fun x s₄=>
       KI (KL prog w) A (call (.builtin "list.append") [acc,x]) (fun _ s₅=>∃ m,m < n/\J m s₅) (fun _ _=>False) s₄) (fun _ _=>False) s₃
      else ∃ m,m < n/\J m s₃) (fun _ _=>False) s₂) (fun _ _=>False) s₁') (fun _ _=>False) s₁) (fun _ _=>False) s)
  (n:Nat) (h:J n s):Ml (KL prog w) A (.compLoop (.ListComp elt [⟨target,iter,ifs,0⟩] scope pos) 0 it acc env) R s:=by
 refine codeAny_loop rfl J (fun n s hI=>?_) n h;show KI _ A ((compTurn (.ListComp elt [⟨target,iter,ifs,0⟩] scope pos) 0 it acc env).onRaise (fun x=>do O7 x env;theTreesLotGoes x)) _ _ s
 refine wpAny_noted ?_;rw[compTurn_list];refine KB (Nl (KB (K9 (turn n s hI) (fun r s₁ h₁=>?_) fun _ _ h'=>h'.elim)));cases r with
 | none=>exact KD h₁
 | some v=>
  refine KB (K9 h₁ (fun _ s₁' h₁'=>?_) fun _ _ h'=>h'.elim);refine KB (K9 h₁' (fun _ s₂ h₂=>KB (K9 h₂ (fun ok s₃ h₃=>?_) fun _ _ h'=>h'.elim)) fun _ _ h'=>h'.elim);cases ok with
  | false=>exact KD ⟨rfl,h₃⟩
  | true=>exact KB (KB (K9 h₃ (fun x s₄ h₄=>KB (K9 h₄ (fun _ s₅ h₅=>KD (KD ⟨rfl,h₅⟩)) fun _ _ h'=>h'.elim)) fun _ _ h'=>h'.elim))
end
def CT(X:Cx)(ifs:List K4)(tt:TT):Prop:=
 ∀ (pins:List (KE×Obj)) (s:KF) (σ:St) (H:Hp) (Q:Bool->Hp->Prop),Inv X pins σ H s->tt σ H Q->
  KI (KL X.prog X.w) X.A (forIn ifs true fun c r=>if r=true then do let ok <- Pk c X.env (eval c X.env);pure (ForInStep.yield ok)else pure (ForInStep.yield r)) (TP X pins σ Q) X.xe s
theorem DF{X:Cx}:CT X [] (fun _ H Q=>Q true H):=fun pins s σ H Q I h=>wpAny_tests_nil ⟨H,I,h⟩
theorem DE{X:Cx}{c:K4}{tt:TT}(h:PT X c tt):CT X [c] tt:=fun pins s σ H Q I q=>wpAny_tests_one (h pins s σ H Q I q)
def uZ(ent:St->St)(wi:TI)(g:TG)(tt:TT)(te:TE):TE:=fun σ H Q=>wi σ H fun J H1=>∀ D,H1 D=none->∃ W:Nat->Nat->List V->St->Hp->Prop,(∃ m,W 0 m [] (ent σ) (aI H1 D (.lst [])))/\
 ∀ i m ys σ1 H2,W i m ys σ1 H2->H2 D=some (.lst ys)/\((J.stop i H2/\Q (.ref D) H2)\/(J.go i H2/\∃ N:List V->St->Hp->Prop,(∀ ys' σ' H',N ys' σ' H'->∃ m',m' < m/\W (i+1) m' ys' σ' H')/\
  ∀ x H',J.yld i H2 x H'->g x σ1 H' fun σ2 H3=>tt σ2 H3 fun b H4=>if b=true then te σ2 H4 fun y H5=>H5 D=some (.lst ys)/\ys.length < KM/\N (ys ++ [y]) σ2 (aI H5 D (.lst (ys ++ [y])))else N ys σ2 H4))
theorem e9{scope:MX}{env:Env}(QE:∀ y∈scope.names,y.2≠.cell){x:Str}(h:(OX scope env).names.lookup x=some .cell\/(OX scope env).names.lookup x=some .free):∃ y∈scope.names,y.1=x/\y.2=.free:=by
 have go:∀ (names:List (Str×Ny)),(∀ y∈names,y.2≠.cell)->∀ k,(names.map fun (n,k)=>if (k == .free && env.scope.kind == .function && env.kindOf n == some .cell)then (n,NameKind.cell)else (n,k)).lookup x=some k->(k=.cell\/k=.free)->∃ y∈names,y.1=x/\y.2=.free:=by
  intro names
  induction names with
  | nil=>intro _ k e _;simp at e
  | cons y r ih=>
   obtain⟨n,kd⟩:=y;intro hc k e hk;rw[K3,L_]at e;split at e
   ·rename_i hb;cases e;have nc:kd≠.cell:=hc (n,kd) KU;refine⟨(n,kd),KU,?_,?_⟩
    ·split at hb
     ·simpa using (eq_of_beq hb).symm
     ·simpa using (eq_of_beq hb).symm
    ·split at hk
     ·rename_i hq;simp only[Bool.and_eq_true]at hq
      simpa using hq.1.1
     ·rcases hk with hk|hk
      ·exact absurd hk nc
      ·exact hk
   ·obtain⟨y,hy,q⟩:=ih (fun y hy=>hc y (KZ _ hy)) k e hk;exact⟨y,KZ _ hy,q⟩
 rcases h with h|h
 ·exact go scope.names QE _ h (.inl rfl)
 ·exact go scope.names QE _ h (.inr rfl)
theorem jX{scope:MX}{env:Env}{x:Str}(h:(OX scope env).names.lookup x=some .local):∃ y∈scope.names,y.1=x/\y.2=.local:=by
 have go:∀ (names:List (Str×Ny)),(names.map fun (n,k)=>if (k == .free && env.scope.kind == .function && env.kindOf n == some .cell)then (n,NameKind.cell)else (n,k)).lookup x=some .local->∃ y∈names,y.1=x/\y.2=.local:=by
  intro names
  induction names with
  | nil=>intro e;simp at e
  | cons y r ih=>
   obtain⟨n,kd⟩:=y;intro e;rw[K3,L_]at e;split at e
   ·rename_i hb;refine⟨(n,kd),KU,?_,?_⟩
    ·split at hb
     ·simpa using (eq_of_beq hb).symm
     ·simpa using (eq_of_beq hb).symm
    ·split at e
     ·cases e
     ·simpa using e
   ·obtain⟨y,hy,q⟩:=ih e;exact⟨y,KZ _ hy,q⟩
 exact go scope.names h
structure CompOk(X:Cx)(scope:MX)(T M:List Str):Prop where
 calm:X.calm=true
 kind:scope.kind=.function
 cell:∀ y∈scope.names,y.2≠.cell
 names:∀ y∈scope.names,y.2=.local->scope.names.lookup y.1=some .local
 loc:∀ y∈scope.names,y.2=.local->y.1∈((".0":Str)::T)
 len:M.length=X.N.length
 sub:∀ (i:Nat) x,M[i]?=some x->X.N[i]?=some x\/∀ y∈scope.names,y.1≠x
 off:∀ x∈M,x∉((".0":Str)::T)
 free:∀ y∈scope.names,y.2=.free->X.env.kindOf y.1=some .cell\/X.env.kindOf y.1=some .free
def ent(T:List Str)(σ:St):St:=T.map (fun _=>none) ++ σ
section
variable{X:Cx}{pins:List (KE×Obj)}{σ:St}{H:Hp}{s:KF}
theorem Inv.block{scope:MX}{T M:List Str}{fp:List KE}{h₁:K1}{tk:Nat}{cl:List (Str×KE)}(I:Inv X pins σ H s)(ok:CompOk X scope T M)(hf:∀ b∈fp,kO X pins H b)(ho:∀ b∈fp,∃ o,s.heap.get? b=some o)
  (hc1:∀ x c,cl.lookup x=some c->X.env.cells.lookup x=some c) (hc2:∀ x∈scope.names,x.2=.free->∃ c,cl.lookup x.1=some c)
  (hns:h₁.Ns s.heap.objs.size fun _=>none) (kp:∀ b o,s.heap.get? b=some o->h₁.get? b=some o):
  Inv (aV X (T ++ M) scope cl s.heap.objs.size s H fp) [] (ent T σ) H { s with heap:=h₁,toks:=tk }:=by
 have fpC:∀ b∈fp,b≠s.heap.objs.size:=fun b hb z=>by
  obtain⟨o,e⟩:=ho b hb;exact absurd (KN e) (by rw[z];exact lt_irrefl _)
 have cellsOk:∀ x c,(aV X (T ++ M) scope cl s.heap.objs.size s H fp).env.cells.lookup x=some c->X.env.cells.lookup x=some c:=hc1;refine⟨⟨I.ok.mod,ok.kind,I.ok.glob,I.ok.blt,le_refl _,fun x y c h1 h2=>I.ok.inj x y c (hc1 x c h1) (hc1 y c h2),fun x hx=>?_,(fun x c h=>absurd h (by show ¬ (false=true);decide)),I.ok.hd,I.ok.frames,.inl rfl,fun b hb=>⟨fpC b hb,fun x c e=>(hf b hb).2.2.2.2.1 x c (hc1 x c e)⟩,I.bs,le_trans I.ok.bsz I.sz,fun b o e hb=>?_,fun b hb hs=>?_,I.stack,I.stkFree⟩,
  rfl,I.bare,Un.kept kp,⟨_,hns,fun i x v e1 e2 e3=>?_⟩,fun x c e=>?_,I.hok.fresh (le_refl _),fun x c e=>I.freeC x c (hc1 x c e),fun p hp=>absurd (show p∈([]:List (KE×Obj))from hp) (by simp),I.hok.kept kp,?_⟩
 ·obtain⟨y,hy,e,hfr⟩:=e9 ok.cell hx;rw[<- e];exact hc2 y hy hfr
 ·rcases (hf b hb).2.2.2.1 with z|z
  ·exact I.ok.noex b o e z
  ·exact absurd (K7 (KN e) (le_trans I.ok.bsz z)) (lt_irrefl _)
 ·rcases Le.mp (I.stkSub b hs)with z|z
  ·exact (hf b hb).2.1 z
  ·exact (hf b hb).2.2.1 z
 ·-- a name that is known: it is drawn from around
  have hi:T.length<=i:=by
   refine Nat.le_of_not_lt fun hlt=>?_;unfold ent at e2;rw[L5 (by simpa using hlt),K8]at e2
   cases q:T[i]? with
   | none=>rw[q]at e2;cases e2
   | some z=>rw[q]at e2;cases e2
  have e0':M[i - T.length]?=some x:=by
   have:=e1;show M[i - T.length]?=some x
   rw[<- LJ hi];exact this
  have e1':X.N[i - T.length]?=some x:=by
   rcases ok.sub _ x e0' with z|z
   ·exact z
   ·exfalso;rcases e3 with e3|e3|e3
    ·obtain⟨y,hy,e,hl⟩:=jX e3;exact z y hy e
    ·obtain⟨y,hy,e,_⟩:=e9 ok.cell (.inl e3);exact z y hy e
    ·obtain⟨y,hy,e,_⟩:=e9 ok.cell (.inr e3);exact z y hy e
  have e2':σ[i - T.length]?=some (some v):=by
   unfold ent at e2;rw[LJ (by simpa using hi),KP]at e2
   exact e2
  have QD:(OX scope X.env).names.lookup x=some .cell\/(OX scope X.env).names.lookup x=some .free:=by
   rcases e3 with e3|e3|e3
   ·obtain⟨y,hy,e,hl⟩:=jX e3;exact absurd (by rw[<- e];exact ok.loc y hy hl) (ok.off x (K0 e0'))
   ·exact .inl e3
   ·exact .inr e3
  obtain⟨y,hy,e,hfr⟩:=e9 ok.cell QD;subst e;have hk:=ok.free y hy hfr;obtain⟨m,hn,hl⟩:=I.loc;obtain⟨u,r,l⟩:=hl _ _ v e1' e2' (by rcases hk with hk|hk;exact .inr (.inl hk);exact .inr (.inr hk))
  refine⟨u,r,.inr ⟨QD,?_⟩⟩;rcases l with ⟨l1,_⟩|⟨_,c,ec,z⟩
  ·rcases hk with hk|hk
   ·rw[hk]at l1;cases l1
   ·rw[hk]at l1;cases l1
  ·obtain⟨c',ec'⟩:=hc2 y hy hfr;have:=hc1 _ _ ec';rw[ec]at this;cases this;obtain⟨o,ho',hd⟩:=z;exact⟨c,ec',o,kp _ _ ho',hd⟩
 ·obtain⟨v,o,ho',hd⟩:=I.cell x c (hc1 x c e);exact⟨v,o,kp _ _ ho',hd⟩
 ·show (ent T σ).length=(T ++ M).length;unfold ent;rw[Lc,Lc,KP,I.len,ok.len]
end
theorem iH.sameBut{P:KQ}{w:K2}{H:Hp}{h h':K1}{C:KE}(ok:iH P w H h)(hn:H C=none)(sb:LS C h h'):iH P w H h':=fun b ob e=>by
 refine (ok b ob e).stay (fun c u hc q=>(sb.2 c ?_).trans q) (fun _ q=>q) fun _ _ q=>q
 rintro rfl
 rcases hc with rfl|hc
 ·rw[hn]at e;cases e
 ·rw[hn]at hc;cases hc
section
variable{X:Cx}{elt tg iter:K4}{ifs:List K4}{scope:MX}{T M:List Str}{pos:Pos}{wi:TI}{g:TG}{tt:TT}{te:TE}
theorem wf{pins:List (KE×Obj)}{s2:KF}{σ:St}{H1:Hp}{Q:VK}{J:It}{it:KE}{fp:List KE}{tn:Nat->K1->Prop}{cl:List (Str×KE)}{RR:KC->KE->NW->KF->Prop}{E:KC->KF->Prop}(ok:CompOk X scope T M)
  (hin:∀ cl C s₀ H₀ fp,PG (aV X (T ++ M) scope cl C s₀ H₀ fp) tg g/\CT (aV X (T ++ M) scope cl C s₀ H₀ fp) ifs tt/\PE (aV X (T ++ M) scope cl C s₀ H₀ fp) elt te)
  (hc1:∀ x c,cl.lookup x=some c->X.env.cells.lookup x=some c) (hc2:∀ x∈scope.names,x.2=.free->∃ c,cl.lookup x.1=some c)
  (I2:Inv X pins σ H1 s2) (Tn:Turn X.prog X.w X.K tg J fp it tn) (st2:tn 0 s2.heap) (f2:∀ b∈fp,kO X pins H1 b)
  (h:∀ D,H1 D=none->∃ W:Nat->Nat->List V->St->Hp->Prop,(∃ m,W 0 m [] (ent T σ) (aI H1 D (.lst [])))/\
   ∀ i m ys σ1 H2,W i m ys σ1 H2->H2 D=some (.lst ys)/\((J.stop i H2/\Q (.ref D) H2)\/(J.go i H2/\∃ N:List V->St->Hp->Prop,(∀ ys' σ' H',N ys' σ' H'->∃ m',m' < m/\W (i+1) m' ys' σ' H')/\
    ∀ x H',J.yld i H2 x H'->g x σ1 H' fun σ2 H3=>tt σ2 H3 fun b H4=>if b=true then te σ2 H4 fun y H5=>H5 D=some (.lst ys)/\ys.length < KM/\N (ys ++ [y]) σ2 (aI H5 D (.lst (ys ++ [y])))else N ys σ2 H4)))
  (hRR:∀ D C H' s',Inv X pins σ H' s'->(∃ m,s'.heap.Ns C m)->H' C=none->C≠X.env.locals->X.s₀.heap.objs.size<=C->(∀ x c,X.env.cells.lookup x=some c->c≠C)->(∀ p∈X.pn ++ pins,p.1≠C)->Q (.ref D) H'->RR (.ref D) C (.ok .next) s'):
  KI (KL X.prog X.w) X.A (newList []) (fun acc s₃=>KI (KL X.prog X.w) X.A (newFunctionEnv scope X.env.globals cl [] X.env.qual none .none (some X.env)) (fun cenv s₄=>
   Ml (KL X.prog X.w) X.A (.compStart (.ListComp elt [⟨tg,iter,ifs,0⟩] scope pos) 0 (.ref it) acc { cenv with scope:=OX scope X.env }) (RR acc cenv.locals) s₄) E s₃) E s2:=by
 refine K6 ?_;have hD:H1 s2.heap.objs.size=none:=I2.hok.fresh (le_refl _);obtain⟨W,⟨m0,w0⟩,turn⟩:=h _ hD;have I3:Inv X pins σ (aI H1 s2.heap.objs.size (.lst [])) { s2 with heap:=s2.heap.push { cls:=.type "list",data:=.seq ([]:List KC).toArray } }:=I2.lnew (t':=s2.toks) .nil (LG _)
 have f3:∀ b∈fp,kO X pins (aI H1 s2.heap.objs.size (.lst [])) b:=fun b hb=>by
  have q:=f2 b hb;obtain⟨o,e,_⟩:=Tn.obj 0 _ st2 b hb;exact⟨by rw[aj (K_ (KN e))];exact q.1,q.2⟩
 have st3:tn 0 (s2.heap.push { cls:=.type "list",data:=.seq ([]:List KC).toArray }):=Tn.keep _ _ _ st2 fun b _ o e=>KG _ e;generalize hs3:({ s2 with heap:=s2.heap.push { cls:=.type "list",data:=.seq ([]:List KC).toArray } }:KF)=s3 at I3 ⊢
 have So:tn 0 s3.heap:=by rw[<- hs3];exact st3
 generalize hH3:aI H1 s2.heap.objs.size (.lst [])=H3 at I3 f3 w0;generalize hDD:s2.heap.objs.size=D at *
 refine wpAny_newFunctionEnv ok.cell (by intro y hy;simp at hy) (fun h₁ SH hsb₁=>?_) ok.kind
 have kp:∀ b o,s3.heap.get? b=some o->h₁.get? b=some o:=fun b o e=>hsb₁.extBut b o (K_ (KN e)) (KG _ e);have hns:h₁.Ns s3.heap.objs.size fun _=>none:=by simpa using SH
 have I4:Inv (aV X (T ++ M) scope cl s3.heap.objs.size s3 H3 fp) [] (ent T σ) H3 { s3 with heap:=h₁,toks:=s3.toks+([]:List (Str×KC)).length }:=
  I3.block ok f3 (fun b hb=>let ⟨o,e,_⟩:=Tn.obj 0 _ So b hb;⟨o,e⟩) hc1 hc2 hns kp
 have st4:tn 0 h₁:=Tn.keep _ _ _ So fun b _ o e=>kp b o e;obtain⟨hG,hT,hE⟩:=hin cl s3.heap.objs.size s3 H3 fp;have back:∀ {QA:List (KE×Obj)} {σ':St} {H':Hp} {s':KF},Inv (aV X (T ++ M) scope cl s3.heap.objs.size s3 H3 fp) QA σ' H' s'->Inv X pins σ H' s':=fun {QA σ' H' s'} I'=>
  I3.call' (ch:=fp) I'.os I'.base I'.hok I'.bare fun b hb=>let q:=f3 b hb;⟨q.2.2.2.1,q.2.1,q.2.2.2.2.1,q.2.2.2.2.2⟩
 have loop:∀ s4:KF,Inv (aV X (T ++ M) scope cl s3.heap.objs.size s3 H3 fp) [] (ent T σ) H3 s4->tn 0 s4.heap->
   Ml (KL X.prog X.w) X.A (.compLoop (.ListComp elt [⟨tg,iter,ifs,0⟩] scope pos) 0 (.ref it) (.ref D) (compEnvC scope cl s3.heap.objs.size X.env)) (RR (.ref D) s3.heap.objs.size) s4:=by
  intro s4 I4 st4;have fpX:∀ {QA:List (KE×Obj)} {H':Hp},QA=[]->(∀ b∈fp,H' b=none)->∀ b∈fp,kO (aV X (T ++ M) scope cl s3.heap.objs.size s3 H3 fp) QA H' b:=fun {QA H'} ep hn b hb=>by
   subst ep;refine⟨hn b hb,(I4.ok.exf b hb).1,I4.ok.exfs b hb,.inl hb,(I4.ok.exf b hb).2,fun p hp=>absurd (show p∈([]:List (KE×Obj))from hp) (by simp)⟩
  refine je (fun n s'=>∃ i ys σ' H',Inv (aV X (T ++ M) scope cl s3.heap.objs.size s3 H3 fp) [] σ' H' s'/\tn i s'.heap/\(∀ b∈fp,H' b=none)/\W i n ys σ' H') ?_ m0 ⟨0,[],ent T σ,H3,I4,st4,fun b hb=>(f3 b hb).1,w0⟩
  rintro n s5 ⟨i,ys,σ5,H5,I5,st5,fr5,w5⟩
  obtain⟨hDl,hstep⟩:=turn i n ys σ5 H5 w5;rcases hstep with ⟨stop,qn⟩|⟨go,N,hN,step⟩
  ·refine br (Tn.done (aV X (T ++ M) scope cl s3.heap.objs.size s3 H3 fp) rfl rfl rfl ok.calm i [] s5 _ H5 _ I5 (fpX rfl fr5) st5 stop) fun r s6 zz=>?_;obtain⟨hr,I6⟩:=zz;subst hr;have I7:=back I6;obtain⟨m,hm,_⟩:=I6.loc;refine hRR D s3.heap.objs.size H5 s6 I7 ⟨m,hm⟩ I6.free ?_ ?_ ?_ ?_ qn
   ·exact Nb I3.lt
   ·exact I3.sz
   ·intro x c e z;obtain⟨v,q⟩:=I3.cell x c e;exact absurd q.lt (by rw[z];exact lt_irrefl _)
   ·intro p hp z;exact absurd (KN (I3.pin p hp).1) (by rw[z];exact lt_irrefl _)
  ·refine br (Tn.item (aV X (T ++ M) scope cl s3.heap.objs.size s3 H3 fp) rfl rfl rfl ok.calm i [] s5 _ H5 _ I5 (fpX rfl fr5) st5 go) fun r s6 zz=>?_;obtain⟨u,hr,h6⟩:=zz;subst hr;refine br h6 fun _ s7 zz=>?_;obtain⟨x,H7,I7,r7,y7,st7,fr7⟩:=zz;have I7':=I7.pinned (fpX rfl fr7) (Tn.obj _ _ st7);refine br (hG _ s7 _ H7 x u _ I7' r7 (step x H7 y7)) fun _ s8 zz=>?_;obtain⟨σ8,H8,I8,q8⟩:=zz;have again:∀ {s9:KF} {H9:Hp} {ys':List V},Inv (aV X (T ++ M) scope cl s3.heap.objs.size s3 H3 fp) ([] ++ mE fp s7.heap) σ8 H9 s9->N ys' σ8 H9->
     ∃ m,m < n/\∃ i ys σ' H',Inv (aV X (T ++ M) scope cl s3.heap.objs.size s3 H3 fp) [] σ' H' s9/\tn i s9.heap/\(∀ b∈fp,H' b=none)/\W i m ys σ' H':=fun {s9 H9 ys'} I9 n9=>by
    obtain⟨m',hm,w9⟩:=hN ys' σ8 H9 n9;refine⟨m',hm,i+1,ys',σ8,H9,I9.unpinned,Tn.keep _ _ _ st7 fun b hb o e=>(I9.pin (b,o) (Lr _ (Lr _ (fE hb e)))).1,fun b hb=>?_,w9⟩;obtain⟨o,e,d⟩:=Tn.obj _ _ st7 b hb;exact (I9.pin (b,o) (Lr _ (Lr _ (fE hb e)))).2.1
   refine br (hT _ s8 σ8 H8 _ I8 q8) fun b s9 zz=>?_;obtain⟨H9,I9,q9⟩:=zz;cases b with
   | false=>exact again I9 q9
   | true=>
    refine br (hE _ s9 σ8 H9 _ I9 q9) fun u10 s10 zz=>?_;obtain⟨y,H10,I10,r10,e10,l10,n10⟩:=zz;refine br (se (X:=aV X (T ++ M) scope cl s3.heap.objs.size s3 H3 fp) _ s10 σ8 H10 (.ref D) [y] (.ref D) [u10] (fun v H'=>v=.non/\H'=aI H10 D (.lst (ys ++ [y]))) I10 rfl (.cons r10 .nil) ⟨D,ys,y,rfl,rfl,e10,l10,rfl,rfl⟩) fun u11 s11 zz=>?_;obtain⟨z,H11,I11,r11,_,e11⟩:=zz;subst e11;exact again I11 n10
 exact codeAny_compStart_list (loop _ I4 st4) (Tn.self _ 0 _ _ _ st4 (loop _ I4 st4))
theorem y_(ok:CompOk X scope T M){pins:List (KE×Obj)}{σ:St}{H:Hp}{s:KF}(I:Inv X pins σ H s):∃ cl,Qc scope X.env=pure cl/\(∀ x c,cl.lookup x=some c->X.env.cells.lookup x=some c)/\(∀ x∈scope.names,x.2=.free->∃ c,cl.lookup x.1=some c):=
 xD scope.names scope rfl fun x hx hf=>I.ok.has x.1 (ok.free x hx hf)
theorem yF(ok:CompOk X scope T M)
  (hin:∀ cl C s₀ H₀ fp,PG (aV X (T ++ M) scope cl C s₀ H₀ fp) tg g/\CT (aV X (T ++ M) scope cl C s₀ H₀ fp) ifs tt/\PE (aV X (T ++ M) scope cl C s₀ H₀ fp) elt te)
  (hi:PI X tg iter wi) (hs:∀ x,LI iter X.env x=pure x:=by intro _;rfl):PE X (.ListComp elt [⟨tg,iter,ifs,0⟩] scope pos) (uZ (ent T) wi g tt te):=by
 intro pins s σ H Q I h;obtain⟨cl,hcl,hc1,hc2⟩:=y_ ok I;rw[eval_ListComp];refine O5 (use:=none) rfl hs hcl ok.kind ok.names (br (hi pins s σ H _ I h) fun v s1 h1=>br h1 fun itv s2 h2=>?_);obtain⟨it,fp,tn,J,H2,e,I2,Tn,st2,f2,hh⟩:=h2;subst e;refine wf (Q:=Q) (RR:=fun acc C=>compPost (KL X.prog X.w) X.A X.xe none (EP X pins σ Q) acc C) ok hin hc1 hc2 I2 Tn st2 f2 hh ?_;intro D C H' s' I' hm hn n1 n2 n3 n4 q;obtain⟨m,hm⟩:=hm;exact⟨m,hm,fun h' sb=>⟨.ref D,H',I'.turned (t':=s'.toks) (fun b o hb e=>(sb.2 b hb).trans e) hn (Ne.symm (Ne.symm n1)) (.inr n2) n3 n4,rfl,q⟩⟩
theorem x5{i:Nat}{x:Str}{px spos:Pos}(ok:CompOk X scope T M)(hN:X.N.Nodup)(hix:X.N[i]?=some x)(hx:X.env.scope.names.lookup x=some .local)
  (hin:∀ cl C s₀ H₀ fp,PG (aV X (T ++ M) scope cl C s₀ H₀ fp) tg g/\CT (aV X (T ++ M) scope cl C s₀ H₀ fp) ifs tt/\PE (aV X (T ++ M) scope cl C s₀ H₀ fp) elt te)
  (hi:PI X tg iter wi) (hsw:Mb (.ListComp elt [⟨tg,iter,ifs,0⟩] scope pos) (some (.Name x px)) spos.line X.env=pure true:=by rfl) (hs:∀ x,LI iter X.env x=pure x:=by intro _;rfl):
  PS X (.Assign [.Name x px] (.ListComp elt [⟨tg,iter,ifs,0⟩] scope pos) spos) (Ft (gh (uZ (ent T) wi g tt te)) (v3 i)):=by
 intro pins s σ H D3 I h;obtain⟨cl,hcl,hc1,hc2⟩:=y_ ok I;rw[exec_Assign_Name_used _ _ _ _ hsw];refine KB (Nl (KB ?_));show KI _ X.A (do let _ <- comprehension (.ListComp elt [⟨tg,iter,ifs,0⟩] scope pos) scope X.env _ (newList []) false (eval iter X.env) (some (assign (.Name x px) X.env))) _ _ s
 refine KB (K9 (O5 (use:=some (assign (.Name x px) X.env)) (Q:=fun _ s'=>SP X pins D3 .next s') rfl hs hcl ok.kind ok.names
  (br (hi pins s σ H _ I h) fun v s1 h1=>br h1 fun itv s2 h2=>?_)) (fun _ s' hq=>KD (KD hq)) fun _ _ e=>e)
 obtain⟨it,fp,tn,J,H2,e,I2,Tn,st2,f2,hh⟩:=h2;subst e;refine wf (Q:=fun v H1=>v3 i v σ H1 D3.nx\/∃ p xs,v=.ref p/\H1 p=some (.lst xs)/\∀ o,v3 i v σ (aI H1 p (.frz o (.lst xs))) D3.nx) (RR:=fun acc C=>compPost (KL X.prog X.w) X.A X.xe (some (assign (.Name x px) X.env)) (fun _ s'=>SP X pins D3 .next s') acc C) ok hin hc1 hc2 I2 Tn st2 f2 hh ?_;intro D C H' s' I' hm hn n1 n2 n3 n4 q;obtain⟨m,hm⟩:=hm;have fin:∀ {H'':Hp},Inv X pins σ H'' s'->H'' C=none->D3.nx (σ.set i (some (.ref D))) H''->
   KI (KL X.prog X.w) X.A (assign (.Name x px) X.env (.ref D)) (fun _ s''=>∃ m,s''.heap.Ns C m/\∀ h',LS C s''.heap h'->SP X pins D3 .next { s'' with heap:=h' }) X.xe s':=fun {H''} J' hn' q'=>by
  refine Qk (rR (v:=V.ref D) J' hN hix (.inl hx) rfl (fun s'' I'' ⟨a,sb,ha⟩=>?_) (.inr hx));have aC:C≠a:=by
   rcases ha with z|z
   ·rw[z];exact n1
   ·exact fun y=>n3 _ _ z y.symm
  refine⟨m,hm.sameBut sb aC,fun h' sb'=>⟨_,H'',I''.turned (t':=s''.toks) (fun b o hb e=>(sb'.2 b hb).trans e) hn' n1 (.inr n2) n3 n4,q'⟩⟩
 rcases q with q|⟨p,xs,ep,e1,q⟩
 ·exact fin I' hn q
 ·obtain⟨o,I''⟩:=I'.freeze e1;refine fin I'' ?_ (q o);rw[aj (fun z=>by subst z;rw[hn]at e1;cases e1)];exact hn
end
section
variable{X:Cx}{tg:K4}
theorem PG.imp{e:K4}{t t':TG}(h:PG X e t)(i:∀ v σ H Q,t' v σ H Q->t v σ H Q):PG X e t':=fun pins s σ H v u Q I r q=>h pins s σ H v u Q I r (i v σ H Q q)
theorem CU.imp{es:List K4}{t t':EI}(h:CU X es t)(i:∀ vs σ H Q,t' vs σ H Q->t vs σ H Q):CU X es t':=fun pins s σ H v u Q I r q=>h pins s σ H v u Q I r (i v σ H Q q)
theorem PI.imp{e:K4}{t t':TI}(h:PI X tg e t)(i:∀ σ H R,t' σ H R->t σ H R):PI X tg e t':=fun pins s σ H R I q=>h pins s σ H R I (i σ H R q)
variable{pins:List (KE×Obj)}{σ:St}{H:Hp}{s:KF}{R:It->Hp->Prop}{E:KC->KF->Prop}{a:KE}{xs:List V}
theorem mR(I:Inv X pins σ H s)(hq:fV X.K H a xs)(q:R (IJ X.K a) H):KI (KL X.prog X.w) X.A (Ni (.ref a)) (Fb X pins σ tg R) E s:=by
 obtain⟨its,rv,p,hz⟩:=I.list hq;refine Ow p.isList ?_;refine⟨s.heap.objs.size,[s.heap.objs.size],_,_,H,rfl,I.kept (t':=s.toks) fun b o e=>KG _ e,zx a _,⟨_,KJ _ rfl,rfl,rfl⟩,fun b hb=>?_,q⟩;have e:b=s.heap.objs.size:=by simpa using hb
 subst e;exact I.fpOk (le_refl _) (I.hok.fresh (le_refl _))
theorem vU(I:Inv X pins σ H s)(hq:ij X.K H a xs)(q:R (JY X.K a) H):KI (KL X.prog X.w) X.A (Ni (.ref a)) (Fb X pins σ tg R) E s:=by
 obtain⟨its,rv,p,hz⟩:=I.tuple hq;refine wpAny_pyIter_tuple (show s.heap.IsTuple a its.toArray from p) ?_
 refine⟨s.heap.objs.size,[s.heap.objs.size],_,_,H,rfl,I.kept (t':=s.toks) fun b o e=>KG _ e,wD a _,⟨_,KJ _ rfl,rfl,rfl⟩,fun b hb=>?_,q⟩;have e:b=s.heap.objs.size:=by simpa using hb
 subst e;exact I.fpOk (le_refl _) (I.hok.fresh (le_refl _))
theorem vV{z:Str}{t:Tok}(I:Inv X pins σ H s)(q:R (JZ (cq z)) H):KI (KL X.prog X.w) X.A (Ni (.str z t)) (Fb X pins σ tg R) E s:=by
 have fin:∀ (ty:String),(ty="str_ascii_iterator"\/ty="str_iterator")->Fb X pins σ tg R (.ref s.heap.objs.size) { s with heap:=s.heap.push { cls:=.type ty,data:=.fields #[.str z t,.int 0 0] } }:=fun ty hty=>by
  refine⟨s.heap.objs.size,[s.heap.objs.size],_,_,H,rfl,I.kept (t':=s.toks) fun b o e=>KG _ e,A1 _ z t ty hty,⟨_,KJ _ rfl,rfl,rfl⟩,fun b hb=>?_,q⟩;have e:b=s.heap.objs.size:=by simpa using hb
  subst e;exact I.fpOk (le_refl _) (I.hok.fresh (le_refl _))
 cases ha:z.cps.all (· < 128)
 ·exact wpAny_pyIter_wide ha (fin _ (.inr rfl))
 ·exact wpAny_pyIter_ascii ha (fin _ (.inl rfl))
end
end L2
namespace L3
open PySem PySem.Spec PyProof.Rows L2
abbrev m6:=D->cL->Gp->(cL->Gp->Prop)->Prop
abbrev AG:=List D->cL->Gp->(cL->Gp->Prop)->Prop
def fF(K:Nq)(g:m6):TG:=fun v τ H Q=>∃ d σ G Q3,RD K H d v/\RS K H σ τ/\RG K H G/\g d σ G Q3/\∀ σ' G' τ' H',Q3 σ' G'->Kp G H G' H'->RG K H' G'->RS K H' σ' τ'->Q τ' H'
def tV(K:Nq)(g:AG):EI:=fun vs τ H Q=>∃ ds σ G Q3,RDs K H ds vs/\RS K H σ τ/\RG K H G/\g ds σ G Q3/\∀ σ' G' τ' H',Q3 σ' G'->Kp G H G' H'->RG K H' G'->RS K H' σ' τ'->Q τ' H'
def gN(i:Nat):m6:=fun d σ G Q=>Q (σ.set i (some d)) G
def ql:AG:=fun ds σ G Q=>match ds with
 | []=>Q σ G
 | _=>False
def du(t:m6)(u:AG):AG:=fun ds σ G Q=>match ds with
 | d::r=>t d σ G fun σ' G'=>u r σ' G' Q
 | []=>False
def qk(n:Nat)(t:AG):m6:=fun d σ G Q=>match d with
 | .tup ds=>ds.length=n/\t ds σ G Q
 | _=>False
section
variable{X:Cx}{pos:Pos}{e:K4}{es:List K4}{t:m6}{u:AG}
theorem aP{i:Nat}{x:Str}(hN:X.N.Nodup)(hi:X.N[i]?=some x)(hx:GF X.env.scope x)(hf:X.fn x=true\/X.env.scope.names.lookup x=some .local:=by first|exact .inl rfl|exact .inr rfl|assumption):PG X (.Name x pos) (fF X.K (gN i)):=
 (DO hN hi hx hf).imp fun v τ H Q zz=>by
 obtain⟨d,σ,G,Q3,rd,rs,rg,h,k⟩:=zz;exact (
  k _ G _ H h Kp.refl rg (rs.set rd i))
theorem v0:CU X [] (tV X.K ql):=DN.imp fun vs τ H Q zz=>by
 obtain⟨ds,σ,G,Q3,rd,rs,rg,h,k⟩:=zz;cases ds with
 | nil=>exact⟨rd.inv_nil,k _ G _ H h Kp.refl rg rs⟩
 | cons _ _=>exact h.elim
theorem ee(h1:PG X e (fF X.K t))(h2:CU X es (tV X.K u))(hs:(MA (e::es) X.env).map (·.2)=assign e X.env::(MA es X.env).map (·.2):=by rfl):CU X (e::es) (tV X.K (du t u)):=
 (BJ h1 h2 hs).imp fun vs τ H Q zz=>by
  obtain⟨ds,σ,G,Q3,rd,rs,rg,h,k⟩:=zz;cases ds with
  | nil=>exact h.elim
  | cons d r=>
   obtain⟨x,xs,e1,r1,r2⟩:=rd.inv_cons;refine⟨x,xs,e1,d,σ,G,_,r1,rs,rg,h,fun σ' G' τ' H' q k' rg' rs'=>⟨r,σ',G',Q3,RDs.mono (k'.stb rg) _ _ r2,rs',rg',q,fun σ2 G2 τ2 H2 q2 k2=>k σ2 G2 τ2 H2 q2 (k'.trans k2)⟩⟩
theorem vZ{k:Nat}{n:Nat}(hc:X.calm=true)(h:CU X es (tV X.K u))(hn:(MA es X.env).length=n:=by rfl)(hst:(MA es X.env).findIdx? (·.1)=none:=by rfl):PG X (.Tuple es k pos) (fF X.K (qk n u)):=
 (FI hc h hn hst).imp fun v τ H Q zz=>by
  obtain⟨d,σ,G,Q3,rd,rs,rg,h,k⟩:=zz;cases d with
  | tup ds=>
   simp only[RD]at rd;obtain⟨a,xs,e1,q,r⟩:=rd;exact⟨a,xs,e1,q,by rw[<- r.length];exact h.1,ds,σ,G,Q3,r,rs,rg,h.2,k⟩
  | _=>exact h.elim
end
abbrev CS:=cL->Gp->(List D->Gp->Prop)->Prop
def uG(K:Nq)(G0:Gp)(H0:Hp)(ds:List D)(J:It):Prop:=∀ i G H,Kp G0 H0 G H->RG K H G->
 (i < ds.length->J.go i H/\∀ x H',J.yld i H x H'->Kp G H G H'/\RG K H' G/\∃ d,ds[i]?=some d/\RD K H' d x)/\(i=ds.length->J.stop i H)
def nB(K:Nq)(ti:CS):TI:=fun τ H R=>∃ σ G Q3,RS K H σ τ/\RG K H G/\ti σ G Q3/\∀ ds G' J H',Q3 ds G'->Kp G H G' H'->RG K H' G'->uG K G' H' ds J->R J H'
def signs(x:Str):List D:=x.cps.toList.map fun c=>D.str ⟨#[c]⟩
theorem yR{K:Nq}{G0:Gp}{H0:Hp}{ds:List D}{xs:List V}(r:∀ H,RDs K H ds xs):uG K G0 H0 ds (JZ xs):=fun i G H _ rg=>by
 have hl:=(r H).length;refine⟨fun hi=>⟨(show i < xs.length by walk_at "o"),fun x H' y=>?_⟩,fun e=>(show i=xs.length by walk_at "o")⟩
 obtain⟨rfl,hx⟩:=y;refine⟨Kp.refl,rg,ds[i],by simp[hi],?_⟩
 obtain⟨y,e,q⟩:=(r H').get (i:=i) (d:=ds[i]) (by simp[hi])
 rw[hx]at e;cases e;exact q
theorem yS{K:Nq}{G0:Gp}{H0:Hp}{ds:List D}{xs:List V}{a:KE}(rg0:RG K H0 G0)(f:AQ K H0 a xs)(r:RDs K H0 ds xs):uG K G0 H0 ds (IJ K a):=fun i G H k rg=>by
 have hl:=r.length;have f':=(k.stb rg0).l _ _ f;have r':=RDs.mono (k.stb rg0) _ _ r;refine⟨fun hi=>⟨⟨xs,xs[i]'(by walk_at "o"),f'.sq,by simp[show i < xs.length by walk_at "o"]⟩,fun x H' y=>?_⟩,fun e=>⟨xs,f'.sq,by walk_at "o"⟩⟩
 obtain⟨rfl,hx⟩:=y;refine⟨Kp.refl,rg,ds[i],by simp[hi],?_⟩
 obtain⟨y,e,q⟩:=r'.get (i:=i) (d:=ds[i]) (by simp[hi])
 rw[hx xs f'.sq]at e;cases e;exact q
theorem Cd{K:Nq}{G0:Gp}{H0:Hp}{ds:List D}{xs:List V}{a:KE}(rg0:RG K H0 G0)(f:ij K H0 a xs)(r:RDs K H0 ds xs):uG K G0 H0 ds (JY K a):=fun i G H k rg=>by
 have hl:=r.length;have f':=(k.stb rg0).t _ _ f;have r':=RDs.mono (k.stb rg0) _ _ r;refine⟨fun hi=>⟨⟨xs,xs[i]'(by walk_at "o"),f',by simp[show i < xs.length by walk_at "o"]⟩,fun x H' y=>?_⟩,fun e=>⟨xs,f',by walk_at "o"⟩⟩
 obtain⟨rfl,hx⟩:=y;refine⟨Kp.refl,rg,ds[i],by simp[hi],?_⟩
 obtain⟨y,e,q⟩:=r'.get (i:=i) (d:=ds[i]) (by simp[hi])
 rw[hx xs f']at e;cases e;exact q
def dQ:D->Option (List D)
 | .lst ds=>some ds
 | .fl ds=>some ds
 | .tup ds=>some ds
 | .str x=>some (signs x)
 | _=>none
def fH(te:aL):CS:=fun σ G Q=>te σ G fun d G'=>match dQ d with
 | some ds=>Q ds G'
 | none=>False
def dm(lo:Int)(n:Nat):List D:=(List.range n).map fun k=>D.int (lo+(k:Nat))
theorem vW{K:Nq}{G0:Gp}{H0:Hp}{lo:Int}{n:Nat}:uG K G0 H0 (dm lo n) (II lo n):=fun i G H _ rg=>by
 have hl:(dm lo n).length=n:=by simp[dm]
 rw[hl];refine⟨fun hi=>⟨hi,fun x H' y=>?_⟩,fun e=>(show n<=i by walk_at "o")⟩
 obtain⟨rfl,rfl⟩:=y;exact⟨Kp.refl,rg,.int (lo+(i:Nat)),by simp[dm,hi],bQ⟩
def IU(ta:iF):CS:=fun σ G Q=>ta σ G fun ds G'=>match ds with
 | [.int j]=>(-(2 ^ 62)<=j/\j < 2 ^ 62)/\Q (dm 0 j.toNat) G'
 | _=>False
def JG(ta:iF):CS:=fun σ G Q=>ta σ G fun ds G'=>match ds with
 | [.int i,.int j]=>(-(2 ^ 62)<=i/\i < 2 ^ 62/\-(2 ^ 62)<=j/\j < 2 ^ 62)/\Q (dm i (j - i).toNat) G'
 | _=>False
section
variable{X:Cx}{tg e:K4}{te:aL}
theorem eJ(h:PE X e (au X.K te)):PI X tg e (nB X.K (fH te)):=by
 intro pins s τ H R I hq;obtain⟨σ,G,Q3,rs,rg,hq,k⟩:=hq;refine br (cH h pins s τ H (fun v H1=>∃ d G1,Kp G H G1 H1/\RG X.K H1 G1/\RD X.K H1 (val d) v/\(match dQ d with|some ds=>Q3 ds G1|none=>False)) I ⟨σ,G,_,rs,rg,hq,fun d G' v H' q k' rg' rd=>⟨d,G',k',rg',rd,q⟩⟩) fun u s1 zz=>?_
 obtain⟨v,H1,I1,r1,d,G1,k1,rg1,rd,q⟩:=zz;have seq:∀ {a:KE} {xs:List V} {ds:List D},AQ X.K H1 a xs->RDs X.K H1 ds xs->Q3 ds G1->KI (KL X.prog X.w) X.A (Ni (.ref a)) (Fb X pins τ tg R) X.xe s1:=fun f r q=>mR I1 f.sq (k _ G1 _ H1 q k1 rg1 (yS rg1 f r));cases d with
 | lst ds=>
  simp only[val,RD]at rd;obtain⟨a,xs,rfl,f,r⟩:=rd;cases r1;exact seq f r q
 | fl ds=>
  simp only[val,RD]at rd;obtain⟨a,xs,rfl,f,r⟩:=rd;cases r1;exact seq f r q
 | tup ds=>
  simp only[val,RD]at rd;obtain⟨a,xs,rfl,f,r⟩:=rd;cases r1;exact vU I1 f (k _ G1 _ H1 q k1 rg1 (Cd rg1 f r))
 | str z=>
  simp only[val,RD]at rd;subst rd;obtain⟨t,rfl⟩:=r1;refine vV I1 (k _ G1 _ H1 q k1 rg1 (yR fun H'=>?_));have:signs z=(z.cps.toList.map fun c=>(⟨#[c]⟩:Str)).map D.str:=by simp[signs]
  rw[this];have e2:cq z=(z.cps.toList.map fun c=>(⟨#[c]⟩:Str)).map V.str:=by simp[cq]
  rw[e2];exact RDs.strs _
 | _=>exact q.elim
theorem vX{a:K4}{ta:iF}{p pos:Pos}(hg:Gl X "range")(hm:X.mg "range"=none)(ha:PA X [a] (cT X.K ta))(hs:KO [a] X.env=[(false,eval a X.env)]:=by rfl):PI X tg (.Call (.Name "range" p) [a] [] pos) (nB X.K (IU ta)):=
 (zT hg hm ha hs).imp fun τ H R zz=>by
 obtain⟨σ,G,Q3,rs,rg,h,k⟩:=zz;exact (
  ⟨σ,G,_,rs,rg,h,fun ds G1 vs H1 q k1 rg1 rds=>by
    split at q
    ·rename_i j;obtain⟨x,r,e1,r1,r2⟩:=rds.inv_cons;have:=r2.inv_nil;simp only[RD]at r1;subst e1 this r1;exact⟨j,rfl,q.1.1,q.1.2,k _ G1 _ H1 q.2 k1 rg1 vW⟩
    ·exact q.elim⟩)
theorem Ch{a b:K4}{ta:iF}{p pos:Pos}(hg:Gl X "range")(hm:X.mg "range"=none)(ha:PA X [a,b] (cT X.K ta))(hs:KO [a,b] X.env=[(false,eval a X.env),(false,eval b X.env)]:=by rfl)(hs2:KO [b] X.env=[(false,eval b X.env)]:=by rfl):
  PI X tg (.Call (.Name "range" p) [a,b] [] pos) (nB X.K (JG ta)):=
 (zS hg hm ha hs hs2).imp fun τ H R zz=>by
 obtain⟨σ,G,Q3,rs,rg,h,k⟩:=zz;exact (
  ⟨σ,G,_,rs,rg,h,fun ds G1 vs H1 q k1 rg1 rds=>by
    split at q
    ·rename_i i j;obtain⟨x,r,e1,r1,r2⟩:=rds.inv_cons;obtain⟨x',r',e1',r1',r2'⟩:=r2.inv_cons;have:=r2'.inv_nil;simp only[RD]at r1 r1';subst e1 e1' this r1 r1';exact⟨i,j,rfl,q.1,k _ G1 _ H1 q.2 k1 rg1 vW⟩
    ·exact q.elim⟩)
end
def zn(g:m6)(tb:bh)(E:Ends3)(σ:cL)(ds:List D)(G1:Gp):Prop:=∃ Pv:Nat->cL->Gp->Prop,Pv 0 σ G1/\
 (∀ (i:Nat) d σ' G',ds[i]?=some d->Pv i σ' G'->g d σ' G' fun σ2 G2=>tb { E with nx:=Pv (i+1),ct:=Pv (i+1),bk:=E.nx } σ2 G2)/\∀ σ' G',Pv ds.length σ' G'->E.nx σ' G'
def mn(ti:CS)(g:m6)(tb:bh):bh:=fun D σ G=>ti σ G fun ds G1=>zn g tb D σ ds G1
theorem lD{X:Cx}{tg iter:K4}{body:List Lf}{ti:CS}{g:m6}{tb:bh}{pos:Pos}(hp:Oj (KL X.prog X.w) X.A X.env X.xe)(hc:X.calm=true)(hi:PI X tg iter (nB X.K ti))(hg:PG X tg (fF X.K g))(hb:fh X body (aZ X.K tb))
  (hs:∀ x,LI iter X.env x=pure x:=by intro _;rfl):PS X (.For tg iter body [] pos) (aZ X.K (mn ti g tb)):=
 (BD hp hc hi hg hb hs).imp fun D τ H zz=>by
 obtain⟨σ,G,D3,rs,rg,h,k⟩:=zz;exact (
  ⟨σ,G,_,rs,rg,h,fun ds G1 J H1 q k1 rg1 it=>by
    obtain⟨Pv,p0,step,fin⟩:=q;refine⟨fun i m τ' H'=>m=ds.length - i/\i<=ds.length/\∃ σ' G',RS X.K H' σ' τ'/\RG X.K H' G'/\Pv i σ' G'/\Kp G1 H1 G' H',⟨ds.length,rfl,LG _,σ,G1,rs.mono (k1.stb rg),rg1,p0,Kp.refl⟩,?_⟩
    rintro i m τ' H' ⟨rfl,hi',σ',G',rs',rg',pv,k'⟩
    obtain⟨hgo,hstop⟩:=it i G' H' k' rg'
    by_cases hlt:i < ds.length
    ·obtain⟨go,yld⟩:=hgo hlt;refine .inr ⟨go,fun τ2 H2=>∃ σ2 G2,RS X.K H2 σ2 τ2/\RG X.K H2 G2/\Pv (i+1) σ2 G2/\Kp G1 H1 G2 H2,fun τ2 H2 ⟨σ2,G2,a,b,c,d⟩=>⟨ds.length - (i+1),by walk_at "o",rfl,hlt,σ2,G2,a,b,c,d⟩,fun x H2 y=>?_⟩
     obtain⟨ky,rgy,d,hd,rd⟩:=yld x H2 y;refine⟨d,σ',G',_,rd,rs'.mono (ky.stb rg'),rgy,step i d σ' G' hd pv,fun σ3 G3 τ3 H3 q3 k3 rg3 rs3=>?_⟩;have kk:Kp G1 H1 G3 H3:=k'.trans (ky.trans k3);have kG:Kp G H G3 H3:=k1.trans kk;refine⟨σ3,G3,_,rs3,rg3,q3,⟨fun σ4 G4 τ4 H4 q4 k4 rg4 rs4=>⟨σ4,G4,rs4,rg4,q4,kk.trans k4⟩,k.rt.base kG,fun σ4 G4 τ4 H4 q4 k4=>k.nx σ4 G4 τ4 H4 q4 (kG.trans k4),fun σ4 G4 τ4 H4 q4 k4 rg4 rs4=>⟨σ4,G4,rs4,rg4,q4,kk.trans k4⟩⟩⟩
    ·have e:i=ds.length:=by walk_at "o"
     refine .inl ⟨hstop e,k.nx σ' G' τ' H' (fin σ' G' (by rw[<- e];exact pv)) (k1.trans k') rg' rs'⟩⟩)
def fk:iJ:=fun _ G Q=>Q true G
def jo(k:Nat)(g:m6)(tt:iJ)(te:aL)(σ:cL)(ds:List D)(G1:Gp)(Q:fK):Prop:=ds.length<=KM/\∃ Pv:Nat->List D->Gp->Prop,Pv 0 [] G1/\
 (∀ (i:Nat) d acc G',ds[i]?=some d->Pv i acc G'->g d (List.replicate k none ++ σ) G' fun σ2 G2=>(k<=σ2.length/\σ2.drop k=σ)/\tt σ2 G2 fun b G3=>if b=true then te σ2 G3 fun y G4=>Pv (i+1) (acc ++ [val y]) G4 else Pv (i+1) acc G3)/\
 ∀ acc G',Pv ds.length acc G'->Q (.fl acc) G'
def dS(k:Nat)(ti:CS)(g:m6)(tt:iJ)(te:aL):aL:=fun σ G Q=>ti σ G fun ds G1=>jo k g tt te σ ds G1 Q
theorem eM{k:Nat}{g:m6}{te:aL}{σ:cL}{ds:List D}{G1:Gp}{Q:fK}(f:D->D)(hl:ds.length<=KM)
  (he:∀ d∈ds,∀ P:fK,(∀ y,val y=f d->P y G1)->g d (List.replicate k none ++ σ) G1 fun σ2 G2=>(k<=σ2.length/\σ2.drop k=σ)/\te σ2 G2 P) (hq:Q (.fl (ds.map f)) G1):jo k g fk te σ ds G1 Q:=by
 refine⟨hl,fun i acc G'=>acc=(ds.take i).map f/\G'=G1,⟨by simp,rfl⟩,fun i d acc G' hd ⟨ha,hG⟩=>?_,fun acc G' ⟨ha,hG⟩=>?_⟩
 ·subst hG;exact he d (K0 hd) (fun y G4=>acc ++ [val y]=(ds.take (i+1)).map f/\G4=G') fun y hy=>⟨by rw[ha,hy,MN,hd];simp,rfl⟩
 ·subst hG;rw[ha,Nn];exact hq
theorem nI{k:Nat}{g:m6}{tt:iJ}{te:aL}{σ:cL}{ds:List D}{G1:Gp}{Q:fK}(p:D->Bool)(f:D->D)(hl:ds.length<=KM)
  (he:∀ d∈ds,∀ (P:fK) (R:Gp->Prop),(p d=true->∀ y,val y=f d->P y G1)->(p d=false->R G1)->g d (List.replicate k none ++ σ) G1 fun σ2 G2=>(k<=σ2.length/\σ2.drop k=σ)/\tt σ2 G2 fun b G3=>if b=true then te σ2 G3 P else R G3)
  (hq:Q (.fl ((ds.filter p).map f)) G1):jo k g tt te σ ds G1 Q:=by
 refine⟨hl,fun i acc G'=>acc=((ds.take i).filter p).map f/\G'=G1,⟨by simp,rfl⟩,fun i d acc G' hd ⟨ha,hG⟩=>?_,fun acc G' ⟨ha,hG⟩=>?_⟩
 ·subst hG;have e:(ds.take (i+1)).filter p=(ds.take i).filter p ++ (if p d=true then [d]else []):=by
   rw[MN,hd,List.filter_append];cases hp:p d<;>simp[hp]
  refine he d (K0 hd) (fun y G4=>acc ++ [val y]=((ds.take (i+1)).filter p).map f/\G4=G') (fun G4=>acc=((ds.take (i+1)).filter p).map f/\G4=G') (fun hp y hy=>⟨?_,rfl⟩) fun hp=>⟨?_,rfl⟩
  ·rw[e,hp,ha,hy];simp
  ·rw[e,hp,ha];simp
 ·subst hG;rw[ha,Nn];exact hq
section
variable{X:Cx}{elt tg iter:K4}{ifs:List K4}{scope:MX}{T M:List Str}{pos:Pos}{ti:CS}{g:m6}{tt:iJ}{te:aL}
theorem Bh{K:Nq}{H:Hp}{σ:cL}{τ:St}(T:List Str)(r:RS K H σ τ):RS K H (List.replicate T.length none ++ σ) (ent T τ):=by
 unfold ent
 induction T with
 | nil=>exact r
 | cons a t ih=>exact .cons (show AI K H none none from trivial) ih
theorem mq{K:Nq}{H:Hp}:∀ (k:Nat) {σ:cL} {τ:St},k<=σ.length->RS K H σ τ->RS K H (List.replicate k none ++ σ.drop k) τ
 | 0,_,_,_,r=>r
 | k+1,[],_,h,_=>absurd h (by simp)
 | k+1,a::t,_,h,.cons _ r=>.cons (show AI K H none _ from trivial) (mq k (by simpa using h) r)
theorem sr{K:Nq}{τ:St}{H:Hp}{Q:VK}(h:au K (dS T.length ti g tt te) τ H Q):
  uZ (ent T) (nB K ti) (fF K g) (bu K tt) (p7 K te) τ H Q:=by
 obtain⟨σ,G,Q3,rs,rg,h,k⟩:=h;refine⟨σ,G,_,rs,rg,h,fun ds G1 J H1 q k1 rg1 it Da hD=>?_⟩;obtain⟨hsz,Pv,p0,step,fin⟩:=q;have kD:Kp G1 H1 G1 (aI H1 Da (.lst [])):=Kp.laid hD;have rgD:RG K (aI H1 Da (.lst [])) G1:=rg1.laid hD;have gD:G1 Da=none:=rg1.free hD;refine⟨fun i m ys τ2 H2=>m=ds.length - i/\i<=ds.length/\∃ acc G2,H2 Da=some (.lst ys)/\G2 Da=none/\RG K H2 G2/\RS K H2 (List.replicate T.length none ++ σ) τ2/\RDs K H2 acc ys/\acc.length<=i/\Pv i acc G2/\(∀ a h,a≠Da->H1 a=some h->G1 a=none->H2 a=some h/\G2 a=none),
  ⟨ds.length,rfl,LG _,[],G1,ay,gD,rgD,Bh T (rs.mono ((k1.trans kD).stb rg)),RDs.nil,le_refl _,p0,fun a h ha e n=>⟨by rw[aj ha];exact e,n⟩⟩,?_⟩
 rintro i m ys τ2 H2 ⟨rfl,hi',acc,G2,eD,nD,rg2,rs2,ra,la,pv,k2⟩
 have k2':Kp G1 H1 G2 H2:=fun a h e n=>k2 a h (bf e hD) e n;refine⟨eD,?_⟩;obtain⟨hgo,hstop⟩:=it i G2 H2 k2' rg2
 by_cases hlt:i < ds.length
 ·obtain⟨go,yld⟩:=hgo hlt;refine .inr ⟨go,fun ys' τ' H'=>∃ acc G',H' Da=some (.lst ys')/\G' Da=none/\RG K H' G'/\RS K H' (List.replicate T.length none ++ σ) τ'/\RDs K H' acc ys'/\acc.length<=i+1/\Pv (i+1) acc G'/\(∀ a h,a≠Da->H1 a=some h->G1 a=none->H' a=some h/\G' a=none),
   fun ys' τ' H' q'=>⟨ds.length - (i+1),by walk_at "o",rfl,hlt,q'⟩,fun x H3 y=>?_⟩
  obtain⟨ky,rgy,d,hd,rd⟩:=yld x H3 y;refine⟨d,List.replicate T.length none ++ σ,G2,_,rd,rs2.mono (ky.stb rg2),rgy,step i d acc G2 hd pv,fun σ4 G4 τ4 H4 q4 k4 rg4 rs4=>?_⟩;obtain⟨⟨hlen,hdrop⟩,q4⟩:=q4;have rs4':RS K H4 (List.replicate T.length none ++ σ) τ4:=by
   have:=mq T.length hlen rs4;rw[hdrop]at this;exact this
  refine⟨σ4,G4,_,rs4,rg4,q4,fun b G5 H5 q5 k5 rg5=>?_⟩;have e3:H3 Da=some (.lst ys):=(ky Da _ eD nD).1;have e4:=k4 Da _ e3 nD;have e5:=k5 Da _ e4.1 e4.2;have kk:∀ {G6:Gp} {H6:Hp},Kp G5 H5 G6 H6->∀ a h,a≠Da->H1 a=some h->G1 a=none->H6 a=some h/\G6 a=none:=fun k6 a h ha e n=>((((Kp.trans k2' ky).trans k4).trans k5).trans k6) a h e n;cases b with
  | false=>
   refine iteF ⟨acc,G5,e5.1,e5.2,rg5,rs4'.mono (k5.stb rg4),RDs.mono (((ky.trans k4).trans k5).stb rg2) _ _ ra,by walk_at "o",q5,kk Kp.refl⟩
  | true=>
   refine iteT ⟨σ4,G5,_,rs4.mono (k5.stb rg4),rg5,q5,fun yv G6 v H6 q6 k6 rg6 rd6=>?_⟩;have e6:=k6 Da _ e5.1 e5.2;have la':=ra.length;have st:Stb K H6 (aI H6 Da (.lst (ys ++ [v]))):=by
    constructor
    ·intro a zs q;rcases q with (q|⟨o,q⟩)|q
     ·exact .inl (.inl (by rw[aj (fun z=>by subst z;rw[e6.1]at q;cases q)];exact q))
     ·exact .inl (.inr ⟨o,by rw[aj (fun z=>by subst z;rw[e6.1]at q;cases q)];exact q⟩)
     ·exact .inr q
    ·intro a zs q;rcases q with ⟨o,q⟩|q
     ·exact .inl ⟨o,by rw[aj (fun z=>by subst z;rw[e6.1]at q;cases q)];exact q⟩
     ·exact .inr q
   refine⟨e6.1,by walk_at "o",acc ++ [val yv],G6,ay,e6.2,fun a o q=>?_,(rs4'.mono ((k5.trans k6).stb rg4)).mono st,?_,by simp;omega,q6,fun a h ha e n=>?_⟩
   ·obtain⟨h',q1,q2⟩:=rg6 a o q;exact⟨h',by rw[aj (fun z=>by subst z;rw[e6.2]at q;cases q)];exact q1,q2.mono st⟩
   ·exact RDs.append (RDs.mono st _ _ (RDs.mono ((((ky.trans k4).trans k5).trans k6).stb rg2) _ _ ra)) (RDs.cons (RD.mono st _ _ rd6) RDs.nil)
   ·rw[aj ha];exact kk k6 a h ha e n
 ·have e:i=ds.length:=by walk_at "o"
  refine .inl ⟨hstop e,k _ G2 _ H2 (fin acc G2 (by rw[<- e];exact pv)) (k1.trans k2') rg2 (.inl ⟨acc,Da,ys,rfl,rfl,eD,nD,ra,?_⟩)⟩
  exact k1.fr (oO hD)
theorem fj:CT X [] (bu X.K fk):=fun pins s τ H Q I h=>by
 obtain⟨σ,G,Q3,rs,rg,h,k⟩:=h;exact DF pins s τ H Q I (k true G H h Kp.refl rg)
theorem mf{c:K4}{tc:iJ}(h:PT X c (bu X.K tc)):CT X [c] (bu X.K tc):=DE h
theorem f8(ok:CompOk X scope T M)
  (hin:∀ cl C s₀ H₀ fp,PG (aV X (T ++ M) scope cl C s₀ H₀ fp) tg (fF X.K g)/\CT (aV X (T ++ M) scope cl C s₀ H₀ fp) ifs (bu X.K tt)/\PE (aV X (T ++ M) scope cl C s₀ H₀ fp) elt (au X.K te))
  (hi:PI X tg iter (nB X.K ti)) (hs:∀ x,LI iter X.env x=pure x:=by intro _;rfl):PE X (.ListComp elt [⟨tg,iter,ifs,0⟩] scope pos) (au X.K (dS T.length ti g tt te)):=
 (yF ok (fun cl C s₀ H₀ fp=>let ⟨a,b,c⟩:=hin cl C s₀ H₀ fp;⟨a,b,cH c⟩) hi hs).imp fun _ _ _ h=>sr h
theorem Bs{i:Nat}{x:Str}{px spos:Pos}(ok:CompOk X scope T M)(hN:X.N.Nodup)(hix:X.N[i]?=some x)(hx:X.env.scope.names.lookup x=some .local)
  (hin:∀ cl C s₀ H₀ fp,PG (aV X (T ++ M) scope cl C s₀ H₀ fp) tg (fF X.K g)/\CT (aV X (T ++ M) scope cl C s₀ H₀ fp) ifs (bu X.K tt)/\PE (aV X (T ++ M) scope cl C s₀ H₀ fp) elt (au X.K te))
  (hi:PI X tg iter (nB X.K ti)) (hsw:Mb (.ListComp elt [⟨tg,iter,ifs,0⟩] scope pos) (some (.Name x px)) spos.line X.env=pure true:=by rfl) (hs:∀ x,LI iter X.env x=pure x:=by intro _;rfl):
  PS X (.Assign [.Name x px] (.ListComp elt [⟨tg,iter,ifs,0⟩] scope pos) spos) (aZ X.K (bj i (dS T.length ti g tt te))):=
 (x5 ok hN hix hx (fun cl C s₀ H₀ fp=>let ⟨a,b,c⟩:=hin cl C s₀ H₀ fp;⟨a,b,cH c⟩) hi hsw hs).imp fun D τ H zz=>by
  obtain⟨σ,G,D3,rs,rg,h,k⟩:=zz;refine sr (Q:=fun v H1=>D.nx (τ.set i (some v)) H1\/∃ p xs,v=.ref p/\H1 p=some (.lst xs)/\∀ o,D.nx (τ.set i (some v)) (aI H1 p (.frz o (.lst xs)))) ⟨σ,G,_,rs,rg,h,fun d G' v H' q k' rg' re=>?_⟩;cases d with
  | fl ds=>
   obtain⟨p,xs,rfl,e1,e2,e3,e4⟩:=re.fl;refine .inr ⟨p,xs,rfl,e1,fun o=>?_⟩;obtain⟨rg2,st⟩:=xv (o:=o) rg' e1 e2;exact k.nx _ G' _ _ q (xw (K:=X.K) k' e4) rg2 (((rs.mono (k'.stb rg)).mono st).set (mB (.inl ⟨o,ay⟩) (RDs.mono st _ _ e3)) i)
  | _=>exact .inl (k.nx _ G' _ H' q k' rg' ((rs.mono (k'.stb rg)).set (re.rd (by intro ds z;cases z)) i))
end
open PySem.SeqAt
def dE(x y:D):Bool:=@decide (x=y) (Classical.propDecidable _)
theorem jz{x y:D}:dE x y=true↔x=y:=by unfold dE;exact @decide_eq_true_iff _ (Classical.propDecidable _)
theorem bg(x:D):dE x x=true:=jz.mpr rfl
theorem Cq{x y:D}(h:x=y):dE x y=true:=jz.mpr h
theorem bD{x y:D}(h:x≠y):dE x y=false:=by
 cases e:dE x y with
 | false=>rfl
 | true=>exact absurd (jz.mp e) h
theorem lX{x y:D}{b:Bool}(h:(b=true)↔x=y):dE x y=b:=by
 cases b with
 | true=>exact Cq (h.mp rfl)
 | false=>exact bD fun e=>nomatch h.mpr e
def pl:Nat->D->Prop
 | _,.non=>True
 | _,.int _=>True
 | _,.str _=>True
 | n+1,.tup ds=>∀ d∈ds,pl n d
 | n+1,.lst ds=>∀ d∈ds,pl n d
 | _,_=>False
theorem sU:∀ {n m:Nat} {d:D},n<=m->pl n d->pl m d
 | n,m,.non,_,_=>by cases m<;>exact trivial
 | n,m,.int _,_,_=>by cases m<;>exact trivial
 | n,m,.str _,_,_=>by cases m<;>exact trivial
 | n+1,m+1,.tup ds,h,p=>fun d hd=>sU (Nat.le_of_succ_le_succ h) (p d hd)
 | n+1,m+1,.lst ds,h,p=>fun d hd=>sU (Nat.le_of_succ_le_succ h) (p d hd)
 | 0,m,.tup ds,_,p=>p.elim
 | 0,m,.lst ds,_,p=>p.elim
 | n+1,0,.tup ds,h,_=>absurd h (by walk_at "o")
 | n+1,0,.lst ds,h,_=>absurd h (by walk_at "o")
 | 0,_,.bl _,_,p=>p.elim
 | _+1,_,.bl _,_,p=>p.elim
 | 0,_,.fl _,_,p=>p.elim
 | _+1,_,.fl _,_,p=>p.elim
 | 0,_,.ref _,_,p=>p.elim
 | _+1,_,.ref _,_,p=>p.elim
 | 0,_,.ty _,_,p=>p.elim
 | _+1,_,.ty _,_,p=>p.elim
section
variable{X:Cx}{pins:List (KE×Obj)}{σ:St}{H:Hp}{s:KF}
theorem yJ(I:Inv X pins σ H s){a:KE}{xs ys:List V}(h1:ij X.K H a xs)(h2:fV X.K H a ys):False:=by
 obtain⟨_,_,⟨o,e,c,_⟩,_⟩:=I.tuple h1;obtain⟨_,_,p,_⟩:=I.list h2;obtain⟨o',e',c',_⟩:=p.isList;rw[e]at e';cases e';rw[c]at c';injection c' with z
 exact absurd z (by decide)
theorem Bl(I:Inv X pins σ H s):∀ (n:Nat) {x y:D} {v:V},pl n x->pl n y->RD X.K H x v->RD X.K H y v->x=y:=by
 intro n
 induction n with
 | zero=>
  intro x y v px py rx ry;cases x<;>first|exact px.elim|(cases y<;>first|exact py.elim|(simp only[RD]at rx ry;subst rx;first|rfl|(cases ry;rfl)|cases ry))
 | succ n ih=>
  have seq:∀ {ds es:List D} {xs:List V},(∀ d∈ds,pl n d)->(∀ d∈es,pl n d)->RDs X.K H ds xs->RDs X.K H es xs->ds=es:=by
   intro ds
   induction ds with
   | nil=>
    intro es xs _ _ r1 r2;have:=r1.inv_nil;subst this;cases es with
    | nil=>rfl
    | cons e t=>have:=r2.length;simp at this
   | cons d t ihd=>
    intro es xs p1 p2 r1 r2;obtain⟨v,vs,e1,a1,b1⟩:=r1.inv_cons;subst e1;cases es with
    | nil=>have:=r2.length;simp at this
    | cons e u=>
     obtain⟨v',vs',e2,a2,b2⟩:=r2.inv_cons;cases e2;rw[ih (p1 d KU) (p2 e KU) a1 a2,ihd (fun z hz=>p1 z (KZ _ hz)) (fun z hz=>p2 z (KZ _ hz)) b1 b2]
  intro x y v px py rx ry;cases x with
  | tup ds=>
   simp only[RD]at rx;obtain⟨a,xs,rfl,s1,r1⟩:=rx;cases y with
   | tup es=>
    simp only[RD]at ry;obtain⟨b,ys,e,s2,r2⟩:=ry;cases e;have:=I.tuple_inj s1 s2;subst this;rw[seq px py r1 r2]
   | lst es=>
    simp only[RD]at ry;obtain⟨b,ys,e,s2,r2⟩:=ry;cases e;exact (yJ I s1 s2.sq).elim
   | _=>first|exact py.elim|(simp only[RD]at ry;cases ry)
  | lst ds=>
   simp only[RD]at rx;obtain⟨a,xs,rfl,s1,r1⟩:=rx;cases y with
   | lst es=>
    simp only[RD]at ry;obtain⟨b,ys,e,s2,r2⟩:=ry;cases e;have:=I.list_inj s1.sq s2.sq;subst this;rw[seq px py r1 r2]
   | tup es=>
    simp only[RD]at ry;obtain⟨b,ys,e,s2,r2⟩:=ry;cases e;exact (yJ I s2 s1.sq).elim
   | _=>first|exact py.elim|(simp only[RD]at ry;cases ry)
  | _=>first|exact px.elim|(cases y with
   | tup es=>simp only[RD]at rx ry;obtain⟨b,ys,e,_⟩:=ry;rw[rx]at e;cases e
   | lst es=>simp only[RD]at rx ry;obtain⟨b,ys,e,_⟩:=ry;rw[rx]at e;cases e
   | _=>first|exact py.elim|(simp only[RD]at rx ry;subst rx;first|rfl|(cases ry;rfl)|cases ry))
structure Cmp3(A:KY)(s:KF)(v u:KC)(b:Bool):Prop where
 eq:EqAt A s v u b
 rc:RcAt A s v u b
 ne:RcNeAt A s v u (!b)
theorem uD{ds es:List D}(n:Nat)(hn:n=min ds.length es.length):((List.range n).all (fun j=>dE (ds.getD j .non) (es.getD j .non)) && ds.length == es.length)=dE (.tup ds) (.tup es):=by
 symm;refine lX ?_;rw[Bool.and_eq_true,List.all_eq_true,beq_iff_eq];constructor
 ·rintro⟨h1,h2⟩
  congr 1;refine List.ext_getElem h2 fun i hi hj=>?_;have:=jz.mp (h1 i (mem_range.mpr (by walk_at "o")))
  rw[Lo,Lo,KW hi,KW hj]at this
  simpa using this
 ·intro h;cases h;exact⟨fun i _=>bg _,rfl⟩
theorem Ep{ds es:List D}:dE (.lst ds) (.lst es)=dE (.tup ds) (.tup es):=lX (by rw[jz];constructor<;>(intro h;cases h;rfl))
theorem Vals.getV:∀ {xs:List V} {us:List KC} {i:Nat} {u:KC},Vals xs us->us[i]?=some u->∃ x,xs[i]?=some x/\RelV x u
 | _,_,_,_,.nil,e=>by simp at e
 | _,_,0,_,.cons r _,e=>by simp at e;subst e;exact⟨_,rfl,r⟩
 | _,_,i+1,u,.cons _ t,e=>by
  obtain⟨x,h1,h2⟩:=Vals.getV (i:=i) (u:=u) t (by simpa using e)
  exact⟨x,by simpa using h1,h2⟩
theorem RDs.getV{K:Nq}{H:Hp}:∀ {ds:List D} {xs:List V} {i:Nat} {x:V},RDs K H ds xs->xs[i]?=some x->∃ d,ds[i]?=some d/\RD K H d x
 | [],xs,i,x,h,e=>by rw[h.inv_nil]at e;simp at e
 | d::ds,xs,i,x,h,e=>by
  obtain⟨y,r,e1,h1,h2⟩:=h.inv_cons;subst e1;cases i with
  | zero=>simp at e;subst e;exact⟨d,rfl,h1⟩
  | succ i=>
   obtain⟨z,q1,q2⟩:=RDs.getV (i:=i) (x:=x) h2 (by simpa using e)
   exact⟨z,by simpa using q1,q2⟩
def sc:D->Prop
 | .non=>True
 | .int _=>True
 | .str _=>True
 | _=>False
theorem Gu{j:Int}{t:Tok}{A:KY}:Cmp3 A s .none (.int j t) (dE .non (.int j)):=by rw[bD (by intro z;cases z)];exact⟨EqAt.none_int _ _,RcAt.none_int _ _,RcNeAt.none_int _ _⟩
theorem Gr{j:Str}{t:Tok}{A:KY}:Cmp3 A s .none (.str j t) (dE .non (.str j)):=by rw[bD (by intro z;cases z)];exact⟨EqAt.none_str _ _,RcAt.none_str _ _,RcNeAt.none_str _ _⟩
theorem Gw{j:Int}{t:Tok}{A:KY}:Cmp3 A s (.int j t) .none (dE (.int j) .non):=by rw[bD (by intro z;cases z)];exact⟨EqAt.int_none _ _,RcAt.int_none _ _,RcNeAt.int_none _ _⟩
theorem Go{j:Str}{t:Tok}{A:KY}:Cmp3 A s (.str j t) .none (dE (.str j) .non):=by rw[bD (by intro z;cases z)];exact⟨EqAt.str_none _ _,RcAt.str_none _ _,RcNeAt.str_none _ _⟩
theorem Gv{i:Int}{j:Str}{t u:Tok}{A:KY}:Cmp3 A s (.int i t) (.str j u) (dE (.int i) (.str j)):=by rw[bD (by intro z;cases z)];exact⟨EqAt.int_str _ _ _ _,RcAt.int_str _ _ _ _,RcNeAt.int_str _ _ _ _⟩
theorem Gq{i:Str}{j:Int}{t u:Tok}{A:KY}:Cmp3 A s (.str i t) (.int j u) (dE (.str i) (.int j)):=by rw[bD (by intro z;cases z)];exact⟨EqAt.str_int _ _ _ _,RcAt.str_int _ _ _ _,RcNeAt.str_int _ _ _ _⟩
theorem Gx{i j:Int}{t u:Tok}{A:KY}:Cmp3 A s (.int i t) (.int j u) (dE (.int i) (.int j)):=by
 have e:dE (.int i) (.int j)=(i == j):=lX (by rw[beq_iff_eq];exact⟨fun z=>by rw[z],fun z=>by cases z;rfl⟩)
 rw[e];exact⟨EqAt.int_int _ _ _ _,RcAt.int_int _ _ _ _,RcNeAt.int_int _ _ _ _⟩
theorem Gn{i j:Str}{t u:Tok}{A:KY}:Cmp3 A s (.str i t) (.str j u) (dE (.str i) (.str j)):=by
 have e:dE (.str i) (.str j)=(i == j):=lX (by rw[beq_iff_eq];exact⟨fun z=>by rw[z],fun z=>by cases z;rfl⟩)
 rw[e];exact⟨EqAt.str_str _ _ _ _,RcAt.str_str _ _ _ _,RcNeAt.str_str _ _ _ _⟩
theorem Gs{A:KY}:Cmp3 A s .none .none (dE .non .non):=by rw[bg];exact⟨EqAt.same _,RcAt.none_none,RcNeAt.none_none⟩
theorem mj{K:Nq}{x:D}{v:V}{v':KC}(h:sc x)(r:RD K H x v)(l:RelV v v'):(x=.non/\v'=.none)\/(∃ i t,x=.int i/\v'=.int i t)\/(∃ i t,x=.str i/\v'=.str i t):=by
 cases x with
 | non=>simp only[RD]at r;subst r;exact .inl ⟨rfl,l⟩
 | int i=>simp only[RD]at r;subst r;obtain⟨t,e⟩:=l;exact .inr (.inl ⟨i,t,rfl,e⟩)
 | str i=>simp only[RD]at r;subst r;obtain⟨t,e⟩:=l;exact .inr (.inr ⟨i,t,rfl,e⟩)
 | _=>exact h.elim
theorem CI{K:Nq}{A:KY}{x y:D}{v u:V}{v' u':KC}(h1:sc x)(h2:sc y)(rx:RD K H x v)(ry:RD K H y u)(lx:RelV v v')(ly:RelV u u'):Cmp3 A s v' u' (dE x y):=by
 rcases mj h1 rx lx with ⟨rfl,rfl⟩|⟨i,t,rfl,rfl⟩|⟨i,t,rfl,rfl⟩
 ·rcases mj h2 ry ly with ⟨rfl,rfl⟩|⟨j,u,rfl,rfl⟩|⟨j,u,rfl,rfl⟩
  ·exact Gs
  ·exact Gu
  ·exact Gr
 ·rcases mj h2 ry ly with ⟨rfl,rfl⟩|⟨j,u,rfl,rfl⟩|⟨j,u,rfl,rfl⟩
  ·exact Gw
  ·exact Gx
  ·exact Gv
 ·rcases mj h2 ry ly with ⟨rfl,rfl⟩|⟨j,u,rfl,rfl⟩|⟨j,u,rfl,rfl⟩
  ·exact Go
  ·exact Gq
  ·exact Gn
theorem rV{n:Nat}{x:D}(p:pl n x):sc x\/(∃ m ds,n=m+1/\x=.tup ds/\∀ d∈ds,pl m d)\/(∃ m ds,n=m+1/\x=.lst ds/\∀ d∈ds,pl m d):=by
 cases x with
 | non=>exact .inl trivial
 | int _=>exact .inl trivial
 | str _=>exact .inl trivial
 | tup ds=>cases n with
  | zero=>exact p.elim
  | succ m=>exact .inr (.inl ⟨m,ds,rfl,rfl,p⟩)
 | lst ds=>cases n with
  | zero=>exact p.elim
  | succ m=>exact .inr (.inr ⟨m,ds,rfl,rfl,p⟩)
 | bl _=>cases n<;>exact p.elim
 | fl _=>cases n<;>exact p.elim
 | ref _=>cases n<;>exact p.elim
 | ty _=>cases n<;>exact p.elim
theorem CG{K:Nq}{A:KY}{b:KE}{its:Array KC}{es:List D}(hu0:A.units < Ly)(t2:s.heap.IsTuple b its){x:D}{v:V}{v':KC}(h:sc x)(rx:RD K H x v)(lx:RelV v v'):Cmp3 A s v' (.ref b) (dE x (.tup es))/\Cmp3 A s (.ref b) v' (dE (.tup es) x):=by
 rcases mj h rx lx with ⟨rfl,rfl⟩|⟨i,t,rfl,rfl⟩|⟨i,t,rfl,rfl⟩
 ·rw[bD (by intro z;cases z),bD (by intro z;cases z)]
  exact⟨⟨EqAt.none_tuple t2 hu0,RcAt.none_tuple t2 hu0,RcNeAt.none_tuple t2 hu0⟩,⟨EqAt.tuple_none t2 hu0,RcAt.tuple_none t2 hu0,RcNeAt.tuple_none t2 hu0⟩⟩
 ·rw[bD (by intro z;cases z),bD (by intro z;cases z)]
  exact⟨⟨EqAt.int_tuple _ _ t2 hu0,RcAt.int_tuple _ _ t2 hu0,RcNeAt.int_tuple _ _ t2 hu0⟩,⟨EqAt.tuple_int _ _ t2 hu0,RcAt.tuple_int _ _ t2 hu0,RcNeAt.tuple_int _ _ t2 hu0⟩⟩
 ·rw[bD (by intro z;cases z),bD (by intro z;cases z)]
  exact⟨⟨EqAt.str_tuple _ _ t2 hu0,RcAt.str_tuple _ _ t2 hu0,RcNeAt.str_tuple _ _ t2 hu0⟩,⟨EqAt.tuple_str _ _ t2 hu0,RcAt.tuple_str _ _ t2 hu0,RcNeAt.tuple_str _ _ t2 hu0⟩⟩
theorem CH{K:Nq}{A:KY}{b:KE}{its:Array KC}{es:List D}(hu0:A.units < Ly)(t2:s.heap.IsList b its){x:D}{v:V}{v':KC}(h:sc x)(rx:RD K H x v)(lx:RelV v v'):Cmp3 A s v' (.ref b) (dE x (.lst es))/\Cmp3 A s (.ref b) v' (dE (.lst es) x):=by
 rcases mj h rx lx with ⟨rfl,rfl⟩|⟨i,t,rfl,rfl⟩|⟨i,t,rfl,rfl⟩
 ·rw[bD (by intro z;cases z),bD (by intro z;cases z)]
  exact⟨⟨EqAt.none_list t2 hu0,RcAt.none_list t2 hu0,RcNeAt.none_list t2 hu0⟩,⟨EqAt.list_none t2 hu0,RcAt.list_none t2 hu0,RcNeAt.list_none t2 hu0⟩⟩
 ·rw[bD (by intro z;cases z),bD (by intro z;cases z)]
  exact⟨⟨EqAt.int_list _ _ t2 hu0,RcAt.int_list _ _ t2 hu0,RcNeAt.int_list _ _ t2 hu0⟩,⟨EqAt.list_int _ _ t2 hu0,RcAt.list_int _ _ t2 hu0,RcNeAt.list_int _ _ t2 hu0⟩⟩
 ·rw[bD (by intro z;cases z),bD (by intro z;cases z)]
  exact⟨⟨EqAt.str_list _ _ t2 hu0,RcAt.str_list _ _ t2 hu0,RcNeAt.str_list _ _ t2 hu0⟩,⟨EqAt.list_str _ _ t2 hu0,RcAt.list_str _ _ t2 hu0,RcNeAt.list_str _ _ t2 hu0⟩⟩
theorem su(I:Inv X pins σ H s):∀ (n:Nat) {x y:D} {v u:V} {v' u':KC} {A:KY},pl n x->pl n y->RD X.K H x v->RD X.K H y u->RelV v v'->RelV u u'->A.units+n < Ly->Cmp3 A s v' u' (dE x y):=by
 intro n
 induction n with
 | zero=>
  intro x y v u v' u' A px py rx ry lx ly hu;rcases rV px with h1|⟨m,_,e,_⟩|⟨m,_,e,_⟩
  ·rcases rV py with h2|⟨m,_,e,_⟩|⟨m,_,e,_⟩
   ·exact CI h1 h2 rx ry lx ly
   ·cases e
   ·cases e
  ·cases e
  ·cases e
 | succ n ih=>
  intro x y v u v' u' A px py rx ry lx ly hu;have hu0:A.units < Ly:=by walk_at "o"
  have hu1:A.in1.units+n < Ly:=by show A.units+1+n < Ly;omega
  have items:∀ {ds es:List D} {xs ys:List V} {its its2:List KC},(∀ d∈ds,pl n d)->(∀ d∈es,pl n d)->RDs X.K H ds xs->RDs X.K H es ys->Vals xs its->Vals ys its2->
    ∀ j (h1:j < its.toArray.size) (h2:j < its2.toArray.size),EqAt A.in1 s its.toArray[j] its2.toArray[j] (dE (ds.getD j .non) (es.getD j .non)):=by
   intro ds es xs ys its its2 p1 p2 r1 r2 w1 w2 j h1 h2;obtain⟨x1,e1,q1⟩:=Vals.getV (i:=j) (u:=its.toArray[j]) w1 (by simp at h1;simp[h1])
   obtain⟨x2,e2,q2⟩:=Vals.getV (i:=j) (u:=its2.toArray[j]) w2 (by simp at h2;simp[h2])
   obtain⟨d1,f1,g1⟩:=RDs.getV r1 e1;obtain⟨d2,f2,g2⟩:=RDs.getV r2 e2;have:=(ih (A:=A.in1) (p1 d1 (K0 f1)) (p2 d2 (K0 f2)) g1 g2 q1 q2 hu1).eq;rw[Lo,Lo,f1,f2];exact this
  rcases rV px with h1|⟨m,ds,e1,rfl,p1⟩|⟨m,ds,e1,rfl,p1⟩
  ·rcases rV py with h2|⟨m,es,e2,rfl,p2⟩|⟨m,es,e2,rfl,p2⟩
   ·exact CI h1 h2 rx ry lx ly
   ·simp only[RD]at ry;obtain⟨b,ys,rfl,s2,r2⟩:=ry;cases ly;obtain⟨its2,w2,t2,z2⟩:=I.tuple s2;exact (CG hu0 t2 h1 rx lx).1
   ·simp only[RD]at ry;obtain⟨b,ys,rfl,s2,r2⟩:=ry;cases ly;obtain⟨its2,w2,t2,z2⟩:=I.list s2.sq;exact (CH hu0 t2.isList h1 rx lx).1
  ·cases e1;simp only[RD]at rx;obtain⟨a,xs,rfl,s1,r1⟩:=rx;cases lx;obtain⟨its,w1,t1,z1⟩:=I.tuple s1;have l1:=w1.length;have l1':=r1.length;rcases rV py with h2|⟨m,es,e2,rfl,p2⟩|⟨m,es,e2,rfl,p2⟩
   ·exact (CG hu0 t1 h2 ry ly).2
   ·cases e2;simp only[RD]at ry;obtain⟨b,ys,rfl,s2,r2⟩:=ry;cases ly;obtain⟨its2,w2,t2,z2⟩:=I.tuple s2;have l2:=w2.length;have l2':=r2.length;have he:=items p1 p2 r1 r2 w1 w2;have hsz:its.toArray.size=ds.length:=by simp only[KS];omega
    have QV:its2.toArray.size=es.length:=by simp only[KS];omega
    have rc:=RcAt.tuples (A:=A) t1 t2 hu0 he;have rn:=RcNeAt.tuples (A:=A) t1 t2 hu0 he;rw[hsz,QV,uD _ rfl]at rc;rw[hsz,QV,uD _ rfl]at rn;refine⟨?_,rc,rn⟩
    by_cases hab:a=b
    ·subst hab;have:D.tup ds=D.tup es:=Bl I (n+1) (v:=.ref a) px py (mz s1 r1) (mz s2 r2);rw[this,bg];exact EqAt.same _
    ·exact EqAt.of_refs hab rc
   ·simp only[RD]at ry;obtain⟨b,ys,rfl,s2,r2⟩:=ry;cases ly;obtain⟨its2,w2,t2,z2⟩:=I.list s2.sq;rw[bD (by intro z;cases z)]
    exact⟨EqAt.tuple_list t1 t2.isList hu0,RcAt.tuple_list t1 t2.isList hu0,RcNeAt.tuple_list t1 t2.isList hu0⟩
  ·cases e1;simp only[RD]at rx;obtain⟨a,xs,rfl,s1,r1⟩:=rx;cases lx;obtain⟨its,w1,t1,z1⟩:=I.list s1.sq;have l1:=w1.length;have l1':=r1.length;rcases rV py with h2|⟨m,es,e2,rfl,p2⟩|⟨m,es,e2,rfl,p2⟩
   ·exact (CH hu0 t1.isList h2 ry ly).2
   ·simp only[RD]at ry;obtain⟨b,ys,rfl,s2,r2⟩:=ry;cases ly;obtain⟨its2,w2,t2,z2⟩:=I.tuple s2;rw[bD (by intro z;cases z)]
    exact⟨EqAt.list_tuple t1.isList t2 hu0,RcAt.list_tuple t1.isList t2 hu0,RcNeAt.list_tuple t1.isList t2 hu0⟩
   ·cases e2;simp only[RD]at ry;obtain⟨b,ys,rfl,s2,r2⟩:=ry;cases ly;obtain⟨its2,w2,t2,z2⟩:=I.list s2.sq;have l2:=w2.length;have l2':=r2.length;have he:=items p1 p2 r1 r2 w1 w2;have hsz:its.toArray.size=ds.length:=by simp only[KS];omega
    have QV:its2.toArray.size=es.length:=by simp only[KS];omega
    have rc:RcAt A s (.ref a) (.ref b) (dE (.lst ds) (.lst es))/\RcNeAt A s (.ref a) (.ref b) (!dE (.lst ds) (.lst es)):=by
     rw[Ep]
     by_cases hl:ds.length=es.length
     ·have rc:=RcAt.lists (A:=A) t1.isList t2.isList (by walk_at "o") hu0 he
      have rn:=RcNeAt.lists (A:=A) t1.isList t2.isList (by walk_at "o") hu0 he
      have e:=uD (ds:=ds) (es:=es) its.toArray.size (by walk_at "o")
      rw[hl,beq_self_eq_true,Bool.and_true]at e;rw[e]at rc rn;exact⟨rc,rn⟩
     ·rw[bD (by intro z;cases z;exact hl rfl)]
      exact⟨RcAt.lists_lengths t1.isList t2.isList (by rw[hsz,QV];simpa using hl) hu0,RcNeAt.lists_lengths t1.isList t2.isList (by rw[hsz,QV];simpa using hl) hu0⟩
    refine⟨?_,rc.1,rc.2⟩
    by_cases hab:a=b
    ·subst hab;have:D.lst ds=D.lst es:=Bl I (n+1) (v:=.ref a) px py (mB s1 r1) (mB s2 r2);rw[this,bg];exact EqAt.same _
    ·exact EqAt.of_refs hab rc.1
end
end L3
namespace L2
open PySem PySem.Spec PyProof.Rows
def qE(cs:List Nat)(lo hi:Option Int):List Nat:=(cs.drop (HT.sIx cs.length 0 lo)).take (HT.sIx cs.length cs.length hi - HT.sIx cs.length 0 lo)
theorem BH(cs:Array Nat)(i k:Nat):(List.range k).filterMap (fun m=>cs[i+m]?)=(cs.toList.drop i).take k:=by
 induction k generalizing i with
 | zero=>simp
 | succ k ih=>
  rw[List.range_succ_eq_map,L6,List.filterMap_map];have e:(fun m=>cs[i+m]?) ∘ Nat.succ=fun m=>cs[(i+1)+m]?:=by funext m;simp[Nat.succ_eq_add_one];congr 1;omega
  rw[e,ih (i+1)];cases h:cs.toList.drop i with
  | nil=>
   have hl:cs.toList.length<=i:=List.drop_eq_nil_iff.mp h;have h1:cs[i+0]?=none:=by simp at hl;simp[hl]
   have h2:cs.toList.drop (i+1)=[]:=List.drop_eq_nil_iff.mpr (by walk_at "o")
   rw[h1,h2];simp
  | cons c r=>
   have hlt:i < cs.toList.length:=by
    refine Nat.lt_of_not_le fun hle=>?_;rw[List.drop_eq_nil_iff.mpr hle]at h;cases h
   have h0:=List.drop_eq_getElem_cons hlt;rw[h]at h0;cases h0;have h1:cs[i+0]?=some cs.toList[i]:=by simp at hlt;simp[hlt]
   rw[h1,List.take_succ_cons]
theorem wg(n:Nat)(o:Option Int)(d:Nat)(hd:d<=n):(match o with
  | none=>(d:Int)
  | some i=>max 0 (min (if i < 0 then i+(n:Int)else i) (n:Int)))=((HT.sIx n d o:Nat):Int):=by
 cases o with
 | none=>rfl
 | some i=>
  simp only[HT.sIx]
  by_cases h:i < 0
  ·simp only[h,if_true];omega
  ·simp only[h,if_false];omega
theorem qj(lo hi:Option Int)(n:Nat):L9 lo hi 1 n=(List.range (HT.sIx n n hi - HT.sIx n 0 lo)).map fun m=>HT.sIx n 0 lo+m:=by
 have h1:=wg n lo 0 (LG _);have h2:=wg n hi n (le_refl _);have e:L9 lo hi 1 n=P9 ((HT.sIx n 0 lo:Nat):Int) ((HT.sIx n n hi:Nat):Int) 1:=by
  rw[<- h1,<- h2];unfold L9;cases lo<;>cases hi<;>simp
 rw[e];unfold P9;simp only[show (1:Int) > 0 by decide,if_true]
 have c:(if ((HT.sIx n 0 lo:Nat):Int) < ((HT.sIx n n hi:Nat):Int)then (((HT.sIx n n hi:Nat):Int) - ((HT.sIx n 0 lo:Nat):Int)+1 - 1) / 1 else 0).toNat=HT.sIx n n hi - HT.sIx n 0 lo:=by
  rw[Int.ediv_one];split<;>omega
 rw[c];refine Mq fun k _=>?_;omega
theorem qD(cs:List Nat)(lo hi:Option Int):(qE cs lo hi).length<=cs.length:=by
 unfold qE;rw[M8,ND];omega
theorem zD(x:Str)(lo hi:Option Int):Txt.slice x lo hi=⟨(qE x.cps.toList lo hi).toArray⟩:=by
 have hn:x.length=x.cps.toList.length:=by simp[Ou]
 have key:(L9 lo hi 1 x.length).filterMap (x.cps[·]?)=qE x.cps.toList lo hi:=by
  rw[qj,List.filterMap_map];unfold qE;rw[<- hn,<- BH];rfl
 unfold Txt.slice;split
 ·rename_i h;rw[Bool.and_eq_true]at h;have hl:(L9 lo hi 1 x.length).length=x.length:=by simpa using h.2
  rw[qj,KP,List.length_range]at hl;have b1:HT.sIx x.length x.length hi<=x.length:=HT.sIx_le _ _ (le_refl _) _;have h0:HT.sIx x.length 0 lo=0\/x.length=0:=by walk_at "o"
  have e:qE x.cps.toList lo hi=x.cps.toList:=by
   unfold qE;rw[<- hn];rcases h0 with h0|h0
   ·have h3:HT.sIx x.length x.length hi=x.length:=by walk_at "o"
    rw[h0,h3,List.drop_zero,Nat.sub_zero,hn,Nn]
   ·have:x.cps.toList=[]:=List.length_eq_zero_iff.mp (by walk_at "o")
    rw[this];simp
  rw[e]
 ·rw[key]
section
variable{X:Cx}
theorem CJ(hc:X.calm=true):cJ X (.builtin "sum") (fun xs H Q=>∃ (a:KE) (ns:List Int),xs=[.ref a]/\fV X.K H a (ns.map V.int)/\Q (.int ns.sum) H):=by
 intro pins s σ H xs us Q I rs h;obtain⟨a,ns,rfl,hq,q⟩:=h;obtain⟨u,rfl,ru⟩:=oX rs;cases ru;obtain⟨its,rv,p,hz⟩:=I.list hq;have hi:OA its ns:=xq rv;obtain⟨xs,ex⟩:=(show ∃ xs:Array (Int×Tok),its.toArray=intItems xs from hi.allInts.items)
 refine sum_intListG (I.ok.hd hc) (xs:=xs) (by rw[<- ex];exact p.isList) fun h' tk t' hk=>?_
 have e:preSum (OP xs) xs.size=ns.sum:=by
  rw[preSum_eq,List.take_of_length_le (by simp),<- nums_intItems,<- ex]
  simp[hi.numsOf]
 rw[e];exact⟨.int ns.sum,H,I.kept hk,⟨t',rfl⟩,q⟩
def f7(x:Str)(k:Nat):Str:=⟨(List.replicate k x.cps.toList).flatten.toArray⟩
theorem mY(x:Array Nat):∀ (k:Nat) (acc:List Nat),(List.replicate k x).foldl (· ++ ·) acc.toArray=(acc ++ (List.replicate k x.toList).flatten).toArray
 | 0,acc=>by simp
 | k+1,acc=>by
  rw[List.replicate_succ,List.foldl_cons,List.replicate_succ,List.flatten_cons];have:acc.toArray ++ x=(acc ++ x.toList).toArray:=by simp
  rw[this,mY x k];simp
theorem xa:fe X (Mh .Mult) (fun x y H Q=>∃ z n,x=.str z/\y=.int n/\-(2 ^ 63)<=n/\n < 2 ^ 63/\z.length*n.toNat<=KM/\Q (.str (f7 z n.toNat)) H):=by
 intro pins s σ H x y v u Q I rx ry h;obtain⟨z,n,rfl,rfl,h1,h2,hl,q⟩:=h;obtain⟨t,rfl⟩:=rx;obtain⟨t',rfl⟩:=ry;have hn:=i_;have yO:(f7 z n.toNat).length=z.length*n.toNat:=by
  simp[f7,Ou,Nat.mul_comm]
 have bound:¬ n < 1->(z.length:Int)<=(2 ^ 63 - 1) / n:=fun h=>by
  rw[Int.le_ediv_iff_mul_le (by walk_at "o")]
  have e:(z.length:Int)*n=((z.length*n.toNat:Nat):Int):=by
   rw[Int.natCast_mul,Int.toNat_of_nonneg (by walk_at "o")]
  rw[e];omega
 refine PySem.P.mul_str (by rw[decide_eq_false (by walk_at "o"),decide_eq_false (by walk_at "o")];rfl) (fun h _=>by have:=bound h;omega) (fun h _=>?_) ?_
 ·unfold Builtin.Str.tooLong;exact decide_eq_false (by walk_at "o")
 ·have fin:∀ tk s',Inv X pins σ H s'->∀ w,w=f7 z n.toNat->EP X pins σ Q (.str w tk) s':=fun tk s' I' w e=>⟨.str (f7 z n.toNat),H,I',⟨tk,by rw[e]⟩,q⟩
  split
  ·rename_i hlt;have:n.toNat=0:=by walk_at "o"
   exact⟨by decide,fin _ _ (I.tok _) _ (by rw[this];rfl)⟩
  ·split
   ·rename_i hlt he;refine fin _ _ I _ ?_;rw[Bool.or_eq_true]at he;rcases he with he|he
    ·have:n=1:=by simpa using he
     subst this;simp[f7]
    ·have hz:z.length=0:=by simpa using he
     have hz':z.cps=#[]:=Array.eq_empty_of_size_eq_zero hz;cases z;simp only at hz';subst hz';simp[f7]
   ·refine⟨?_,fin _ _ (I.tok _) _ ?_⟩
    ·show (⟨_⟩:Str).length<=KM;have e:=mY z.cps n.toNat [];simp only[M3]at e;rw[show (#[]:Array Nat)=[].toArray from rfl,e]
     exact le_trans (Oa yO) hl
    ·have e:=mY z.cps n.toNat [];simp only[M3]at e;rw[show (#[]:Array Nat)=[].toArray from rfl,e]
     rfl
theorem Fv:AH X (fun x lo hi H Q=>∃ z,x=.str z/\z.length<=KM/\Q (.str ⟨(qE z.cps.toList lo hi).toArray⟩) H):=by
 intro pins s σ H x v vl vu lo hi sl Q I rx hs pl pu h;obtain⟨z,rfl,hz,q⟩:=h;obtain⟨t,rfl⟩:=rx;refine⟨"str",_,PySem.F.slot_str_getitem.lookup,P6 _ _ _,?_⟩;have part:∀ {v:KC} {o:Option Int},Ov v o->∃ p:Option (Int×Tok),v=partValue p/\p.map (·.1)=o:=by
  intro v o h;cases h with
  | none=>exact⟨none,rfl,rfl⟩
  | int i t=>exact⟨some (i,t),rfl,rfl⟩
 obtain⟨pl',e1,f1⟩:=part pl;obtain⟨pu',e2,f2⟩:=part pu;subst e1 e2;refine wpAny_getItem_str_slice (l:=pl') (u:=pu') (st:=none) ?_ rfl ?_
 ·obtain⟨o,a,b,c⟩:=hs;exact⟨o,a,b,c⟩
 ·unfold sliceMade;subst f1 f2;have e:(if (((none:Option (Int×Tok)).map (·.1)).getD 1 == 1 && (slicePicked z pl' pu' none).length == z.length)=true then z else ⟨((slicePicked z pl' pu' none).filterMap (z.cps[·]?)).toArray⟩)=(⟨(qE z.cps.toList (pl'.map (·.1)) (pu'.map (·.1))).toArray⟩:Str):=by
   rw[<- zD];rfl
  refine post_val_or_str ⟨?_,fun t' k=>?_⟩
  ·rw[e];show (qE z.cps.toList (pl'.map (·.1)) (pu'.map (·.1))).toArray.size<=KM
   rw[KS];refine le_trans (qD _ _ _) ?_
   simpa[Ou]using hz
  ·rw[e];exact⟨.str _,H,I.tok k,⟨t',rfl⟩,q⟩
end
end L2
namespace L3
open PySem PySem.Spec PyProof.Rows L2
def ju(K:Nq)(r3:R3):R2:=fun v u H Q=>∃ x y G Q3,RD K H x v/\RD K H y u/\RG K H G/\r3 x y G Q3/\oB K G H Q3 Q
def eL(r:R3)(ta tb:aL):aL:=fun σ G Q=>ta σ G fun x G1=>tb σ G1 fun y G2=>r (val x) (val y) G2 Q
section
variable{X:Cx}{a b c:K4}{ta tb tc:aL}{pos:Pos}{r:R3}
theorem GT{K:Nq}{Q:VK}{τ:St}{H:Hp}(h:au K (eL r ta tb) τ H Q):GK (ju K r) (p7 K ta) (p7 K tb) τ H Q:=by
 obtain⟨σ,G,Q3,rs,rg,h,k⟩:=h;refine⟨σ,G,_,rs,rg,h,fun x G1 v H1 h1 k1 rg1 re1=>⟨σ,G1,_,rs.mono (k1.stb rg),rg1,h1,fun y G2 u H2 h2 k2 rg2 re2=>?_⟩⟩;exact⟨val x,val y,G2,Q3,RD.mono (k2.stb rg1) _ _ re1,re2,rg2,h2,k.base (k1.trans k2)⟩
theorem tM{op:N3}(ho:fe X (Ll op) (ju X.K r))(ha:PE X a (au X.K ta))(hb:PE X b (au X.K tb))(hm:LO op b=false):PE X (.Compare a [op] [b] pos) (au X.K (eL r ta tb)):=
 (DS ho (cH ha) (cH hb) hm).imp fun _ _ _ h=>GT h
theorem dh{op:N3}(ho:fe X (Ll op) (ju X.K r))(ha:PE X a (au X.K ta))(hb:PE X b (au X.K tb))(hm:LO op b=false):PT X (.Compare a [op] [b] pos) (bu X.K (cK (eL r ta tb))):=
 (xZ ho (cH ha) (cH hb) hm).imp fun _ _ _ h=>GT (sE h)
def yI:R3:=fun x y G Q=>match x,y with
 | .bl a,.bl b=>Q (.bl (a == b)) G
 | x,y=>pl 8 x/\pl 8 y/\Q (.bl (dE x y)) G
def FZ:R3:=fun x y G Q=>match x,y with
 | .bl a,.bl b=>Q (.bl (!(a == b))) G
 | x,y=>pl 8 x/\pl 8 y/\Q (.bl (!dE x y)) G
theorem oU(hu:X.A.units+8 < Ly):fe X (Ll .Eq) (ju X.K yI):=by
 rintro pins s σ H v u v' u' Q I rv ru ⟨x,y,G,Q3,rx,ry,rg,h,k⟩
 unfold yI at h;split at h
 ·rename_i a b;simp only[RD]at rx ry;subst rx ry;cases rv;cases ru;exact SeqAt.RcAt.bool_bool a b X.prog X.w X.xe _ ⟨.bl (a == b),H,I,rfl,k _ G _ H h Kp.refl rg (.of fu)⟩
 ·obtain⟨p1,p2,q⟩:=h;exact (su I 8 p1 p2 rx ry rv ru hu).rc X.prog X.w X.xe _ ⟨.bl _,H,I,rfl,k _ G _ H q Kp.refl rg (.of fu)⟩
theorem Dg(hu:X.A.units+8 < Ly):fe X (Ll .NotEq) (ju X.K FZ):=by
 rintro pins s σ H v u v' u' Q I rv ru ⟨x,y,G,Q3,rx,ry,rg,h,k⟩
 unfold FZ at h;split at h
 ·rename_i a b;simp only[RD]at rx ry;subst rx ry;cases rv;cases ru;exact SeqAt.RcNeAt.bool_bool a b X.prog X.w X.xe _ ⟨.bl (!(a == b)),H,I,rfl,k _ G _ H h Kp.refl rg (.of fu)⟩
 ·obtain⟨p1,p2,q⟩:=h;exact (su I 8 p1 p2 rx ry rv ru hu).ne X.prog X.w X.xe _ ⟨.bl _,H,I,rfl,k _ G _ H q Kp.refl rg (.of fu)⟩
abbrev de:=List D->Gp->fK->Prop
def bC(K:Nq)(sp:de):Sp:=fun vs H Q _=>∃ ds G Q3,RDs K H ds vs/\RG K H G/\sp ds G Q3/\oB K G H Q3 Q
def aw(N:List Str)(ds:List D):cL:=ds.map some ++ List.replicate (N.length - ds.length) none
theorem pi{K:Nq}{H:Hp}{N:List Str}{ds:List D}{vs:List V}(r:RDs K H ds vs):RS K H (aw N ds) (L2.start N vs):=by
 unfold aw L2.start;have hl:=r.length;rw[hl];have rep:∀ n:Nat,Nr (AI K H) (List.replicate n none) (List.replicate n none):=fun n=>by
  induction n with
  | zero=>exact .nil
  | succ n ih=>exact .cons (show AI K H none none from trivial) ih
 have go:∀ {ds:List D} {vs:List V} {σ:cL} {τ:St},RDs K H ds vs->Nr (AI K H) σ τ->Nr (AI K H) (ds.map some ++ σ) (vs.map some ++ τ):=by
  intro ds
  induction ds with
  | nil=>intro vs σ τ r q;rw[r.inv_nil];exact q
  | cons d t ih=>
   intro vs σ τ r q;obtain⟨x,xs,e,h1,h2⟩:=r.inv_cons;subst e;exact .cons (show AI K H (some d) (some x)from h1) (ih h2 q)
 exact go r (rep _)
variable{P:KQ}{w:K2}{K:Nq}{mg:Str->Option KC}{base:K1}
theorem Fun.ok3{x qual:Str}{st:Lf}{f:KE}{fd:Lz}{N ps:List Str}{k:Nat}{sp:de}(F:Fun K x qual st f fd)(S:FnScope N ps (ah st))(len:∀ ds G Q,sp ds G Q->ds.length=ps.length)
  (Qz:∀ (cdv:KC) (A:KY) (outer:List Env) (s:KF) (H:Hp) (E:XK),Room k (A.deeper (MR qual (ah st) s.heap.objs.size f cdv))->
   ∃ t:bh,fh (ow l_ P w K mg base N qual (ah st) f cdv A outer s H E).nox (bn st) (aZ K t)/\∀ ds G Q,sp ds G Q->t { nx:=fun _ G'=>Q .non G',rt:=Q } (aw N ds) G):FnOk P w K mg base l_ (k+1) f fd ps (bC K sp):=by
 refine F.ok S (fun vs H Q E ⟨ds,G,Q3,rds,rg,h,kk⟩=>by rw[<- rds.length];exact len ds G Q3 h) (fun cdv A outer s H vs Q E hr zz=>?_)
 obtain⟨ds,G,Q3,rds,rg,h,kk⟩:=zz;obtain⟨t,ht,hq⟩:=Qz cdv A outer s H E hr;refine⟨aZ K t,ht,aw N ds,G,{ nx:=fun _ G'=>Q3 .non G',rt:=Q3 },pi rds,rg,hq ds G Q3 h,⟨fun σ' G' τ' H' q k' rg' rs'=>kk _ G' _ H' q k' rg' (.of pG),kk,fun _ _ _ _ q=>q.elim,fun _ _ _ _ q=>q.elim⟩⟩
structure Fn3(P:KQ)(w:K2)(K:Nq)(mg:Str->Option KC)(base:K1)(k:Nat)(x:Str)(dds:List D)(sp:de):Prop where
 ex:∃ f fd ps ds dvs,FnOk P w K mg base l_ k f fd ps (bC K sp)/\mg x=some (.ref f)/\OK K (.ref f)=true/\db K fd ps ds/\Vals dvs ds/\∀ H,RDs K H dds dvs
structure Mt3(P:KQ)(w:K2)(K:Nq)(mg:Str->Option KC)(base:K1)(k:Nat)(C:KE)(m:Str)(dds:List D)(sp:de):Prop where
 cl:Cls K C
 ex:∃ f fd ps ds dvs,FnOk P w K mg base l_ k f fd ps (bC K sp)/\Meth K C m f/\db K fd ps ds/\Vals dvs ds/\∀ H,RDs K H dds dvs
structure Mk3(P:KQ)(w:K2)(K:Nq)(mg:Str->Option KC)(base:K1)(k:Nat)(x:Str)(C:KE)(dds:List D)(sp:de):Prop where
 ex:∃ f fd ps ds dvs,Mk K C f/\mg x=some (.ref C)/\FnOk P w K mg base l_ k f fd ps (bC K sp)/\db K fd ps ds/\Vals dvs ds/\∀ H,RDs K H dds dvs
def aM(sp:de)(dds:List D)(ta:iF):aL:=fun σ G Q=>ta σ G fun ds G1=>sp (ds ++ dds) G1 Q
def cU(C:KE)(L:List Str)(sp:de)(dds:List D)(to:aL)(ta:iF):aL:=fun σ G Q=>to σ G fun x G1=>match x with
 | .ref a=>match G1 a with
  | some (.ins C' L' _)=>(C'=C/\L'=L)/\ta σ G1 fun ds G2=>sp (.ref a::(ds ++ dds)) G2 Q
  | _=>False
 | _=>False
def iA(C:KE)(sp:de)(dds:List D)(ta:iF):aL:=fun σ G Q=>ta σ G fun ds G1=>∀ a,G1 a=none->sp (.ref a::(ds ++ dds)) (gset G1 a (.ins C [] [])) fun d G2=>d=.non/\Q (.ref a) G2
variable{e o:K4}{es:List K4}{t:iF}{te to:aL}{k:Nat}{x m:Str}{p apos:Pos}{dds:List D}{sp:de}{C:KE}
theorem AC{Q:VK}{τ:St}{H:Hp}{dvs:List V}(hd:∀ H,RDs K H dds dvs)(h:au K (aM sp dds t) τ H Q)(E:XK):EU (bC K sp) dvs E (cT K t) τ H Q:=by
 obtain⟨σ,G,Q3,rs,rg,h,kk⟩:=h;exact⟨σ,G,_,rs,rg,h,fun ds G1 vs H1 q k1 rg1 rds=>⟨ds ++ dds,G1,Q3,rds.append (hd H1),rg1,q,kk.base k1⟩⟩
theorem aJ(F:Fn3 X.prog X.w X.K X.mg X.base k x dds sp)(hr:Room k X.A)(hg:Gl X x)(ha:PA X (e::es) (cT X.K t))(hdb:(x == ("__debug__":Str))=false:=by decide)(he:KO (e::es) X.env=(false,eval e X.env)::KO es X.env:=by rfl)
  (hpl:(LN pos (KO es X.env)).any (·.1)=false:=by rfl):PE X (.Call (.Name x p) (e::es) [] pos) (au X.K (aM sp dds t)):=by
 obtain⟨f,fd,ps,ds,dvs,ok,hm,hk,hb,hv,hd⟩:=F.ex;exact (yG ok hr hg hm hk hb hv vn ha hdb he hpl).imp fun _ _ _ h=>AC hd h E0
theorem mK{K:Nq}{gs:List (Str×V)}{L:List Str}{m:Str}(h:gs.map (·.1)=L)(n:m∉L):gs.lookup m=none:=by
 subst h
 induction gs with
 | nil=>rfl
 | cons g r ih=>
  obtain⟨y,v⟩:=g;rw[K3,Le,not_or]at n;rw[L_,show (m == y)=false by simpa using n.1]
  exact ih n.2
theorem Ac{Q:VK}{τ:St}{H:Hp}{dvs:List V}{L:List Str}(hL:m∉L)(hd:∀ H,RDs K H dds dvs)(h:au K (cU C L sp dds to t) τ H Q)(E:XK):A4 C m (bC K sp) dvs E (au K to) (cT K t) τ H Q:=by
 obtain⟨σ,G,Q3,rs,rg,h,kk⟩:=h;refine⟨σ,G,_,rs,rg,h,fun d G1 v H1 q k1 rg1 re=>?_⟩;cases d with
 | ref a=>
  dsimp only at q;split at q
  ·rename_i C' L' ds hg;obtain⟨⟨rfl,rfl⟩,q⟩:=q;obtain⟨ho,e1,ro⟩:=rg1 a _ hg;cases ho with
   | ins C2 dx gs=>
    obtain⟨rfl,r2,r3⟩:=ro;refine⟨a,dx,gs,re.ref,e1,mK (K:=K) r2 hL,σ,G1,_,rs.mono (k1.stb rg),rg1,q,fun ds' G2 vs H2 q2 k2 rg2 rds=>?_⟩;rw[re.ref];exact⟨.ref a::(ds' ++ dds),G2,Q3,RDs.cons d8 (rds.append (hd H2)),rg2,q2,kk.base (k1.trans k2)⟩
   | _=>exact ro.elim
  ·exact q.elim
 | _=>exact q.elim
theorem i3{pl:Sem Bool}{L:List Str}(F:Mt3 X.prog X.w X.K X.mg X.base k C m dds sp)(hL:m∉L)(hr:Room k X.A)(ho:PE X o (au X.K to))(ha:PA X (e::es) (cT X.K t))
  (hst:KO (e::es) X.env=(false,eval e X.env)::KO es X.env:=by rfl) (hpl:(LN pos (KO es X.env)).any (·.1)=false:=by rfl)
  (ht:eval (.Call (.Attribute o m apos) (e::es) [] pos) X.env=(do
   let ov <- eval o X.env
   Nu apos.atName
   let (f,first) <- holding [ov] (Nv ov m pl)
   Oz pos f first (LN pos (KO (e::es) X.env)) (No pos (Mv [] X.env))):=by rfl):
  PE X (.Call (.Attribute o m apos) (e::es) [] pos) (au X.K (cU C L sp dds to t)):=by
 obtain⟨f,fd,ps,ds,dvs,ok,hm,hb,hv,hd⟩:=F.ex;exact (DP ho F.cl hm ok hr hb hv vn ha hst hpl ht).imp fun _ _ _ h=>Ac hL hd h E0
theorem fP{pl:Sem Bool}{L:List Str}(F:Mt3 X.prog X.w X.K X.mg X.base k C m dds sp)(hL:m∉L)(hr:Room k X.A)(ho:PE X o (au X.K to))
  (ht:eval (.Call (.Attribute o m apos) [] [] pos) X.env=(do
   let ov <- eval o X.env
   Nu apos.atName
   let (f,first) <- holding [ov] (Nv ov m pl)
   Oz pos f first (LN pos (KO [] X.env)) (No pos (Mv [] X.env))):=by rfl):
  PE X (.Call (.Attribute o m apos) [] [] pos) (au X.K (cU C L sp dds to av)):=by
 obtain⟨f,fd,ps,ds,dvs,ok,hm,hb,hv,hd⟩:=F.ex;refine (BM ho F.cl hm ok hr hb hv vn ht).imp fun τ H Q h=>?_;obtain⟨σ,G,Q3,rs,rg,h,kk⟩:=h;refine⟨σ,G,_,rs,rg,h,fun d G1 v H1 q k1 rg1 re=>?_⟩;cases d with
 | ref a=>
  dsimp only at q;split at q
  ·rename_i C' L' ds hg;obtain⟨⟨rfl,rfl⟩,q⟩:=q;obtain⟨ho,e1,ro⟩:=rg1 a _ hg;cases ho with
   | ins C2 dx gs=>
    obtain⟨rfl,r2,r3⟩:=ro;refine⟨a,dx,gs,re.ref,e1,mK (K:=X.K) r2 hL,?_⟩;rw[re.ref];exact⟨.ref a::([] ++ dds),G1,Q3,RDs.cons d8 (hd H1),rg1,q,kk.base k1⟩
   | _=>exact ro.elim
  ·exact q.elim
 | _=>exact q.elim
theorem Ad{Q:VK}{τ:St}{H:Hp}{dvs:List V}(hd:∀ H,RDs K H dds dvs)(h:au K (iA C sp dds t) τ H Q)(E:XK):ET C (bC K sp) dvs E (cT K t) τ H Q:=by
 obtain⟨σ,G,Q3,rs,rg,h,kk⟩:=h;refine⟨σ,G,_,rs,rg,h,fun ds G1 vs H1 q k1 rg1 rds a dx na nd ne=>?_⟩;have kd:Kp G1 H1 G1 (aI H1 dx (.own a)):=Kp.laid nd;have rgd:RG K (aI H1 dx (.own a)) G1:=rg1.laid nd;have na':aI H1 dx (.own a) a=none:=by rw[aj (Ne.symm ne)];exact na
 have ka:Kp G1 H1 (gset G1 a (.ins C [] [])) (aI (aI H1 dx (.own a)) a (.ins C dx [])):=fun b h' e n=>by
  have:b≠a:=bf e na;exact⟨by rw[aj this,aj (bf e nd)];exact e,by rw[af this];exact n⟩
 have st:Stb K H1 (aI (aI H1 dx (.own a)) a (.ins C dx [])):=ka.stb rg1;have rga:RG K (aI (aI H1 dx (.own a)) a (.ins C dx [])) (gset G1 a (.ins C [] [])):=fun b o q=>by
  by_cases hb:b=a
  ·subst hb;rw[ai]at q;cases q;exact⟨_,ay,rfl,rfl,RDs.nil⟩
  ·rw[af hb]at q;obtain⟨h',e1,r⟩:=rg1 b o q;exact⟨h',by rw[aj hb,aj (bf e1 nd)];exact e1,r.mono st⟩
 refine⟨.ref a::(ds ++ dds),_,_,RDs.cons d8 (RDs.append (RDs.mono st _ _ rds) (hd _)),rga,q a (rg1.free na),fun d G2 v H2 q2 k2 rg2 re=>?_⟩;obtain⟨rfl,q2⟩:=q2;exact⟨re.non,kk _ G2 _ H2 q2 (k1.trans (ka.trans k2)) rg2 (.of d8)⟩
theorem tK(F:Mk3 X.prog X.w X.K X.mg X.base k x C dds sp)(hr:Room (k+1) X.A)(hg:Gl X x)(ha:PA X (e::es) (cT X.K t))(hdb:(x == ("__debug__":Str))=false:=by decide)(he:KO (e::es) X.env=(false,eval e X.env)::KO es X.env:=by rfl)
  (hpl:(LN pos (KO es X.env)).any (·.1)=false:=by rfl):PE X (.Call (.Name x p) (e::es) [] pos) (au X.K (iA C sp dds t)):=by
 obtain⟨f,fd,ps,ds,dvs,M,hm,ok,hb,hv,hd⟩:=F.ex;exact (DQ M ok hr hg hm hb hv vn ha hdb he hpl).imp fun _ _ _ h=>Ad hd h E0
def gT(C:KE)(L:List Str)(i:Nat)(to:aL):aL:=fun σ G Q=>to σ G fun x G1=>match x with
 | .ref a=>match G1 a with
  | some (.ins C' L' ds)=>(C'=C/\L'=L)/\match ds[i]? with
   | some d=>Q d G1
   | none=>False
  | _=>False
 | _=>False
def uH(L:List Str)(f:Str)(i:Nat):Prop:=L[i]?=some f/\∀ j,j < i->L[j]?≠some f
theorem yM:∀ {gs:List (Str×V)} {f:Str} {i:Nat} {v:V},uH (gs.map (·.1)) f i->(gs.map (·.2))[i]?=some v->gs.lookup f=some v
 | [],f,i,v,h,e=>by simp at e
 | (g,u)::r,f,0,v,h,e=>by
  have:g=f:=by simpa using h.1
  subst this;simp at e;subst e;rw[L_,beq_self_eq_true]
 | (g,u)::r,f,i+1,v,h,e=>by
  have ne:g≠f:=fun z=>h.2 0 (Nat.succ_pos _) (by simp[z])
  rw[L_,show (f == g)=false by simpa using Ne.symm ne]
  exact yM (i:=i) ⟨by simpa using h.1,fun j hj z=>h.2 (j+1) (Nat.succ_lt_succ hj) (by simpa using z)⟩ (by simpa using e)
theorem put_new:∀ {gs:List (Str×V)} {f:Str} (v:V),f∉gs.map (·.1)->e_ f v gs=gs ++ [(f,v)]
 | [],f,v,h=>rfl
 | (g,u)::r,f,v,h=>by
  rw[K3,Le,not_or]at h;simp only[e_,if_neg (Ne.symm h.1),put_new v h.2,ML]
theorem fB{f:Str}{L:List Str}{i:Nat}(cl:Cls X.K C)(na:bE X.K C f)(hi:uH L f i)(ho:PE X o (au X.K to))(hb:Ls o f X.env (eval o X.env)=eval o X.env:=by rfl):PE X (.Attribute o f pos) (au X.K (gT C L i to)):=
 (BN ho hb).imp fun τ H Q zz=>by
 obtain⟨σ,G,Q3,rs,rg,h,kk⟩:=zz;exact (
  ⟨σ,G,_,rs,rg,h,fun d G1 v H1 q k1 rg1 re=>by
    cases d with
    | ref a=>
     dsimp only at q;split at q
     ·rename_i C' L' ds hg;obtain⟨⟨rfl,rfl⟩,q⟩:=q;split at q
      ·rename_i d hd;obtain⟨ho,e1,ro⟩:=rg1 a _ hg;cases ho with
       | ins C2 dx gs=>
        obtain⟨rfl,r2,r3⟩:=ro;subst r2;obtain⟨w,hw,rd⟩:=r3.get hd;exact⟨a,_,dx,gs,w,re.ref,e1,cl,na,yM hi hw,kk _ G1 _ H1 q k1 rg1 (.of rd)⟩
       | _=>exact ro.elim
      ·exact q.elim
     ·exact q.elim
    | _=>exact q.elim⟩)
def Hf(C:KE)(L:List Str)(i:Nat)(to tv:aL):bh:=fun D σ G=>tv σ G fun d G1=>to σ G1 fun x G2=>match x with
 | .ref a=>match G2 a with
  | some (.ins C' L' ds)=>(C'=C/\L'=L)/\D.nx σ (gset G2 a (.ins C L (ds.set i (val d))))
  | _=>False
 | _=>False
def iS(C:KE)(L:List Str)(f:Str)(to tv:aL):bh:=fun D σ G=>tv σ G fun d G1=>to σ G1 fun x G2=>match x with
 | .ref a=>match G2 a with
  | some (.ins C' L' ds)=>(C'=C/\L'=L)/\D.nx σ (gset G2 a (.ins C (L ++ [f]) (ds ++ [val d])))
  | _=>False
 | _=>False
theorem put_ok{H:Hp}{G:Gp}{a:KE}{C2 dx:KE}{gs gs':List (Str×V)}{L':List Str}{ds':List D}(rg:RG K H G)(e1:H a=some (.ins C2 dx gs))(r1:gs'.map (·.1)=L')(r2:RDs K H ds' (gs'.map (·.2)))(hg:G a≠none):
  Kp G H (gset G a (.ins C2 L' ds')) (aI H a (.ins C2 dx gs'))/\RG K (aI H a (.ins C2 dx gs')) (gset G a (.ins C2 L' ds')):=by
 have kp:Kp G H (gset G a (.ins C2 L' ds')) (aI H a (.ins C2 dx gs')):=fun b h e n=>by
  have:b≠a:=fun z=>by subst z;exact hg n
  exact⟨by rw[aj this];exact e,by rw[af this];exact n⟩
 have st:=kp.stb rg;refine⟨kp,fun b o q=>?_⟩
 by_cases hb:b=a
 ·subst hb;rw[ai]at q;cases q;exact⟨_,ay,rfl,r1,RDs.mono st _ _ r2⟩
 ·rw[af hb]at q;obtain⟨h',e2,r⟩:=rg b o q;exact⟨h',by rw[aj hb];exact e2,r.mono st⟩
theorem h_{f:Str}{L:List Str}{pos':Pos}(cl:Cls X.K C)(na:bE X.K C f)(hi:f∉L)(hl:L.length < 1000)(ho:PE X o (au X.K to))(hv:PE X e (au X.K te))(hs:Mb e (some (.Attribute o f pos')) pos.line X.env=pure false:=by rfl):
  PS X (.Assign [.Attribute o f pos'] e pos) (aZ X.K (iS C L f to te)):=
 (BE ho (cH hv) hs).imp fun D τ H zz=>by
 obtain⟨σ,G,D3,rs,rg,h,kk⟩:=zz;exact (
  ⟨σ,G,_,rs,rg,h,fun d G1 v H1 q1 k1 rg1 rd=>⟨σ,G1,_,rs.mono (k1.stb rg),rg1,q1,fun x G2 u H2 q2 k2 rg2 re=>by
    cases x with
    | ref a=>
     dsimp only at q2;split at q2
     ·rename_i C' L' ds hg;obtain⟨⟨rfl,rfl⟩,q2⟩:=q2;obtain⟨ho,e1,ro⟩:=rg2 a _ hg;cases ho with
      | ins C2 dx gs=>
       obtain⟨rfl,r2,r3⟩:=ro;subst r2;have rd2:=RD.mono (k2.stb rg1) _ _ rd;obtain⟨kp,rg3⟩:=put_ok (gs':=e_ f v gs) (L':=gs.map (·.1) ++ [f]) (ds':=ds ++ [val d]) rg2 e1 (by rw[put_new v hi];simp) (by rw[put_new v hi,LQ];exact r3.append (RDs.cons rd2 RDs.nil)) (by rw[hg];exact fun z=>nomatch z)
       exact⟨a,_,dx,gs,re.ref,e1,cl,na,by simpa using hl,kk.nx _ _ _ _ q2 ((k1.trans k2).trans kp) rg3 (rs.mono ((((k1.trans k2).trans kp)).stb rg))⟩
      | _=>exact ro.elim
     ·exact q2.elim
    | _=>exact q2.elim⟩⟩)
def Jq(te:aL)(g:m6):bh:=fun D σ G=>te σ G fun d G'=>g (val d) σ G' D.nx
abbrev ww:=List D->Gp->fK->Prop
def j7(K:Nq)(r3:ww):List V->Hp->VK->Prop:=fun vs H Q=>∃ ds G Q3,RDs K H ds vs/\RG K H G/\r3 ds G Q3/\oB K G H Q3 Q
def eB(r:ww)(ta:iF):aL:=fun σ G Q=>ta σ G fun ds G1=>r ds G1 Q
variable{id T:String}{r3:ww}
theorem E9{Q:VK}{τ:St}{H:Hp}(h:au K (eB r3 t) τ H Q):Jm (j7 K r3) (cT K t) τ H Q:=by
 obtain⟨σ,G,Q3,rs,rg,h,kk⟩:=h;exact⟨σ,G,_,rs,rg,h,fun ds G1 vs H1 q k1 rg1 rds=>⟨ds,G1,Q3,rds,rg1,q,kk.base k1⟩⟩
theorem bw(hc:cJ X (.builtin id) (j7 X.K r3))(hg:Gl X x)(hm:X.mg x=none)(hv:LM x=some (.builtin id))(ha:PA X (e::es) (cT X.K t))(hn:x≠"__name__":=by decide)(hdb:(x == ("__debug__":Str))=false:=by decide)
  (he:KO (e::es) X.env=(false,eval e X.env)::KO es X.env:=by rfl) (hpl:(LN pos (KO es X.env)).any (·.1)=false:=by rfl):PE X (.Call (.Name x p) (e::es) [] pos) (au X.K (eB r3 t)):=
 (BP hc hg hm hv ha hn hdb he hpl).imp fun _ _ _ h=>E9 h
theorem vq(hc:cJ X (.type T) (j7 X.K r3))(hg:Gl X x)(hm:X.mg x=none)(hv:LM x=some (.type T))(ha:PA X (e::es) (cT X.K t))(hn:x≠"__name__":=by decide)(hdb:(x == ("__debug__":Str))=false:=by decide)
  (he:KO (e::es) X.env=(false,eval e X.env)::KO es X.env:=by rfl) (hpl:(LN pos (KO es X.env)).any (·.1)=false:=by rfl):PE X (.Call (.Name x p) (e::es) [] pos) (au X.K (eB r3 t)):=
 (zY hc hg hm hv ha hn hdb he hpl).imp fun _ _ _ h=>E9 h
def wm:ww:=fun ds G Q=>match ds with
 | [.str z]=>z.length<=KM/\Q (.int z.length) G
 | [d]=>match C9 G d with
  | some es=>Q (.int es.length) G
  | none=>False
 | _=>False
theorem dj{H:Hp}{d:D}{vs:List V}(r:RDs K H [d] vs):∃ v,vs=[v]/\RD K H d v:=by
 obtain⟨v,t,e,h1,h2⟩:=r.inv_cons;have:=h2.inv_nil;subst this;exact⟨v,e,h1⟩
theorem b_len:cJ X (.builtin "len") (j7 X.K wm):=((ux (X:=X)).or (uy (X:=X))).imp fun vs H Q zz=>by
 obtain⟨ds,G,Q3,rds,rg,h,kk⟩:=zz;unfold wm at h;split at h
 ·rename_i z;obtain⟨v,rfl,rd⟩:=dj rds;simp only[RD]at rd;subst rd;exact .inl ⟨z,rfl,h.1,kk _ G _ H h.2 Kp.refl rg (.of bQ)⟩
 ·rename_i d _;obtain⟨v,rfl,rd⟩:=dj rds;split at h
  ·rename_i es he;obtain⟨a,xs,rfl,s,r⟩:=qK (G:=G) (H:=H) he (.of rd) rg;exact .inr ⟨a,xs,rfl,s,by rw[<- r.length];exact kk _ G _ H h Kp.refl rg (.of bQ)⟩
  ·exact h.elim
 ·exact h.elim
def ze:ww:=fun ds G Q=>match ds with
 | [d]=>match C9 G d with
  | some es=>Q (.fl es) G
  | none=>False
 | _=>False
theorem b_list:cJ X (.type "list") (j7 X.K ze):=(uw (X:=X)).imp fun vs H Q zz=>by
 obtain⟨ds,G,Q3,rds,rg,h,kk⟩:=zz;unfold ze at h;split at h
 ·rename_i d;obtain⟨v,rfl,rd⟩:=dj rds;split at h
  ·rename_i es he;obtain⟨a,xs,rfl,s,r⟩:=qK (G:=G) (H:=H) he (.of rd) rg;exact⟨a,xs,rfl,s,fun p hp=>kk _ G _ _ h (Kp.laid hp) (rg.laid hp) (qx rg hp r)⟩
  ·exact h.elim
 ·exact h.elim
def xE:ww:=fun ds G Q=>match ds with
 | [d]=>match C9 G d with
  | some es=>Q (.tup es) G
  | none=>False
 | _=>False
theorem b_tuple:cJ X (.type "tuple") (j7 X.K xE):=(rL (X:=X)).imp fun vs H Q zz=>by
 obtain⟨ds,G,Q3,rds,rg,h,kk⟩:=zz;unfold xE at h;split at h
 ·rename_i d;obtain⟨v,rfl,rd⟩:=dj rds;split at h
  ·rename_i es he;obtain⟨a,xs,rfl,s,r⟩:=qK (G:=G) (H:=H) he (.of rd) rg;refine⟨a,xs,rfl,?_⟩;rcases s with s|s
   ·exact .inl ⟨s,fun p hp=>kk _ G _ _ h (Kp.laid hp) (rg.laid hp) (.of (gX rg hp r))⟩
   ·exact .inr ⟨s,kk _ G _ H h Kp.refl rg (.of (mz s r))⟩
  ·exact h.elim
 ·exact h.elim
def EA:ww:=fun ds G Q=>match ds with
 | [d]=>∃ ns:List Int,sB G d=some (ns.map D.int)/\Q (.int ns.sum) G
 | _=>False
theorem b_sum(hc:X.calm=true):cJ X (.builtin "sum") (j7 X.K EA):=(CJ (X:=X) hc).imp fun vs H Q zz=>by
 obtain⟨ds,G,Q3,rds,rg,h,kk⟩:=zz;unfold EA at h;split at h
 ·rename_i d;obtain⟨v,rfl,rd⟩:=dj rds;obtain⟨ns,he,h⟩:=h;obtain⟨a,xs,rfl,s,r⟩:=m5 (G:=G) (H:=H) he (.of rd) rg;rw[r.ints_inv ns]at s;exact⟨a,ns,rfl,s,kk _ G _ H h Kp.refl rg (.of bQ)⟩
 ·exact h.elim
def JO:ww:=fun ds G Q=>match ds with
 | [.int i,.int j]=>Q (.int (if j < i then j else i)) G
 | _=>False
def GA:ww:=fun ds G Q=>match ds with
 | [.int i,.int j]=>Q (.int (if j > i then j else i)) G
 | _=>False
theorem AZ{H:Hp}{i j:Int}{vs:List V}(r:RDs K H [.int i,.int j] vs):vs=[.int i,.int j]:=by
 obtain⟨v,t,e,h1,h2⟩:=r.inv_cons;obtain⟨u,e2,h3⟩:=dj h2;simp only[RD]at h1 h3;subst e e2 h1 h3;rfl
theorem b_max(hc:X.calm=true):cJ X (.builtin "max") (j7 X.K GA):=(AD (X:=X) hc).imp fun vs H Q zz=>by
 obtain⟨ds,G,Q3,rds,rg,h,kk⟩:=zz;unfold GA at h;split at h
 ·rename_i i j;exact⟨i,j,AZ rds,kk _ G _ H h Kp.refl rg (.of bQ)⟩
 ·exact h.elim
end
section
variable{X:Cx}
def vz:R3:=fun x y G Q=>match x,y with
 | .int i,.int j=>EN i j/\Q (.int (i*j)) G
 | .str z,.int n=>(-(2 ^ 63)<=n/\n < 2 ^ 63/\z.length*n.toNat<=KM)/\Q (.str (f7 z n.toNat)) G
 | _,_=>False
theorem xO:fe X (Mh .Mult) (cv X.K vz):=((FT (X:=X)).or (xa (X:=X))).imp fun v u H Q zz=>by
 obtain⟨x,y,G0,H0,G,Q3,rx,ry,rg,h,k⟩:=zz;unfold vz at h;split at h
 ·rename_i i j;exact .inl ⟨i,j,rx.int,ry.int,h.1,k _ G _ H h.2 Kp.refl rg (.of bQ)⟩
 ·rename_i z n;exact .inr ⟨z,n,rx.str,ry.int,h.1.1,h.1.2.1,h.1.2.2,k _ G _ H h.2 Kp.refl rg (.of h8)⟩
 ·exact h.elim
def A9:ID:=fun x lo hi G Q=>match x with
 | .str z=>z.length<=KM/\Q (.str ⟨(qE z.cps.toList lo hi).toArray⟩) G
 | .tup ds=>¬ (HT.sIx ds.length 0 lo=0/\HT.sIx ds.length ds.length hi=ds.length)/\Q (.tup (cutD ds lo hi)) G
 | x=>match sB G x with
  | some ds=>Q (.fl (cutD ds lo hi)) G
  | none=>False
theorem zt:AH X (B_ X.K A9):=((Fv (X:=X)).or ((Fu (X:=X)).or (Dq (X:=X)))).imp fun v lo hi H Q zz=>by
 obtain⟨x,G0,H0,G,Q3,rx,rg,h,k⟩:=zz;unfold A9 at h;split at h
 ·rename_i z;exact .inl ⟨z,rx.str,h.1,k _ G _ H h.2 Kp.refl rg (.of h8)⟩
 ·rename_i ds;obtain⟨a,xs,rfl,s,r⟩:=rx.tup;refine .inr (.inl ⟨a,xs,rfl,s,by rw[<- r.length];exact h.1,fun p hp=>k _ G _ _ h.2 (Kp.laid hp) (rg.laid hp) (.of (gX rg hp (yW r lo hi)))⟩)
 ·split at h
  ·rename_i ds hds;obtain⟨a,xs,rfl,s,r⟩:=m5 hds rx rg;exact .inr (.inr ⟨a,xs,rfl,s,fun p hp=>k _ G _ _ h (Kp.laid hp) (rg.laid hp) (qx rg hp (yW r lo hi))⟩)
  ·exact h.elim
def HZ(to:aL)(ta:iF):aL:=fun σ G Q=>to σ G fun x G1=>match x with
 | .str z=>ta σ G1 fun ds G2=>match ds with
  | [d]=>∃ ys:List Str,sB G2 d=some (ys.map D.str)/\(ys.map (·.length)).sum+ys.length*z.length<=16777216/\Q (.str (Txt.join z ys)) G2
  | _=>False
 | _=>False
variable{o e:K4}{es:List K4}{to te:aL}{t:iF}{apos cpos pos p:Pos}
def fT(to:aL)(ta:iF):aL:=fun σ G Q=>to σ G fun x G1=>match x with
 | .ref a=>(∃ ds,G1 a=some (.lst ds))/\ta σ G1 fun es G2=>match es with
  | [d]=>match G2 a with
   | some (.lst ds)=>ds.length < KM/\Q .non (gset G2 a (.lst (ds ++ [d])))
   | _=>False
  | _=>False
 | _=>False
theorem Ea{K:Nq}{H:Hp}{G:Gp}{a:KE}{xs ys:List V}{ds':List D}(rg:RG K H G)(e1:H a=some (.lst xs))(r2:RDs K H ds' ys)(hg:G a≠none):
  Kp G H (gset G a (.lst ds')) (aI H a (.lst ys))/\RG K (aI H a (.lst ys)) (gset G a (.lst ds')):=by
 have kp:Kp G H (gset G a (.lst ds')) (aI H a (.lst ys)):=fun b h e n=>by
  have:b≠a:=fun z=>by subst z;exact hg n
  exact⟨by rw[aj this];exact e,by rw[af this];exact n⟩
 have st:=kp.stb rg;refine⟨kp,fun b o q=>?_⟩
 by_cases hb:b=a
 ·subst hb;rw[ai]at q;cases q;exact⟨_,ay,RDs.mono st _ _ r2⟩
 ·rw[af hb]at q;obtain⟨h',e2,r⟩:=rg b o q;exact⟨h',by rw[aj hb];exact e2,r.mono st⟩
theorem pZ{K:Nq}{H:Hp}{G:Gp}{a:KE}{ds:List D}(rg:RG K H G)(e:G a=some (.lst ds)):∃ xs,H a=some (.lst xs)/\RDs K H ds xs:=by
 obtain⟨ho,e1,ro⟩:=rg a _ e;cases ho with
 | lst xs=>exact⟨xs,e1,ro⟩
 | _=>exact ro.elim
theorem pR(ho:PE X o (au X.K to))(ha:PA X [e] (cT X.K t))(Qx:Ls o "append" X.env (eval o X.env)=eval o X.env:=by rfl)
  (Sf:((LN cpos (KO [e] X.env)).all (fun x=>!x.1) && (No cpos (Mv [] X.env)).all (fun x=>x.1.isSome)
   && decide (([e]:List K4).length+([]:List NY).length+(if ([]:List NY).isEmpty then 0 else 1) < 30))=true:=by rfl)
  (Qy:(apos.endLine == cpos.line)=true:=by rfl) (hs:KO [e] X.env=(false,eval e X.env)::KO [] X.env:=by rfl) (QH:(LN cpos (KO [] X.env)).any (·.1)=false:=by rfl):
  PE X (.Call (.Attribute o "append" apos) [e] [] cpos) (au X.K (fT to t)):=
 (Hw PySem.F.plainAttrs_list PySem.F.slot_list_append PySem.F.type_list_append se ho ha Qx Sf Qy hs QH).imp fun τ H Q zz=>by
 obtain⟨σ,G,Q3,rs,rg,h,k⟩:=zz;exact (
  ⟨σ,G,_,rs,rg,h,fun d G1 v H1 q k1 rg1 re=>by
    cases d with
    | ref a=>
     rw[re.ref];obtain⟨⟨ds,hg⟩,q⟩:=q;obtain⟨xs,e1,r1⟩:=pZ rg1 hg;refine⟨.inl ⟨rfl,xs,fV.of e1⟩,σ,G1,_,rs.mono (k1.stb rg),rg1,q,fun es G2 vs H2 q2 k2 rg2 rds=>?_⟩;split at q2
     ·rename_i d;obtain⟨v2,rfl,rd⟩:=dj rds;split at q2
      ·rename_i ds2 hg2;obtain⟨xs2,e2,r2⟩:=pZ rg2 hg2;have rr:RDs X.K H2 (ds2 ++ [d]) (xs2 ++ [v2]):=r2.append (RDs.cons rd RDs.nil);obtain⟨kp,rg3⟩:=Ea rg2 e2 rr (by rw[hg2];exact fun z=>nomatch z)
       exact⟨a,xs2,v2,rfl,rfl,e2,by rw[<- r2.length];exact q2.1,k _ _ _ _ q2.2 ((k1.trans k2).trans kp) rg3 (.of pG)⟩
      ·exact q2.elim
     ·exact q2.elim
    | _=>exact q.elim⟩)
def tZ(G:Gp):D->Option String
 | .int _=>some "int"
 | .str _=>some "str"
 | .bl _=>some "bool"
 | .tup _=>some "tuple"
 | d=>(sB G d).map fun _=>"list"
def JQ:ww:=fun ds G Q=>match ds with
 | [d,.ty T]=>tZ G d=some T/\Q (.bl true) G
 | _=>False
theorem HA{x:Str}{T:String}(hg:Gl X x)(hm:X.mg x=none)(hv:LM x=some (.type T))(hn:x≠"__name__":=by decide)(hd:(x == ("__debug__":Str))=false:=by decide):PE X (.Name x pos) (au X.K (eC (.ty T))):=
 GL (DT (v:=.ty T) hg hm hv rfl hn hd) fun _=>by simp only[RD]
theorem yH{x:Str}{d:D}{v:V}{u:KC}(hg:Gl X x)(hm:X.mg x=some u)(r:RelV v u)(rd:∀ H,RD X.K H d v)(hd:(x == ("__debug__":Str))=false:=by decide):PE X (.Name x pos) (au X.K (eC d)):=GL (yE hg hm r hd) rd
def Ct(te:aL):aL:=fun σ G Q=>te σ G fun x G1=>match x with
 | .int i=>Q (.int (-i)) G1
 | _=>False
theorem EY(he:PE X e (au X.K te)):PE X (.UnaryOp .USub e pos) (au X.K (Ct te)):=(Hs Fj he).imp fun τ H Q ⟨σ,G,Q3,rs,rg,h,k⟩=>⟨σ,G,_,rs,rg,h,fun d G1 v H1 q k1 rg1 re=>by
 cases d with
 | int i=>exact⟨i,re.int,k _ G1 _ H1 q k1 rg1 (.of bQ)⟩
 | _=>exact q.elim⟩
end
theorem jx{L:List Str}{f:Str}{i:Nat}(h:L.findIdx? (· == f)=some i):uH L f i:=by
 rw[List.findIdx?_eq_some_iff_getElem]at h;obtain⟨hi,h1,h2⟩:=h;refine⟨?_,fun j hj e=>?_⟩
 ·rw[KW hi]
  simpa using h1
 ·have hj':j < L.length:=Nat.lt_trans hj hi;have:=h2 j hj;rw[KW hj']at e;simp only[Option.some.injEq]at e;rw[e]at this;simp at this
def yY(N:List Str)(osc scope:MX)(T M:List Str):Bool:=
 decide (scope.kind=.function) && scope.names.all (fun y=>decide (y.2≠.cell) && (decide (y.2≠.local) || (decide (scope.names.lookup y.1=some .local) && ((".0":Str)::T).contains y.1)) &&
  (decide (y.2≠.free) || (decide (osc.names.lookup y.1=some .cell) || decide (osc.names.lookup y.1=some .free)))) && (M.all fun x=>!((".0":Str)::T).contains x) && decide (M.length=N.length) &&
  ((M.zip N).all fun p=>decide (p.1=p.2) || scope.names.all fun y=>decide (y.1≠p.1))
theorem a_{X:Cx}{scope:MX}{T M:List Str}(hc:X.calm=true)(h:yY X.N X.env.scope scope T M=true):CompOk X scope T M:=by
 unfold yY at h;rw[Bool.and_eq_true,Bool.and_eq_true,Bool.and_eq_true]at h;obtain⟨⟨⟨h12,h3⟩,h4⟩,h5⟩:=h;have hlen:M.length=X.N.length:=of_decide_eq_true h4;simp only[Bool.and_eq_true,List.all_eq_true,Bool.or_eq_true,decide_eq_true_eq,Bool.not_eq_true',List.contains_eq_mem]at h12 h3 h5;obtain⟨h1,h2⟩:=h12;refine⟨hc,h1,fun y hy=>(h2 y hy).1.1,fun y hy hl=>?_,fun y hy hl=>?_,hlen,fun i x hx=>?_,fun x hx=>?_,fun y hy hf=>?_⟩
 ·rcases (h2 y hy).1.2 with z|z
  ·exact absurd hl z
  ·exact z.1
 ·rcases (h2 y hy).1.2 with z|z
  ·exact absurd hl z
  ·simpa using z.2
 ·have hi:i < M.length:=(List.getElem?_eq_some_iff.mp hx).1;have hi2:i < X.N.length:=by walk_at "o"
  have hm:(x,X.N[i])∈M.zip X.N:=by
   refine K0 (i:=i) ?_;rw[List.getElem?_zip_eq_some];exact⟨hx,KW hi2⟩
  rcases h5 _ hm with z|z
  ·left;rw[KW hi2];exact congrArg some (show x=X.N[i]from z).symm
  ·exact .inr fun y hy=>z y hy
 ·simpa using h3 x hx
 ·rcases (h2 y hy).2 with z|z
  ·exact absurd hf z
  ·exact z
structure Fun3(K:Nq)(x qual:Str)(st:Lf)(f:KE)(fd:Lz):Prop where
 ex:∃ (oc:KC) (od:Option KE) (dV kV doc pm:KC) (an:Option KE) (cdv ct:KC) (osl:Array (Option KC)),
  fd=SV x qual (cw st) (bn st) (ah st) dV kV doc pm an cdv ct/\K.lookup f=some ⟨oc,od,.func fd,osl⟩/\Pn K cdv qual=true
section
variable{P:KQ}{w:K2}{K:Nq}{mg:Str->Option KC}{base:K1}
theorem Fun3.ok3{x qual:Str}{st:Lf}{f:KE}{fd:Lz}{N ps:List Str}{k:Nat}{sp:de}(F:Fun3 K x qual st f fd)(S:FnScope N ps (ah st))(len:∀ ds G Q,sp ds G Q->ds.length=ps.length)
  (Qz:∀ (cdv:KC) (A:KY) (outer:List Env) (s:KF) (H:Hp) (E:XK),Room k (A.deeper (MR qual (ah st) s.heap.objs.size f cdv))->
   ∃ t:bh,fh (ow l_ P w K mg base N qual (ah st) f cdv A outer s H E).nox (bn st) (aZ K t)/\∀ ds G Q,sp ds G Q->t { nx:=fun _ G'=>Q .non G',rt:=Q } (aw N ds) G):FnOk P w K mg base l_ (k+1) f fd ps (bC K sp):=by
 obtain⟨oc,od,dV,kV,doc,pm,an,cdv,ct,osl,rfl,lk,hcd⟩:=F.ex;refine yU lk hcd S (fun vs H Q E ⟨ds,G,Q3,rds,rg,h,kk⟩=>by rw[<- rds.length];exact len ds G Q3 h) fun A outer s H vs Q E hr hsp=>?_
 obtain⟨ds,G,Q3,rds,rg,h,kk⟩:=hsp;obtain⟨t,ht,hq⟩:=Qz cdv A outer s H E hr;refine⟨aZ K t,ht.nox,aw N ds,G,{ nx:=fun _ G'=>Q3 .non G',rt:=Q3 },pi rds,rg,hq ds G Q3 h,⟨fun σ' G' τ' H' q k' rg' rs'=>kk _ G' _ H' q k' rg' (.of pG),kk,fun _ _ _ _ q=>q.elim,fun _ _ _ _ q=>q.elim⟩⟩
theorem er{x qual:Str}{st:Lf}{f:KE}{oc:KC}{od an:Option KE}{osl:Array (Option KC)}{dV kV doc pm cdv ct:KC}(l:K.lookup f=some ⟨oc,od,.func (SV x qual (cw st) (bn st) (ah st) dV kV doc pm an cdv ct),osl⟩)
  (c:Pn K cdv qual=true):Fun3 K x qual st f (SV x qual (cw st) (bn st) (ah st) dV kV doc pm an cdv ct):=⟨⟨oc,od,dV,kV,doc,pm,an,cdv,ct,osl,rfl,l,c⟩⟩
end
theorem az{t u:bh}{D:Ends3}{σ:cL}{G:Gp}:sSeq t u D σ G=t { D with nx:=u D } σ G:=rfl
theorem yX{ds:List D}{i:Int}(h:0<=i):cutD ds none (some i)=ds.take i.toNat:=by
 have:HT.sIx ds.length ds.length (some i)=min i.toNat ds.length:=by simp only[HT.sIx];rw[if_neg (by walk_at "o")]
 unfold cutD;rw[this];simp only[HT.sIx,List.drop_zero,Nat.sub_zero];rw[List.take_eq_take_iff];omega
theorem we{ds:List D}{i j:Int}(h:0<=i)(h2:0<=j):cutD ds (some i) (some j)=(ds.drop i.toNat).take (j.toNat - i.toNat):=by
 have e1:HT.sIx ds.length 0 (some i)=min i.toNat ds.length:=by simp only[HT.sIx];rw[if_neg (by walk_at "o")]
 have e2:HT.sIx ds.length ds.length (some j)=min j.toNat ds.length:=by simp only[HT.sIx];rw[if_neg (by walk_at "o")]
 unfold cutD;rw[e1,e2]
 by_cases hi:i.toNat<=ds.length
 ·rw[Nat.min_eq_left hi,List.take_eq_take_iff,ND]
  by_cases hj:j.toNat<=ds.length
  ·rw[Nat.min_eq_left hj]
  ·have hj':=Nat.le_of_not_le hj;rw[Nat.min_eq_right hj',Nat.min_self,Nat.min_eq_right (Nat.sub_le_sub_right hj' _)]
 ·rw[Nat.min_eq_right (Nat.le_of_not_le hi),List.drop_length,List.drop_eq_nil_of_le (le_of_lt (Nat.lt_of_not_le hi))];simp
def S(cs:List Nat):Str:=⟨cs.toArray⟩
theorem wn{ds:List D}{i:Int}(h0:0<=i)(h:i < ds.length):l6 ds i=some (ds[i.toNat]'(by walk_at "o")):=by
 unfold l6 E6;rw[if_pos h0,if_pos h];simp[show i.toNat < ds.length by walk_at "o"]
theorem aq:1000000<=KM:=by decide
theorem em(lo:Int)(n:Nat):(dm lo n).length=n:=by simp[dm]
theorem pJ{lo:Int}{n i:Nat}{d:D}(h:(dm lo n)[i]?=some d):i < n/\d=.int (lo+(i:Nat)):=by
 have hl:i < (dm lo n).length:=(List.getElem?_eq_some_iff.mp h).1;rw[em]at hl;refine⟨hl,?_⟩;rw[dm,K8,List.getElem?_range hl]at h
 simpa using h.symm
def sH:de:=fun vs _ Q=>match vs with
 | [.lst ds]=>∃ ns:List Int,ds=ns.map D.int/\ns.length<=63/\∀ G',Q (.bl true) G'
 | _=>False
theorem Ag{K:Nq}{H:Hp}{a:KE}{ns:List Int}(hl:ns.length<=63)(hO:EK H)(hS:fV K H a (ns.map V.int))(E:XK):bC K sH [.ref a] H (fun v _=>v=.bl true) E:=by
 have hF:AQ K H a (ns.map V.int):=by
  rcases hS with (h|⟨o,h⟩)|h
  ·rcases hO a with e|⟨o,xs,e⟩
   ·rw[h]at e;cases e
   ·rw[h]at e;cases e
  ·exact .inl ⟨o,h⟩
  ·exact .inr h
 refine⟨[.lst (ns.map D.int)],fun _=>none,fun d _=>d=.bl true,RDs.cons (mB hF (RDs.ints ns)) RDs.nil,(fun b o q=>nomatch q),⟨ns,rfl,hl,fun _=>rfl⟩,fun d G' v H' q _ _ re=>?_⟩;subst q;exact re.bl
theorem walk3{l:PySem.W.OpenLaw}{q:KQ}{loose:List Str}{XP:(Str->Option KC)->K1->Prop}{YP:K2->K1->Prop}{d:DefRec}{K:Params->Nq}{k:Nat}{x:Str}(hn:l.most=some 63)(hdf:d.params.defaults=[])(hr:Room k Oi)
  (hY:∀ (w:K2) (h:K1),YP w h->(K w.params).In h)
  (F:∀ (w:K2) (mg:Str->Option KC) (fa:KE) (h:K1),(K w.params).In h->h.Ns KR mg->mg d.name=some (.ref fa)->
   ∃ fd:Lz,(∀ (s:KF) (u:KC),OD s fd ⟨[u],[]⟩ [(x,u)])/\∀ base:K1,(K w.params).In base->base.Ns KR mg->FnOk l.prog w (K w.params) mg base l_ k fa fd [x] (bC (K w.params) sH)):
  PySem.W.WalkO q loose XP YP l.row.toRowW d [] (fun f vs=>PySem.call f vs):=
 L2.walk_of (n:=63) (k:=k) (x:=x) (CX:=fun _=>l_) (sp:=fun w=>bC (K w.params) sH) hn (by decide) hdf hr hY F (fun _ _ _ _ hl hO hS=>Ag hl hO hS _) fun _ _ _ _ _ z=>z
end L3
namespace L2
open PySem PySem.Spec PyProof.Rows
section
variable{X:Cx}
theorem PS.or{st:Lf}{t t':TS}(h:PS X st t)(h':PS X st t'):PS X st (fun D σ H=>t D σ H\/t' D σ H):=fun pins s σ H D I q=>by
 rcases q with q|q
 ·exact h pins s σ H D I q
 ·exact h' pins s σ H D I q
end
end L2
namespace L3
open PySem PySem.Spec PyProof.Rows L2
def Jo(i:Nat)(t:bh):bh:=fun D σ G=>match σ[i]? with
 | some (some (.ref p))=>match G p with
  | some (.lst ds)=>t D (σ.set i (some (.lst ds))) (d_ G p)
  | _=>False
 | some (some (.lst _))=>t D σ G
 | _=>False
def JF(ta:iF):CS:=fun σ G Q=>ta σ G fun ds G'=>match ds with
 | [.lst es]=>Q es.reverse G'
 | _=>False
theorem IA{a:D}:l6 [a] 0=some a:=rfl
theorem Iz{a b:D}:l6 [a,b] 0=some a:=rfl
theorem Iy{a b:D}:l6 [a,b] 1=some b:=rfl
theorem Ix{a b c:D}:l6 [a,b,c] 0=some a:=rfl
theorem Iw{a b c:D}:l6 [a,b,c] 1=some b:=rfl
theorem Iv{a b c:D}:l6 [a,b,c] 2=some c:=rfl
theorem Iu{a b c d:D}:l6 [a,b,c,d] 0=some a:=rfl
theorem Is{a b c d:D}:l6 [a,b,c,d] 1=some b:=rfl
theorem Ir{a b c d:D}:l6 [a,b,c,d] 2=some c:=rfl
theorem Iq{a b c d:D}:l6 [a,b,c,d] 3=some d:=rfl
theorem Ip{a b c d e:D}:l6 [a,b,c,d,e] 0=some a:=rfl
theorem Io{a b c d e:D}:l6 [a,b,c,d,e] 1=some b:=rfl
theorem Im{a b c d e:D}:l6 [a,b,c,d,e] 2=some c:=rfl
theorem Il{a b c d e:D}:l6 [a,b,c,d,e] 3=some d:=rfl
theorem Ik{a b c d e:D}:l6 [a,b,c,d,e] 4=some e:=rfl
theorem eQ{c:iJ}{t u:bh}{E:Ends3}{σ:cL}{G:Gp}(b:Bool)(hc:∀ K:Bool->Gp->Prop,K b G->c σ G K)(h:if b=true then t E σ G else u E σ G):iR c t u E σ G:=hc _ h
theorem o6{t u:bh}{E:Ends3}{σ:cL}{G:Gp}{NX:cL->Gp->Prop}(h2:∀ σ' G',NX σ' G'->u E σ' G')(h1:∀ NX':cL->Gp->Prop,(∀ σ' G',NX σ' G'->NX' σ' G')->t { E with nx:=NX' } σ G):sSeq t u E σ G:=h1 (u E) h2
open PySem.SeqAt
def Jz(x:D)(ds:List D):Bool:=ds.any fun d=>dE d x
def FY:R3:=fun x y G Q=>match C9 G y with
 | some ds=>(pl 7 x/\∀ d∈ds,pl 7 d)/\Q (.bl (!Jz x ds)) G
 | none=>False
section
variable{κ:Type}[DecidableEq κ]
def cW(kvs:List (κ×D))(k:κ):Option D:=(kvs.find? fun kv=>decide (kv.1=k)).map (·.2)
def aS(kvs:List (κ×D))(k:κ)(v:D):List (κ×D):=
 if (kvs.any fun kv=>decide (kv.1=k))=true then kvs.map (fun kv=>if kv.1=k then (kv.1,v)else kv)else kvs ++ [(k,v)]
theorem jB(k:κ):∀ kvs:List (κ×D),(kvs.any fun kv=>decide (kv.1=k))=(cW kvs k).isSome
 | []=>rfl
 | p::r=>by
  by_cases e:p.1=k
  ·simp[cW,Li,e]
  ·have ih:=jB k r;simp only[Of,e,decide_false,Bool.false_or,ih];simp[cW,Li,e]
theorem dC(kvs:List (κ×D))(k:κ)(v:D):(aS kvs k v).length<=kvs.length+1:=by
 unfold aS;split<;>simp
theorem zO(kvs:List (κ×D))(k:κ)(v:D):(aS kvs k v).map (·.1)=if k∈kvs.map (·.1)then kvs.map (·.1)else kvs.map (·.1) ++ [k]:=by
 unfold aS;have e:((kvs.any fun kv=>decide (kv.1=k))=true)↔k∈kvs.map (·.1):=by
  rw[List.any_eq_true,mem_map];constructor
  ·rintro⟨p,hp,q⟩;exact⟨p,hp,of_decide_eq_true q⟩
  ·rintro⟨p,hp,rfl⟩;exact⟨p,hp,decide_eq_true rfl⟩
 by_cases h:k∈kvs.map (·.1)
 ·rw[if_pos (e.mpr h),if_pos h,LL];refine Mq fun p _=>?_;simp only[Function.comp_apply];split<;>rfl
 ·rw[if_neg (fun z=>h (e.mp z)),if_neg h];simp
theorem kB{kvs:List (κ×D)}(k:κ)(v:D)(h:(kvs.map (·.1)).Nodup):((aS kvs k v).map (·.1)).Nodup:=by
 rw[zO];split
 ·exact h
 ·rename_i hk;rw[nodup_append];refine⟨h,by simp,fun a ha b hb=>?_⟩
  have:b=k:=by simpa using hb
  subst this;exact fun z=>hk (z ▸ ha)
end
def C6:D->Option ar
 | .int i=>some (.inl i)
 | .str x=>some (.inr x)
 | _=>none
def kD:ar->D
 | .inl i=>.int i
 | .inr x=>.str x
def vR:List D->Option (List ar)
 | []=>some []
 | d::r=>match C6 d,vR r with
  | some k,some ks=>some (k::ks)
  | _,_=>none
def lR:D->Option (List ar)
 | .tup ds=>vR ds
 | _=>none
theorem Ga(k:ar):C6 (kD k)=some k:=by cases k<;>rfl
theorem yP:∀ ks:List ar,vR (ks.map kD)=some ks
 | []=>rfl
 | k::r=>by simp only[K3,vR,Ga,yP r]
section
variable{K:Nq}{H:Hp}
theorem xo{d:D}{k:ar}{v:V}(h:C6 d=some k)(r:RD K H d v):v=kV k:=by
 cases d with
 | int i=>simp only[C6,Option.some.injEq]at h;subst h;simp only[RD]at r;exact r
 | str i=>simp only[C6,Option.some.injEq]at h;subst h;simp only[RD]at r;exact r
 | _=>simp[C6]at h
theorem vQ:∀ {ds:List D} {ks:List ar} {vs:List V},vR ds=some ks->RDs K H ds vs->vs=ks.map kV
 | [],ks,vs,h,r=>by
  simp only[vR,Option.some.injEq]at h;subst h;exact r.inv_nil
 | d::t,ks,vs,h,r=>by
  obtain⟨x,u,e,h1,h2⟩:=r.inv_cons;subst e;simp only[vR]at h;split at h
  ·rename_i k kr e1 e2;simp only[Option.some.injEq]at h;subst h;rw[xo e1 h1,vQ e2 h2];rfl
  ·cases h
theorem lQ{d:D}{ks:List ar}{v:V}(h:lR d=some ks)(r:RD K H d v):∃ b,v=.ref b/\ij K H b (ks.map kV):=by
 cases d with
 | tup ds=>
  simp only[RD]at r;obtain⟨a,xs,e,q,rr⟩:=r;exact⟨a,e,by rw[<- vQ h rr];exact q⟩
 | _=>simp[lR]at h
theorem jM.keys{kvs:List (List ar×D)}{xs:List (List ar×KE×KC)}(r:jM K H kvs xs):kvs.map (·.1)=xs.map (·.1):=by
 unfold jM at r
 induction r with
 | nil=>rfl
 | cons h _ ih=>rw[K3,K3,h.1,ih]
theorem jM.val{kvs:List (List ar×D)}{xs:List (List ar×KE×KC)}(r:jM K H kvs xs)(k:List ar):
  (cW kvs k=none/\Np xs k=none)\/∃ d b u v,cW kvs k=some d/\Np xs k=some (b,u)/\RD K H d v/\RelV v u:=by
 unfold jM at r
 induction r with
 | nil=>exact .inl ⟨rfl,rfl⟩
 | @cons p q ps qs h t ih=>
  obtain⟨h1,_,v,h2,h3⟩:=h
  by_cases e:p.1=k
  ·have e':q.1=k:=h1.symm.trans e;exact .inr ⟨p.2,q.2.1,q.2.2,v,by simp[cW,Li,e],by simp[Np,Li,e'],h2,h3⟩
  ·have e':¬ q.1=k:=fun z=>e (h1.trans z);have a1:cW (p::ps) k=cW ps k:=by simp[cW,Li,e]
   have a2:Np (q::qs) k=Np qs k:=by simp[Np,Li,e']
   rw[a1,a2];exact ih
theorem jM.put{kvs:List (List ar×D)}{xs:List (List ar×KE×KC)}(r:jM K H kvs xs)(k:List ar){b:KE}{d:D}{v:V}{u:KC}(hb:ij K H b (k.map kV))(hd:RD K H d v)(hu:RelV v u):jM K H (aS kvs k d) (Og xs k b u):=by
 have e:(kvs.any fun kv=>decide (kv.1=k))=(Np xs k).isSome:=by
  rw[jB];rcases r.val k with ⟨a,b⟩|⟨_,_,_,_,a,b,_⟩<;>rw[a,b]<;>rfl
 unfold aS Og;rw[e]
 by_cases q:(Np xs k).isSome=true
 ·rw[if_pos q,if_pos q];unfold jM at r ⊢;clear e q
  induction r with
  | nil=>exact .nil
  | @cons p q ps qs h t ih=>
   rw[K3,K3];refine .cons ?_ ih;obtain⟨h1,h2,v',h3,h4⟩:=h;unfold putAt
   by_cases e:p.1=k
   ·rw[if_pos e,if_pos (h1.symm.trans e)];exact⟨h1,h2,v,hd,hu⟩
   ·rw[if_neg e,if_neg (fun z=>e (h1.trans z))];exact⟨h1,h2,v',h3,h4⟩
 ·rw[if_neg q,if_neg q];exact OS r ⟨rfl,hb,v,hd,hu⟩
theorem uM.val{kvs:List (ar×D)}{xs:List (ar×V)}(r:uM K H kvs xs)(k:ar):(cW kvs k=none/\jC xs k=none)\/∃ d v,cW kvs k=some d/\jC xs k=some v/\RD K H d v:=by
 unfold uM at r
 induction r with
 | nil=>exact .inl ⟨rfl,rfl⟩
 | @cons p q ps qs h t ih=>
  obtain⟨h1,h2⟩:=h
  by_cases e:p.1=k
  ·have e':q.1=k:=h1.symm.trans e;exact .inr ⟨p.2,q.2,by simp[cW,Li,e],kQ e',h2⟩
  ·have e':¬ q.1=k:=fun z=>e (h1.trans z);have a1:cW (p::ps) k=cW ps k:=by simp[cW,Li,e]
   rw[a1,kR e'];exact ih
theorem uM.put{kvs:List (ar×D)}{xs:List (ar×V)}(r:uM K H kvs xs)(k:ar){d:D}{v:V}(hd:RD K H d v):uM K H (aS kvs k d) (gL xs k v):=by
 have e:(kvs.any fun kv=>decide (kv.1=k))=(xs.any fun kv=>decide (kv.1=k)):=by
  rw[jB,oY];rcases r.val k with ⟨a,b⟩|⟨_,_,a,b,_⟩<;>rw[a,b]<;>rfl
 unfold aS gL;rw[e]
 by_cases q:(xs.any fun kv=>decide (kv.1=k))=true
 ·rw[if_pos q,if_pos q];unfold uM at r ⊢;clear e q
  induction r with
  | nil=>exact .nil
  | @cons p q ps qs h t ih=>
   rw[K3,K3];refine .cons ?_ ih;obtain⟨h1,h2⟩:=h
   by_cases e:p.1=k
   ·rw[if_pos e,if_pos (h1.symm.trans e)];exact⟨h1,hd⟩
   ·rw[if_neg e,if_neg (fun z=>e (h1.trans z))];exact⟨h1,h2⟩
 ·rw[if_neg q,if_neg q];exact OS r ⟨rfl,hd⟩
theorem uM.length{kvs:List (ar×D)}{xs:List (ar×V)}(r:uM K H kvs xs):kvs.length=xs.length:=MY r
theorem jM.length{kvs:List (List ar×D)}{xs:List (List ar×KE×KC)}(r:jM K H kvs xs):kvs.length=xs.length:=MY r
end
def ax(P:KQ)(w:K2):List ar->Int:=tupleKeyHash (aK P w)
section
variable{X:Cx}{pins:List (KE×Obj)}{σ:St}{H:Hp}{s:KF}{a:KE}
theorem mQ(I:Inv X pins σ H s){b:KE}{ks:List ar}(h:ij X.K H b (ks.map kV)):(LW (aK X.prog X.w)).is s.heap ks b:=by
 obtain⟨its,r,⟨o,h1,h2,n,h3⟩,_⟩:=I.tuple h;exact⟨o,its.toArray,n,h1,h2,h3,by simpa using mS r⟩
theorem oP(I:Inv X pins σ H s){kvs:List (List ar×D)}{xs:List (List ar×KE×KC)}{φ:K1->Prop}(e:H a=some (.ext φ))(r:jM X.K H kvs xs)(nd:(kvs.map (·.1)).Nodup)(hφ:∀ h,φ h->nL (ax X.prog X.w) a xs h:=by exact fun _ z=>z):
  (a == Lw)=false/\s.heap.DictOfH (LW (aK X.prog X.w)) a xs:=by
 obtain⟨hd,o,es,ep,h1,h2,h3,h4⟩:=hφ _ (show ba X.prog X.w H s.heap a (.ext φ)from I.hok a _ e).1
 refine⟨hd,o,es,ep,h1,h2,h3,h4,?_,by rw[<- r.keys];exact nd⟩
 unfold jM at r;clear h4 e nd hφ
 induction r with
 | nil=>intro x hx;exact nomatch hx
 | @cons p q ps qs hq t ih=>
  intro x hx;rcases Le.mp hx with e|hx
  ·subst e;exact mQ I (by rw[<- hq.1];exact hq.2.1)
  ·exact ih x hx
theorem kM{P:KQ}{w:K2}{H':Hp}{h:K1}{hw:List ar->Int}{xs:List (List ar×KE×KC)}(h1:nL hw a xs h):ba P w H' h a (.ext (nL hw a xs)):=by
 obtain⟨hd,o,es,ep,e,r⟩:=h1;exact⟨⟨hd,o,es,ep,e,r⟩,⟨o,e⟩,fun h1 h2 ⟨hd,o,es,ep,e,r⟩ k=>⟨hd,o,es,ep,k o e,r⟩⟩
end
section
variable{K:Nq}{H:Hp}{G:Gp}
theorem Ck{p:KE}{o:GO}{ho:HO}(rg:RG K H G)(e:H p=none)(ro:∀ H':Hp,Stb K H H'->RO K H' p o ho):Kp G H (gset G p o) (aI H p ho)/\RG K (aI H p ho) (gset G p o):=by
 have kp:Kp G H (gset G p o) (aI H p ho):=fun b h q n=>by
  have:b≠p:=bf q e;exact⟨by rw[aj this];exact q,by rw[af this];exact n⟩
 refine⟨kp,fun b u q=>?_⟩
 by_cases hb:b=p
 ·subst hb;rw[ai]at q;cases q;exact⟨_,ay,ro _ (kp.stb rg)⟩
 ·rw[af hb]at q;obtain⟨h,q1,q2⟩:=rg b u q;exact⟨h,by rw[aj hb];exact q1,q2.mono (kp.stb rg)⟩
theorem mX{a:KE}{o:GO}{ho:HO}(rg:RG K H G)(hg:G a≠none)(ro:∀ H':Hp,Stb K H H'->RO K H' a o ho):Kp G H (gset G a o) (aI H a ho)/\RG K (aI H a ho) (gset G a o):=by
 have kp:Kp G H (gset G a o) (aI H a ho):=fun b h e n=>by
  have:b≠a:=fun z=>by subst z;exact hg n
  exact⟨by rw[aj this];exact e,by rw[af this];exact n⟩
 refine⟨kp,fun b u q=>?_⟩
 by_cases hb:b=a
 ·subst hb;rw[ai]at q;cases q;exact⟨_,ay,ro _ (kp.stb rg)⟩
 ·rw[af hb]at q;obtain⟨h,q1,q2⟩:=rg b u q;exact⟨h,by rw[aj hb];exact q1,q2.mono (kp.stb rg)⟩
end
def j_(hw:List ar->Int):aL:=fun _ G Q=>∀ p,G p=none->Q (.ref p) (gset G p (.dT hw []))
def yV:aL:=fun _ G Q=>∀ p,G p=none->Q (.ref p) (gset G p (.dK []))
section
variable{X:Cx}{pos:Pos}
theorem i4:PE X (.Dict [] [] pos) (au X.K (j_ (ax X.prog X.w))):=fun pins s τ H Q I zz=>by
 obtain⟨σ,G,Q3,rs,rg,h,k⟩:=zz;have hf:H s.heap.objs.size=none:=I.hok.fresh (le_refl _);obtain⟨kp,rg2⟩:=Ck (o:=.dT (ax X.prog X.w) []) (ho:=.ext (nL (ax X.prog X.w) s.heap.objs.size [])) rg hf fun H' _=>⟨[],rfl,.nil,M7,LG _⟩;have hd:(s.heap.objs.size == Lw)=false:=beq_eq_false_iff_ne.mpr (Ne.symm (K_ I.big));exact wpAny_Dict_empty ⟨.ref s.heap.objs.size,_,I.laid (a:=s.heap.objs.size) (t':=s.toks) (fun _ _ q=>KG _ q) (le_refl _) (kM ⟨hd,_,#[],0,KJ _ rfl,⟨rfl,rfl,rfl⟩,rfl,rfl⟩),rfl,
  k _ _ _ _ (h _ (rg.free hf)) kp rg2 (.of d8)⟩
theorem BV:PE X (.Dict [] [] pos) (au X.K yV):=BO.imp fun τ H Q ⟨σ,G,Q3,rs,rg,h,k⟩ p hp=>by
 obtain⟨kp,rg2⟩:=Ck (o:=.dK []) (ho:=.dK []) rg hp fun H' _=>(show uM X.K H' [] []from .nil)
 exact k _ _ _ _ (h _ (rg.free hp)) kp rg2 (.of d8)
end
def eY(hw:List ar->Int):D->D->D->Gp->(Gp->Prop)->Prop:=fun o i v G Q=>match o with
 | .ref a=>match G a with
  | some (.dT hw' kvs)=>hw'=hw/\∃ ks,lR i=some ks/\kvs.length < KM/\Q (gset G a (.dT hw (aS kvs ks v)))
  | some (.dK kvs)=>∃ k,C6 i=some k/\kvs.length < KM/\Q (gset G a (.dK (aS kvs k v)))
  | some (.lst ds)=>match i with
   | .int j=>∃ m,E6 ds.length j=some m/\Q (gset G a (.lst (ds.set m v)))
   | _=>False
  | _=>False
 | _=>False
def Eb(K:Nq)(r:D->D->D->Gp->(Gp->Prop)->Prop):EH:=fun o i v H Q=>∃ x y z G Q3,RD K H x o/\RD K H y i/\RD K H z v/\RG K H G/\r x y z G Q3/\∀ G' H',Q3 G'->Kp G H G' H'->RG K H' G'->Q H'
def gB(hw:List ar->Int)(to ti te:aL):bh:=fun E σ G=>te σ G fun v G1=>to σ G1 fun o G2=>ti σ G2 fun i G3=>eY hw (val o) (val i) (val v) G3 fun G4=>E.nx σ G4
section
variable{X:Cx}
theorem Fe(hu:X.A.units+8 < Ly):GD X (Eb X.K (eY (ax X.prog X.w))):=by
 rintro pins s σ H o i v ov iv u Q I ro ri rv ⟨x,y,z,G,Q3,rx,ry,rz,rg,h,k⟩
 unfold eY at h;split at h
 ·rename_i a;simp only[RD]at rx;subst rx;cases ro;split at h
  ·rename_i hw' kvs hg;obtain⟨rfl,ks,hk,hl,h⟩:=h;obtain⟨b,rfl,sq⟩:=lQ hk ry;cases ri;obtain⟨ho,e,r⟩:=rg a _ hg;cases ho with
   | ext φ=>
    obtain⟨xs,rfl,rt,nd,_⟩:=r;obtain⟨hd,dd⟩:=oP I e rt nd;have hz:xs.length<=KM:=by rw[<- rt.length];omega
    refine PZ (hsz:=hz) (LA (show X.A.units+1 < Ly by walk_at "o")) (mQ I sq) dd fun h' dd' hs=>?_
    obtain⟨q,es,ep,hq,h2,h3,h4,_,h5⟩:=dd';obtain⟨kp,rg2⟩:=mX (a:=a) (o:=.dT (ax X.prog X.w) (aS kvs ks z)) (ho:=.ext (nL (ax X.prog X.w) a (Og xs ks b u))) rg (by rw[hg];exact fun z=>nomatch z)
     fun H' st=>⟨_,rfl,(rt.put ks sq rz rv).mono st,kB ks z nd,by have:=dC kvs ks z;omega⟩
    exact⟨_,lZ I (by rw[e];exact True.intro) hs ⟨q,hq⟩ (kM ⟨hd,q,es,ep,hq,h2,h3,h4⟩),k _ _ h kp rg2⟩
   | _=>exact r.elim
  ·rename_i kvs hg;obtain⟨kk,hk,hl,h⟩:=h;have ei:=xo hk ry;subst ei;obtain⟨ho,e,r⟩:=rg a _ hg;cases ho with
   | dK xs=>
    have r':uM X.K H kvs xs:=r;obtain⟨kp,rg2⟩:=mX (a:=a) (o:=.dK (aS kvs kk z)) (ho:=.dK (gL xs kk v)) rg (by rw[hg];exact fun z=>nomatch z) fun H' st=>(r'.put kk rz).mono st
    exact Aw (by walk_at "o") I (AN.k e (by rw[<- r'.length];exact hl)) ri rv fun s' I'=>⟨_,I',k _ _ h kp rg2⟩
   | _=>exact r.elim
  ·rename_i ds hg;split at h
   ·rename_i j;obtain⟨m,hm,h⟩:=h;simp only[RD]at ry;subst ry;obtain⟨ho,e,r⟩:=rg a _ hg;cases ho with
    | lst xs=>
     have r':RDs X.K H ds xs:=r;obtain⟨kp,rg2⟩:=mX (a:=a) (o:=.lst (ds.set m z)) (ho:=.lst (xs.set m v)) rg (by rw[hg];exact fun z=>nomatch z) fun H' st=>RDs.mono st _ _ (r'.set m rz)
     exact A_ pins s σ H (.ref a) _ _ _ _ _ _ I rfl ri rv ⟨a,xs,j,m,rfl,rfl,e,by rw[<- r'.length];exact hm,k _ _ h kp rg2⟩
    | _=>exact r.elim
   ·exact h.elim
  ·exact h.elim
 ·exact h.elim
theorem h9{o i e:K4}{to ti te:aL}{pos pos':Pos}(hu:X.A.units+8 < Ly)(ho:PE X o (au X.K to))(hi:PE X i (au X.K ti))(he:PE X e (au X.K te))
  (hs:swapsWithSole [.Subscript o i pos'] e pos.line X.env=pure false:=by rfl) (hw:swappedStores [.Subscript o i pos'] e X.env=pure none:=by rfl) (h1:(MA [.Subscript o i pos'] X.env).map (·.2)=[assign (.Subscript o i pos') X.env]:=by rfl)
  (ha:∀ v,assign (.Subscript o i pos') X.env v=(do
   let ov <- holding [v] (eval o X.env)
   let iv <- holding [v,ov] (eval i X.env)
   Nu pos'
   holding [v,ov,iv] (Ql ov iv v)
   release [v,ov,iv] []):=by intro _;rfl):PS X (.Assign [.Subscript o i pos'] e pos) (aZ X.K (gB (ax X.prog X.w) to ti te)):=
 (FG (cH he) (FJ (cH ho) (cH hi) (Fe hu) ha) hs hw h1).imp fun E τ H zz=>by
 obtain⟨σ,G,E3,rs,rg,h,k⟩:=zz;exact (
  ⟨σ,G,_,rs,rg,h,fun v G1 u H1 q1 k1 rg1 rd1=>
    ⟨σ,G1,_,rs.mono (k1.stb rg),rg1,q1,fun o G2 u2 H2 q2 k2 rg2 rd2=>⟨σ,G2,_,rs.mono ((k1.trans k2).stb rg),rg2,q2,fun i G3 u3 H3 q3 k3 rg3 rd3=>
     ⟨val o,val i,val v,G3,_,RD.mono (k3.stb rg2) _ _ rd2,rd3,RD.mono ((k2.trans k3).stb rg1) _ _ rd1,rg3,q3,fun G4 H4 q4 k4 rg4=>k.nx σ G4 τ H4 q4 (k1.trans (k2.trans (k3.trans k4))) rg4 (rs.mono ((k1.trans (k2.trans (k3.trans k4))).stb rg))⟩⟩⟩⟩)
end
def bR(hw:List ar->Int)(G:Gp)(o i:D)(r:Option D):Prop:=match o with
 | .ref a=>match G a with
  | some (.dT hw' kvs)=>hw'=hw/\∃ ks,lR i=some ks/\r=cW kvs ks
  | some (.dK kvs)=>∃ k,C6 i=some k/\r=cW kvs k
  | some (.dF _ hw' _ kvs)=>hw'=hw/\∃ ks,lR i=some ks/\r=cW kvs ks
  | _=>False
 | _=>False
def iz(G:Gp)(o:D):Prop:=match o with
 | .ref a=>match G a with
  | some (.dT _ _)=>True
  | some (.dK _)=>True
  | some (.dF _ _ _ _)=>True
  | _=>False
 | _=>False
section
variable{X:Cx}{pins:List (KE×Obj)}{σ:St}{H:Hp}{s:KF}{G:Gp}{A:KY}{E:KC->KF->Prop}{x y d z:D}{o i zv:V}{ov iv zu:KC}{r:Option D}
theorem bR.split(h:bR (ax X.prog X.w) G x y r)(I:Inv X pins σ H s)(rg:RG X.K H G)(rx:RD X.K H x o)(ro:RelV o ov)(ry:RD X.K H y i)(ri:RelV i iv):
  ∃ a,ov=.ref a/\((∃ hs k,H a=some (.dK hs)/\i=kV k/\((r=none/\jC hs k=none)\/∃ d v,r=some d/\jC hs k=some v/\RD X.K H d v))\/
   ∃ xs ks b,(a == Lw)=false/\s.heap.DictOfH (LW (aK X.prog X.w)) a xs/\iv=.ref b/\(LW (aK X.prog X.w)).is s.heap ks b/\
    ((r=none/\Np xs ks=none)\/∃ d b' u v,r=some d/\Np xs ks=some (b',u)/\RD X.K H d v/\RelV v u)):=by
 unfold bR at h;split at h
 ·rename_i a;simp only[RD]at rx;subst rx;cases ro;refine⟨a,rfl,?_⟩;split at h
  ·rename_i hw' kvs hg;obtain⟨rfl,ks,hk,rfl⟩:=h;obtain⟨b,rfl,sq⟩:=lQ hk ry;cases ri;obtain⟨ho,e,q⟩:=rg a _ hg;cases ho with
   | ext φ=>
    obtain⟨xs,rfl,rt,nd,_⟩:=q;obtain⟨hd,dd⟩:=oP I e rt nd;exact .inr ⟨xs,ks,b,hd,dd,rfl,mQ I sq,rt.val ks⟩
   | _=>exact q.elim
  ·rename_i kvs hg;obtain⟨k,hk,rfl⟩:=h;obtain⟨ho,e,q⟩:=rg a _ hg;cases ho with
   | dK hs=>
    have q':uM X.K H kvs hs:=q;exact .inl ⟨hs,k,e,xo hk ry,q'.val k⟩
   | _=>exact q.elim
  ·rename_i ob hw' xs kvs hg;obtain⟨rfl,ks,hk,rfl⟩:=h;obtain⟨b,rfl,sq⟩:=lQ hk ry;cases ri;obtain⟨ho,e,q⟩:=rg a _ hg;cases ho with
   | ext φ=>
    obtain⟨rfl,rt,nd,_⟩:=q;obtain⟨hd,dd⟩:=oP I e rt nd fun _ z=>z.2;exact .inr ⟨xs,ks,b,hd,dd,rfl,mQ I sq,rt.val ks⟩
   | _=>exact q.elim
  ·exact h.elim
 ·exact h.elim
theorem iz.at(h:iz G x)(I:Inv X pins σ H s)(rg:RG X.K H G)(rx:RD X.K H x o)(ro:RelV o ov):
  s.TypeIs ov "dict"/\(∀ b,ov=.ref b->∃ ob,s.heap.get? b=some ob/\ob.dict=none):=by
 unfold iz at h;split at h
 ·rename_i a;simp only[RD]at rx;subst rx;cases ro;split at h
  ·rename_i hw' kvs hg;obtain⟨ho,e,q⟩:=rg a _ hg;cases ho with
   | ext φ=>
    obtain⟨xs,rfl,rt,nd,_⟩:=q;obtain⟨hd,ob,es,ep,h1,h2,h3,h4⟩:=(show ba X.prog X.w H s.heap a (.ext (nL hw' a xs))from I.hok a _ e).1
    refine⟨⟨ob,h1,h2.1⟩,fun b hb=>?_⟩;cases hb;exact⟨ob,h1,h2.2.1⟩
   | _=>exact q.elim
  ·rename_i kvs hg;obtain⟨ho,e,q⟩:=rg a _ hg;cases ho with
   | dK hs=>
    obtain⟨t1,t2,_⟩:=Ge I (.inl ⟨hs,.inl e⟩);exact⟨t1,t2⟩
   | _=>exact q.elim
  ·rename_i ob hw' xs kvs hg;obtain⟨ho,e,q⟩:=rg a _ hg;cases ho with
   | ext φ=>
    obtain⟨rfl,rt,nd,_⟩:=q;obtain⟨_,hd,ob,es,ep,h1,h2,h3,h4⟩:=(show ba X.prog X.w H s.heap a (.ext (AR _ hw' a xs))from I.hok a _ e).1
    exact⟨⟨ob,h1,h2.1⟩,fun b hb=>by cases hb;exact⟨ob,h1,h2.2.1⟩⟩
   | _=>exact q.elim
  ·exact h.elim
 ·exact h.elim
theorem bR.dct{hw:List ar->Int}(h:bR hw G x y r):iz G x:=by
 unfold bR at h;unfold iz;split at h
 ·split at h
  ·rename_i e;simp only[e]
  ·rename_i e;simp only[e]
  ·rename_i e;simp only[e]
  ·exact h.elim
 ·exact h.elim
theorem Eu{Q:KC->KF->Prop}(hu:A.units+1 < Ly)(I:Inv X pins σ H s)(rg:RG X.K H G)(h:bR (ax X.prog X.w) G x y (some d))(rx:RD X.K H x o)(ro:RelV o ov)(ry:RD X.K H y i)(ri:RelV i iv)
  (q:∀ v u s',Inv X pins σ H s'->RD X.K H d v->RelV v u->Q u s'):KI (KL X.prog X.w) A (NV ov iv) Q E s:=by
 obtain⟨a,rfl,⟨hs,k,e,rfl,r⟩|⟨xs,ks,b,hd,dd,rfl,hk,r⟩⟩:=h.split I rg rx ro ry ri
 ·rcases r with ⟨z,_⟩|⟨d',v,e1,e2,rd⟩
  ·cases z
  ·cases e1;exact Ax hu I (.inl ⟨hs,k,.inl e,rfl,e2.symm⟩) ri fun u s' I' rv=>q v u s' I' rd rv
 ·rcases r with ⟨z,_⟩|⟨d',b',u,v,e1,e2,rd,rv⟩
  ·cases z
  ·cases e1;exact P3 (LA hu) hk dd e2 (q v u _ (I.tok _) rd rv)
theorem Ib{Q:KC->KF->Prop}(hu:A.units+1 < Ly)(I:Inv X pins σ H s)(rg:RG X.K H G)(h:bR (ax X.prog X.w) G x y r)(rx:RD X.K H x o)(ro:RelV o ov)(ry:RD X.K H y i)(ri:RelV i iv)
  (q:∀ s',Inv X pins σ H s'->Q (.bool r.isSome) s'):KI (KL X.prog X.w) A (Ll .In iv ov) Q E s:=by
 obtain⟨a,rfl,⟨hs,k,e,rfl,l⟩|⟨xs,ks,b,hd,dd,rfl,hk,l⟩⟩:=h.split I rg rx ro ry ri
 ·refine JN hu I (qT.k e) ri fun s' I'=>?_;rcases l with ⟨rfl,e2⟩|⟨d,v,rfl,e2,_⟩<;>rw[e2]<;>exact q s' I'
 ·refine wpAny_in_heap (LA hu) hk hd dd ?_;rcases l with ⟨rfl,e2⟩|⟨d,b',u,v,rfl,e2,_⟩<;>rw[e2]<;>exact q _ (I.tok _)
theorem CC{Q:KC->KF->Prop}(hu:A.units+1 < Ly)(I:Inv X pins σ H s)(rg:RG X.K H G)(h:bR (ax X.prog X.w) G x y r)(rx:RD X.K H x o)(ro:RelV o ov)(ry:RD X.K H y i)(ri:RelV i iv)
  (q:∀ s',Inv X pins σ H s'->Q (.bool (!r.isSome)) s'):KI (KL X.prog X.w) A (Ll .NotIn iv ov) Q E s:=by
 obtain⟨a,rfl,⟨hs,k,e,rfl,l⟩|⟨xs,ks,b,hd,dd,rfl,hk,l⟩⟩:=h.split I rg rx ro ry ri
 ·refine Et hu I (qT.k e) ri fun s' I'=>?_;rcases l with ⟨rfl,e2⟩|⟨d,v,rfl,e2,_⟩<;>rw[e2]<;>exact q s' I'
 ·refine wpAny_notIn_heap (LA hu) hk hd dd ?_;rcases l with ⟨rfl,e2⟩|⟨d,b',u,v,rfl,e2,_⟩<;>rw[e2]<;>exact q _ (I.tok _)
theorem Ew{Q:KC->KF->Prop}(hu:A.units+1 < Ly)(I:Inv X pins σ H s)(rg:RG X.K H G)(h:bR (ax X.prog X.w) G x y r)(rx:RD X.K H x o)(ro:RelV o ov)(ry:RD X.K H y i)(ri:RelV i iv)(rz:RD X.K H z zv)(rzu:RelV zv zu)
  (q:∀ v u s',Inv X pins σ H s'->RD X.K H (r.getD z) v->RelV v u->Q u s'):KI (KL X.prog X.w) A (call (.builtin "dict.get") [ov,iv,zu]) Q E s:=by
 obtain⟨a,rfl,⟨hs,k,e,rfl,l⟩|⟨xs,ks,b,hd,dd,rfl,hk,l⟩⟩:=h.split I rg rx ro ry ri
 ·refine Gm hu I (qT.k e) ri rzu fun u s' I' rv=>?_;rcases l with ⟨rfl,e2⟩|⟨d,v,rfl,e2,rd⟩<;>rw[e2]at rv
  ·exact q _ u s' I' rz rv
  ·exact q _ u s' I' rd rv
 ·refine Ng PySem.F.slot_dict_get dd.typeIs PySem.F.entry_dict_get (PySem.F.args_dict_get_3 _ _ _) (O9 (LW (aK X.prog X.w)) a b hd zu) ⟨LA hu,ks,xs,hk,dd,?_⟩;rcases l with ⟨rfl,e2⟩|⟨d,b',u,v,rfl,e2,rd,rv⟩<;>rw[e2]
  ·exact q zv _ _ (I.tok _) rz rzu
  ·exact q v _ _ (I.tok _) rd rv
end
def iE(hw:List ar->Int)(to ti:aL):aL:=fun σ G Q=>to σ G fun x G1=>ti σ G1 fun y G2=>∃ d,bR hw G2 (val x) (val y) (some d)/\Q d G2
def Cw(hw:List ar->Int)(ti to:aL):aL:=fun σ G Q=>ti σ G fun y G1=>to σ G1 fun x G2=>∃ r,bR hw G2 (val x) (val y) r/\Q (.bl r.isSome) G2
def fc(hw:List ar->Int)(ti to:aL):aL:=fun σ G Q=>ti σ G fun y G1=>to σ G1 fun x G2=>∃ r,bR hw G2 (val x) (val y) r/\Q (.bl (!r.isSome)) G2
def m4(hw:List ar->Int)(to ti tz:aL):aL:=fun σ G Q=>to σ G fun x G1=>iz G1 (val x)/\ti σ G1 fun y G2=>tz σ G2 fun z G3=>∃ r,bR hw G3 (val x) (val y) r/\Q (r.getD (val z)) G3
section
variable{X:Cx}{o i e f:K4}{to ti tz:aL}{pos apos cpos:Pos}
theorem cQ{t:aL}{e:K4}(h:PE X e (au X.K t)){pins:List (KE×Obj)}{s:KF}{τ:St}{H:Hp}{σ:cL}{G:Gp}{Q3:fK}(I:Inv X pins τ H s)(rs:RS X.K H σ τ)(rg:RG X.K H G)(ht:t σ G Q3):
  KI (KL X.prog X.w) X.A (eval e X.env) (EP X pins τ fun v H1=>∃ d G1,Q3 d G1/\Kp G H G1 H1/\RG X.K H1 G1/\RD X.K H1 (val d) v) X.xe s:=
 cH h pins s τ H _ I ⟨σ,G,Q3,rs,rg,ht,fun d G' v H' q k rg' rd=>⟨d,G',q,k,rg',rd⟩⟩
theorem fQ(hu:X.A.units+8 < Ly)(ho:PE X o (au X.K to))(hi:PE X i (au X.K ti))(hs:IF i:=by exact fun _ _=>rfl):PE X (.Subscript o i pos) (au X.K (iE (ax X.prog X.w) to ti)):=by
 rintro pins s τ H Q I ⟨σ,G,Q3,rs,rg,h,k⟩
 refine Dn PySem.F.slot_dict_getitem.lookup hs (br (cQ ho I rs rg h) fun ov s1 zz=>?_);obtain⟨ox,H1,I1,rox,x,G1,q1,k1,rg1,rd1⟩:=zz;refine br (cQ hi I1 (rs.mono (k1.stb rg)) rg1 q1) fun iv s2 zz=>?_;obtain⟨iy,H2,I2,riy,y,G2,q2,k2,rg2,rd2⟩:=zz;obtain⟨d,l,q2⟩:=q2;have rx:=RD.mono (k2.stb rg1) _ _ rd1;exact⟨(l.dct.at I2 rg2 rx rox).1,Eu (by walk_at "o") I2 rg2 l rx rox rd2 riy fun v u s3 I3 rd rv=>⟨v,H2,I3,rv,k _ G2 _ H2 q2 (k1.trans k2) rg2 (.of rd)⟩⟩
theorem tL(hu:X.A.units+8 < Ly)(ho:PE X o (au X.K to))(he:PE X e (au X.K ti))(hf:PE X f (au X.K tz))(m:M2 X o "get" apos e f cpos:=by exact⟨rfl,rfl,rfl,rfl⟩):PE X (.Call (.Attribute o "get" apos) [e,f] [] cpos) (au X.K (m4 (ax X.prog X.w) to ti tz)):=by
 rintro pins s τ H Q I ⟨σ,G,Q3,rs,rg,h,k⟩
 refine wpAny_Call_method m.base m.few m.line PySem.F.plainAttrs_dict PySem.F.slot_dict_get PySem.F.type_dict_get (br (cQ ho I rs rg h) fun ov s1 zz=>?_);obtain⟨ox,H1,I1,rox,x,G1,q1,k1,rg1,rd1⟩:=zz;obtain⟨t1,t2⟩:=q1.1.at I1 rg1 rd1 rox;refine⟨t1,t2,?_⟩;rw[m.trees];refine L8 rfl (PM (LZ (br (cQ he I1 (rs.mono (k1.stb rg)) rg1 q1.2) fun iv s2 ⟨iy,H2,I2,riy,y,G2,q2,k2,rg2,rd2⟩=>LZ (br (cQ hf I2 (rs.mono ((k1.trans k2).stb rg)) rg2 q2) fun fv s3 zz=>?_))));obtain⟨fz,H3,I3,rfz,z,G3,q3,k3,rg3,rd3⟩:=zz;refine Mm ?_;obtain⟨r,l,q3⟩:=q3;exact Ew (by walk_at "o") I3 rg3 l (RD.mono ((k2.trans k3).stb rg1) _ _ rd1) rox (RD.mono (k3.stb rg2) _ _ rd2) riy rd3 rfz fun v u s4 I4 rd rv=>⟨v,H3,I4,rv,k _ G3 _ H3 q3 (k1.trans (k2.trans k3)) rg3 (.of rd)⟩
end
end L3
namespace PySem.W
open PySem PyProof.Rows
def KasT.run{α:Type}(lt:Nat->Nat->Bool):Qh α->α
 | .ret a=>a
 | .ask i j k=>(k (lt i j)).run lt
theorem KasT.run_bind{α β:Type}(lt:Nat->Nat->Bool)(f:α->Qh β):∀ t:Qh α,(t.bind f).run lt=(f (t.run lt)).run lt
 | .ret _=>rfl
 | .ask i j k=>by
  show ((k (lt i j)).bind f).run lt=_
  rw[KasT.run_bind lt f (k (lt i j))];rfl
section
variable(r:Nat->Nat)
def jL(i j:Nat):Bool:=decide (r i < r j)
def RR(p:Array Nat)(i:Nat):Nat:=r (p.getD i 0)
def kh(p:Array Nat)(n:Nat):Prop:=∀ i,i+1 < n->RR r p i<=RR r p (i+1)
def qS(p:Array Nat)(n:Nat):Prop:=∀ i,i+1 < n->RR r p (i+1)<=RR r p i
end
section
variable{r:Nat->Nat}{p:Array Nat}
theorem kh.le{n:Nat}(h:kh r p n){i j:Nat}(hij:i<=j)(hj:j < n):RR r p i<=RR r p j:=by
 induction j with
 | zero=>
      have:i=0:=by walk_at "o"
      subst this;exact le_refl _
 | succ j ih=>
  rcases MC i (j+1)with h1|h1
  ·exact le_trans (ih (by walk_at "o") (by walk_at "o")) (h j hj)
  ·have:i=j+1:=by walk_at "o"
   subst this;exact le_refl _
theorem qS.le{n:Nat}(h:qS r p n){i j:Nat}(hij:i<=j)(hj:j < n):RR r p j<=RR r p i:=by
 induction j with
 | zero=>
      have:i=0:=by walk_at "o"
      subst this;exact le_refl _
 | succ j ih=>
  rcases MC i (j+1)with h1|h1
  ·exact le_trans (h j hj) (ih (by walk_at "o") (by walk_at "o"))
  ·have:i=j+1:=by walk_at "o"
   subst this;exact le_refl _
theorem wo{p q:Array Nat}{i j:Nat}(h:p[i]?=q[j]?):RR r p i=RR r q j:=by
 unfold RR;rw[Array.getD_eq_getD_getElem?,Array.getD_eq_getD_getElem?,h]
theorem uF{i j:Nat}(hj:j<=p.size)(k:Nat):RR r (MH p i j) k=if i<=k/\k < j then RR r p (i+j - 1 - k)else RR r p k:=by
 have e:=getElem?_mirror_all (xs:=p) (i:=i) hj k;unfold MH;split
 ·rename_i h;rw[if_pos h]at e;exact wo e
 ·rename_i h;rw[if_neg h]at e;exact wo e
theorem ft(i j:Nat):(MH p i j).size=p.size:=mirror_size _ _ _ _
theorem m7{i j:Nat}(hj:j<=p.size)(he:∀ k,i<=k->k < j->RR r p k=RR r p (j - 1))(k:Nat):RR r (MH p i j) k=RR r p k:=by
 rw[uF hj];split
 ·rename_i h;rw[he _ (by walk_at "o") (by walk_at "o"),he k h.1 h.2]
 ·rfl
theorem qH{i j:Nat}:jL r i j=true↔r i < r j:=by unfold jL;exact decide_eq_true_iff
theorem gU{i j:Nat}:jL r i j=false↔r j<=r i:=by unfold jL;rw[decide_eq_false_iff_not];omega
theorem xF:∀ (f n:Nat),1<=n->∃ m,(kas_asc p f n).run (jL r)=m/\n<=m/\m<=n+f/\(∀ i,n<=i->i < m->RR r p (i - 1)<=RR r p i)/\(m < n+f->RR r p m < RR r p (m - 1))
 | 0,n,_=>⟨n,rfl,le_refl _,le_refl _,fun i h1 h2=>absurd h1 (by walk_at "o"),fun h=>absurd h (by walk_at "o")⟩
 | f+1,n,hn=>by
  show ∃ m,((fun c=>if c=true then KasT.ret n else kas_asc p f (n+1)) (jL r (p.getD n 0) (p.getD (n - 1) 0))).run (jL r)=m/\_
  cases e:jL r (p.getD n 0) (p.getD (n - 1) 0) with
  | true=>exact⟨n,rfl,le_refl _,by walk_at "o",fun i h1 h2=>absurd h1 (by walk_at "o"),fun _=>qH.mp e⟩
  | false=>
   obtain⟨m,e1,h1,h2,h3,h4⟩:=xF f (n+1) (by walk_at "o")
   refine⟨m,e1,by walk_at "o",by walk_at "o",fun i h5 h6=>?_,fun h=>h4 (by walk_at "o")⟩
   rcases MC n i with h7|h7
   ·exact h3 i h7 h6
   ·have:i=n:=by walk_at "o"
    subst this;exact gU.mp e
structure DSt(r:Nat->Nat)(p:Array Nat)(n q:Nat):Prop where
 hq:q+1<=n
 hn:n<=p.size
 dec:qS r p n
 eq:∀ k,n - (q+1)<=k->k < n->RR r p k=RR r p (n - 1)
theorem BZ{n:Nat}:∀ k,n+1 - (0+1)<=k->k < n+1->RR r p k=RR r p (n+1 - 1):=fun k h1 h2=>by
 have:k=n+1 - 1:=by walk_at "o"
 subst this;rfl
theorem uu:∀ (f:Nat) (p:Array Nat) (n q:Nat),DSt r p n q->n+f<=p.size->∃ p' n' q',(Nc f p n q).run (jL r)=(p',n',q')/\DSt r p' n' q'/\n<=n'/\n'<=n+f/\p'.size=p.size/\p'.Perm p
 | 0,p,n,q,h,_=>⟨p,n,q,rfl,h,le_refl _,le_refl _,rfl,Array.Perm.refl _⟩
 | f+1,p,n,q,h,hf=>by
  have hq:=h.hq;show ∃ p' n' q',((fun c=>if c=true then (if q > 0 then Nc f (MH p (n - (q+1)) n) (n+1) 0 else Nc f p (n+1) 0)
   else .ask (p.getD (n - 1) 0) (p.getD n 0) fun d=>if d=true then .ret (p,n,q)else Nc f p (n+1) (q+1)) (jL r (p.getD n 0) (p.getD (n - 1) 0))).run (jL r)=(p',n',q')/\_
  cases e:jL r (p.getD n 0) (p.getD (n - 1) 0) with
  | true=>
   have lt:RR r p n < RR r p (n - 1):=qH.mp e;have next:∀ p1:Array Nat,p1.size=p.size->p1.Perm p->(∀ k,RR r p1 k=RR r p k)->∃ p' n' q',(Nc f p1 (n+1) 0).run (jL r)=(p',n',q')/\DSt r p' n' q'/\n<=n'/\n'<=n+(f+1)/\p'.size=p.size/\p'.Perm p:=fun p1 hz hp hR=>by
    have hn:=h.hn;have dc:qS r p1 (n+1):=fun i hi=>by
     rw[hR,hR];rcases MC (i+1) n with h7|h7
     ·exact h.dec i h7
     ·have e2:n=i+1:=by walk_at "o"
      have e3:i=n - 1:=by walk_at "o"
      rw[<- e2,e3];exact le_of_lt lt
    obtain⟨p',n',q',e1,h1,h2,h3,h4,h5⟩:=uu f p1 (n+1) 0 ⟨by walk_at "o",by walk_at "o",dc,BZ⟩ (by walk_at "o")
    exact⟨p',n',q',e1,h1,by walk_at "o",by walk_at "o",by walk_at "o",h5.trans hp⟩
   show ∃ p' n' q',(if q > 0 then Nc f (MH p (n - (q+1)) n) (n+1) 0 else Nc f p (n+1) 0).run (jL r)=(p',n',q')/\_
   by_cases hq0:q > 0
   ·rw[if_pos hq0];exact next _ (ft _ _) (OQ _ _ _ _) (m7 (by walk_at "o") h.eq)
   ·rw[if_neg hq0];exact next p rfl (Array.Perm.refl _) fun _=>rfl
  | false=>
   have ge:RR r p (n - 1)<=RR r p n:=gU.mp e;show ∃ p' n' q',((fun d=>if d=true then KasT.ret (p,n,q)else Nc f p (n+1) (q+1)) (jL r (p.getD (n - 1) 0) (p.getD n 0))).run (jL r)=(p',n',q')/\_
   cases e2:jL r (p.getD (n - 1) 0) (p.getD n 0) with
   | true=>exact⟨p,n,q,rfl,h,le_refl _,by walk_at "o",rfl,Array.Perm.refl _⟩
   | false=>
    have le:RR r p n<=RR r p (n - 1):=gU.mp e2;have dc:qS r p (n+1):=fun i hi=>by
     rcases MC (i+1) n with h7|h7
     ·exact h.dec i h7
     ·have e2:n=i+1:=by walk_at "o"
      have e3:i=n - 1:=by walk_at "o"
      rw[<- e2,e3];exact le
    have eqq:∀ k,n+1 - (q+1+1)<=k->k < n+1->RR r p k=RR r p (n+1 - 1):=fun k h1 h2=>by
     show RR r p k=RR r p n
     rcases MC k n with h7|h7
     ·rw[h.eq k (by walk_at "o") h7];omega
     ·have:k=n:=by walk_at "o"
      subst this;rfl
    obtain⟨p',n',q',e1,h1,h2,h3,h4,h5⟩:=uu f p (n+1) (q+1) ⟨by walk_at "o",by walk_at "o",dc,eqq⟩ (by walk_at "o")
    exact⟨p',n',q',e1,h1,by walk_at "o",by walk_at "o",h4,h5⟩
theorem uX{n nrem:Nat}(h1:1<=n)(hn:n<=nrem)(hz:nrem<=p.size)(hd:qS r p n):∃ m p',(M9 n nrem p).run (jL r)=(m,p')/\1<=m/\m<=nrem/\p'.size=p.size/\p'.Perm p/\kh r p' m:=by
 unfold M9;rw[KasT.run_bind];obtain⟨m,e,a1,a2,a3,_⟩:=xF (r:=r) (p:=MH p 0 n) (nrem - n) n h1;rw[e];refine⟨m,_,rfl,by walk_at "o",by walk_at "o",ft _ _,OQ _ _ _ _,fun i hi=>?_⟩
 rcases MC (i+1) n with h7|h7
 ·rw[uF (by walk_at "o"),uF (by walk_at "o"),if_pos (by walk_at "o"),if_pos (by walk_at "o")]
  exact hd.le (by walk_at "o") (by walk_at "o")
 ·exact a3 (i+1) h7 hi
theorem nF{n nrem:Nat}(h1:1<=n)(hn:n+1<=nrem)(hz:nrem<=p.size)(hd:qS r p (n+1)):∃ m p',(NT n nrem p).run (jL r)=(m,p')/\1<=m/\m<=nrem/\p'.size=p.size/\p'.Perm p/\kh r p' m:=by
 unfold NT;rw[KasT.run_bind];obtain⟨p1,n1,q1,e,d,a1,a2,a3,a4⟩:=uu (r:=r) (nrem - (n+1)) p (n+1) 0 ⟨by walk_at "o",by walk_at "o",hd,BZ⟩ (by walk_at "o")
 rw[e];have hq:=d.hq
 by_cases hq0:q1 > 0
 ·show ∃ m p',(if q1 > 0 then M9 n1 nrem (MH p1 (n1 - (q1+1)) n1)else M9 n1 nrem p1).run (jL r)=(m,p')/\_
  rw[if_pos hq0];have hR:=m7 (r:=r) (p:=p1) (i:=n1 - (q1+1)) (j:=n1) d.hn d.eq;obtain⟨m,p',b1,b2,b3,b4,b5,b6⟩:=uX (r:=r) (p:=MH p1 (n1 - (q1+1)) n1) (n:=n1) (nrem:=nrem) (by walk_at "o") (by walk_at "o") (by rw[ft];omega) (fun i hi=>by rw[hR,hR];exact d.dec i hi)
  exact⟨m,p',b1,b2,b3,by rw[b4,ft,a3],(b5.trans (OQ _ _ _ _)).trans a4,b6⟩
 ·show ∃ m p',(if q1 > 0 then M9 n1 nrem (MH p1 (n1 - (q1+1)) n1)else M9 n1 nrem p1).run (jL r)=(m,p')/\_
  rw[if_neg hq0];obtain⟨m,p',b1,b2,b3,b4,b5,b6⟩:=uX (r:=r) (p:=p1) (n:=n1) (nrem:=nrem) (by walk_at "o") (by walk_at "o") (by walk_at "o") d.dec
  exact⟨m,p',b1,b2,b3,by rw[b4,a3],b5.trans a4,b6⟩
theorem CD{nrem:Nat}(h1:1<=nrem)(hz:nrem<=p.size):∃ m p',(O_ nrem p).run (jL r)=(m,p')/\1<=m/\m<=nrem/\p'.size=p.size/\p'.Perm p/\kh r p' m:=by
 unfold O_;rw[KasT.run_bind];obtain⟨n,e,a1,a2,a3,a4⟩:=xF (r:=r) (p:=p) (nrem - 1) 1 (le_refl _);rw[e];have adj:kh r p n:=fun i hi=>a3 (i+1) (by walk_at "o") hi
 by_cases h2:n=nrem
 ·rw[if_pos (by simpa using h2)]
  exact⟨n,p,rfl,by walk_at "o",by walk_at "o",rfl,Array.Perm.refl _,adj⟩
 ·rw[if_neg (by simpa using h2)]
  have dn:RR r p n < RR r p (n - 1):=a4 (by walk_at "o")
  by_cases h3:n > 1
  ·rw[if_pos h3];show ∃ m p',((fun c=>if c=true then KasT.ret (n,p)else NT n nrem (MH p 0 n)) (jL r (p.getD 0 0) (p.getD (n - 1) 0))).run (jL r)=(m,p')/\_
   cases e2:jL r (p.getD 0 0) (p.getD (n - 1) 0) with
   | true=>exact⟨n,p,rfl,by walk_at "o",by walk_at "o",rfl,Array.Perm.refl _,adj⟩
   | false=>
    have ge:RR r p (n - 1)<=RR r p 0:=gU.mp e2;have eq:∀ k,0<=k->k < n->RR r p k=RR r p (n - 1):=fun k _ hk=>by
     have:=adj.le (LG k) hk;have:=adj.le (show k<=n - 1 by walk_at "o") (by walk_at "o")
     omega
    have hR:=m7 (r:=r) (p:=p) (i:=0) (j:=n) (by walk_at "o") eq
    obtain⟨m,p',b1,b2,b3,b4,b5,b6⟩:=nF (r:=r) (p:=MH p 0 n) (n:=n) (nrem:=nrem) (by walk_at "o") (by walk_at "o") (by rw[ft];omega) (fun i hi=>by
     rw[hR,hR];rcases MC (i+1) n with h7|h7
     ·rw[eq i (by walk_at "o") (by walk_at "o"),eq (i+1) (by walk_at "o") h7];exact le_refl _
     ·have e3:n=i+1:=by walk_at "o"
      have e4:i=n - 1:=by walk_at "o"
      rw[<- e3,e4];exact le_of_lt dn)
    exact⟨m,p',b1,b2,b3,by rw[b4,ft],b5.trans (OQ _ _ _ _),b6⟩
  ·rw[if_neg h3];have e1:n=1:=by walk_at "o"
   subst e1;exact nF (by walk_at "o") (by walk_at "o") hz (fun i hi=>by
    have:i=0:=by walk_at "o"
    subst this;exact le_of_lt dn)
theorem pM{k:Nat}(hs:kh r p k):∀ (f l u:Nat),l<=u->u<=k->u - l<=f->(∀ i,i < l->RR r p i<=RR r p k)->(∀ i,u<=i->i < k->RR r p k < RR r p i)->
  ∃ m,(Oh p k f l u).run (jL r)=m/\m<=k/\(∀ i,i < m->RR r p i<=RR r p k)/\(∀ i,m<=i->i < k->RR r p k < RR r p i)
 | 0,l,u,h1,h2,h3,h4,h5=>⟨l,rfl,by walk_at "o",h4,fun i a b=>h5 i (by walk_at "o") b⟩
 | f+1,l,u,h1,h2,h3,h4,h5=>by
  unfold Oh
  by_cases hlu:l>=u
  ·rw[if_pos hlu];exact⟨l,rfl,by walk_at "o",h4,fun i a b=>h5 i (by walk_at "o") b⟩
  ·rw[if_neg hlu];show ∃ m,((fun c=>if c=true then Oh p k f l ((l+u) / 2)else Oh p k f ((l+u) / 2+1) u) (jL r (p.getD k 0) (p.getD ((l+u) / 2) 0))).run (jL r)=m/\_
   cases e:jL r (p.getD k 0) (p.getD ((l+u) / 2) 0) with
   | true=>
    have lt:RR r p k < RR r p ((l+u) / 2):=qH.mp e;exact pM hs f l ((l+u) / 2) (by walk_at "o") (by walk_at "o") (by walk_at "o") h4 fun i a b=>K7 lt (hs.le a b)
   | false=>
    have ge:RR r p ((l+u) / 2)<=RR r p k:=gU.mp e;exact pM hs f ((l+u) / 2+1) u (by walk_at "o") h2 (by walk_at "o") (fun i a=>le_trans (hs.le (show i<=(l+u) / 2 by walk_at "o") (by walk_at "o")) ge) h5
theorem m8{src d:Nat}(hs:src < p.size)(hd:d<=src)(k:Nat):RR r (bubble p src d) k=if k=src - d then RR r p src else if src - d < k/\k<=src then RR r p (k - 1)else RR r p k:=by
 have e:=getElem?_bubble hs d hd k;split
 ·rename_i h;rw[if_pos h]at e;exact wo e
 ·rename_i h;rw[if_neg h]at e;split
  ·rename_i h2;rw[if_pos h2]at e;exact wo e
  ·rename_i h2;rw[if_neg h2]at e;exact wo e
theorem CL:∀ (f:Nat) (p:Array Nat) (k:Nat),k+f=p.size->kh r p k->∃ p',(OY f p k).run (jL r)=p'/\p'.size=p.size/\p'.Perm p/\kh r p' p.size
 | 0,p,k,h,a=>⟨p,rfl,rfl,Array.Perm.refl _,by rw[<- h];exact a⟩
 | f+1,p,k,h,a=>by
  unfold OY;rw[KasT.run_bind];obtain⟨l,e,b1,b2,b3⟩:=pM (r:=r) a k 0 k (by walk_at "o") (le_refl _) (by walk_at "o") (fun i z=>absurd z (by walk_at "o")) (fun i x y=>absurd x (by walk_at "o"))
  rw[e];have hk:k < p.size:=by walk_at "o"
  obtain⟨p',c1,c2,c3,c4⟩:=CL f (bubble p k (k - l)) (k+1) (by rw[PJ];omega) (fun i hi=>by
   have e1:=m8 (r:=r) hk (show k - l<=k by walk_at "o") i
   have e2:=m8 (r:=r) hk (show k - l<=k by walk_at "o") (i+1)
   have ek:k - (k - l)=l:=by walk_at "o"
   rw[ek]at e1 e2;rw[e1,e2];rcases Nat.lt_trichotomy i l with hil|hil|hil
   ·rw[if_neg (by walk_at "o"),if_neg (by walk_at "o")]
    by_cases h2:i+1=l
    ·rw[if_pos h2];exact b2 i hil
    ·rw[if_neg h2,if_neg (by walk_at "o")];exact a i (by walk_at "o")
   ·rw[if_pos hil,if_neg (by walk_at "o"),if_pos (by walk_at "o")]
    have:i+1 - 1=i:=by walk_at "o"
    rw[this];exact le_of_lt (b3 i (by walk_at "o") (by walk_at "o"))
   ·rw[if_neg (by walk_at "o"),if_pos (by walk_at "o"),if_neg (by walk_at "o"),if_pos (by walk_at "o")]
    have:i+1 - 1=(i - 1)+1:=by walk_at "o"
    rw[this];exact a (i - 1) (by walk_at "o"))
  rw[PJ]at c2 c4;exact⟨p',c1,c2,c3.trans (bubble_perm _ _ _),c4⟩
theorem Do(r:Nat->Nat)(n:Nat)(hn:1<=n):∃ p,(PD n).run (jL r)=p/\p.toList.Perm (List.range n)/\kh r p n:=by
 unfold PD;rw[KasT.run_bind];have hz:(List.toArray (List.range n)).size=n:=by simp
 obtain⟨m,p1,e,a1,a2,a3,a4,a5⟩:=CD (r:=r) (p:=List.toArray (List.range n)) (nrem:=n) hn (by rw[hz];exact le_refl _)
 rw[e];have toL:∀ {p:Array Nat},p.Perm (List.toArray (List.range n))->p.toList.Perm (List.range n):=fun h=>by simpa using Array.perm_iff_toList_perm.mp h
 show ∃ p,(if m < n then OY (n - max m 1) p1 (max m 1)else KasT.ret p1).run (jL r)=p/\_
 by_cases h:m < n
 ·rw[if_pos h];obtain⟨p',b1,b2,b3,b4⟩:=CL (r:=r) (n - max m 1) p1 (max m 1) (by rw[a3,hz];omega) (by rw[show max m 1=m by walk_at "o"];exact a5)
  exact⟨p',b1,toL (b3.trans a4),by rw[a3,hz]at b4;exact b4⟩
 ·rw[if_neg h];have:m=n:=by walk_at "o"
  subst this;exact⟨p1,rfl,toL a4,a5⟩
end
section
variable{κ:Type}(blt:κ->κ->Bool)
structure SWO:Prop where
 irrefl:∀ a,blt a a=false
 trans:∀ a b c,blt a b=true->blt b c=true->blt a c=true
 neg:∀ a b c,blt a c=true->blt a b=true\/blt b c=true
def wO(ks:List κ)(a:κ):Nat:=ks.countP fun k=>blt k a
end
section
variable{κ:Type}{blt:κ->κ->Bool}
theorem so{p q:κ->Bool}(ks:List κ)(h:∀ x,p x=true->q x=true):ks.countP p<=ks.countP q:=by
 induction ks with
 | nil=>exact le_refl _
 | cons x r ih=>
  rw[Od,Od];cases hp:p x with
  | false=>simp;split<;>omega
  | true=>rw[h x hp];simp;omega
theorem Ay{p q:κ->Bool}{ks:List κ}(h:∀ x,p x=true->q x=true){y:κ}(hy:y∈ks)(h1:p y=false)(h2:q y=true):ks.countP p < ks.countP q:=by
 induction ks with
 | nil=>simp at hy
 | cons x r ih=>
  rw[Od,Od];rcases Le.mp hy with rfl|hy
  ·have:=so r h;rw[h1,h2];simp;omega
  ·have:=ih hy;cases hp:p x with
   | false=>simp;split<;>omega
   | true=>rw[h x hp];simp;omega
theorem Dz(o:SWO blt){ks:List κ}{a b:κ}(ha:a∈ks):blt a b=decide (wO blt ks a < wO blt ks b):=by
 cases e:blt a b with
 | true=>
  symm;rw[decide_eq_true_iff];exact Ay (fun x hx=>o.trans _ _ _ hx e) ha (o.irrefl a) e
 | false=>
  symm;rw[decide_eq_false_iff_not,not_lt];refine so ks fun x hx=>?_;rcases o.neg x a b hx with h|h
  ·exact h
  ·rw[e]at h;cases h
end
def KasT.allR{α:Type}(n:Nat)(P:α->Prop):Qh α->Prop
 | .ret a=>P a
 | .ask i j k=>i < n/\j < n/\∀ b,(k b).allR n P
theorem KasT.allR_mono{α:Type}{n:Nat}{P P':α->Prop}(h:∀ a,P a->P' a):∀ {t:Qh α},t.allR n P->t.allR n P'
 | .ret a,q=>h a q
 | .ask i j k,q=>⟨q.1,q.2.1,fun b=>KasT.allR_mono h (q.2.2 b)⟩
theorem KasT.allR_bind{α β:Type}{n:Nat}{P:α->Prop}{P':β->Prop}{f:α->Qh β}(h:∀ a,P a->(f a).allR n P'):∀ {t:Qh α},t.allR n P->(t.bind f).allR n P'
 | .ret a,q=>h a q
 | .ask i j k,q=>⟨q.1,q.2.1,fun b=>KasT.allR_bind h (q.2.2 b)⟩
theorem KasT.walked{α:Type}{n:Nat}{P:α->Prop}{lt:Nat->Nat->Bool}{J:KF->Prop}{cmp:Nat->Nat->(Bool->KF->Prop)->KF->Prop}{Q:α->KF->Prop}
  (hc:∀ i j C s,i < n->j < n->J s->(∀ s',J s'->C (lt i j) s')->cmp i j C s):∀ (t:Qh α) (s:KF),t.allR n P->J s->(∀ s',J s'->P (t.run lt)->Q (t.run lt) s')->t.kasWp cmp Q s
 | .ret a,s,q,j,h=>h s j q
 | .ask i j k,s,q,hj,h=>hc i j _ s q.1 q.2.1 hj fun s' hj'=>KasT.walked hc (k (lt i j)) s' (q.2.2 _) hj' h
structure EntN(n:Nat)(p:Array Nat):Prop where
 size:p.size=n
 ent:∀ i,p.getD i 0 < n
section
variable{N:Nat}{p:Array Nat}
theorem EntN.rev(e:EntN N p){i j:Nat}(hj:j<=N):EntN N (MH p i j):=by
 refine⟨by rw[ft];exact e.size,fun k=>?_⟩
 have h:=uF (r:=id) (p:=p) (i:=i) (j:=j) (by rw[e.size];exact hj) k
 unfold RR at h;simp only[id]at h;rw[h];split<;>exact e.ent _
theorem EntN.bub(e:EntN N p){src d:Nat}(hs:src < N)(hd:d<=src):EntN N (bubble p src d):=by
 refine⟨by rw[PJ];exact e.size,fun k=>?_⟩
 have h:=m8 (r:=id) (p:=p) (src:=src) (d:=d) (by rw[e.size];exact hs) hd k
 unfold RR at h;simp only[id]at h;rw[h];split
 ·exact e.ent _
 ·split<;>exact e.ent _
theorem xG(e:EntN N p):∀ (f n:Nat),(kas_asc p f n).allR N fun m=>n<=m/\m<=n+f
 | 0,n=>⟨le_refl _,le_refl _⟩
 | f+1,n=>⟨e.ent _,e.ent _,fun b=>by
   cases b with
   | true=>exact⟨le_refl _,by walk_at "o"⟩
   | false=>exact KasT.allR_mono (fun m h=>⟨by walk_at "o",by walk_at "o"⟩) (xG e f (n+1))⟩
theorem oQ:∀ (f:Nat) (p:Array Nat) (n q:Nat),EntN N p->n+f<=N->(Nc f p n q).allR N fun r=>EntN N r.1/\n<=r.2.1/\r.2.1<=n+f
 | 0,p,n,q,e,_=>⟨e,le_refl _,le_refl _⟩
 | f+1,p,n,q,e,h=>⟨e.ent _,e.ent _,fun b=>by
   have mono:∀ {t:Qh (Array Nat×Nat×Nat)},(t.allR N fun r=>EntN N r.1/\n+1<=r.2.1/\r.2.1<=n+1+f)->t.allR N fun r=>EntN N r.1/\n<=r.2.1/\r.2.1<=n+(f+1):=fun h=>KasT.allR_mono (fun r z=>⟨z.1,by walk_at "o",by walk_at "o"⟩) h
   cases b with
   | true=>
    show KasT.allR N _ (if q > 0 then Nc f (MH p (n - (q+1)) n) (n+1) 0 else Nc f p (n+1) 0)
    split
    ·exact mono (oQ f _ (n+1) 0 (e.rev (by walk_at "o")) (by walk_at "o"))
    ·exact mono (oQ f _ (n+1) 0 e (by walk_at "o"))
   | false=>exact⟨e.ent _,e.ent _,fun d=>by
     cases d with
     | true=>exact⟨e,le_refl _,show n<=n+(f+1)by walk_at "o"⟩
     | false=>exact mono (oQ f p (n+1) (q+1) e (by walk_at "o"))⟩⟩
theorem uY(e:EntN N p){n nrem:Nat}(hn:n<=N):(M9 n nrem p).allR N fun r=>EntN N r.2:=by
 unfold M9;refine KasT.allR_bind (fun m _=>?_) (xG (e.rev (i:=0) hn) (nrem - n) n);exact (e.rev hn:EntN N (MH p 0 n))
theorem nG(e:EntN N p){n nrem:Nat}(hn:n+1<=nrem)(hz:nrem<=N):(NT n nrem p).allR N fun r=>EntN N r.2:=by
 unfold NT;refine KasT.allR_bind (fun r h=>?_) (oQ (nrem - (n+1)) p (n+1) 0 e (by walk_at "o"))
 obtain⟨p1,n1,q1⟩:=r;obtain⟨h1,h2,h3⟩:=h;show KasT.allR N _ (if q1 > 0 then M9 n1 nrem (MH p1 (n1 - (q1+1)) n1)else M9 n1 nrem p1)
 have hn1:n1<=N:=by simp only at h3;omega
 split
 ·exact uY (h1.rev hn1) hn1
 ·exact uY h1 hn1
theorem CF(e:EntN N p){nrem:Nat}(h1:1<=nrem)(hz:nrem<=N):(O_ nrem p).allR N fun r=>EntN N r.2:=by
 unfold O_;refine KasT.allR_bind (fun n h=>?_) (xG e _ _)
 by_cases h2:n=nrem
 ·rw[if_pos (by simpa using h2)];exact e
 ·rw[if_neg (by simpa using h2)]
  by_cases h3:n > 1
  ·rw[if_pos h3];refine⟨e.ent _,e.ent _,fun b=>?_⟩;cases b with
   | true=>exact e
   | false=>exact nG (e.rev (by walk_at "o")) (by walk_at "o") hz
  ·rw[if_neg h3];exact nG e (by walk_at "o") hz
theorem pN(e:EntN N p)(k:Nat):∀ (f l u:Nat),(Oh p k f l u).allR N fun _=>True
 | 0,l,u=>trivial
 | f+1,l,u=>by
  unfold Oh;split
  ·exact trivial
  ·exact⟨e.ent _,e.ent _,fun b=>by
    cases b with
    | true=>exact pN e k f _ _
    | false=>exact pN e k f _ _⟩
theorem CO:∀ (f:Nat) (p:Array Nat) (k:Nat),EntN N p->k+f<=N->(OY f p k).allR N (EntN N)
 | 0,p,k,e,_=>e
 | f+1,p,k,e,h=>by
  unfold OY;refine KasT.allR_bind (fun l _=>?_) (pN e k k 0 k);exact CO f _ (k+1) (e.bub (by walk_at "o") (by walk_at "o")) (by walk_at "o")
theorem Dp{n:Nat}(hn:1<=n):(PD n).allR n (EntN n):=by
 have e:EntN n (List.toArray (List.range n)):=⟨by simp,fun i=>by
  rw[Array.getD_eq_getD_getElem?,List.getElem?_toArray];cases h:(List.range n)[i]? with
  | none=>exact hn
  | some x=>exact mem_range.mp (K0 h)⟩
 unfold PD;refine KasT.allR_bind (fun r h=>?_) (CF e hn (le_refl _));obtain⟨m,p⟩:=r;show KasT.allR n _ (if m < n then OY (n - max m 1) p (max m 1)else KasT.ret p)
 split
 ·exact CO _ _ _ h (by walk_at "o")
 ·exact h
end
section
variable{α:Type}(blt:α->α->Bool)
structure STO:Prop where
 irrefl:∀ a,blt a a=false
 trans:∀ a b c,blt a b=true->blt b c=true->blt a c=true
 tot:∀ a b,blt a b=false->blt b a=false->a=b
def tW[DecidableEq α]:List α->List α->Bool
 | [],[]=>false
 | [],_::_=>true
 | _::_,[]=>false
 | a::r,b::t=>if a=b then tW r t else blt a b
end
section
variable{α:Type}{blt:α->α->Bool}
theorem STO.neg(o:STO blt)(a b c:α)(h:blt a c=true):blt a b=true\/blt b c=true:=by
 cases e:blt a b with
 | true=>exact .inl rfl
 | false=>
  cases e2:blt b c with
  | true=>exact .inr rfl
  | false=>
   cases e3:blt b a with
   | true=>have:=o.trans _ _ _ e3 h;rw[e2]at this;cases this
   | false=>
    have:=o.tot _ _ e e3;subst this;rw[h]at e2;cases e2
variable[DecidableEq α]
theorem jv(a b:α)(r t:List α):tW blt (a::r) (b::t)=if a=b then tW blt r t else blt a b:=rfl
theorem Ec(o:STO blt):STO (tW blt) where
 irrefl:=by
  intro a
  induction a with
  | nil=>rfl
  | cons x r ih=>rw[jv,if_pos rfl,ih]
 trans:=by
  intro a
  induction a with
  | nil=>
   intro b c h1 h2;cases c with
   | nil=>cases b<;>cases h2
   | cons _ _=>rfl
  | cons x r ih=>
   intro b c h1 h2;cases b with
   | nil=>cases h1
   | cons y t=>
    cases c with
    | nil=>cases h2
    | cons z u=>
     rw[jv]at h1 h2 ⊢
     by_cases e1:x=y
     ·subst e1;rw[if_pos rfl]at h1
      by_cases e2:x=z
      ·subst e2;rw[if_pos rfl]at h2 ⊢;exact ih t u h1 h2
      ·rw[if_neg e2]at h2 ⊢;exact h2
     ·rw[if_neg e1]at h1
      by_cases e2:y=z
      ·subst e2;rw[if_neg e1];exact h1
      ·rw[if_neg e2]at h2;have h3:=o.trans _ _ _ h1 h2;rw[if_neg (fun e=>by subst e;rw[o.irrefl]at h3;cases h3)]
       exact h3
 tot:=by
  intro a
  induction a with
  | nil=>
   intro b h1 h2;cases b with
   | nil=>rfl
   | cons _ _=>cases h1
  | cons x r ih=>
   intro b h1 h2;cases b with
   | nil=>cases h2
   | cons y t=>
    rw[jv]at h1 h2
    by_cases e1:x=y
    ·subst e1;rw[if_pos rfl]at h1 h2;rw[ih t h1 h2]
    ·rw[if_neg e1]at h1;rw[if_neg (Ne.symm e1)]at h2;exact absurd (o.tot _ _ h1 h2) e1
end
def xf(a b:Nat):Bool:=decide (a < b)
theorem D9:STO xf:=⟨fun a=>by simp[xf],fun a b c h1 h2=>by simp only[xf,decide_eq_true_eq]at *;omega,fun a b h1 h2=>by simp only[xf,decide_eq_false_iff_not]at *;omega⟩
theorem vL:∀ a b:List Nat,tW xf a b=decide (a < b)
 | [],[]=>by simp[tW]
 | [],b::t=>by simp[tW]
 | a::r,[]=>by simp[tW]
 | a::r,b::t=>by
  rw[jv]
  by_cases e:a=b
  ·subst e;rw[if_pos rfl,vL r t];simp
  ·rw[if_neg e];simp[xf,List.cons_lt_cons_iff,e]
end PySem.W
namespace L3
open PySem PySem.Spec PyProof.Rows L2 PySem.SeqAt
open PySem.AutoSeq1 (wpAny_loadPart')
open PySem.MeetsSeq PySem.MeetsSeq2 PySem.MeetsSeq3
def eU(blt:D->D->Bool):List D->List D->Bool
 | [],[]=>false
 | [],_::_=>true
 | _::_,[]=>false
 | a::r,b::t=>if dE a b=true then eU blt r t else blt a b
def oN:Nat->D->D->Bool
 | _,.int a,.int b=>decide (a < b)
 | _,.str x,.str y=>decide (x.cps.toList < y.cps.toList)
 | n+1,.tup xs,.tup ys=>eU (oN n) xs ys
 | _,_,_=>false
def Ic(n:Nat)(P:D->D->Prop):List D->List D->Prop
 | a::r,b::t=>(pl n a/\pl n b)/\(a≠b->P a b)/\Ic n P r t
 | _,_=>True
def C8:Nat->D->D->Prop
 | _,.int _,.int _=>True
 | _,.str _,.str _=>True
 | n+1,.tup xs,.tup ys=>Ic n (C8 n) xs ys
 | _,_,_=>False
def EJ(op:N3)(A:KY)(s:KF)(v u:KC)(b:Bool):Prop:=
 ∀ (prog:KQ) (w:K2) (E:KC->KF->Prop) (Q:KC->KF->Prop),Q (.bool b) s->KI (KL prog w) A (richCompare op v u) Q E s
def sC(op:N3)(fin:Bool)(A:KY)(s:KF):List KC->List KC->Bool->Prop
 | v::vs,u::us,out=>∃ e,EqAt A s v u e/\(e=true->sC op fin A s vs us out)/\(e=false->EJ op A s v u out)
 | _,_,out=>out=fin
theorem Af{op:N3}{fin out:Bool}{A:KY}{s:KF}:∀ {vs us:List KC},sC op fin A s vs us out->vs.zip us=[]->out=fin
 | [],_,h,_=>h
 | _::_,[],h,_=>h
 | _::_,_::_,_,e=>by rw[Nk]at e;cases e
theorem wG(l b:KE)(items items2:Array KC)(n n2:Nat)(dd dd2:Option KE)(sl sl2:Array (Option KC))(out:Bool):
  Meets (Builtin.«tuple.__lt__» ⟨[.ref l,.ref b],[]⟩)
   (fun A R s=>s.heap.get? l=some { cls:=.type "tuple",dict:=dd,data:=.seq items n,slots:=sl }/\s.heap.get? b=some { cls:=.type "tuple",dict:=dd2,data:=.seq items2 n2,slots:=sl2 }/\
    sC .Lt (decide (items.size < items2.size)) A.in1 s items.toList items2.toList out/\R (.ok (.ret (.bool out))) s):=
 .of_wp fun prog w A R s h=>by
  obtain⟨hp,g,d,tk,os⟩:=s;obtain⟨hl,hb,hx,h⟩:=h;have f2:=AutoSeq1.sub_tuple_tuple
  wp_walk using wpAny_loadPart' hl,wpAny_loadPart' hb,wpAny_forIn_list _ (fun bP b s'=>b.1=none/\s'=⟨hp,g,d,tk,os⟩/\∃ vs ws,bP=vs.zip ws/\sC .Lt (decide (items.size < items2.size)) A.in1 ⟨hp,g,d,tk,os⟩ vs ws out) _
  case turn=>
   rintro⟨y,x⟩ bP b s' ⟨hb',rfl,vs,ws,hz,lx⟩
   cases vs with
   | nil=>rw[List.zip_nil_left]at hz;cases hz
   | cons v vs=>
    cases ws with
    | nil=>rw[List.zip_nil_right]at hz;cases hz
    | cons u ws=>
     rw[Nk]at hz;injection hz with hyx QX
     injection hyx with hy hx'
     subst hy hx';obtain⟨e,he,l1,l2⟩:=lx;refine KB (he prog w _ _ ?_);cases e with
     | true=>
      wp_walk
      exact⟨rfl,rfl,_,_,QX,l1 rfl⟩
     | false=>
      have hri:=l2 rfl prog w
      wp_walk using hri
      exact⟨_,rfl,by simpa using h⟩
  case fin=>
   rintro⟨b1,b2⟩ s' ⟨hb',rfl,vs,ws,hz,lx⟩
   simp only at hb';subst hb';have hv:=Af lx hz.symm;rw[hv]at h
   wp_walk
   exact⟨_,rfl,by simpa[Builtin.Tuple.tupleCompareSizes]using h⟩
  case h=>
   exact⟨rfl,rfl,items.toList,items2.toList,rfl,hx⟩
theorem B9{A:KY}{s:KF}{l b:KE}{items items2:Array KC}{out:Bool}(hl:s.heap.IsTuple l items)(hb:s.heap.IsTuple b items2)(hu:A.units < Ly)
  (hx:sC .Lt (decide (items.size < items2.size)) A.in1 s items.toList items2.toList out):EJ .Lt A s (.ref l) (.ref b) out:=fun prog w E Q h=>by
 obtain⟨⟨cls,dd,data,sl⟩,ho,hc,n,hd⟩:=id hl;obtain⟨⟨cls2,dd2,data2,sl2⟩,ho2,hc2,n2,hd2⟩:=id hb;simp only at hc hd hc2 hd2;subst hc hd hc2 hd2;exact richCompare_meets_room (op:=.Lt) ⟨_,ho,rfl⟩ ⟨_,ho2,rfl⟩ PySem.F.slot_tuple_lt PySem.F.entry_tuple_lt (PySem.F.args_tuple_lt_2 _ _) (wG l b items items2 n n2 dd dd2 sl sl2 out)
  ⟨ho,ho2,hx,show Value.bool out≠Value.notImplemented/\Q (.bool out) s from ⟨(fun x=>nomatch x),h⟩⟩ hu
section
variable{X:Cx}{pins:List (KE×Obj)}{σ:St}{H:Hp}{s:KF}
theorem vM(I:Inv X pins σ H s){n:Nat}{A:KY}(hu:A.units+n < Ly){N1 N2:Nat}
  (ih:∀ {x y:D} {v u:V} {v' u':KC},C8 n x y->RD X.K H x v->RD X.K H y u->RelV v v'->RelV u u'->EJ .Lt A s v' u' ( oN n x y)):
  ∀ {ds es:List D} {xs ys:List V} {us ws:List KC},Ic n (C8 n) ds es->RDs X.K H ds xs->RDs X.K H es ys->Vals xs us->Vals ys ws->ds.length+N2=es.length+N1->sC .Lt (decide (N1 < N2)) A s us ws ( eU (oN n) ds es)
 | [],es,xs,ys,us,ws,_,r1,r2,w1,w2,hl=>by
  rw[r1.inv_nil]at w1;cases w1;show ( eU (oN n) [] es)=decide (N1 < N2)
  cases es with
  | nil=>
   simp only[Lx]at hl;have e1:N2=N1:=by walk_at "o"
   subst e1;simp[eU]
  | cons b t=>
   simp only[Lx,Lb]at hl;have:N1 < N2:=by walk_at "o"
   simp[eU];omega
 | a::r,[],xs,ys,us,ws,_,r1,r2,w1,w2,hl=>by
  rw[r2.inv_nil]at w2;cases w2;obtain⟨x1,t1,e1,_,_⟩:=r1.inv_cons;subst e1;cases w1;show ( eU (oN n) (a::r) [])=decide (N1 < N2)
  simp only[Lx,Lb]at hl;have:N2 < N1:=by walk_at "o"
  simp[eU];omega
 | a::r,b::t,xs,ys,us,ws,⟨p,c,q⟩,r1,r2,w1,w2,hl=>by
  obtain⟨x1,t1,e1,g1,g2⟩:=r1.inv_cons;subst e1;obtain⟨x2,t2,e2,f1,f2⟩:=r2.inv_cons;subst e2;cases w1 with
  | cons k1 w1=>
  cases w2 with
  | cons k2 w2=>
   refine⟨dE a b,(su I n p.1 p.2 g1 f1 k1 k2 hu).eq,fun e=>?_,fun e=>?_⟩
   ·rw[show eU (oN n) (a::r) (b::t)=eU (oN n) r t by simp[eU,e]]
    simp only[Lb]at hl;exact vM I hu ih q g2 f2 w1 w2 (by walk_at "o")
   ·rw[show eU (oN n) (a::r) (b::t)=oN n a b by simp[eU,e]]
    exact ih (c fun z=>by rw[z,bg]at e;cases e) g1 f1 k1 k2
theorem FR(I:Inv X pins σ H s):∀ (n:Nat) {x y:D} {v u:V} {v' u':KC} {A:KY},C8 n x y->RD X.K H x v->RD X.K H y u->RelV v v'->RelV u u'->A.units+n < Ly->EJ .Lt A s v' u' ( oN n x y):=by
 intro n
 induction n with
 | zero=>
  intro x y v u v' u' A c rx ry lx ly hu;cases x<;>cases y<;>first|exact c.elim|skip
  ·simp only[RD]at rx ry;subst rx ry;obtain⟨t,rfl⟩:=lx;obtain⟨t',rfl⟩:=ly;intro prog w E Q h;exact (PyProof.Rows.lt_int h:KI (KL prog w) A (Ll .Lt (.int _ t) (.int _ t')) Q E s)
  ·simp only[RD]at rx ry;subst rx ry;obtain⟨t,rfl⟩:=lx;obtain⟨t',rfl⟩:=ly;intro prog w E Q h;exact (PySem.P.lt_str h:KI (KL prog w) A (Ll .Lt (.str _ t) (.str _ t')) Q E s)
 | succ n ih=>
  intro x y v u v' u' A c rx ry lx ly hu;cases x<;>cases y<;>first|exact c.elim|skip
  ·simp only[RD]at rx ry;subst rx ry;obtain⟨t,rfl⟩:=lx;obtain⟨t',rfl⟩:=ly;intro prog w E Q h;exact (PyProof.Rows.lt_int h:KI (KL prog w) A (Ll .Lt (.int _ t) (.int _ t')) Q E s)
  ·simp only[RD]at rx ry;subst rx ry;obtain⟨t,rfl⟩:=lx;obtain⟨t',rfl⟩:=ly;intro prog w E Q h;exact (PySem.P.lt_str h:KI (KL prog w) A (Ll .Lt (.str _ t) (.str _ t')) Q E s)
  ·rename_i ds es;simp only[RD]at rx ry;obtain⟨a,xs,rfl,s1,r1⟩:=rx;obtain⟨b,ys,rfl,s2,r2⟩:=ry;cases lx;cases ly;obtain⟨its,w1,t1,z1⟩:=I.tuple s1;obtain⟨its2,w2,t2,z2⟩:=I.tuple s2;have l1:=w1.length;have l1':=r1.length;have l2:=w2.length;have l2':=r2.length;refine B9 t1 t2 (by walk_at "o") ?_
   exact vM I (A:=A.in1) (by show A.units+1+n < Ly;omega) (fun c rx ry lx ly=>ih c rx ry lx ly (by show A.units+1+n < Ly;omega)) c r1 r2 w1 w2 (by simp only[KS];omega)
end
def Jv:R3:=fun x y G Q=>C8 4 x y/\Q (.bl (! oN 4 x y)) G
open PySem.W
def iI(h:K1)(d:KE)(vs:List KC)(ep:Nat):Prop:=∃ o es,h.get? d=some o/\o.ExactDict/\o.data=.dict es ep/\es.toList.map (·.val)=vs
section
variable{prog:KQ}{w:K2}{A:KY}{E:KC->KF->Prop}{s:KF}{d r it:KE}{vs:List KC}{ep i:Nat}
theorem iI.ty(x:iI s.heap d vs ep):s.TypeIs (.ref d) "dict":=let ⟨o,_,e,z,_⟩:=x;⟨o,e,z.1⟩
theorem iI.there{h:K1}(x:iI h d vs ep):d < h.objs.size:=let ⟨_,_,e,_⟩:=x;KN e
theorem iI.stay{h h':K1}(x:iI h d vs ep)(k:∀ o,h.get? d=some o->h'.get? d=some o):iI h' d vs ep:=let ⟨o,es,e,z⟩:=x;⟨o,es,k o e,z⟩
theorem pI(hs:(d == Lw)=false):MeetsIn prog w (Builtin.«dict.values» ⟨[.ref d],[]⟩) (fun _ R s=>(∃ vs ep,iI s.heap d vs ep)/\
  R (.ok (.ret (.ref s.heap.objs.size))) { s with heap:=s.heap.push { cls:=.type "dict_values",data:=.fields #[.ref d] } }):=
 .of_wp fun A R s zz=>by
  obtain⟨⟨vs,ep,x⟩,q⟩:=zz;refine KB ?_;unfold On;refine KB (ME x.ty ?_);show KI _ _ (pure d) _ _ s;refine KD ?_
  show KI _ _ (LK d >>= _) _ _ s;unfold LK
  rw[if_neg (fun z=>by rw[hs]at z;cases z)];refine KB (KD ?_)
  exact KB (K6 (KD ⟨_,rfl,q⟩))
theorem u_{Q:KC->KF->Prop}(hr:s.heap.IsValuesView r d)(x:iI s.heap d vs ep)
  (q:Q (.ref s.heap.objs.size) { s with heap:=s.heap.push { cls:=.type "dict_valueiterator",data:=.fields #[.ref d,.int 0 0,.int vs.length 0,.int ep 0] } }):KI (KL prog w) A (Ni (.ref r)) Q E s:=by
 obtain⟨ov,e1,c1,d1⟩:=id hr;obtain⟨o,es,e2,c2,d2,rfl⟩:=x;refine MG hr.typeIs Pd (Lh Pd hr.typeIs F.entry_dict_values_iter ?_ (F.args_dict_values_iter_1 _));unfold Builtin.«dict_values.__iter__»;refine KB (KD ?_);refine KB ?_;unfold NA;refine KB (Lk e1 d1 (x:=.ref d) rfl (KD ?_));refine KB ?_;unfold Nj;refine KB (LH e2 d2 ?_);refine KB (LU e2 d2 ?_);have own:Ld "dict_valueiterator"=false:=by decide
 simp only[own,Bool.false_eq_true,if_false];refine K6 (KD ⟨_,rfl,"dict_valueiterator",_,⟨_,KJ _ rfl,rfl⟩,Mr.lookup,?_⟩)
 simpa[LP]using q
theorem Bm{v:KC}{Q:Option KC->KF->Prop}(hi:s.heap.IsValIter it d i vs.length ep)(x:iI s.heap d vs ep)(hv:vs[i]?=some v)
  (q:∀ h',h'.IsValIter it d (i+1) vs.length ep->LS it s.heap h'->Q (some v) { s with heap:=h' }):KI (KL prog w) A (Me (.ref it)) Q E s:=by
 obtain⟨o,e1,c1,d1⟩:=id hi;obtain⟨od,es,e2,c2,d2,rfl⟩:=x;unfold Me;refine KB (L4 (Lq (name:=KH "__next__") hi.typeIs Mr (Lh Mr hi.typeIs OF ?_ (OB _))));refine KB (KD ?_);refine KB ?_;refine KB ?_
 first|refine KB (Ms hi.typeIs (KD ?_))|refine KB (MT hi.typeIs (KD ?_))
 refine KB (Na e1 d1 ?_);have own:Ld "dict_valueiterator"=false:=by decide
 simp only[own,Bool.false_eq_true,if_false];show KI _ _ (if (Value.ref d == Value.none)=true then _ else _) _ _ s;rw[if_neg (show ¬ ((Value.ref d == Value.none)=true)from Bool.false_ne_true)]
 refine KB (KD ?_);refine KB (LH e2 d2 ?_);have z:es.size=(es.toList.map (·.val)).length:=by simp
 rw[if_neg (by rw[z];simp)];refine KB (KD ?_);refine KB (LU e2 d2 ?_)
 rw[if_neg (by simp)];refine KD ?_
 have lt:i < es.size:=by
  rw[z];rcases MC i (es.toList.map (·.val)).length with h|h
  ·exact h
  ·rw[Mc h]at hv;cases hv
 have val:es[i].val=v:=by
  rw[K8]at hv
  simpa[lt]using hv
 simp only[show ¬ ((i:Int) < 0)from by walk_at "o",if_false,Int.toNat_natCast,Array.getElem?_eq_getElem lt];refine KB ?_
 first|refine KB (Ms hi.typeIs (KD ?_))|refine KB (MT hi.typeIs (KD ?_))
 refine KB (N4 hi.typeIs ?_);show KI _ _ (N_ (.ref it) 1 (LP ((i:Int)+1)) >>= _) _ _ s;refine KB (Mp e1 d1 (by simp) ?_)
 have hi':(s.heap.update it (Lu (·.setIfInBounds 1 (LP ((i:Int)+1))))).IsValIter it d (i+1) (es.toList.map (·.val)).length ep:=
  ⟨_,LV _ e1 (Mi (LC d1 _)),(NF ..).trans c1,by rw[LC d1];simp[LP]⟩
 refine KB (Lm ?_);refine KB (N4 (s:={ s with heap:=s.heap.update it (Lu (·.setIfInBounds 1 (LP ((i:Int)+1)))) }) hi'.typeIs ?_)
 refine KB (N4 (s:={ s with heap:=s.heap.update it (Lu (·.setIfInBounds 1 (LP ((i:Int)+1)))) }) hi'.typeIs ?_);show KI _ _ (pure es[i].val) _ _ _
 exact KD (KD ⟨_,rfl,KD (val ▸ q _ hi' (MS ..))⟩)
theorem Dy{Q:Option KC->KF->Prop}(hh:A.handled=none)(hi:s.heap.IsValIter it d i vs.length ep)(x:iI s.heap d vs ep)(hv:vs[i]?=none)
  (q:∀ h',PL it s.heap h'->Q none { s with heap:=h' }):KI (KL prog w) A (Me (.ref it)) Q E s:=by
 obtain⟨o,e1,c1,d1⟩:=id hi;obtain⟨od,es,e2,c2,d2,rfl⟩:=x;unfold Me;refine KB (L4 (Lq (name:=KH "__next__") hi.typeIs Mr (Lh Mr hi.typeIs OF ?_ (OB _))));refine KB (KD ?_);refine KB ?_;refine KB ?_
 first|refine KB (Ms hi.typeIs (KD ?_))|refine KB (MT hi.typeIs (KD ?_))
 refine KB (Na e1 d1 ?_);have own:Ld "dict_valueiterator"=false:=by decide
 simp only[own,Bool.false_eq_true,if_false];show KI _ _ (if (Value.ref d == Value.none)=true then _ else _) _ _ s;rw[if_neg (show ¬ ((Value.ref d == Value.none)=true)from Bool.false_ne_true)]
 refine KB (KD ?_);refine KB (LH e2 d2 ?_);have z:es.size=(es.toList.map (·.val)).length:=by simp
 rw[if_neg (by rw[z];simp)];refine KB (KD ?_);refine KB (LU e2 d2 ?_)
 rw[if_neg (by simp)];refine KD ?_
 have ge:es.size<=i:=by rw[z];simpa using hv
 simp only[show ¬ ((i:Int) < 0)from by walk_at "o",if_false,Int.toNat_natCast,Array.getElem?_eq_none ge];refine KB ?_
 first|refine KB (Ms hi.typeIs (KD ?_))|refine KB (MT hi.typeIs (KD ?_))
 show KI _ _ (N_ (.ref it) 0 .none >>= _) _ _ s;refine KB (Mp e1 d1 (by simp) ?_)
 show KI _ _ (Pi (.type "StopIteration") [] >>= _) _ _ _;refine KB ?_
 simp only[Pi,newTuple];refine KB (K6 ?_ (by size_fits))
 refine KB (m:=Nf _ _) (Py (a:=Value.none) (by first|rfl|(simp only[Nf];rfl)) ?_);refine K6 ?_ (by size_fits)
 simp only[raiseNew];refine KB (O4 ?_);rw[show A.in1.handled=none from hh]
 refine KB (KD (Px ?_));refine KB (NL (T:="StopIteration") (b:=true) ⟨_,KJ _ rfl,rfl⟩ Ob ?_);exact KD (q _ (((MS ..).extBut.push _).push _))
theorem u9(hh:A.handled=none)(hne:d≠it):Walks prog w A it [it,d] [it] vs.length (fun i v=>vs[i]?=some v) (fun i h=>h.IsValIter it d i vs.length ep/\iI h d vs ep) where
 sub:=fun b hb=>by rw[mem_singleton.mp hb];exact KU
 frame:=fun _ _ _ t k=>⟨t.1.at fun o e=>k it KU o e,t.2.stay fun o e=>k d (KZ _ KU) o e⟩
 item:=fun i s Q E hi t q=>by
  obtain⟨v,hv⟩:∃ v,vs[i]?=some v:=⟨vs[i],by simp[hi]⟩
  refine Bm t.1 t.2 hv fun h' a b=>?_;exact q v h' s.toks hv ⟨a,t.2.stay fun o e=>b.extBut d o hne e⟩ fun c o hc e=>b.extBut c o (fun z=>hc (by rw[z];exact KU)) e
 done:=fun s Q E t q=>Dy hh t.1 t.2 (by simp) fun h' b=>q h' s.toks fun c o hc e=>b c o (fun z=>hc (by rw[z];exact KU)) e
 self:=fun _ _ _ _ t q=>wpAny_pyIter_valiter t.1 q
theorem Dx:KdlSrc prog w "dict_values" r d vs.length (fun i v=>vs[i]?=some v) (fun h=>h.IsValuesView r d/\iI h d vs ep) where
 type:=fun _ x=>x.1.typeIs
 there:=fun _ x=>⟨let ⟨_,e,_⟩:=x.1;KN e,x.2.there⟩
 keep:=fun _ _ x k=>⟨let ⟨o,e,z⟩:=x.1;⟨o,k r (.inl rfl) o e,z⟩,x.2.stay fun o e=>k d (.inr rfl) o e⟩
 notList:=by decide
 notTuple:=by decide
 hint:=fun _ _ _ _ x q=>kdl_hint_values x.1.typeIs q
 iter:=fun _ _ hh x=>⟨_,_,(fun _ _ q=>u_ x.1 x.2 q),u9 hh (K_ x.2.there),⟨⟨_,KJ _ rfl,rfl,rfl⟩,x.2.stay fun o e=>KG _ e⟩⟩
end
def XO(a:KE)(o:Obj):HO:=.ext fun h=>h.get? a=some o
theorem AU{P:KQ}{w:K2}{H:Hp}{h:K1}{a:KE}{o:Obj}(e:h.get? a=some o):ba P w H h a (XO a o):=⟨e,⟨o,e⟩,fun _ _ p k=>k _ p⟩
section
variable{X:Cx}{pins:List (KE×Obj)}{τ:St}{H H0:Hp}{s:KF}{G:Gp}{a:KE}{o:Obj}{u:HO}
theorem jb(I:Inv X pins τ H s)(e:H a=some (XO a o)):s.heap.get? a=some o:=(show ba X.prog X.w H s.heap a (XO a o)from I.hok a _ e).1
theorem mT{t':Nat}{h':K1}(I:Inv X pins τ H s)(ha:s.heap.objs.size=a)(hh:h'=s.heap.push o)(hf:o.isFreed=false:=by rfl):Inv X pins τ (aI H a (XO a o)) { s with heap:=h',toks:=t' }:=by
 subst ha hh;exact I.laid (fun _ _ e=>KG _ e) (le_refl _) (AU (KJ _ hf))
theorem qi{t':Nat}{o':Obj}{f:Obj->Obj}(I:Inv X pins τ H s)(e:H a=some (XO a o))(e':(s.heap.update a f).get? a=some o'):Inv X pins τ (aI H a (XO a o')) { s with heap:=s.heap.update a f,toks:=t' }:=
 I.write (x:=a) (e:=a) (by rw[e];exact trivial) (.inl rfl) (fun b u hb hu=>(Ln s.heap f (Ne.symm hb)).trans hu) ⟨_,e'⟩ (AU e')
theorem km{K:Nq}(mu:CV (H a)):Stb K H (aI H a u) where
 t:=fun b xs q=>by
  rcases q with (q|⟨z,q⟩)|q
  ·exact .inl (.inl (by rw[aj (fun e=>by subst e;rw[q]at mu;exact mu)];exact q))
  ·exact .inl (.inr ⟨z,by rw[aj (fun e=>by subst e;rw[q]at mu;exact mu)];exact q⟩)
  ·exact .inr q
 l:=fun b xs q=>by
  rcases q with ⟨z,q⟩|q
  ·exact .inl ⟨z,by rw[aj (fun e=>by subst e;rw[q]at mu;exact mu)];exact q⟩
  ·exact .inr q
theorem xX{K:Nq}(rg:RG K H G)(g:G a=none)(mu:CV (H a)):RG K (aI H a u) G:=fun b z q=>by
 obtain⟨h,e1,r⟩:=rg b z q;have hb:b≠a:=fun e=>by subst e;rw[q]at g;cases g
 exact⟨h,by rw[aj hb];exact e1,r.mono (km mu)⟩
theorem vS(k:Kp G H0 G H)(n:H0 a=none):Kp G H0 G (aI H a u):=fun b h e g=>⟨by rw[aj (bf e n)];exact (k b h e g).1,g⟩
theorem Ee{k:Nat}{f:KE}{fd:Lz}{ps:List Str}{sp:de}{d kd:D}{v:V}{x:KC}{A:KY}{E:KC->KF->Prop}(F:FnOk X.prog X.w X.K X.mg X.base l_ k f fd ps (bC X.K sp))(hb:db X.K fd ps [])(hr:Room k A)(hA:Env0 X.prog X.w X.K X.mg X.base A X.stack s H)
  (I:Inv X pins τ H s) (rg:RG X.K H G) (rd:RD X.K H d v) (rv:RelV v x) (hs:sp [d] G fun z G'=>z=kd/\G'=G) (nf:∀ l,kd≠.fl l) {Q:KC->KF->Prop}
  (q:∀ u v' H' s',Inv X pins τ H' s'->Kp G H G H'->RG X.K H' G->RD X.K H' kd v'->RelV v' u->Q u s'):KI (KL X.prog X.w) A (call (.ref f) [x]) Q E s:=by
 have sp1:bC X.K sp [v] H (fun v' H'=>Kp G H G H'/\RG X.K H' G/\RD X.K H' kd v') (fun _ _ _=>False):=
  ⟨[d],G,_,RDs.cons rd RDs.nil,rg,hs,fun z G' v' H' e k1 rg1 re=>by obtain⟨rfl,rfl⟩:=e;exact⟨k1,rg1,re.rd nf⟩⟩
 have r2:Vals [v] [x]:=.cons rv .nil;have hl:([x] ++ ([]:List KC)).length=ps.length:=by
  have:=F.len _ _ _ _ sp1
  simpa using this
 refine Nh (Mz (F.run A X.stack s H ⟨[x],[]⟩ ([x] ++ []) [v] _ _ hr hA (hb s [x] I.kIn hl) (by simpa using r2) sp1) fun r s' hq=>?_)
 cases r with
 | error e=>exact False.elim hq
 | ok fl=>
  cases fl with
  | ret u=>
   obtain⟨v',H',I',rv',k1,rg1,rd1⟩:=I.after hq;exact q u v' H' s' I' k1 rg1 rd1 rv'
  | next=>exact False.elim hq
  | brk=>exact False.elim hq
  | cont=>exact False.elim hq
end
theorem vT{X:Cx}{pins:List (KE×Obj)}{τ:St}{H0:Hp}{G:Gp}{k:Nat}{f:KE}{fd:Lz}{ps:List Str}{sp:de}{A:KY}{E:KC->KF->Prop}(F:FnOk X.prog X.w X.K X.mg X.base l_ k f fd ps (bC X.K sp))(hb:db X.K fd ps [])(hr:Room k A)
  (hA:∀ {s H},Inv X pins τ H s->Env0 X.prog X.w X.K X.mg X.base A X.stack s H) {S D0:KE} {oD:Obj} (nS:H0 S=none) (nD:H0 D0=none) (gS:G S=none) (gD:G D0=none) (hne:S≠D0)
  {body:KC->PUnit->Sem (ForInStep PUnit)}
  (hbd:∀ x s Q,KI (KL X.prog X.w) A (call (.ref f) [x]) (fun u s'=>KI (KL X.prog X.w) A (Builtin.List.listUpdate (.ref S) (·.push u)) (fun _=>Q (.yield ⟨⟩)) E s') (fun _ _=>False) s->KI (KL X.prog X.w) A (body x ⟨⟩) Q E s):
  ∀ {ds ks:List D} {vs:List V} {us:List KC},ks.length=ds.length->(∀ (i:Nat) d kd,ds[i]?=some d->ks[i]?=some kd->(sp [d] G fun z G'=>z=kd/\G'=G)/\∀ l,kd≠.fl l)->
   ∀ {H:Hp} {s:KF} {done:List D} {kv:List V} {ku:List KC} {n:Nat},Inv X pins τ H s->Kp G H0 G H->RG X.K H G->RDs X.K H ds vs->Vals vs us->H D0=some (XO D0 oD)->H S=some (XO S (My "list" ku.toArray n))->RDs X.K H done kv->Vals kv ku->ku.length+us.length < 64->
   ∀ {Q:PUnit->KF->Prop},(∀ H' s' kv' ku' n',Inv X pins τ H' s'->Kp G H0 G H'->RG X.K H' G->H' D0=some (XO D0 oD)->H' S=some (XO S (My "list" ku'.toArray n'))->RDs X.K H' (done ++ ks) kv'->Vals kv' ku'->Stb X.K H H'->Q ⟨⟩ s')->
   KI (KL X.prog X.w) A (forIn us PUnit.unit body) Q E s
 | [],ks,vs,us,hl,hk,H,s,done,kv,ku,n,I,kp,rg,rds,rv,eD,eS,rdk,rvk,hz,Q,q=>by
  rw[rds.inv_nil]at rv;cases rv;rw[NN];have:ks=[]:=List.length_eq_zero_iff.mp (by simpa using hl)
  subst this;exact KD (q H s kv ku n I kp rg eD eS (by rw[M5];exact rdk) rvk ⟨fun _ _ z=>z,fun _ _ z=>z⟩)
 | d::ds,[],vs,us,hl,_,_,_,_,_,_,_,_,_,_,_,_,_,_,_,_,_,_,_=>by simp at hl
 | d::ds,kd::ks,vs,us,hl,hk,H,s,done,kv,ku,n,I,kp,rg,rds,rv,eD,eS,rdk,rvk,hz,Q,q=>by
  obtain⟨v,t,e,h1,h2⟩:=rds.inv_cons;subst e;cases rv with
  | @cons _ x _ us l rv=>
   rw[M4];obtain⟨hs,nf⟩:=hk 0 d kd rfl rfl;refine KB (hbd x s _ (Ee F hb hr (hA I) I rg h1 l hs nf fun u v' H' s' I' k1 rg1 rd1 rv1=>?_));have eS':=(k1 S _ eS gS).1;have eD':=(k1 D0 _ eD gD).1;have st1:=k1.stb rg;have oS:=jb I' eS';simp only[Lb]at hz;refine Oo oS rfl ?_ (by rw[KS,LB];omega) (by rw[Array.size_push,KS,LB];omega)
   have ea:ku.toArray.push u=(ku ++ [u]).toArray:=by simp
   have e2:=NZ oS (·.push u);rw[ea]at e2;generalize (if ((ku ++ [u]).toArray.size == ku.toArray.size)=true then n else n+1)=n2 at e2
   have mu:CV (H' S):=by rw[eS'];exact trivial
   have I2:=qi (t':=s'.toks) I' eS' e2;have st2:Stb X.K H' (aI H' S (XO S (My "list" (ku ++ [u]).toArray n2))):=km mu;refine vT F hb hr hA nS nD gS gD hne hbd (ds:=ds) (ks:=ks) (by simpa using hl) (fun i d' kd' a b=>hk (i+1) d' kd' (by simpa using a) (by simpa using b)) I2 (vS (kp.trans k1) nS) (xX rg1 gS mu)
    (RDs.mono st2 _ _ (RDs.mono st1 _ _ h2)) rv (by rw[aj hne.symm];exact eD') ay (done:=done ++ [kd]) (kv:=kv ++ [v']) (RDs.append (RDs.mono st2 _ _ (RDs.mono st1 _ _ rdk)) (RDs.cons (RD.mono st2 _ _ rd1) RDs.nil)) (rvk.append (.cons rv1 .nil)) (by simp;omega)
    fun H3 s3 kv3 ku3 n3 I3 kp3 rg3 eD3 eS3 rd3 rv3 st3=>q H3 s3 kv3 ku3 n3 I3 kp3 rg3 eD3 eS3 (by simpa using rd3) rv3 ⟨fun b xs z=>st3.t _ _ (st2.t _ _ (st1.t _ _ z)),fun b xs z=>st3.l _ _ (st2.l _ _ (st1.l _ _ z))⟩
section
variable{X:Cx}{pins:List (KE×Obj)}{τ:St}{H H0:Hp}{s:KF}{G:Gp}
theorem E4(I:L2.Inv X pins τ H s){n:Nat}{A:KY}(hu:A.units+n < Ly){b:Bool}{N1 N2:Nat}{Q:Bool->KF->Prop}:
  ∀ {ds es:List D} {xs ys:List V} {us ws:List KC} {i:Nat},(b && i == 0)=false->Ic n (C8 n) ds es->RDs X.K H ds xs->RDs X.K H es ys->Vals xs us->Vals ys ws->ds.length+N2=es.length+N1->Q (eU (oN n) ds es) s->
   KatLex X.prog X.w A b (decide (N1 < N2)) Q (us.zip ws) i s
 | [],es,xs,ys,us,ws,i,hb,c,r1,r2,w1,w2,hl,q=>by
  rw[r1.inv_nil]at w1;cases w1;rw[List.zip_nil_left];refine kat_nil ?_;cases es with
  | nil=>
   simp only[Lx]at hl;rw[decide_eq_false (by walk_at "o")]
   exact q
  | cons b t=>
   simp only[Lx,Lb]at hl;rw[decide_eq_true (by walk_at "o")]
   exact q
 | a::r,[],xs,ys,us,ws,i,hb,c,r1,r2,w1,w2,hl,q=>by
  rw[r2.inv_nil]at w2;cases w2;rw[List.zip_nil_right];refine kat_nil ?_;simp only[Lx,Lb]at hl;rw[decide_eq_false (by walk_at "o")]
  exact q
 | a::r,b'::t,xs,ys,us,ws,i,hb,⟨p,c,z⟩,r1,r2,w1,w2,hl,q=>by
  obtain⟨x1,t1,e1,g1,g2⟩:=r1.inv_cons;subst e1;obtain⟨x2,t2,e2,f1,f2⟩:=r2.inv_cons;subst e2;cases w1 with
  | cons k1 w1=>
  cases w2 with
  | cons k2 w2=>
   rw[Nk];refine kat_cons ((su I n p.1 p.2 g1 f1 k1 k2 hu).eq X.prog X.w _ _ (kat_go (fun e=>kat_yes ?_) fun e=>kat_no ?_))
   ·rw[show eU (oN n) (a::r) (b'::t)=eU (oN n) r t by simp[eU,e]]at q
    simp only[Lb]at hl;exact E4 I hu (by simp) z g2 f2 w1 w2 (by walk_at "o") q
   ·rw[show eU (oN n) (a::r) (b'::t)=oN n a b' by simp[eU,e]]at q
    rw[hb];refine kat_one _ _ ?_;exact (FR I n (c fun y=>by rw[y,bg]at e;cases e) g1 f1 k1 k2 hu) X.prog X.w _ _ q
def Aj(d:D):Prop:=∃ t r,d=.tup (.int t::r)
theorem IB(I:L2.Inv X pins τ H s){A:KY}(hu:A.units+4 < Ly){kx ky:D}{v u:V}{v' u':KC}(cp:C8 4 kx ky)(hx:Aj kx)(hy:Aj ky)(rx:RD X.K H kx v)(ry:RD X.K H ky u)(lx:RelV v v')(ly:RelV u u'){C:Bool->KF->Prop}{E:KC->KF->Prop}
  (q:C (oN 4 kx ky) s):KI (KL X.prog X.w) A (keyLt' (tuples' true) v' u') C E s:=by
 obtain⟨i,r,rfl⟩:=hx;obtain⟨j,t,rfl⟩:=hy;simp only[RD]at rx ry;obtain⟨a,xs,rfl,s1,r1⟩:=rx;obtain⟨b,ys,rfl,s2,r2⟩:=ry;cases lx;cases ly;obtain⟨its,w1,⟨o1,h1,c1,n1,d1⟩,z1⟩:=I.tuple s1;obtain⟨its2,w2,⟨o2,h2,c2,n2,d2⟩,z2⟩:=I.tuple s2;refine kat_lt h1 d1 h2 d2 ?_;have l1:=w1.length;have l1':=r1.length;have l2:=w2.length;have l2':=r2.length;obtain⟨x1,t1,e1,g1,g2⟩:=RDs.inv_cons (d:=.int i) (ds:=r) r1;subst e1;obtain⟨x2,t2,e2,f1,f2⟩:=RDs.inv_cons (d:=.int j) (ds:=t) r2;subst e2;simp only[RD]at g1 f1;subst g1 f1;cases w1 with
 | @cons _ u1 _ m1 k1 w1=>
 cases w2 with
 | @cons _ u2 _ m2 k2 w2=>
  obtain⟨tk,rfl⟩:=k1;obtain⟨tk',rfl⟩:=k2;obtain⟨p,c,z⟩:=(show Ic 3 (C8 3) (.int i::r) (.int j::t)from cp)
  have q':C (eU (oN 3) (.int i::r) (.int j::t)) s:=q;show KatLex _ _ _ _ _ _ ((_::m1).zip (_::m2)) 0 s
  rw[Nk];refine kat_cons ((su I 3 (x:=.int i) (y:=.int j) (v:=.int i) (u:=.int j) p.1 p.2 bQ bQ ⟨tk,rfl⟩ ⟨tk',rfl⟩ (by walk_at "o")).eq X.prog X.w _ _ (kat_go (fun e=>kat_yes ?_) fun e=>kat_no ?_))
  ·rw[show eU (oN 3) (.int i::r) (.int j::t)=eU (oN 3) r t by simp[eU,e]]at q'
   simp only[Lb]at l1 l1' l2 l2';exact E4 I (by walk_at "o") (by simp) z g2 f2 w1 w2 (by simp only[KS,Lb];omega) q'
  ·rw[show eU (oN 3) (.int i::r) (.int j::t)=oN 3 (.int i) (.int j)by simp[eU,e]]at q'
   show KI _ _ (oneLt' true _ _) _ _ _
   exact oneLt_int q'
theorem F5(I:L2.Inv X pins τ H s){A:KY}{E:KC->KF->Prop}{Q:SortKind->KF->Prop}{ks:List D}{kv:List V}{ku:List KC}(hk:∀ d∈ks,Aj d)(r:RDs X.K H ks kv)(w:Vals kv ku)(hn:0 < ks.length)(q:Q (tuples' true) s):
  KI (KL X.prog X.w) A (keyKind' ku.toArray) Q E s:=by
 have go:∀ {ks:List D} {kv:List V} {ku:List KC},(∀ d∈ks,Aj d)->RDs X.K H ks kv->Vals kv ku->∃ fs,KatTups s.heap ku fs/\fs.length=ks.length/\∀ v∈fs,∃ i t,v=Value.int i t:=by
  intro ks
  induction ks with
  | nil=>
   intro kv ku _ r w;rw[r.inv_nil]at w;cases w;exact⟨[],KatTups.nil,rfl,fun v hv=>by simp at hv⟩
  | cons d t ih=>
   intro kv ku hk r w;obtain⟨x1,t1,e1,g1,g2⟩:=r.inv_cons;subst e1;cases w with
   | cons k1 w=>
    obtain⟨fs,h1,h2,h3⟩:=ih (fun d hd=>hk d (KZ _ hd)) g2 w;obtain⟨i,rr,rfl⟩:=hk d KU;simp only[RD]at g1;obtain⟨a,xs,rfl,s1,r1⟩:=g1;cases k1;obtain⟨its,w1,⟨o1,e1,c1,n1,d1⟩,z1⟩:=I.tuple s1;obtain⟨y1,u1,e2,g3,_⟩:=RDs.inv_cons (d:=.int i) (ds:=rr) r1;subst e2;simp only[RD]at g3;subst g3;cases w1 with
    | cons k2 w1=>
     obtain⟨tk,rfl⟩:=k2;refine⟨.int i tk::fs,KatTups.cons e1 c1 d1 (by simp) h1,by simp[h2],fun v hv=>?_⟩
     rcases Le.mp hv with rfl|hv
     ·exact⟨i,tk,rfl⟩
     ·exact h3 v hv
 obtain⟨fs,h1,h2,h3⟩:=go hk r w;refine kat_kind (T:=.type "int") h1 (by walk_at "o") (fun v hv=>?_) (by decide) ?_
 ·obtain⟨i,t,rfl⟩:=h3 v hv;exact Looks.of_pure rfl
 ·rw[show (Value.type "int" != Value.type "tuple")=true by decide]
  exact q
end
section
variable{X:Cx}{pins:List (KE×Obj)}{τ:St}{H H0:Hp}{s:KF}{G:Gp}{S D0:KE}{A:KY}{E:KC->KF->Prop}{P:PySem.Fin->KF->Prop}
theorem uW(I:L2.Inv X pins τ H s)(rg:RG X.K H G)(kp:Kp G H0 G H)(nS:H0 S=none)(nD:H0 D0=none)(gS:G S=none)(gD:G D0=none)(hne:S≠D0){e1 n:Nat}{ku out:List KC}{ov:List V}{st:SortSt}
  (eD:H D0=some (XO D0 (My "list" #[] e1))) (eS:H S=some (XO S (My "list" ku.toArray n))) (hz:ku.length < 64) (ho:(arrOf st).map (·.2)=out.toArray) (hf:failedOf st=none) (hv:Vals ov out) (hl:out.length < 64)
  (q:∀ H' s',L2.Inv X pins τ H' s'->Kp G H0 G H'->RG X.K H' G->H' D0=some (.lst ov)->Stb X.K H H'->P (.done (.ret .none)) s'):KI (KL X.prog X.w) A (ksk_tail D0 false e1 (.ref S) st) P E s:=by
 unfold ksk_tail;dsimp only;rw[ho];simp only[Bool.false_eq_true,if_false];have oS:=jb I eS;have e2:=NZ oS (fun _=>(#[]:Array KC));have mu:CV (H S):=by rw[eS];exact trivial
 have I1:=qi (t':=s.toks) I eS e2;have eD1:(aI H S (XO S (My "list" #[] (if ((#[]:Array KC).size == ku.toArray.size)=true then n else n+1)))) D0=some (XO D0 (My "list" #[] e1)):=by rw[aj hne.symm];exact eD
 have oD:=jb I1 eD1;have mu2:CV ((aI H S (XO S (My "list" #[] (if ((#[]:Array KC).size == ku.toArray.size)=true then n else n+1)))) D0):=by rw[eD1];exact trivial
 have e3:=NZ oD (fun _=>out.toArray);refine KB (Oo oS rfl ?_ (by rw[KS,LB];omega) (LG _))
 refine KB (N8 ?_);refine KB (seqEpoch_at oD rfl ?_);refine KB (Oo oD rfl ?_ (LG _) (by rw[KS,LB];omega))
 rw[hf];simp only[bne_self_eq_false,Bool.false_eq_true,if_false];have I2:=I1.write (x:=D0) (e:=D0) (o:=.lst ov) (t':=s.toks) mu2 (.inl rfl) (fun b u hb hu=>(Ln _ (Mn fun _=>out.toArray) (Ne.symm hb)).trans hu) ⟨_,e3⟩ ⟨by rw[hv.length,LB];omega,out,_,hv,e3⟩
 refine KD (q _ _ I2 (vS (vS kp nS) nD) (xX (xX rg gS mu) gD mu2) ay ?_);exact⟨fun b xs z=>(km mu2).t _ _ ((km mu).t _ _ z),fun b xs z=>(km mu2).l _ _ ((km mu).l _ _ z)⟩
theorem Ar{vs:List V}{us:List KC}(w:Vals vs us)(i:Nat)(hi:i < vs.length):RelV (vs.getD i .non) (us.getD i .none):=by
 have hl:=w.length;obtain⟨v,e,r⟩:=Vals.getV (i:=i) (u:=us[i]'(by walk_at "o")) w (by simp)
 rw[Lo,Lo,e,KW (by walk_at "o")]
 exact r
theorem vI{vs:List V}{us:List KC}(w:Vals vs us):∀ {p:List Nat},(∀ i∈p,i < vs.length)->Vals (p.map fun i=>vs.getD i .non) (p.map fun i=>us.getD i .none)
 | [],_=>.nil
 | i::r,h=>.cons (Ar w i (h i KU)) (vI w fun j hj=>h j (KZ _ hj))
theorem Co{K:Nq}{ds:List D}{vs:List V}(r:RDs K H ds vs)(i:Nat)(hi:i < vs.length):RD K H (ds.getD i .non) (vs.getD i .non):=by
 obtain⟨d,e,q⟩:=RDs.getV (i:=i) r (KW hi);rw[Lo,Lo,e,KW hi];exact q
theorem yL{K:Nq}{ds:List D}{vs:List V}(r:RDs K H ds vs):∀ {p:List Nat},(∀ i∈p,i < vs.length)->RDs K H (p.map fun i=>ds.getD i .non) (p.map fun i=>vs.getD i .non)
 | [],_=>RDs.nil
 | i::t,h=>RDs.cons (Co r i (h i KU)) (yL r fun j hj=>h j (KZ _ hj))
theorem wP{α:Type}(l:List α)(d:α):(List.range l.length).map (fun i=>l.getD i d)=l:=by
 refine List.ext_getElem (by simp) fun i h1 h2=>?_
 simp[h2]
theorem Er(I:L2.Inv X pins τ H s)(rg:RG X.K H G)(kp:Kp G H0 G H)(nS:H0 S=none)(nD:H0 D0=none)(gS:G S=none)(gD:G D0=none)(hne:S≠D0){e1 n:Nat}{ks:List D}{kv vs:List V}{ku us:List KC}
  (eD:H D0=some (XO D0 (My "list" #[] e1))) (eS:H S=some (XO S (My "list" ku.toArray n))) (rk:RDs X.K H ks kv) (wk:Vals kv ku) (wv:Vals vs us) (hl:ku.length=us.length) (hz:us.length < 64) (hu:A.units+4 < Ly)
  (hk:∀ d∈ks,Aj d) (hc:∀ a∈ks,∀ b∈ks,C8 4 a b) (r:Nat->Nat) (hr:∀ i j a b,ks[i]?=some a->ks[j]?=some b->oN 4 a b=decide (r i < r j))
  (q:∀ (p:List Nat) H' s',p.Perm (List.range us.length)->(p.map r).Pairwise (·<=·)->L2.Inv X pins τ H' s'->Kp G H0 G H'->RG X.K H' G->H' D0=some (.lst (p.map fun i=>vs.getD i .non))->Stb X.K H H'->P (.done (.ret .none)) s'):
  KI (KL X.prog X.w) A (ksk_end D0 false us.toArray e1 (.ref S) ku.toArray) P E s:=by
 have lk:=wk.length;have lk':=rk.length;have lv:=wv.length;unfold ksk_end;dsimp only;simp only[Bool.false_eq_true,if_false]
 by_cases h2:us.length < 2
 ·have hs:us.toArray.size < 2:=by rw[KS];exact h2
  rw[if_pos hs,if_pos hs];refine KB (KD ?_);refine KB (KD ?_);refine uW I rg kp nS nD gS gD hne eD eS (by walk_at "o") (out:=us) (ov:=vs) (st:=SortSt.mk' general' (ku.toArray.zip us.toArray) #[] 7 none) ?_ rfl wv hz fun H' s' I' kp' rg' e' st'=>?_
  ·apply Array.toList_inj.mp;show ((ku.toArray.zip us.toArray).map (·.2)).toList=_
   rw[Array.toList_map,ksk_zip];simp[List.map_snd_zip,hl]
  ·refine q (List.range us.length) H' s' (List.Perm.refl _) ?_ I' kp' rg' (by rw[<- lv,wP];exact e') st'
   have:us.length=0\/us.length=1:=by walk_at "o"
   rcases this with e|e<;>rw[e]<;>simp[List.range_succ]
 ·have hs:¬ us.toArray.size < 2:=by rw[KS];exact h2
  rw[if_neg hs,if_neg hs];obtain⟨p,ep,hp,adj⟩:=Do r us.length (by walk_at "o")
  refine KB (F5 I hk rk wk (by walk_at "o") ?_)
  refine KB (K9 (kat_run (Q:=fun st' s'=>∃ p':Array Nat,arrOf st'=p'.map (kas_item (ku.toArray.zip us.toArray))/\failedOf st'=none/\s'=s/\p'=p) hl (by walk_at "o") hz (G:=fun p' s'=>s'=s/\p'=p)
   (fun p' st' s' a1 a2 a3 a4=>⟨p',a2,a3,a4.1,a4.2⟩) ?_) ?_ fun _ _ x=>x)
  ·refine KasT.walked (lt:=jL r) (J:=fun s'=>s'=s) (fun i j C s' hi hj e c=>?_) _ s (Dp (by walk_at "o")) rfl fun s' e _=>⟨e,ep⟩
   subst e;unfold kas_ask;obtain⟨v1,f1,g1⟩:=Vals.getV (i:=i) (u:=ku[i]'(by walk_at "o")) wk (by simp)
   obtain⟨v2,f2,g2⟩:=Vals.getV (i:=j) (u:=ku[j]'(by walk_at "o")) wk (by simp)
   obtain⟨d1,b1,c1⟩:=RDs.getV rk f1;obtain⟨d2,b2,c2⟩:=RDs.getV rk f2;have m1:=K0 b1;have m2:=K0 b2;rw[show ku.getD i Value.none=ku[i]'(by walk_at "o")by simp[show i < ku.length by walk_at "o"],show ku.getD j Value.none=ku[j]'(by walk_at "o")by simp[show j < ku.length by walk_at "o"]]
   refine IB I hu (hc _ m1 _ m2) (hk _ m1) (hk _ m2) c1 c2 g1 g2 ?_;rw[hr i j d1 d2 b1 b2];exact c _ rfl
  ·rintro⟨⟨⟩,st'⟩ s' ⟨p',har,hf,rfl,rfl⟩
   dsimp only;have lp:p'.toList.length=us.length:=by rw[hp.length_eq,List.length_range]
   have inr:∀ i∈p'.toList,i < us.length:=fun i hi=>mem_range.mp (hp.mem_iff.mp hi);refine uW I rg kp nS nD gS gD hne eD eS (by walk_at "o") (out:=p'.toList.map fun i=>us.getD i Value.none) (ov:=p'.toList.map fun i=>vs.getD i .non) (kat_snds hl har) hf (vI wv fun i hi=>by rw[lv];exact inr i hi) (by rw[KP,lp];exact hz) fun H' s' I' kp' rg' e' st'=>?_
   refine q p'.toList H' s' hp ?_ I' kp' rg' e' st';rw[List.pairwise_map,List.pairwise_iff_getElem];intro i j hi hj hij;have h:=adj.le (le_of_lt hij) (by walk_at "o")
   unfold RR at h;have gi:p'.getD i 0=p'.toList[i]:=by
    have:i < p'.size:=by simpa using hi
    simp[Array.getD,this]
   have gj:p'.getD j 0=p'.toList[j]:=by
    have:j < p'.size:=by simpa using hj
    simp[Array.getD,this]
   rw[gi,gj]at h;exact h
end
structure SortBy(sp:de)(G:Gp)(ds:List D)(ks:List D)(r:Nat->Nat):Prop where
 few:ds.length < 64
 len:ks.length=ds.length
 key:∀ (i:Nat) d kd,ds[i]?=some d->ks[i]?=some kd->sp [d] G fun z G'=>z=kd/\G'=G
 ki:∀ d∈ks,Aj d
 cp:∀ a∈ks,∀ b∈ks,C8 4 a b
 lt:∀ i j a b,ks[i]?=some a->ks[j]?=some b->oN 4 a b=decide (r i < r j)
section
variable{X:Cx}{pins:List (KE×Obj)}{τ:St}{H H0:Hp}{s:KF}{G:Gp}{S D0:KE}{A:KY}{E:KC->KF->Prop}{P:PySem.Fin->KF->Prop}
 {k:Nat} {f:KE} {fd:Lz} {ps:List Str} {sp:de} {ds ks:List D} {r:Nat->Nat} {vs:List V} {us:List KC}
theorem Bi(F:FnOk X.prog X.w X.K X.mg X.base l_ k f fd ps (bC X.K sp))(hb:db X.K fd ps [])(hr:Room k A)(hA:∀ {s H},L2.Inv X pins τ H s->Env0 X.prog X.w X.K X.mg X.base A X.stack s H)(sb:SortBy sp G ds ks r)(hu:A.units+4 < Ly)
  (I:L2.Inv X pins τ H s) (rg:RG X.K H G) (kp:Kp G H0 G H) (nS:H0 S=none) (nD:H0 D0=none) (gS:G S=none) (gD:G D0=none) (hne:S≠D0) {e1:Nat}
  (eD:H D0=some (XO D0 (My "list" #[] e1))) (eS:H S=some (XO S (My "list" #[] 0))) (rd:RDs X.K H ds vs) (wv:Vals vs us)
  (q:∀ (p:List Nat) H' s',p.Perm (List.range ds.length)->(p.map r).Pairwise (·<=·)->L2.Inv X pins τ H' s'->Kp G H0 G H'->RG X.K H' G->H' D0=some (.lst (p.map fun i=>vs.getD i .non))->Stb X.K H H'->P (.done (.ret .none)) s'):
  KI (KL X.prog X.w) A (ksk_rest D0 (.ref f) false us.toArray e1 (.ref S)) P E s:=by
 have l1:=rd.length;have l2:=wv.length;have few:=sb.few;unfold ksk_rest;refine KB (NP ?_)
 first
  | rw[List.forIn_toArray]
  | (rw[<- Array.forIn_toList];simp only[List.toList_toArray])
  | rw[<- Array.forIn_toList]
 refine KB (vT F hb hr hA nS nD gS gD hne (fun x s' Q' h=>?_) sb.len (fun i d kd a b=>⟨sb.key i d kd a b,fun l e=>?_⟩) I kp rg rd wv eD (ku:=[]) (n:=0) (done:=[]) (kv:=[]) eS RDs.nil .nil (by simp only[Lx];omega)
  fun H' s' kv' ku' n' I' kp' rg' eD' eS' rk wk st=>?_)
 ·refine KB (L4 (K9 h (fun u s'' hu'=>?_) fun _ _ hF=>hF.elim));dsimp only;exact KB (K9 hu' (fun _ s3 hq=>KD hq) fun _ _ x=>x)
 ·obtain⟨t,rr,e2⟩:=sb.ki kd (K0 b);rw[e2]at e;cases e
 ·have l3:=rk.length;have l4:=wk.length;have sl:=sb.len;simp only[M3]at rk l3;refine KB (listItems_at (jb I' eS') rfl ?_);refine Er I' rg' kp' nS nD gS gD hne eD' eS' rk wk wv (by walk_at "o") (by walk_at "o") hu sb.ki sb.cp r sb.lt fun p H'' s'' hp hs I'' SG SA e'' st''=>?_
  refine q p H'' s'' (by rw[show ds.length=us.length by walk_at "o"];exact hp) hs I'' SG SA e'' ⟨fun b xs z=>st''.t _ _ (st.t _ _ z),fun b xs z=>st''.l _ _ (st.l _ _ z)⟩
theorem A2(F:FnOk X.prog X.w X.K X.mg X.base l_ k f fd ps (bC X.K sp))(hb:db X.K fd ps [])(hr:Room k A)(hA:∀ {s H},L2.Inv X pins τ H s->Env0 X.prog X.w X.K X.mg X.base A X.stack s H)(sb:SortBy sp G ds ks r)(hu:A.units+4 < Ly)
  (I:L2.Inv X pins τ H s) (rg:RG X.K H G) (kp:Kp G H0 G H) (h0:∀ a,H a=none->H0 a=none) (nD:H0 D0=none) (gD:G D0=none) {n:Nat}
  (eD:H D0=some (XO D0 (My "list" us.toArray n))) (rd:RDs X.K H ds vs) (wv:Vals vs us)
  (q:∀ (p:List Nat) H' s',p.Perm (List.range ds.length)->(p.map r).Pairwise (·<=·)->L2.Inv X pins τ H' s'->Kp G H0 G H'->RG X.K H' G->H' D0=some (.lst (p.map fun i=>vs.getD i .non))->Stb X.K H H'->P (.done (.ret .none)) s'):
  KI (KL X.prog X.w) A (ksk_tree D0 (.ref f) false) P E s:=by
 have l1:=rd.length;have l2:=wv.length;have few:=sb.few;have oD:=jb I eD;have mu:CV (H D0):=by rw[eD];exact trivial
 have e2:=NZ oD (fun _=>(#[]:Array KC));generalize (if ((#[]:Array KC).size == us.toArray.size)=true then n else n+1)=e1 at e2
 have I1:=qi (t':=s.toks) I eD e2;unfold ksk_tree;refine KB (listItems_at oD rfl ?_);refine KB (Oo oD rfl ?_ (by rw[KS,LB];omega) (LG _))
 refine KB (seqEpoch_at e2 rfl ?_);refine KB (N7 ?_ (by show us.length<=_;rw[LB];omega))
 refine KB (wpAny_newList ?_ (LG _));refine Lm ?_;have I2:L2.Inv X pins τ _ { s with heap:=(s.heap.update D0 (Mn fun _=>#[])).push { cls:=.type "tuple",data:=.seq us.toArray } }:=I1.kept (t':=s.toks) fun b u e=>KG _ e
 have fS:=I2.fresh;have I3:=mT (t':=s.toks) (o:=My "list" #[] 0) I2 rfl rfl;have hS0:H ((s.heap.update D0 (Mn fun _=>(#[]:Array KC))).push { cls:=.type "tuple",data:=.seq us.toArray }).objs.size=none:=by
  by_cases e:((s.heap.update D0 (Mn fun _=>(#[]:Array KC))).push { cls:=.type "tuple",data:=.seq us.toArray }).objs.size=D0
  ·rw[e]at fS;rw[ay]at fS;cases fS
  ·rw[aj e]at fS;exact fS
 have hne:((s.heap.update D0 (Mn fun _=>(#[]:Array KC))).push { cls:=.type "tuple",data:=.seq us.toArray }).objs.size≠D0:=fun e=>by rw[e,eD]at hS0;cases hS0
 have rg1:RG X.K (aI H D0 (XO D0 (My "list" #[] e1))) G:=xX rg gD mu;have st1:Stb X.K H (aI H D0 (XO D0 (My "list" #[] e1))):=km mu;have st2:Stb X.K (aI H D0 (XO D0 (My "list" #[] e1))) (aI (aI H D0 (XO D0 (My "list" #[] e1))) ((s.heap.update D0 (Mn fun _=>(#[]:Array KC))).push { cls:=.type "tuple",data:=.seq us.toArray }).objs.size (XO ((s.heap.update D0 (Mn fun _=>(#[]:Array KC))).push { cls:=.type "tuple",data:=.seq us.toArray }).objs.size (My "list" #[] 0))):=(Kp.laid (G:=G) fS).stb rg1;refine Bi F hb hr hA sb hu I3 (rg1.laid fS) (vS (vS kp nD) (h0 _ hS0)) (h0 _ hS0) nD (rg.free hS0) gD hne (by rw[aj hne.symm,ay]) ay (RDs.mono st2 _ _ (RDs.mono st1 _ _ rd)) wv fun p H' s' hp hs I' kp' rg' e' st'=>?_
 exact q p H' s' hp hs I' kp' rg' e' ⟨fun b xs z=>st'.t _ _ (st2.t _ _ (st1.t _ _ z)),fun b xs z=>st'.l _ _ (st2.l _ _ (st1.l _ _ z))⟩
theorem wI{d vw:KE}{Q:KC->KF->Prop}(F:FnOk X.prog X.w X.K X.mg X.base l_ k f fd ps (bC X.K sp))(hb:db X.K fd ps [])(hr:Room (k+2) X.A)(sb:SortBy sp G ds ks r)(hu:X.A.units+8 < Ly)(hh:X.A.handled=none)
  (I:L2.Inv X pins τ H s) (rg:RG X.K H G) {ep:Nat} (hv:s.heap.IsValuesView vw d) (dr:iI s.heap d us ep) (rd:RDs X.K H ds vs) (wv:Vals vs us)
  (q:∀ (p:List Nat) D0 H' s',p.Perm (List.range ds.length)->(p.map r).Pairwise (·<=·)->L2.Inv X pins τ H' s'->Kp G H G H'->RG X.K H' G->H D0=none->H' D0=some (.lst (p.map fun i=>vs.getD i .non))->RDs X.K H' (p.map fun i=>ds.getD i .non) (p.map fun i=>vs.getD i .non)->Q (.ref D0) s'):
  KI (KL X.prog X.w) X.A (call (.builtin "sorted") [.ref vw] [(KH "key",.ref f)]) Q E s:=by
 have l1:=rd.length;have l2:=wv.length;have few:=sb.few;refine call_function_entry_kw kind_sorted plain_sorted entry_sorted (ksk_s1 _ _) ?_;unfold Builtin.«sorted»;refine KB (m:=checkCount "sorted" 1 1 _) (KD ?_);refine KB (kdu_collect (A:=X.A.in1) (Dx (r:=vw) (d:=d) (vs:=us) (ep:=ep)) hh ⟨hv,dr⟩ (by rw[LB];omega) fun h' tk acc hk hacc=>?_)
 have ea:acc.toList=us:=by
  refine List.ext_getElem? fun i=>?_;rcases MC i acc.size with h|h
  ·have e:acc[i]?=some acc[i]:=by simp[h]
   have:=hacc.2 i _ e;rw[this];simp[h]
  ·rw[Mc (by simpa using h),Mc (by rw[<- hacc.1];exact h)]
 rw[ea];have I1:L2.Inv X pins τ H { s with heap:=h',toks:=tk }:=I.kept hk
 refine KB (wpAny_newList ?_ (by rw[LB];omega))
 have fD:=I1.fresh;have I2:=mT (t':=tk) (o:=My "list" us.toArray 0) I1 rfl rfl;have st:Stb X.K H (aI H h'.objs.size (XO h'.objs.size (My "list" us.toArray 0))):=(Kp.laid (G:=G) fD).stb rg;refine KB (Lm (wpAny_call_entry_kw slot_list_sort ⟨_,jb I2 ay,rfl⟩ entry_list_sort ?_ (ksk_l1 _ _)));rw[ksk_t1];refine A2 F hb (hr.in1.in1) (fun J=>J.env0.in1.in1) sb (by show X.A.units+1+1+4 < Ly;omega) I2 (rg.laid fD) (Kp.laid fD) (fun a e=>?_) fD (rg.free fD) ay (RDs.mono st _ _ rd) wv fun p H' s' hp hs I' kp' rg' e' st'=>⟨_,rfl,?_⟩
 ·by_cases h:a=h'.objs.size
  ·subst h;exact fD
  ·rw[aj h]at e;exact e
 ·refine KD ⟨_,rfl,q p _ H' s' hp hs I' kp' rg' fD e' (yL (RDs.mono st' _ _ (RDs.mono st _ _ rd)) fun i hi=>?_)⟩;rw[<- l1];exact mem_range.mp (hp.mem_iff.mp hi)
end
def xx(sp:de)(to:aL):aL:=fun σ G Q=>to σ G fun x G1=>match val x with
 | .ref a=>match G1 a with
  | some (.dT _ kvs)=>∃ ks r,SortBy sp G1 (kvs.map (·.2)) ks r/\∀ p:List Nat,p.Perm (List.range (kvs.map (·.2)).length)->(p.map r).Pairwise (·<=·)->Q (.fl (p.map fun i=>(kvs.map (·.2)).getD i .non)) G1
  | _=>False
 | _=>False
theorem pf{K:Nq}{H:Hp}{kvs:List (List ar×D)}{xs:List (List ar×KE×KC)}(r:jM K H kvs xs):∃ vs,RDs K H (kvs.map (·.2)) vs/\Vals vs (xs.map (·.2.2)):=by
 unfold jM at r
 induction r with
 | nil=>exact⟨[],RDs.nil,.nil⟩
 | cons h _ ih=>
  obtain⟨_,_,v,h1,h2⟩:=h;obtain⟨vs,a,b⟩:=ih;exact⟨v::vs,RDs.cons h1 a,.cons h2 b⟩
theorem DU{X:Cx}{k:Nat}{f:Str}{sp:de}{o:K4}{to:aL}{p0 apos cpos np Su pos:Pos}(F:Fn3 X.prog X.w X.K X.mg X.base k f [] sp)(hr:Room (k+2) X.A)(hc:X.calm=true)(hgf:Gl X f)(hg:Gl X "sorted")(hm:X.mg "sorted"=none)(ho:PE X o (au X.K to))
  (Qx:Ls o "values" X.env (eval o X.env)=eval o X.env:=by rfl) (Qy:(apos.endLine == cpos.line)=true:=by rfl) (hdf:(f == ("__debug__":Str))=false:=by decide):
  PE X (.Call (.Name "sorted" p0) [.Call (.Attribute o "values" apos) [] [] cpos] [⟨some "key",.Name f np,Su⟩] pos) (au X.K (xx sp to)):=by
 obtain⟨fa,fd,ps,dv,dvs,ok,hmf,_,hb,hv0,hd0⟩:=F.ex;have e0:dvs=[]:=(hd0 (fun _=>none)).inv_nil;subst e0;cases hv0;have hu:=hr.units
 rintro pins s τ H Q I ⟨σ,G,Q3,rs,rg,h,kf⟩
 refine Md (eV I hg hm (u:=.builtin "sorted") (by decide +kernel) ?_ (by decide) (by decide))
 refine callWith_kw (id:="sorted") ?_;show KI _ _ (spliced [(false,eval (.Call (.Attribute o "values" apos) [] [] cpos) X.env)]) _ _ _
 refine LZ (M6 Qx Qy (br (cQ ho I rs rg h) fun ov s1 zz=>?_));obtain⟨ox,H1,I1,rox,x,G1,q1,k1,rg1,rd1⟩:=zz;split at q1
 ·rename_i a hx;rw[hx]at rd1;simp only[RD]at rd1;subst rd1;cases rox;split at q1
  ·rename_i hw kvs hga;obtain⟨ks,r,sb,q1⟩:=q1;obtain⟨hob,eo,ro⟩:=rg1 a _ hga;cases hob with
   | ext φ=>
    obtain⟨xs,rfl,rt,nd,hz⟩:=ro;obtain⟨hsm,o1,es,ep,g1,g2,g3,g4⟩:=(show ba X.prog X.w H1 s1.heap a (.ext (nL hw a xs))from I1.hok a _ eo).1
    obtain⟨vs,rv,wv⟩:=pf rt;have dr:iI s1.heap a (xs.map (·.2.2)) ep:=⟨o1,es,g1,g2,g3,by rw[g4,LL];rfl⟩
    refine⟨"dict","dict.values",PySem.F.plainAttrs_dict,PySem.F.slot_dict_values,PySem.F.type_dict_values,dr.ty,fun b e=>?_,?_⟩
    ·cases e;exact⟨o1,g1,g2.2.1⟩
    ·refine L8 rfl (PySem.evalArgs_none (Ng PySem.F.slot_dict_values dr.ty PySem.F.entry_dict_values (PySem.F.args_dict_values_1 _) (pI hsm) ⟨⟨_,ep,dr⟩,?_⟩));refine Mm ?_;have I2:L2.Inv X pins τ H1 { s1 with heap:=s1.heap.push { cls:=.type "dict_values",data:=.fields #[.ref a] } }:=I1.kept (t':=s1.toks) fun b u e=>KG _ e
     show KI _ _ (evalAll [(do let v <- eval (.Name f np) X.env;Nu pos;pure v)]) _ _ _
     refine wpAny_evalAll_cons (KB (jw I2 hgf hmf (KB (Nl (KD (wpAny_evalAll_nil ?_)))) hdf));show KI _ _ (call (.builtin "sorted") [.ref s1.heap.objs.size] [(KH "key",.ref fa)]) _ _ _
     refine wI ok hb hr sb (by walk_at "o") (I.ok.hd hc) I2 rg1 (ep:=ep) ⟨_,KJ _ rfl,rfl,rfl⟩ (dr.stay fun b e=>KG _ e) rv wv fun p D0 H' s' hp hs I' kp' rg' n0 e' rd'=>?_
     exact⟨.ref D0,H',I',rfl,kf _ G1 _ H' (q1 p hp hs) (k1.trans kp') rg' (.inl ⟨_,D0,_,rfl,rfl,e',rg1.free n0,rd',k1.fr (oO n0)⟩)⟩
   | _=>exact ro.elim
  ·exact q1.elim
 ·exact q1.elim
def HY(te:aL):aL:=fun σ G Q=>te σ G fun x G1=>match sB G1 (val x) with
 | some ds=>Q (.fl ds.reverse) G1
 | none=>False
def Gk(to:aL):aL:=fun σ G Q=>to σ G fun x G1=>match x with
 | .ref a=>match G1 a with
  | some (.lst _)=>Q .non (gset G1 a (.lst []))
  | _=>False
 | _=>False
def Hq{α:Type}(xs:List α)(lo hi st:Option Int):List α:=
 (P9 (Mu lo hi st xs.length).1 (Mu lo hi st xs.length).2.1 (Mu lo hi st xs.length).2.2).filterMap (xs[·]?)
def HV(te:aL)(tl th ts:GC):aL:=fun σ G Q=>te σ G fun x G1=>tl σ G1 fun l G2=>th σ G2 fun u G3=>ts σ G3 fun st G4=>st≠some 0/\match sB G4 (val x) with
 | some ds=>Q (.fl (Hq ds l u st)) G4
 | none=>False
def l9(K:Nq)(mg:Str->Option KC)(x:Str)(d:D):Prop:=∃ u v,mg x=some u/\RelV v u/\∀ H,RD K H d v
theorem gM{X:Cx}{x:Str}{d:D}{pos:Pos}(hg:Gl X x)(h:l9 X.K X.mg x d)(hd:(x == ("__debug__":Str))=false:=by decide):PE X (.Name x pos) (au X.K (eC d)):=by
 obtain⟨u,v,hm,r,rd⟩:=h;exact yH hg hm r rd hd
theorem Az{K:Nq}{mg:Str->Option KC}{x:Str}{ds:List D}{vs:List V}{its:Array KC}{a:KE}{n:Nat}{sl:Array (Option KC)}(hm:mg x=some (.ref a))(hl:K.lookup a=some ⟨.type "tuple",none,.seq its n,sl⟩)
  (hz:its.size<=KM) (w:Vals vs its.toList) (r:∀ H,RDs K H ds vs):l9 K mg x (.tup ds):=
 ⟨.ref a,.ref a,hm,rfl,fun H=>mz (.inr ⟨_,its,n,hl,⟨rfl,rfl⟩,rfl,hz,w⟩) (r H)⟩
end L3
namespace L2
open PySem PySem.Spec PyProof.Rows
theorem Inv.turnedL{X:Cx}{pins:List (KE×Obj)}{σ:St}{H:Hp}{s:KF}{h':K1}{t':Nat}{fp:List KE}(I:Inv X pins σ H s)(k:∀ b o,b∉fp->s.heap.get? b=some o->h'.get? b=some o)(hf:∀ b∈fp,kO X pins H b):
  Inv X pins σ H { s with heap:=h',toks:=t' }:=by
 have nit:∀ b u,H b=some u->b∉fp:=fun b u e z=>by rw[(hf b z).1]at e;cases e
 have hL:X.env.locals∉fp:=fun z=>(hf _ z).2.1 rfl;refine I.step (g':=s.gens) (d':=s.drawn) (ch:=fp) (fun b hb=>⟨(hf b hb).2.2.2.1,(hf b hb).2.1,(hf b hb).2.2.2.2.1,(hf b hb).2.2.2.2.2⟩) (fun b o _ _ hc e _=>k b o hc e) (fun b o _ _ hc e _=>⟨o.slots,k b o hc e⟩) (fun _ _ _ _ n=>n)
  (fun b o hc e=>⟨o,k b o hc e⟩) (fun _ _ e=>e) (fun _ _ _ e=>e) (fun b ps e=>⟨#[],by rw[e];simp⟩) (fun m hm=>?_) (fun b u e=>?_) I.bare
 ·obtain⟨o,es,ep,ho,r⟩:=hm;exact⟨o,es,ep,k _ o hL ho,r⟩
 ·refine (I.hok b u e).stay (fun c v hc q=>k c v ?_ q) (fun _ q=>q) fun _ _ q=>q;rcases hc with z|z
  ·rw[z];exact nit b u e
  ·exact nit c _ z
def Ka(K:Nq)(a:KE):It:=
 ⟨fun i H=>∃ xs x,fV K H a xs/\xs[i]?=some x,fun i H x H'=>∃ p y,H p=none/\x=.ref p/\H'=aI H p (.tup [.int i,y])/\∀ xs,fV K H a xs->xs[i]?=some y,fun i H=>∃ xs,fV K H a xs/\xs.length<=i⟩
theorem zy{P:KQ}{w:K2}{K:Nq}{elts:List K4}{x1}{tp:Pos}(a e it:KE)(hne:e≠it):Turn P w K (.Tuple elts x1 tp) (Ka K a) [e,it] e (fun i h=>(∃ old,IsEnum h e it i old)/\h.IsListIter it a i) where
 mem:=by simp
 obj:=fun i h st b hb=>by
  have hb':b=e\/b=it:=by simpa using hb
  obtain⟨⟨old,he⟩,o,e1,c,d⟩:=st;rcases hb' with rfl|rfl
  ·exact⟨_,he,fun v z=>by cases z⟩
  ·exact⟨o,e1,fun v z=>by rw[d]at z;cases z⟩
 keep:=fun i h h' ⟨⟨old,he⟩,st⟩ k=>⟨⟨old,k e (by simp) _ he⟩,st.at fun o q=>k it (by simp) o q⟩
 item:=by
  intro X hP hw hK hc i pins s σ H E I hf st hg;subst hP hw hK;obtain⟨xs,x,hq,hx⟩:=hg;obtain⟨its,rv,p,hz⟩:=I.list hq;obtain⟨u,hu,ru⟩:=rv.get hx;obtain⟨⟨old,he⟩,hit⟩:=st;have hel:e < s.heap.objs.size:=KN he;have hil:it < s.heap.objs.size:=by obtain⟨_,z,_⟩:=hit;exact KN z
  refine wpAny_pyNext_enum_item he hit p.isList (x:=u) (by simpa using hu) hne fun h' ho hit' hT hsz hk=>?_
  refine⟨_,rfl,wpAny_letOwnedTupleGo_enum ho fun h2 he2 hs2=>?_⟩;have hT2:h2.get? s.heap.objs.size=some { cls:=.type "tuple",data:=.seq #[.int i s.toks,u] }:=(hs2.2 _ (Nb hel)).trans hT;have hn:H s.heap.objs.size=none:=I.hok.fresh (le_refl _);have nu:∀ b∈[e,it],b≠s.heap.objs.size:=fun b hb=>by
   have hb':b=e\/b=it:=by simpa using hb
   rcases hb' with rfl|rfl
   ·exact K_ hel
   ·exact K_ hil
  have I0:Inv X pins σ (aI H s.heap.objs.size (.tup [.int i,x])) { s with heap:=s.heap.push { cls:=.type "tuple",data:=.seq #[.int i s.toks,u] },toks:=s.toks }:=by
   refine I.laid (t':=s.toks) (fun b v q=>KG _ q) (le_refl _) ?_;exact⟨by show 2<=KM;decide,[.int i s.toks,u],.cons ⟨_,rfl⟩ (.cons ru .nil),oA.new _ _⟩
  have I1:Inv X pins σ (aI H s.heap.objs.size (.tup [.int i,x])) { s with heap:=h2,toks:=s.toks+1 }:=by
   have:=Inv.turnedL (s:={ s with heap:=s.heap.push { cls:=.type "tuple",data:=.seq #[.int i s.toks,u] },toks:=s.toks }) (h':=h2) (t':=s.toks+1) (fp:=[e,it]) I0 (fun b o hb q=>?_) fun b hb=>?_
   ·exact this
   ·have hbe:b≠e:=fun z=>hb (by simp[z])
    have hbi:b≠it:=fun z=>hb (by simp[z])
    have q':(s.heap.push { cls:=.type "tuple",data:=.seq #[.int i s.toks,u] }).get? b=some o:=q
    by_cases hbs:b=s.heap.objs.size
    ·subst hbs;rw[KJ _ rfl]at q';cases q';exact hT2
    ·have q2:s.heap.get? b=some o:=by
      rwa[NG _ _ _ hbs]at q'
     exact (hs2.2 b hbe).trans (hk b o hbe hbi q2)
   ·obtain⟨f0,f1,f2,f3,f4,f5⟩:=hf b hb;exact⟨by rw[aj (nu b hb)];exact f0,f1,f2,f3,f4,f5⟩
  refine⟨.ref s.heap.objs.size,_,I1,rfl,⟨_,x,hn,rfl,rfl,fun ys hy=>by rw[I.list_inj hy hq];exact hx⟩,⟨⟨_,by simpa using he2⟩,hit'.at fun o q=>(hs2.2 it hne.symm).trans q⟩,fun b hb=>?_⟩
  rw[aj (nu b hb)];exact (hf b hb).1
 done:=by
  intro X hP hw hK hc i pins s σ H E I hf st hg;subst hP hw hK;obtain⟨xs,hq,hx⟩:=hg;obtain⟨its,rv,p,hz⟩:=I.list hq;obtain⟨⟨old,he⟩,hit⟩:=st;have hl:=rv.length;exact wpAny_pyNext_enum_end (I.ok.hd hc) he hit p.isList (by simp;omega) fun h' eb=>⟨rfl,I.turnedL (t':=s.toks) (fp:=[e,it]) (fun b o hb q=>eb b o (fun z=>hb (by simp[z])) q) hf⟩
 self:=fun _ _ _ _ _ st h=>by
  obtain⟨⟨old,he⟩,_⟩:=st;exact Qj he h
end L2
namespace L3
open PySem PySem.Spec PyProof.Rows L2
def c9:Nat->List D->List D
 | _,[]=>[]
 | n,d::r=>.tup [.int n,d]::c9 (n+1) r
abbrev v7(ds:List D):List D:=c9 0 ds
theorem ef:∀ (n:Nat) (ds:List D),(c9 n ds).length=ds.length
 | _,[]=>rfl
 | n,_::r=>by simp[c9,ef (n+1) r]
theorem j9:∀ (n:Nat) (ds:List D) (i:Nat) (d:D),ds[i]?=some d->(c9 n ds)[i]?=some (.tup [.int (n+i:Nat),d])
 | n,d::r,0,d',h=>by simp at h;subst h;simp[c9]
 | n,d::r,i+1,d',h=>by
  have:=j9 (n+1) r i d' (by simpa using h)
  simp only[c9,LY];rw[this];simp only[Option.some.injEq,D.tup.injEq,List.cons.injEq,D.int.injEq,and_true];omega
theorem Ei{K:Nq}{G0:Gp}{H0:Hp}{ds:List D}{xs:List V}{a:KE}(rg0:RG K H0 G0)(f:AQ K H0 a xs)(r:RDs K H0 ds xs):uG K G0 H0 (v7 ds) (Ka K a):=fun i G H k rg=>by
 have hl:=r.length;have f':=(k.stb rg0).l _ _ f;have r':=RDs.mono (k.stb rg0) _ _ r;rw[v7,ef];refine⟨fun hi=>⟨⟨xs,xs[i],f'.sq,KW (by walk_at "o")⟩,fun x H' y=>?_⟩,fun e=>⟨xs,f'.sq,by walk_at "o"⟩⟩
 obtain⟨p,y,hn,rfl,rfl,hx⟩:=y;have e0:ds[i]?=some ds[i]:=KW hi;obtain⟨z,e,q⟩:=r'.get e0;have e2:=hx xs f'.sq;rw[e2]at e;cases e;refine⟨Kp.laid hn,rg.laid hn,.tup [.int i,ds[i]],?_,gX rg hn (RDs.cons bQ (RDs.cons q RDs.nil))⟩;have:=j9 0 ds i _ e0;rw[this,Nat.zero_add]
def Ci(ta:iF):CS:=fun σ G Q=>ta σ G fun ds G'=>match ds with
 | [.lst es]=>Q (v7 es) G'
 | _=>False
theorem qI:LM "enumerate"=some (.type "enumerate"):=by kernel_rfl
theorem Gf{X:Cx}{elts:List K4}{x1}{tp:Pos}{a:K4}{ta:iF}{p pos:Pos}(hg:Gl X "enumerate")(hm:X.mg "enumerate"=none)(ha:PA X [a] (cT X.K ta))(hs:KO [a] X.env=[(false,eval a X.env)]:=by rfl):PI X (.Tuple elts x1 tp) (.Call (.Name "enumerate" p) [a] [] pos) (nB X.K (Ci ta)):=by
 intro pins s τ H R I h;obtain⟨σ,G,Q3,rs,rg,hq,k⟩:=h;refine PN (eV I hg hm qI (PyProof.Rows.callWith_type1 (br (ha pos pins s τ H (fun vs H1=>∃ ds G1,(match ds with|[.lst es]=>Q3 (v7 es) G1|_=>False)/\Kp G H G1 H1/\RG X.K H1 G1/\RDs X.K H1 ds vs) I
  ⟨σ,G,_,rs,rg,hq,fun ds G1 vs H1 q k1 rg1 rds=>⟨ds,G1,q,k1,rg1,rds⟩⟩) fun us s1 ⟨vs,H1,I1,r1,q1⟩=>?_) hs rfl))
 obtain⟨ds,G1,q,k1,rg1,rds⟩:=q1;split at q
 ·rename_i es;obtain⟨v,rfl,rd⟩:=dj rds;simp only[RD]at rd;obtain⟨b,xs,rfl,f,r⟩:=rd;obtain⟨u,rfl,ru⟩:=oX r1;cases ru;obtain⟨its,rv,pl,hz⟩:=I1.list f.sq;refine call_enumerate_list pl.isList fun h' hE hI hsz hk=>Qj hE ?_;refine⟨s1.heap.objs.size+1,[s1.heap.objs.size+1,s1.heap.objs.size],_,_,H1,rfl,I1.kept (t':=s1.toks) hk,zy b _ _ (Nat.succ_ne_self _),⟨⟨_,hE⟩,hI⟩,fun c hc=>?_,k _ G1 _ H1 q k1 rg1 (Ei rg1 f r)⟩;have e:c=s1.heap.objs.size+1\/c=s1.heap.objs.size:=by simpa using hc
  have hc':s1.heap.objs.size<=c:=by rcases e with e|e<;>(rw[e];first|exact le_refl _|exact NE _)
  exact I1.fpOk hc' (I1.hok.fresh hc')
 ·exact q.elim
def JC(a b:String):Bool:=(a == b) || ((a == "bool") && (b == "int"))
def F4(b:String):Prop:=b="int"\/b="bool"\/b="str"\/b="tuple"\/b="list"
def JR:ww:=fun ds G Q=>match ds with
 | [d,.ty T]=>F4 T/\∃ T',tZ G d=some T'/\Q (.bl (JC T' T)) G
 | _=>False
def Ih:ww:=fun ds G Q=>match ds with
 | [.bl b]=>Q (.int (if b then 1 else 0)) G
 | _=>False
theorem AE:LM "str"=some (.type "str"):=by kernel_rfl
end L3
namespace L2
open PySem PySem.Spec PyProof.Rows
end L2
namespace L3
open PySem PySem.Spec PyProof.Rows L2
def IK(a:KE)(g:m6)(tb:bh)(E:Ends3)(σ:cL)(ds:List D)(G1:Gp):Prop:=∃ Pv:Nat->cL->Gp->Prop,Pv 0 σ G1/\(∀ i σ' G',Pv i σ' G'->G' a=some (.lst ds))/\
 (∀ (i:Nat) d σ' G',ds[i]?=some d->Pv i σ' G'->g d σ' G' fun σ2 G2=>tb { E with nx:=Pv (i+1),ct:=Pv (i+1),bk:=E.nx } σ2 G2)/\∀ σ' G',Pv ds.length σ' G'->E.nx σ' G'
def Bd(te:aL)(g:m6)(tb:bh):bh:=fun E σ G=>te σ G fun d G1=>match d with
 | .ref a=>∃ ds,G1 a=some (.lst ds)/\IK a g tb E σ ds G1
 | d=>match dQ d with
  | some ds=>zn g tb E σ ds G1
  | none=>False
section
variable{X:Cx}{tg e:K4}{te:aL}
theorem yD(h:PE X e (au X.K te)):PI X tg e (fun τ H R=>∃ σ G Q3,RS X.K H σ τ/\RG X.K H G/\te σ G Q3/\∀ d G1 H1,Q3 d G1->Kp G H G1 H1->RG X.K H1 G1->match d with
  | .ref a=>(∃ ds,G1 a=some (.lst ds))/\R (IJ X.K a) H1
  | d=>∃ ds,dQ d=some ds/\∀ J,uG X.K G1 H1 ds J->R J H1):=by
 intro pins s τ H R I hq;obtain⟨σ,G,Q3,rs,rg,hq,k⟩:=hq;refine br (cH h pins s τ H (fun v H1=>∃ d G1,Kp G H G1 H1/\RG X.K H1 G1/\RD X.K H1 (val d) v/\Q3 d G1) I ⟨σ,G,_,rs,rg,hq,fun d G' v H' q k' rg' rd=>⟨d,G',k',rg',rd,q⟩⟩) fun u s1 zz=>?_;obtain⟨v,H1,I1,r1,d,G1,k1,rg1,rd,q⟩:=zz;have kk:=k d G1 H1 q k1 rg1;have seq:∀ {a:KE} {xs:List V} {ds:List D},AQ X.K H1 a xs->RDs X.K H1 ds xs->(∀ J,uG X.K G1 H1 ds J->R J H1)->KI (KL X.prog X.w) X.A (Ni (.ref a)) (Fb X pins τ tg R) X.xe s1:=fun f r q=>mR I1 f.sq (q _ (yS rg1 f r));cases d with
 | ref a=>
  simp only[val,RD]at rd;subst rd;cases r1;obtain⟨⟨ds,hg⟩,kr⟩:=kk;obtain⟨xs,e1,r⟩:=pZ rg1 hg;exact mR I1 (fV.of e1) kr
 | lst ds=>
  simp only[val,RD]at rd;obtain⟨a,xs,rfl,f,r⟩:=rd;cases r1;obtain⟨ds',e,kr⟩:=kk;cases e;exact seq f r kr
 | fl ds=>
  simp only[val,RD]at rd;obtain⟨a,xs,rfl,f,r⟩:=rd;cases r1;obtain⟨ds',e,kr⟩:=kk;cases e;exact seq f r kr
 | tup ds=>
  simp only[val,RD]at rd;obtain⟨a,xs,rfl,f,r⟩:=rd;cases r1;obtain⟨ds',e,kr⟩:=kk;cases e;exact vU I1 f (kr _ (Cd rg1 f r))
 | str z=>
  simp only[val,RD]at rd;subst rd;obtain⟨t,rfl⟩:=r1;obtain⟨ds',e,kr⟩:=kk;cases e;refine vV I1 (kr _ (yR fun H'=>?_));have:signs z=(z.cps.toList.map fun c=>(⟨#[c]⟩:Str)).map D.str:=by simp[signs]
  rw[this];have e2:cq z=(z.cps.toList.map fun c=>(⟨#[c]⟩:Str)).map V.str:=by simp[cq]
  rw[e2];exact RDs.strs _
 | _=>
  obtain⟨ds',e,_⟩:=kk;cases e
end
theorem FB{X:Cx}{tg iter:K4}{body:List Lf}{te:aL}{g:m6}{tb:bh}{pos:Pos}(hp:Oj (KL X.prog X.w) X.A X.env X.xe)(hc:X.calm=true)(hi:PE X iter (au X.K te))(hg:PG X tg (fF X.K g))(hb:fh X body (aZ X.K tb))
  (hs:∀ x,LI iter X.env x=pure x:=by intro _;rfl):PS X (.For tg iter body [] pos) (aZ X.K (Bd te g tb)):=
 (BD hp hc (yD hi) hg hb hs).imp fun Dd τ H zz=>by
 obtain⟨σ,G,D3,rs,rg,h,k⟩:=zz;exact (
  ⟨σ,G,_,rs,rg,h,fun d G1 H1 q k1 rg1=>by
    have core:∀ (ds:List D) (J:It) (Pv:Nat->cL->Gp->Prop),Pv 0 σ G1->
      (∀ i σ' G' H',Pv i σ' G'->Kp G1 H1 G' H'->RG X.K H' G'->(i < ds.length->J.go i H'/\∀ x H2,J.yld i H' x H2->Kp G' H' G' H2/\RG X.K H2 G'/\∃ d,ds[i]?=some d/\RD X.K H2 d x)/\(i=ds.length->J.stop i H'))->
      (∀ (i:Nat) d σ' G',ds[i]?=some d->Pv i σ' G'->g d σ' G' fun σ2 G2=>tb { D3 with nx:=Pv (i+1),ct:=Pv (i+1),bk:=D3.nx } σ2 G2)->(∀ σ' G',Pv ds.length σ' G'->D3.nx σ' G')->
      ∃ W:Nat->Nat->St->Hp->Prop,(∃ m,W 0 m τ H1)/\∀ i m σ H,W i m σ H->
       (J.stop i H/\Dd.nx σ H)\/(J.go i H/\∃ N:St->Hp->Prop,(∀ σ' H',N σ' H'->∃ m',m' < m/\W (i+1) m' σ' H')/\∀ x H',J.yld i H x H'->fF X.K g x σ H' fun σ2 H2=>aZ X.K tb { Dd with nx:=N,ct:=N,bk:=Dd.nx } σ2 H2):=by
     intro ds J Pv p0 it step fin;refine⟨fun i m τ' H'=>m=ds.length - i/\i<=ds.length/\∃ σ' G',RS X.K H' σ' τ'/\RG X.K H' G'/\Pv i σ' G'/\Kp G1 H1 G' H',⟨ds.length,rfl,LG _,σ,G1,rs.mono (k1.stb rg),rg1,p0,Kp.refl⟩,?_⟩
     rintro i m τ' H' ⟨rfl,hi',σ',G',rs',rg',pv,k'⟩
     obtain⟨hgo,hstop⟩:=it i σ' G' H' pv k' rg'
     by_cases hlt:i < ds.length
     ·obtain⟨go,yld⟩:=hgo hlt;refine .inr ⟨go,fun τ2 H2=>∃ σ2 G2,RS X.K H2 σ2 τ2/\RG X.K H2 G2/\Pv (i+1) σ2 G2/\Kp G1 H1 G2 H2,fun τ2 H2 ⟨σ2,G2,a,b,c,d⟩=>⟨ds.length - (i+1),by walk_at "o",rfl,hlt,σ2,G2,a,b,c,d⟩,fun x H2 y=>?_⟩
      obtain⟨ky,rgy,d,hd,rd⟩:=yld x H2 y;refine⟨d,σ',G',_,rd,rs'.mono (ky.stb rg'),rgy,step i d σ' G' hd pv,fun σ3 G3 τ3 H3 q3 k3 rg3 rs3=>?_⟩;have kk:Kp G1 H1 G3 H3:=k'.trans (ky.trans k3);have kG:Kp G H G3 H3:=k1.trans kk;refine⟨σ3,G3,_,rs3,rg3,q3,⟨fun σ4 G4 τ4 H4 q4 k4 rg4 rs4=>⟨σ4,G4,rs4,rg4,q4,kk.trans k4⟩,k.rt.base kG,fun σ4 G4 τ4 H4 q4 k4=>k.nx σ4 G4 τ4 H4 q4 (kG.trans k4),fun σ4 G4 τ4 H4 q4 k4 rg4 rs4=>⟨σ4,G4,rs4,rg4,q4,kk.trans k4⟩⟩⟩
     ·have e:i=ds.length:=by walk_at "o"
      refine .inl ⟨hstop e,k.nx σ' G' τ' H' (fin σ' G' (by rw[<- e];exact pv)) (k1.trans k') rg' rs'⟩
    cases d with
    | ref a=>
     obtain⟨ds,hg,Pv,p0,live,step,fin⟩:=q;refine⟨⟨ds,hg⟩,core ds _ Pv p0 (fun i σ' G' H' pv k' rg'=>?_) step fin⟩;obtain⟨xs,e1,r⟩:=pZ rg' (live i σ' G' pv);have hl:=r.length;refine⟨fun hi=>⟨⟨xs,xs[i]'(by walk_at "o"),fV.of e1,by simp[show i < xs.length by walk_at "o"]⟩,fun x H2 y=>?_⟩,fun e=>⟨xs,fV.of e1,by walk_at "o"⟩⟩
     obtain⟨rfl,hx⟩:=y;refine⟨Kp.refl,rg',ds[i],by simp[hi],?_⟩
     obtain⟨y,e,q⟩:=r.get (i:=i) (d:=ds[i]) (by simp[hi])
     rw[hx xs (fV.of e1)]at e;cases e;exact q
    | lst ds=>
     obtain⟨Pv,p0,step,fin⟩:=q;exact⟨_,rfl,fun J it=>core _ J Pv p0 (fun i σ' G' H' _ k' rg'=>it i G' H' k' rg') step fin⟩
    | fl ds=>
     obtain⟨Pv,p0,step,fin⟩:=q;exact⟨_,rfl,fun J it=>core _ J Pv p0 (fun i σ' G' H' _ k' rg'=>it i G' H' k' rg') step fin⟩
    | tup ds=>
     obtain⟨Pv,p0,step,fin⟩:=q;exact⟨_,rfl,fun J it=>core _ J Pv p0 (fun i σ' G' H' _ k' rg'=>it i G' H' k' rg') step fin⟩
    | str z=>
     obtain⟨Pv,p0,step,fin⟩:=q;exact⟨_,rfl,fun J it=>core _ J Pv p0 (fun i σ' G' H' _ k' rg'=>it i G' H' k' rg') step fin⟩
    | _=>exact q.elim⟩)
def wL(c:iJ)(tb:bh):bh:=fun E σ G=>∃ W:Nat->cL->Gp->Prop,(∃ m,W m σ G)/\∀ m σ' G',W m σ' G'->
 c σ' G' fun b G1=>if b=true then ∃ N:cL->Gp->Prop,(∀ σ2 G2,N σ2 G2->∃ m',m' < m/\W m' σ2 G2)/\tb { E with nx:=N,ct:=N,bk:=E.nx } σ' G1 else E.nx σ' G1
theorem DB{X:Cx}{c:K4}{body:List Lf}{tc:iJ}{tb:bh}{pos:Pos}(hp:Oj (KL X.prog X.w) X.A X.env X.xe)(hc:PT X c (bu X.K tc))(hb:fh X body (aZ X.K tb)):PS X (.While c body [] pos) (aZ X.K (wL tc tb)):=
 (By hp hc hb).imp fun D τ H ⟨σ,G,D3,rs,rg,⟨W,⟨m0,w0⟩,turn⟩,k⟩=>by
  refine⟨fun m τ' H'=>∃ σ' G',RS X.K H' σ' τ'/\RG X.K H' G'/\W m σ' G'/\Kp G H G' H',⟨m0,σ,G,rs,rg,w0,Kp.refl⟩,?_⟩
  rintro m τ' H' ⟨σ',G',rs',rg',w',k'⟩
  refine⟨σ',G',_,rs',rg',turn m σ' G' w',fun b G1 H1 q k1 rg1=>?_⟩;cases b with
  | true=>
   rw[if_pos rfl]at q ⊢;obtain⟨N,hN,q⟩:=q;refine⟨fun τ2 H2=>∃ σ2 G2,RS X.K H2 σ2 τ2/\RG X.K H2 G2/\N σ2 G2/\Kp G H G2 H2,fun τ2 H2 ⟨σ2,G2,a,b,n,d⟩=>?_,?_⟩
   ·obtain⟨m',hm,w2⟩:=hN σ2 G2 n;exact⟨m',hm,σ2,G2,a,b,w2,d⟩
   ·have kG:=k'.trans k1;exact⟨σ',G1,_,rs'.mono (k1.stb rg'),rg1,q,⟨fun σ4 G4 τ4 H4 q4 k4 rg4 rs4=>⟨σ4,G4,rs4,rg4,q4,kG.trans k4⟩,k.rt.base kG,fun σ4 G4 τ4 H4 q4 k4=>k.nx σ4 G4 τ4 H4 q4 (kG.trans k4),fun σ4 G4 τ4 H4 q4 k4 rg4 rs4=>⟨σ4,G4,rs4,rg4,q4,kG.trans k4⟩⟩⟩
  | false=>
   rw[if_neg Bool.false_ne_true]at q ⊢;exact k.nx σ' G1 τ' H1 q (k'.trans k1) rg1 (rs'.mono (k1.stb rg'))
def bp:List Str->List D->Str->Option D
 | g::L,d::ds,f=>if g=f then some d else bp L ds f
 | _,_,_=>none
def da(L:List Str)(f:Str):List Str:=match L with
 | []=>[f]
 | g::r=>if g=f then g::r else g::da r f
def cI:List Str->List D->Str->D->List D
 | g::L,x::ds,f,d=>if g=f then d::ds else x::cI L ds f d
 | _,_,_,d=>[d]
section
variable{K:Nq}{H:Hp}
theorem qw:∀ {gs:List (Str×V)} {ds:List D} {f:Str} {d:D},RDs K H ds (gs.map (·.2))->bp (gs.map (·.1)) ds f=some d->∃ v,gs.lookup f=some v/\RD K H d v
 | [],ds,f,d,r,e=>by simp[bp]at e
 | (g,u)::t,ds,f,d,r,e=>by
  cases ds with
  | nil=>simp[bp]at e
  | cons x ds=>
   obtain⟨y,q,e1,h1,h2⟩:=r.inv_cons;rw[K3,List.cons.injEq]at e1;obtain⟨rfl,e1⟩:=e1;simp only[K3,bp]at e;split at e
   ·rename_i hg;cases e;subst hg;exact⟨u,by rw[L_,beq_self_eq_true],h1⟩
   ·rename_i hg;obtain⟨v,e2,h3⟩:=qw (gs:=t) (by rw[e1];exact h2) e
    exact⟨v,by rw[L_,show (f == g)=false by simpa using Ne.symm hg];exact e2,h3⟩
theorem vd:∀ {gs:List (Str×V)} {f:Str} {v:V},(e_ f v gs).map (·.1)=da (gs.map (·.1)) f
 | [],f,v=>rfl
 | (g,u)::t,f,v=>by
  simp only[e_,K3,da];split
  ·rename_i hg;simp[hg]
  ·simp[vd (gs:=t)]
theorem ve:∀ {gs:List (Str×V)} {ds:List D} {f:Str} {v:V} {d:D},RDs K H ds (gs.map (·.2))->RD K H d v->RDs K H (cI (gs.map (·.1)) ds f d) ((e_ f v gs).map (·.2))
 | [],ds,f,v,d,r,h=>by
  have:cI ([]:List Str) ds f d=[d]:=by unfold cI;rfl
  exact RDs.cons h RDs.nil
 | (g,u)::t,ds,f,v,d,r,h=>by
  cases ds with
  | nil=>exact absurd r.length (by simp)
  | cons x ds=>
   obtain⟨y,q,e1,h1,h2⟩:=r.inv_cons;rw[K3,List.cons.injEq]at e1;obtain⟨rfl,e1⟩:=e1;simp only[e_,K3,cI];split
   ·rename_i hg;subst e1;exact RDs.cons h h2
   ·exact RDs.cons h1 (ve (gs:=t) (by rw[e1];exact h2) h)
end
def ce(cs:List KE)(f:Str)(to:aL):aL:=fun σ G Q=>to σ G fun x G1=>match x with
 | .ref a=>match G1 a with
  | some (.ins C L ds)=>C∈cs/\match bp L ds f with
   | some d=>Q d G1
   | none=>False
  | _=>False
 | _=>False
def pe(cs:List KE)(f:Str)(to tv:aL):bh:=fun D σ G=>tv σ G fun d G1=>to σ G1 fun x G2=>match x with
 | .ref a=>match G2 a with
  | some (.ins C L ds)=>(C∈cs/\L.length < 1000)/\D.nx σ (gset G2 a (.ins C (da L f) (cI L ds f (val d))))
  | _=>False
 | _=>False
def Gi(cs:List (KE×de))(m:Str)(dds:List D)(to:aL)(ta:iF):aL:=fun σ G Q=>to σ G fun x G1=>match x with
 | .ref a=>match G1 a with
  | some (.ins C L _)=>m∉L/\∃ sp,(C,sp)∈cs/\ta σ G1 fun ds G2=>sp (.ref a::(ds ++ dds)) G2 Q
  | _=>False
 | _=>False
section
variable{X:Cx}{o e:K4}{es:List K4}{to te:aL}{t:iF}{pos apos:Pos}{k:Nat}{m:Str}{dds:List D}{sp:de}
theorem cR{f:Str}{cs:List KE}(tab:∀ C∈cs,Cls X.K C/\bE X.K C f)(ho:PE X o (au X.K to))(hb:Ls o f X.env (eval o X.env)=eval o X.env:=by rfl):PE X (.Attribute o f pos) (au X.K (ce cs f to)):=
 (BN ho hb).imp fun τ H Q zz=>by
 obtain⟨σ,G,Q3,rs,rg,h,kk⟩:=zz;exact (
  ⟨σ,G,_,rs,rg,h,fun d G1 v H1 q k1 rg1 re=>by
    cases d with
    | ref a=>
     dsimp only at q;split at q
     ·rename_i C L ds hg;obtain⟨hc,q⟩:=q;split at q
      ·rename_i d hd;obtain⟨ho,e1,ro⟩:=rg1 a _ hg;cases ho with
       | ins C2 dx gs=>
        obtain⟨rfl,r2,r3⟩:=ro;subst r2;obtain⟨w,hw,rd⟩:=qw r3 hd;exact⟨a,_,dx,gs,w,re.ref,e1,(tab _ hc).1,(tab _ hc).2,hw,kk _ G1 _ H1 q k1 rg1 (.of rd)⟩
       | _=>exact ro.elim
      ·exact q.elim
     ·exact q.elim
    | _=>exact q.elim⟩)
theorem ia{f:Str}{cs:List KE}{pos':Pos}(tab:∀ C∈cs,Cls X.K C/\bE X.K C f)(ho:PE X o (au X.K to))(hv:PE X e (au X.K te))(hs:Mb e (some (.Attribute o f pos')) pos.line X.env=pure false:=by rfl):
  PS X (.Assign [.Attribute o f pos'] e pos) (aZ X.K (pe cs f to te)):=
 (BE ho (cH hv) hs).imp fun Dd τ H zz=>by
 obtain⟨σ,G,D3,rs,rg,h,kk⟩:=zz;exact (
  ⟨σ,G,_,rs,rg,h,fun d G1 v H1 q1 k1 rg1 rd=>⟨σ,G1,_,rs.mono (k1.stb rg),rg1,q1,fun x G2 u H2 q2 k2 rg2 re=>by
    cases x with
    | ref a=>
     dsimp only at q2;split at q2
     ·rename_i C L ds hg;obtain⟨⟨hc,hl⟩,q2⟩:=q2;obtain⟨ho,e1,ro⟩:=rg2 a _ hg;cases ho with
      | ins C2 dx gs=>
       obtain⟨rfl,r2,r3⟩:=ro;subst r2;have rd2:=RD.mono (k2.stb rg1) _ _ rd;obtain⟨kp,rg3⟩:=put_ok (gs':=e_ f v gs) (L':=da (gs.map (·.1)) f) (ds':=cI (gs.map (·.1)) ds f (val d)) rg2 e1 vd (ve r3 rd2) (by rw[hg];exact fun z=>nomatch z)
       exact⟨a,_,dx,gs,re.ref,e1,(tab _ hc).1,(tab _ hc).2,by simpa using hl,kk.nx _ _ _ _ q2 ((k1.trans k2).trans kp) rg3 (rs.mono ((((k1.trans k2).trans kp)).stb rg))⟩
      | _=>exact ro.elim
     ·exact q2.elim
    | _=>exact q2.elim⟩⟩)
structure Cf3(P:KQ)(w:K2)(K:Nq)(mg:Str->Option KC)(base:K1)(k:Nat)(x m:Str)(dds:List D)(sp:de):Prop where
 ex:∃ C f fd ps ds dvs,FnOk P w K mg base l_ k f fd ps (bC K sp)/\mg x=some (.ref C)/\OI K (.ref C) "__getattribute__"=some (some (.builtin "type.__getattribute__"))/\PySem.W.readsIn K C (.type "type")=true/\
  PySem.W.findCls K (.ref C) (.type "type") m=some (.val (.ref f))/\OK K (.ref f)=true/\db K fd ps ds/\Vals dvs ds/\∀ H,RDs K H dds dvs
theorem z9{pl:Sem Bool}{x:Str}{p:Pos}(F:Cf3 X.prog X.w X.K X.mg X.base k x m dds sp)(hr:Room k X.A)(hg:Gl X x)(ha:PA X (e::es) (cT X.K t))(hdb:(x == ("__debug__":Str))=false:=by decide)
  (hst:KO (e::es) X.env=(false,eval e X.env)::KO es X.env:=by rfl) (hpl:(LN pos (KO es X.env)).any (·.1)=false:=by rfl)
  (ht:eval (.Call (.Attribute (.Name x p) m apos) (e::es) [] pos) X.env=(do
   let ov <- eval (.Name x p) X.env
   Nu apos.atName
   let (f,first) <- holding [ov] (Nv ov m pl)
   Oz pos f first (LN pos (KO (e::es) X.env)) (No pos (Mv [] X.env))):=by rfl):
  PE X (.Call (.Attribute (.Name x p) m apos) (e::es) [] pos) (au X.K (aM sp dds t)):=by
 obtain⟨C,f,fd,ps,ds,dvs,ok,hm,hga,hrd,hfc,hk,hb,hv,hd⟩:=F.ex;intro pins s τ H Q I h;refine NK (pl:=pl) (br (yE (v:=.ref C) hg hm rfl hdb pins s τ H (fun v H1=>v=.ref C/\H1=H) I ⟨rfl,rfl⟩) fun u s1 zz=>?_) ht;obtain⟨v,H1,I1,rx,e1,e2⟩:=zz;subst e1 e2;obtain rfl:u=Value.ref C:=rx;refine PySem.W.method_cls I1.kIn hga (PySem.W.cls_value I1.kIn hrd hfc rfl ?_);have I2:=I1.tok (s1.toks+1);obtain⟨σ,G,Q3,rs,rg,h,kk⟩:=h;refine Nx (first:=[]) (h₀:=X.base) I.ok.mod.kin hk (br (ha pos pins _ τ H1 (fun vs H2=>∃ ds G1,sp (ds ++ dds) G1 Q3/\Kp G H1 G1 H2/\RG X.K H2 G1/\RDs X.K H2 ds vs) I2 ⟨σ,G,_,rs,rg,h,fun ds G1 vs H2 q k1 rg1 rds=>⟨ds,G1,q,k1,rg1,rds⟩⟩) fun us s2 ⟨vs,H2,I3,r,ds1,G1,q2,k1,rg1,rds⟩=>⟨I3.kIn,?_⟩) hst hpl
 exact sO (us:=us) (vs:=vs) ok hr hb hv vn I3 r ⟨ds1 ++ dds,G1,Q3,rds.append (hd _),rg1,q2,kk.base k1⟩
end
end L3
theorem L3.all_cons{α:Type}{p:α->Prop}{a:α}{l:List α}(h:p a)(t:∀ x∈l,p x):∀ x∈a::l,p x:=fun x hx=>by
 rcases Le.mp hx with rfl|hx
 ·exact h
 ·exact t x hx
namespace L3
open PySem PySem.Spec PyProof.Rows L2 PySem.SeqAt PySem.W
def qg:D->Bool
 | .non=>true
 | _=>false
def Jx:R3:=fun x y G Q=>match y with
 | .non=>Q (.bl (qg x)) G
 | _=>False
def vy:R3:=fun x y G Q=>match y with
 | .non=>Q (.bl (!qg x)) G
 | _=>False
section
variable{X:Cx}
theorem Bj{K:Nq}{G0 G:Gp}{H0 H:Hp}{x:D}{v:V}{u:KC}(r:RE K G0 H0 G H x v)(l:RelV v u):(u == Value.none)=qg x:=by
 cases x with
 | non=>rw[r.non]at l;cases l;rfl
 | fl ds=>
  obtain⟨p,xs,rfl,_⟩:=r.fl;cases l;rfl
 | lst ds=>
  obtain⟨a,xs,rfl,_⟩:=r.lst;cases l;rfl
 | tup ds=>
  obtain⟨a,xs,rfl,_⟩:=r.tup;cases l;rfl
 | int i=>rw[r.int]at l;obtain⟨t,rfl⟩:=l;rfl
 | str i=>rw[r.str]at l;obtain⟨t,rfl⟩:=l;rfl
 | bl i=>rw[r.bl]at l;cases l;rfl
 | ref a=>rw[r.ref]at l;cases l;rfl
 | ty T=>
  have:=r.rd (by intro ds z;cases z)
  simp only[RD]at this;subst this;cases l;rfl
theorem Ff:fe X (Ll .IsNot) (cv X.K vy):=by
 rintro pins s σ H v u v' u' Q I rv ru ⟨x,y,G0,H0,G,Q3,rx,ry,rg,h,k⟩
 unfold vy at h;split at h
 ·rw[ry.non]at ru;cases ru;refine isnot_none_gen ?_;rw[Bj rx rv];exact⟨.bl _,H,I,rfl,k _ G _ H h Kp.refl rg (.of fu)⟩
 ·exact h.elim
end
section
variable{X:Cx}{o i:K4}{to ti:aL}{pos:Pos}
theorem BR(hu:X.A.units+8 < Ly)(hi:PE X i (au X.K ti))(ho:PE X o (au X.K to))(hm:LO .In o=false:=by rfl):PT X (.Compare i [.In] [o] pos) (bu X.K (cK (Cw (ax X.prog X.w) ti to))):=by
 refine (Bw (op:=.In) (t:=au X.K (Cw (ax X.prog X.w) ti to)) (fun pins s τ H Q I ⟨σ,G,Q3,rs,rg,h,k⟩=>?_) hm).imp fun τ H Q h=>sE h;refine br (cQ hi I rs rg h) fun iv s1 zz=>?_;obtain⟨iy,H1,I1,riy,y,G1,q1,k1,rg1,rd1⟩:=zz;refine br (cQ ho I1 (rs.mono (k1.stb rg)) rg1 q1) fun ov s2 zz=>?_;obtain⟨ox,H2,I2,rox,x,G2,q2,k2,rg2,rd2⟩:=zz;obtain⟨r,l,q2⟩:=q2;exact Ib (by walk_at "o") I2 rg2 l rd2 rox (RD.mono (k2.stb rg1) _ _ rd1) riy fun s3 I3=>⟨.bl r.isSome,H2,I3,rfl,k _ G2 _ H2 q2 (k1.trans k2) rg2 (.of fu)⟩
theorem jr(hu:X.A.units+8 < Ly)(hi:PE X i (au X.K ti))(ho:PE X o (au X.K to))(hm:LO .NotIn o=false:=by rfl):PT X (.Compare i [.NotIn] [o] pos) (bu X.K (cK (fc (ax X.prog X.w) ti to))):=by
 refine (Bw (op:=.NotIn) (t:=au X.K (fc (ax X.prog X.w) ti to)) (fun pins s τ H Q I ⟨σ,G,Q3,rs,rg,h,k⟩=>?_) hm).imp fun τ H Q h=>sE h;refine br (cQ hi I rs rg h) fun iv s1 zz=>?_;obtain⟨iy,H1,I1,riy,y,G1,q1,k1,rg1,rd1⟩:=zz;refine br (cQ ho I1 (rs.mono (k1.stb rg)) rg1 q1) fun ov s2 zz=>?_;obtain⟨ox,H2,I2,rox,x,G2,q2,k2,rg2,rd2⟩:=zz;obtain⟨r,l,q2⟩:=q2;exact CC (by walk_at "o") I2 rg2 l rd2 rox (RD.mono (k2.stb rg1) _ _ rd1) riy fun s3 I3=>⟨.bl (!r.isSome),H2,I3,rfl,k _ G2 _ H2 q2 (k1.trans k2) rg2 (.of fu)⟩
end
def xA(hw:List ar->Int)(tk tv:aL):aL:=fun σ G Q=>∀ p,G p=none->tk σ (gset G p (.dT hw [])) fun x G1=>tv σ G1 fun y G2=>match G2 p with
 | some (.dT hw' [])=>hw'=hw/\∃ ks,lR (val x)=some ks/\Q (.ref p) (gset G2 p (.dT hw [(ks,val y)]))
 | _=>False
section
variable{X:Cx}{pos:Pos}
theorem DX{k v:K4}{tk tv:aL}(hu:X.A.units+8 < Ly)(hk:PE X k (au X.K tk))(hv:PE X v (au X.K tv)):PE X (.Dict [some k] [v] pos) (au X.K (xA (ax X.prog X.w) tk tv)):=fun pins s τ H Q I zz=>by
 obtain⟨σ,G,Q3,rs,rg,h,kk⟩:=zz;have hf:H s.heap.objs.size=none:=I.hok.fresh (le_refl _);obtain⟨kp,rg2⟩:=Ck (o:=.dT (ax X.prog X.w) []) (ho:=.ext (nL (ax X.prog X.w) s.heap.objs.size [])) rg hf fun H' _=>⟨[],rfl,.nil,M7,LG _⟩;have hd:(s.heap.objs.size == Lw)=false:=beq_eq_false_iff_ne.mpr (Ne.symm (K_ I.big));have I1:=I.laid (a:=s.heap.objs.size) (t':=s.toks) (fun _ _ q=>KG _ q) (le_refl _) (kM (P:=X.prog) (w:=X.w) (hw:=ax X.prog X.w) (xs:=[]) ⟨hd,_,#[],0,KJ (h:=s.heap) (o:={ cls:=.type "dict",data:=.dict #[] }) rfl,⟨rfl,rfl,rfl⟩,rfl,rfl⟩);refine wpAny_Dict_any (by rfl) (by rfl) (by simp) (by simp) ?_
 refine PR (br (cQ hk I1 (rs.mono (kp.stb rg)) rg2 (h _ (rg.free hf))) fun kv s1 zz=>?_);obtain⟨ox,H1,I2,rox,x,G1,q1,k1,rg1,rd1⟩:=zz;refine br (cQ hv I2 (rs.mono ((kp.trans k1).stb rg)) rg1 q1) fun vv s2 zz=>?_;obtain⟨oy,H2,I3,roy,y,G2,q2,k2,rgb,rd2⟩:=zz;refine P_ ?_;unfold storeAll;rw[M4];split at q2
 ·rename_i hw' hg;obtain⟨rfl,ks,hks,q2⟩:=q2;have SB:=RD.mono (k2.stb rg1) _ _ rd1;obtain⟨b,rfl,sq⟩:=lQ hks SB;cases rox;obtain⟨ho,e,r⟩:=rgb _ _ hg;cases ho with
  | ext φ=>
   obtain⟨xs,rfl,rt,nd,_⟩:=r;have e0:xs=[]:=by
    have:=rt.length;exact List.length_eq_zero_iff.mp this.symm
   subst e0;obtain⟨hd2,dd⟩:=oP I3 e rt nd;refine KB (KB (P4 (hsz:=LG _) (show X.A.units < Ly by walk_at "o") (mQ I3 sq) dd fun h' dd' hs=>KD ?_))
   dsimp only;rw[NN];refine KD ?_;obtain⟨q,es,ep,hq,h2,h3,h4,_,h5⟩:=dd';obtain⟨kp3,rg3⟩:=mX (a:=s.heap.objs.size) (o:=.dT (ax X.prog X.w) (aS [] ks (val y))) (ho:=.ext (nL (ax X.prog X.w) s.heap.objs.size (Og [] ks b vv))) rgb (by rw[hg];exact fun z=>nomatch z)
    fun H' st=>⟨_,rfl,(rt.put ks sq rd2 roy).mono st,kB ks (val y) nd,by have:=dC ([]:List (List ar×D)) ks (val y);have hs:=aq;simp only[Lx]at this;omega⟩
   exact⟨.ref _,_,lZ I3 (by rw[e];exact True.intro) hs ⟨q,hq⟩ (kM ⟨hd2,q,es,ep,hq,h2,h3,h4⟩),rfl,kk _ _ _ _ q2 (kp.trans (k1.trans (k2.trans kp3))) rg3 (.of d8)⟩
  | _=>exact r.elim
 ·exact q2.elim
end
def Cg(x:D):List D->Nat
 | []=>0
 | d::r=>if dE d x then 0 else Cg x r+1
def Gj(to:aL)(ta:iF):aL:=fun σ G Q=>to σ G fun x G1=>match x with
 | .lst ds=>ta σ G1 fun es G2=>match es with
  | [y]=>(pl 7 y/\(∀ d∈ds,pl 7 d)/\y∈ds)/\Q (.int (Cg y ds)) G2
  | _=>False
 | _=>False
def Gh(sp:de)(to:aL):aL:=fun σ G Q=>to σ G fun x G1=>match sB G1 (val x) with
 | some ds=>∃ ks r,SortBy sp G1 ds ks r/\∀ p:List Nat,p.Perm (List.range ds.length)->(p.map r).Pairwise (·<=·)->Q (.fl (p.map fun i=>ds.getD i .non)) G1
 | none=>False
section
variable{X:Cx}{pins:List (KE×Obj)}{τ:St}{H H0:Hp}{s:KF}{G:Gp}{E:KC->KF->Prop}
 {k:Nat} {f:KE} {fd:Lz} {ps:List Str} {sp:de} {ds ks:List D} {r:Nat->Nat} {vs:List V} {us:List KC}
end
theorem si:∀ {ns:List Int} {us:List KC},Vals (ns.map V.int) us->∃ xs:List (Int×Tok),us=xs.map (fun p=>Value.int p.1 p.2)/\xs.map (·.1)=ns
 | [],us,w=>by cases w;exact⟨[],rfl,rfl⟩
 | n::r,us,w=>by
  rw[K3]at w;cases w with
  | cons h w=>
   obtain⟨t,rfl⟩:=h;obtain⟨xs,e1,e2⟩:=si w;exact⟨(n,t)::xs,by rw[e1];rfl,by rw[K3,e2]⟩
def tm(c:Bool):Nat:=if c then 31 else 7
def Tb(c:Bool)(pl:Array Nat)(led plain:Bool):O1:={ mask:=tm c,place:=pl,dummies:=#[],finger:=0,led:=led,moves:=if c then 1 else 0,plain:=plain }
abbrev Pb:=SetTable.Probe
def look(c:Bool)(pl:Array Nat)(hs:Nat->Int)(same:Nat->Bool)(h:Int):Nat->Pb->Option (Option Nat)
 | 0,_=>none
 | f+1,p=>match (Tb c pl false false).probe hs h p with
  | none=>none
  | some (.empty j _)=>some (some j)
  | some (.candidate _ i next)=>if same i then some none else look c pl hs same h f next
structure OwnOk(owner:Array (Option Nat))(k:Nat):Prop where
 size:owner.size=32
 all:(owner.toList.filterMap id).Perm (List.range k)
def Hd(es:Array (Int×KC))(ep:Nat)(t:O1):Obj:={ cls:=.type "set",dict:=none,data:=.set es ep t }
def qL(h:K1)(b:KE):Prop:=∃ o items n x t r,h.get? b=some o/\o.cls=.type "tuple"/\o.data=.seq items n/\items.toList=.str x t::r
section
variable{prog:KQ}{w:K2}{κ:Type}[DecidableEq κ]{kn:KeyKind prog w κ}{A:KY}{E:KC->KF->Prop}{s:KF}{a b:KE}
abbrev hK(kn:KeyKind prog w κ):List κ->Int:=tupleKeyHash kn
def JM(kn:KeyKind prog w κ)(xs:List (List κ×KE)):Array (Int×KC):=(xs.map fun x=>(hK kn x.1,Value.ref x.2)).toArray
end
section
variable{prog:KQ}{w:K2}{κ:Type}[DecidableEq κ]{kn:KeyKind prog w κ}{A:KY}{E:KC->KF->Prop}{s:KF}{a b:KE}
structure SetIs(kn:KeyKind prog w κ)(h:K1)(a:KE)(xs:List (List κ×KE))(c:Bool)(pl:Array Nat)(l q:Bool):Prop where
 here:∃ ep,h.get? a=some (Hd (JM kn xs) ep (Tb c pl l q))
 len:pl.size=xs.length
 pq:q=true->xs=[]
end
section
variable{prog:KQ}{w:K2}{κ:Type}[DecidableEq κ]{kn:KeyKind prog w κ}{A:KY}{E:KC->KF->Prop}{s:KF}{a b:KE}
theorem qL.stay{h h':K1}(x:qL h a)(e:∀ o,h.get? a=some o->h'.get? a=some o):qL h' a:=by
 obtain⟨o,its,n,y,t,r,ho,z⟩:=x;exact⟨o,its,n,y,t,r,e o ho,z⟩
theorem SetIs.stay{h h':K1}{xs:List (List κ×KE)}{c:Bool}{pl:Array Nat}{l q:Bool}(x:SetIs kn h a xs c pl l q)(e:∀ o,h.get? a=some o->h'.get? a=some o):SetIs kn h' a xs c pl l q:=
 ⟨let ⟨ep,z⟩:=x.here;⟨ep,e _ z⟩,x.len,x.pq⟩
end
set_option maxRecDepth 100000
def Kn(first:KC)(i n ep:Nat)(S:KE):Obj:={ cls:=.type "set_iterator",data:=.fields #[first,.int i 0,.ref S,.int n 0,.int ep 0] }
inductive Mode(w:K2)(h:K1)(S:KE)(es:Array (Int×KC))(ep:Nat)(t:O1)(vs:List KC)(tp:KE)(i:Nat):KC->Prop
 | text (m:Int):w.params.followText "set-order"=true->vs=(pickOrder (w.params.setOrder S ep) es).toList.map (·.2)->Mode w h S es ep t vs tp i (.int m 0)
 | few (m:Nat):w.params.followText "set-order"=false->t.led=true->es.size<=1->vs=es.toList.map (·.2)->(i=0/\m=0\/i=1/\t.place=#[m - 1]/\0 < m)->Mode w h S es ep t vs tp i (.int m 0)
 | drawn (ys:List Nat):w.params.followText "set-order"=false->h.get? tp=some { cls:=.type "tuple",data:=.seq (ys.map fun (y:Nat)=>LP y).toArray }->ys.Perm (List.range es.size)->vs=ys.map (fun y=>(es[y]?.map (·.2)).getD .none)->tp≠S->Mode w h S es ep t vs tp i (.ref tp)
structure SIt(w:K2)(h:K1)(it S:KE)(es:Array (Int×KC))(ep:Nat)(t:O1)(vs:List KC)(tp:KE)(i:Nat):Prop where
 set:h.get? S=some (Hd es ep t)
 fit:t.fits es.size=true
 here:∃ first,h.get? it=some (Kn first i es.size ep S)/\Mode w h S es ep t vs tp i first
set_option maxRecDepth 100000
section
variable{prog:KQ}{w:K2}{A:KY}{E:KC->KF->Prop}{s:KF}{it S tp:KE}{es:Array (Int×KC)}{ep i:Nat}{t:O1}{vs:List KC}
theorem SIt.stay{h h':K1}(x:SIt w h it S es ep t vs tp i)(k:∀ b,b=it\/b=S\/b=tp->∀ o,h.get? b=some o->h'.get? b=some o):SIt w h' it S es ep t vs tp i:=by
 obtain⟨hs,hf,first,e1,md⟩:=x
 refine⟨k S (.inr (.inl rfl)) _ hs,hf,first,k it (.inl rfl) _ e1,?_⟩
 cases md with
 | text m hb ev=>exact .text m hb ev
 | few m hb hl hz ev hm=>exact .few m hb hl hz ev hm
 | drawn ys hb et hp ev hts=>exact .drawn ys hb (k tp (.inr (.inr rfl)) _ et) hp ev hts
end
set_option maxRecDepth 100000
set_option maxRecDepth 100000
def Kj(x:Str×Int):D:=.tup [.str x.1,.int x.2]
structure InsAsk(K:Nq)(C:KE):Prop where
 cl:Cls K C
 ca:Oc K (.ref C) "__class__"=some (some (.builtin "object.__class__"))
 gs:OI K (.builtin "object.__class__") "__get__"=some (some (.builtin "getset_descriptor.__get__"))
 tk:S0 K (.builtin "object.__class__")=some true
 mo:SW K C (.type "object")=some true
def JS(cs:List (KE×Bool))(c:KE):ww:=fun ds G Q=>match ds with
 | [.ref a,.ref c']=>c'=c/\match G a with
  | some (.ins C _ _)=>∃ b,(C,b)∈cs/\Q (.bl b) G
  | _=>False
 | _=>False
end L3
namespace RQ
open PySem PySem.Spec PyProof.Rows L2 L3
structure Rw where
 pen:Str
 num:Int
 time:Int
 act:D
instance:Inhabited Rw:=⟨⟨"",0,0,.non⟩⟩
def Rw.d(r:Rw):D:=.tup [.tup [.str r.pen,.int r.num],.int r.time,r.act]
def Rw.key(r:Rw):D:=.tup [.int r.time,.tup [.str r.pen,.int r.num]]
def Rw.ok(r:Rw):Prop:=pl 4 r.act
def Rw.lt(a b:Rw):Bool:=if a.time=b.time then (if a.pen=b.pen then decide (a.num < b.num)else decide (a.pen.cps.toList < b.pen.cps.toList))else decide (a.time < b.time)
def IN(a b:Rw):Prop:=¬ (a.pen=b.pen/\a.num=b.num)
abbrev HW:=List ar->Int
open PySem.W (SWO STO tW xf D9 Ec vL wO Dz)
def vE(r:Rw):List ar:=[.inr r.pen,.inl r.num]
def HL(r:Rw):List ar×D:=(vE r,r.d)
theorem Ab{a b:Rw}:vE a=vE b↔a.pen=b.pen/\a.num=b.num:=by
 simp[vE]
theorem put_new{vs:List Rw}{r:Rw}(h:∀ a∈vs,IN a r):aS (vs.map HL) (vE r) r.d=(vs ++ [r]).map HL:=by
 unfold aS;rw[if_neg]
 ·rw[LQ];rfl
 ·rw[Bool.not_eq_true,List.any_eq_false];intro kv hkv;obtain⟨a,ha,rfl⟩:=mem_map.mp hkv;simp only[decide_eq_true_eq];intro e;exact h a ha (Ab.mp e)
theorem l7{κ:Type}[DecidableEq κ](k k':κ)(v:D):∀ kvs:List (κ×D),cW (aS kvs k v) k'=if k'=k then some v else cW kvs k':=by
 have go:∀ kvs:List (κ×D),(kvs.any fun kv=>decide (kv.1=k))=true->cW (kvs.map fun kv=>if kv.1=k then (kv.1,v)else kv) k'=if k'=k then some v else cW kvs k':=by
  intro kvs
  induction kvs with
  | nil=>intro h;simp at h
  | cons p r ih=>
   intro h
   by_cases e:p.1=k
   ·by_cases e':k'=k
    ·rw[if_pos e'];simp[cW,Li,e,e']
    ·rw[if_neg e'];have n1:¬ k=k':=fun z=>e' z.symm;have skip:∀ q:List (κ×D),cW (((p.1,v):κ×D)::q) k'=cW q k':=fun q=>by simp[cW,Li,e,n1]
     have Sq:cW (p::r) k'=cW r k':=by simp[cW,Li,e,n1]
     rw[K3,if_pos e,skip,Sq]
     by_cases hr:(r.any fun kv=>decide (kv.1=k))=true
     ·have:=ih hr;rw[if_neg e']at this;exact this
     ·have:r.map (fun kv=>if kv.1=k then (kv.1,v)else kv)=r:=by
       rw[Bool.not_eq_true,List.any_eq_false]at hr
       conv=>rhs;rw[<- List.map_id r]
       refine Mq fun a ha=>?_;have:=hr a ha;simp only[decide_eq_true_eq]at this;rw[if_neg this];rfl
      rw[this]
   ·have hr:(r.any fun kv=>decide (kv.1=k))=true:=by simpa[e]using h
    rw[K3,if_neg e]
    by_cases e2:p.1=k'
    ·have n1:¬ k'=k:=fun z=>e (e2.trans z);rw[if_neg n1];simp[cW,Li,e2]
    ·have s1:∀ q:List (κ×D),cW (p::q) k'=cW q k':=fun q=>by simp[cW,Li,e2]
     rw[s1,s1];exact ih hr
 intro kvs;unfold aS
 by_cases h:(kvs.any fun kv=>decide (kv.1=k))=true
 ·rw[if_pos h];exact go kvs h
 ·rw[if_neg h]
  by_cases e':k'=k
  ·rw[if_pos e'];subst e';have hn:cW kvs k'=none:=by
    have:=jB k' kvs;rw[Bool.not_eq_true]at h;rw[h]at this;cases q:cW kvs k' with
    | none=>rfl
    | some _=>rw[q]at this;cases this
   unfold cW at hn ⊢;rw[List.find?_append];cases q:kvs.find? fun kv=>decide (kv.1=k') with
   | none=>simp
   | some z=>rw[q]at hn;cases hn
  ·rw[if_neg e'];unfold cW;rw[List.find?_append];cases q:kvs.find? fun kv=>decide (kv.1=k') with
   | none=>simp;exact fun z=>e' z.symm
   | some z=>rfl
structure Sl where
 pen:Str
 n:Int
 k:Int
deriving DecidableEq
instance:Inhabited Sl:=⟨⟨"",0,0⟩⟩
def Sl.d(s:Sl):D:=.tup [.str s.pen,.int s.n,.int s.k]
def Sl.key(s:Sl):List ar:=[.inr s.pen,.inl s.n,.inl s.k]
theorem Sl.key_inj{a b:Sl}(h:a.key=b.key):a=b:=by
 obtain⟨a1,a2,a3⟩:=a;obtain⟨b1,b2,b3⟩:=b;simp only[Sl.key,List.cons.injEq,Sum.inr.injEq,Sum.inl.injEq,and_true]at h;obtain⟨rfl,rfl,rfl⟩:=h;rfl
theorem t7(s:Sl):lR s.d=some s.key:=rfl
def aO:Sl:=⟨KH "",0,0⟩
inductive Act where
 | put (a:Sl) (x:Str)
 | strike (ns:List Sl)
 | dress (ns:List Sl) (w:Str)
 | move (ns:List Sl) (a:Sl)
def Act.d:Act->D
 | .put a x=>.tup [.str "put",a.d,.str x]
 | .strike ns=>.tup [.str "strike",.tup (ns.map Sl.d)]
 | .dress ns w=>.tup [.str "dress",.tup (ns.map Sl.d),.str w]
 | .move ns a=>.tup [.str "move",.tup (ns.map Sl.d),a.d]
def Act.many:Act->Nat
 | .put _ x=>x.length
 | .move ns _=>ns.length
 | _=>0
def Act.anch:Act->Sl
 | .put a _=>a
 | .move _ a=>a
 | _=>aO
structure Sk where
 pen:Str
 num:Int
 time:Int
 act:Act
instance:Inhabited Sk:=⟨⟨"",0,0,.strike []⟩⟩
def Sk.d(s:Sk):D:=.tup [.tup [.str s.pen,.int s.num],.int s.time,s.act.d]
def Sk.ok(s:Sk):Prop:=1<=s.num/\s.act.many<=1000
def cS(pen:Str)(n:Int)(m:Nat):List Sl:=(List.range m).map fun (k:Nat)=>⟨pen,n,(k:Int)+1⟩
def made(s:Sk):List Sl:=cS s.pen s.num s.act.many
def gO(m:Nat):List Sl:=cS (KH "") 0 m
theorem dk(p:Str)(n:Int)(m:Nat):(cS p n m).length=m:=by simp[cS]
theorem i6(p:Str)(n:Int)(m:Nat):(cS p n m).Nodup:=by
 unfold cS List.Nodup;rw[List.pairwise_map];refine List.Pairwise.imp ?_ (List.nodup_range (n:=m));intro a b h e;injection e with e1 e2 e3
 exact h (by walk_at "o")
theorem lK{p:Str}{n:Int}{m:Nat}{x:Sl}(h:x∈cS p n m):x.pen=p/\x.n=n/\1<=x.k:=by
 unfold cS at h;obtain⟨k,_,rfl⟩:=mem_map.mp h;exact⟨rfl,rfl,by show 1<=(k:Int)+1;omega⟩
def AO:List Sl->D
 | []=>.non
 | s::_=>s.d
def nx:List Sl->Sl->D
 | [],_=>.non
 | a::t,c=>if a=c then AO t else nx t c
def iD:List Sl->Sl->Sl->List Sl
 | [],_,_=>[]
 | a::t,b,x=>if a=b then a::x::t else a::iD t b x
def dR:List Sl->Sl->List Sl->List Sl
 | W,_,[]=>W
 | W,b,x::t=>dR (iD W b x) x t
theorem gR{W:List Sl}{b x:Sl}(hb:b∈W):∀ c,c∈iD W b x↔c∈W\/c=x:=by
 induction W with
 | nil=>simp at hb
 | cons a t ih=>
  intro c;unfold iD
  by_cases e:a=b
  ·rw[if_pos e];simp only[Le];constructor
   ·rintro (h|h|h)
    ·exact .inl (.inl h)
    ·exact .inr h
    ·exact .inl (.inr h)
   ·rintro ((h|h)|h)
    ·exact .inl h
    ·exact .inr (.inr h)
    ·exact .inr (.inl h)
  ·rw[if_neg e];have hb':b∈t:=by
    rcases Le.mp hb with z|z
    ·exact absurd z.symm e
    ·exact z
   simp only[Le,ih hb' c];constructor
   ·rintro (h|h|h)
    ·exact .inl (.inl h)
    ·exact .inl (.inr h)
    ·exact .inr h
   ·rintro ((h|h)|h)
    ·exact .inl h
    ·exact .inr (.inl h)
    ·exact .inr (.inr h)
theorem nE{W:List Sl}{b x:Sl}(hb:b∈W):(iD W b x).length=W.length+1:=by
 induction W with
 | nil=>simp at hb
 | cons a t ih=>
  unfold iD
  by_cases e:a=b
  ·rw[if_pos e];simp
  ·rw[if_neg e];have hb':b∈t:=by
    rcases Le.mp hb with z|z
    ·exact absurd z.symm e
    ·exact z
   simp[ih hb']
theorem xt{W:List Sl}{b x:Sl}(hW:W.Nodup)(hx:x∉W)(hb:b∈W):(iD W b x).Nodup:=by
 induction W with
 | nil=>simp at hb
 | cons a t ih=>
  unfold iD;rw[L7]at hW
  by_cases e:a=b
  ·rw[if_pos e,L7,L7];simp only[Le,not_or]at hx;refine⟨?_,hx.2,hW.2⟩;rw[Le,not_or];exact⟨Ne.symm hx.1,hW.1⟩
  ·rw[if_neg e];have hb':b∈t:=by
    rcases Le.mp hb with z|z
    ·exact absurd z.symm e
    ·exact z
   simp only[Le,not_or]at hx;rw[L7];refine⟨fun z=>?_,ih hW.2 hx.2 hb'⟩;rcases (gR hb' a).mp z with z|z
   ·exact hW.1 z
   ·exact hx.1 z.symm
theorem Cf{W:List Sl}{b x:Sl}:AO (iD W b x)=AO W:=by
 cases W with
 | nil=>rfl
 | cons a t=>
  unfold iD;split<;>rfl
theorem Ek{W:List Sl}{b x:Sl}(hW:W.Nodup)(hx:x∉W)(hb:b∈W):∀ c,nx (iD W b x) c=if c=x then nx W b else if c=b then x.d else nx W c:=by
 induction W with
 | nil=>simp at hb
 | cons a t ih=>
  intro c;rw[L7]at hW;simp only[Le,not_or]at hx;unfold iD
  by_cases e:a=b
  ·subst e;rw[if_pos rfl];simp only[nx]
   by_cases c1:c=x
   ·subst c1;rw[if_neg (Ne.symm hx.1),if_pos rfl,if_pos rfl];simp
   ·rw[if_neg c1]
    by_cases c2:c=a
    ·subst c2;simp[AO]
    ·rw[if_neg (Ne.symm c2),if_neg (fun z=>c1 z.symm),if_neg c2,if_neg (Ne.symm c2)]
  ·rw[if_neg e];have hb':b∈t:=by
    rcases Le.mp hb with z|z
    ·exact absurd z.symm e
    ·exact z
   simp only[nx];rw[Cf,ih hW.2 hx.2 hb' c]
   by_cases c0:a=c
   ·subst c0;rw[if_pos rfl,if_neg (fun z=>hx.1 z.symm),if_neg e,if_pos rfl]
   ·rw[if_neg c0,if_neg c0,if_neg e]
def EM(kvs:List (List ar×D))(W:List Sl):Prop:=W.Nodup/\kvs.length=W.length/\(∀ s,s∉W->cW kvs s.key=none)/\∀ s∈W,cW kvs s.key=some (nx W s)
theorem vf{κ:Type}[DecidableEq κ]{kvs:List (κ×D)}{k:κ}{v:D}:(aS kvs k v).length=if (cW kvs k).isSome=true then kvs.length else kvs.length+1:=by
 unfold aS;rw[jB];split<;>simp
theorem Cp{kvs:List (List ar×D)}{W:List Sl}{b x:Sl}(h:EM kvs W)(hb:b∈W)(hx:x∉W):EM (aS (aS kvs x.key (nx W b)) b.key x.d) (iD W b x):=by
 obtain⟨h1,h2,h3,h4⟩:=h;have hne:b≠x:=fun z=>hx (z ▸ hb);have at2:∀ c:Sl,cW (aS (aS kvs x.key (nx W b)) b.key x.d) c.key=if c=b then some x.d else if c=x then some (nx W b)else cW kvs c.key:=fun c=>by
  rw[l7,l7]
  by_cases e1:c=b
  ·subst e1;rw[if_pos rfl,if_pos rfl]
  ·rw[if_neg (fun z=>e1 (Sl.key_inj z)),if_neg e1]
   by_cases e2:c=x
   ·subst e2;rw[if_pos rfl,if_pos rfl]
   ·rw[if_neg (fun z=>e2 (Sl.key_inj z)),if_neg e2]
 refine⟨xt h1 hx hb,?_,fun c hc=>?_,fun c hc=>?_⟩
 ·rw[vf,vf,h3 x hx,l7,if_neg (fun z=>hne (Sl.key_inj z)),h4 b hb,nE hb,h2];simp
 ·have hc':c∉W/\c≠x:=⟨fun z=>hc ((gR hb c).mpr (.inl z)),fun z=>hc ((gR hb c).mpr (.inr z))⟩;rw[at2,if_neg (fun (z:c=b)=>hc'.1 (by rw[z];exact hb)),if_neg hc'.2]
  exact h3 c hc'.1
 ·rw[at2,Ek h1 hx hb]
  by_cases e1:c=b
  ·subst e1;rw[if_pos rfl,if_neg hne,if_pos rfl]
  ·rw[if_neg e1]
   by_cases e2:c=x
   ·rw[if_pos e2,if_pos e2]
   ·rw[if_neg e2,if_neg e2,if_neg e1];rcases (gR hb c).mp hc with z|z
    ·exact h4 c z
    ·exact absurd z e2
theorem At(v:List Sl->Prop):EM [(aO.key,.non)] [aO]:=by
 refine⟨by simp,rfl,fun s hs=>?_,fun s hs=>?_⟩
 ·have:s≠aO:=by simpa using hs
  simp only[cW,Li,List.find?_nil];rw[decide_eq_false (fun z=>this (Sl.key_inj z).symm)];rfl
 ·have:s=aO:=by simpa using hs
  subst this;simp[cW,nx,AO]
def xS(W:List Sl)(s:Sk):List Sl:=if s.act.anch∈W then dR W s.act.anch (made s)else W
def Fz(n:Nat)(out:List Sk):List Sl:=out.foldl xS (dR [aO] aO (gO n))
theorem xr{pre post:List Sl}{b x:Sl}(h:b∉pre):iD (pre ++ b::post) b x=pre ++ b::x::post:=by
 induction pre with
 | nil=>simp[iD]
 | cons a t ih=>
  simp only[Le,not_or]at h;simp only[ML,iD];rw[if_neg (Ne.symm h.1),ih h.2]
theorem lS:∀ {ss pre post:List Sl} {b:Sl},b∉pre->ss.Nodup->(∀ x∈ss,x∉pre/\x≠b)->dR (pre ++ b::post) b ss=pre ++ b::(ss ++ post)
 | [],pre,post,b,_,_,_=>by simp[dR]
 | x::t,pre,post,b,h,nd,hs=>by
  unfold dR;rw[xr h];rw[L7]at nd;have hx:=hs x KU;have e:pre ++ b::x::post=(pre ++ [b]) ++ x::post:=by simp
  rw[e,lS (ss:=t) (pre:=pre ++ [b]) (post:=post) (b:=x) (by simp[hx.1,hx.2]) nd.2 (fun y hy=>?_)]
  ·simp
  ·have hy':=hs y (KZ _ hy);refine⟨by simp[hy'.1,hy'.2],fun z=>nd.1 (z ▸ hy)⟩
theorem gY(n:Nat):dR [aO] aO (gO n)=aO::gO n:=by
 have:=lS (ss:=gO n) (pre:=[]) (post:=[]) (b:=aO) (by simp) (i6 _ _ _) (fun x hx=>⟨by simp,fun z=>by
  obtain⟨_,_,h⟩:=lK hx;rw[z]at h;exact absurd h (by decide)⟩)
 simpa using this
theorem zC{W:List Sl}{s:Sk}{R:List Sl}(h:W=aO::R):∃ R',xS W s=aO::R':=by
 unfold xS;split
 ·rename_i ha;clear ha;generalize made s=ss;generalize s.act.anch=b
  induction ss generalizing W b R with
  | nil=>exact⟨R,h⟩
  | cons x t ih=>
   unfold dR;subst h;unfold iD;split
   ·exact ih rfl _
   ·exact ih rfl _
 ·exact⟨R,h⟩
theorem u6(n:Nat):∀ (out:List Sk) (W R:List Sl),W=aO::R->∃ R',out.foldl xS W=aO::R'
 | [],W,R,h=>⟨R,h⟩
 | s::t,W,R,h=>by
  obtain⟨R',h'⟩:=zC (s:=s) h;exact u6 n t _ R' h'
def iV(n:Nat)(out:List Sk):List Sl:=(Fz n out).tail
theorem Dv(n:Nat)(out:List Sk):Fz n out=aO::iV n out:=by
 obtain⟨R,h⟩:=u6 n out _ (gO n) (gY n);unfold iV;have:Fz n out=aO::R:=h;rw[this];rfl
theorem tP(W:List Sl):val (AO W)=AO W:=by cases W<;>rfl
theorem F1(W:List Sl)(c:Sl):val (nx W c)=nx W c:=by
 induction W with
 | nil=>rfl
 | cons a t ih=>
  unfold nx;split
  ·exact tP t
  ·exact ih
end RQ
open RQ
namespace L3
open PySem PySem.Spec PyProof.Rows L2 PySem.SeqAt PySem.W
end L3
namespace L3
open PySem PySem.Spec PyProof.Rows L2 PySem.SeqAt PySem.W
def jN(h:K1)(d:KE)(vs:List KC)(ep:Nat):Prop:=∃ o es,h.get? d=some o/\o.ExactDict/\o.data=.dict es ep/\es.toList.map (·.key)=vs
section
variable{prog:KQ}{w:K2}{A:KY}{E:KC->KF->Prop}{s:KF}{d r it:KE}{vs:List KC}{ep i:Nat}
theorem jN.ty(x:jN s.heap d vs ep):s.TypeIs (.ref d) "dict":=let ⟨o,_,e,z,_⟩:=x;⟨o,e,z.1⟩
theorem jN.there{h:K1}(x:jN h d vs ep):d < h.objs.size:=let ⟨_,_,e,_⟩:=x;KN e
theorem jN.stay{h h':K1}(x:jN h d vs ep)(k:∀ o,h.get? d=some o->h'.get? d=some o):jN h' d vs ep:=let ⟨o,es,e,z⟩:=x;⟨o,es,k o e,z⟩
theorem wQ(hs:(d == Lw)=false):MeetsIn prog w (Builtin.«dict.keys» ⟨[.ref d],[]⟩) (fun _ R s=>(∃ vs ep,jN s.heap d vs ep)/\
   R (.ok (.ret (.ref s.heap.objs.size))) { s with heap:=s.heap.push (⟨.type "dict_keys",none,.fields #[.ref d],#[]⟩:Obj) }):=
 .of_wp fun A R s ⟨⟨vs,ep,x⟩,q⟩=>by
  refine KB ?_;unfold On;refine KB (ME x.ty ?_);show KI _ _ (pure d) _ _ s;refine KD ?_
  show KI _ _ (LK d >>= _) _ _ s;unfold LK
  rw[if_neg (fun z=>by rw[hs]at z;cases z)];refine KB (KD ?_)
  exact KB (K6 (KD ⟨_,rfl,q⟩))
theorem Bo{Q:KC->KF->Prop}(hr:KdlKeysView s.heap r d)(x:jN s.heap d vs ep)
  (q:Q (.ref s.heap.objs.size) { s with heap:=s.heap.push { cls:=.type "dict_keyiterator",data:=.fields #[.ref d,.int 0 0,.int vs.length 0,.int ep 0] } }):KI (KL prog w) A (Ni (.ref r)) Q E s:=by
 obtain⟨ov,e1,c1,d1⟩:=id hr;obtain⟨o,es,e2,c2,d2,rfl⟩:=x;refine MG hr.typeIs Qa (Lh Qa hr.typeIs kdl_entry_keys_iter ?_ (kdl_args_keys_iter _));unfold Builtin.«dict_keys.__iter__»;refine KB (KD ?_);refine KB ?_;unfold NA;refine KB (Lk e1 d1 (x:=.ref d) rfl (KD ?_));refine KB ?_;unfold Nj;refine KB (LH e2 d2 ?_);refine KB (LU e2 d2 ?_);have own:Ld "dict_keyiterator"=false:=by decide
 simp only[own,Bool.false_eq_true,if_false];refine K6 (KD ⟨_,rfl,"dict_keyiterator",_,⟨_,KJ _ rfl,rfl⟩,MD.lookup,?_⟩)
 simpa[LP]using q
theorem vc{v:KC}{Q:Option KC->KF->Prop}(hi:s.heap.IsKeyIter it d i vs.length ep)(x:jN s.heap d vs ep)(hv:vs[i]?=some v)
  (q:∀ h',h'.IsKeyIter it d (i+1) vs.length ep->LS it s.heap h'->Q (some v) { s with heap:=h' }):KI (KL prog w) A (Me (.ref it)) Q E s:=by
 obtain⟨o,e1,c1,d1⟩:=id hi;obtain⟨od,es,e2,c2,d2,rfl⟩:=x;unfold Me;refine KB (L4 (Lq (name:=KH "__next__") hi.typeIs MD (Lh MD hi.typeIs OV ?_ (OM _))));refine KB (KD ?_);refine KB ?_;refine KB ?_
 first|refine KB (Mt hi.typeIs (KD ?_))|refine KB (MU hi.typeIs (KD ?_))
 refine KB (Na e1 d1 ?_);have own:Ld "dict_keyiterator"=false:=by decide
 simp only[own,Bool.false_eq_true,if_false];show KI _ _ (if (Value.ref d == Value.none)=true then _ else _) _ _ s;rw[if_neg (show ¬ ((Value.ref d == Value.none)=true)from Bool.false_ne_true)]
 refine KB (KD ?_);refine KB (LH e2 d2 ?_);have z:es.size=(es.toList.map (·.key)).length:=by simp
 rw[if_neg (by rw[z];simp)];refine KB (KD ?_);refine KB (LU e2 d2 ?_)
 rw[if_neg (by simp)];refine KD ?_
 have lt:i < es.size:=by
  rw[z];rcases MC i (es.toList.map (·.key)).length with h|h
  ·exact h
  ·rw[Mc h]at hv;cases hv
 have val:es[i].key=v:=by
  rw[K8]at hv
  simpa[lt]using hv
 simp only[show ¬ ((i:Int) < 0)from by walk_at "o",if_false,Int.toNat_natCast,Array.getElem?_eq_getElem lt];refine KB ?_
 first|refine KB (Mt hi.typeIs (KD ?_))|refine KB (MU hi.typeIs (KD ?_))
 refine KB (Pw hi.typeIs ?_);show KI _ _ (N_ (.ref it) 1 (LP ((i:Int)+1)) >>= _) _ _ s;refine KB (Mp e1 d1 (by simp) ?_)
 have hi':(s.heap.update it (Lu (·.setIfInBounds 1 (LP ((i:Int)+1))))).IsKeyIter it d (i+1) (es.toList.map (·.key)).length ep:=
  ⟨_,LV _ e1 (Mi (LC d1 _)),(NF ..).trans c1,by rw[LC d1];simp[LP]⟩
 refine KB (Lm ?_);refine KB (Pw (s:={ s with heap:=s.heap.update it (Lu (·.setIfInBounds 1 (LP ((i:Int)+1)))) }) hi'.typeIs ?_)
 show KI _ _ (pure es[i].key) _ _ _
 exact KD (KD ⟨_,rfl,KD (val ▸ q _ hi' (MS ..))⟩)
theorem xY{Q:Option KC->KF->Prop}(hh:A.handled=none)(hi:s.heap.IsKeyIter it d i vs.length ep)(x:jN s.heap d vs ep)(hv:vs[i]?=none)
  (q:∀ h',PL it s.heap h'->Q none { s with heap:=h' }):KI (KL prog w) A (Me (.ref it)) Q E s:=by
 obtain⟨o,e1,c1,d1⟩:=id hi;obtain⟨od,es,e2,c2,d2,rfl⟩:=x;unfold Me;refine KB (L4 (Lq (name:=KH "__next__") hi.typeIs MD (Lh MD hi.typeIs OV ?_ (OM _))));refine KB (KD ?_);refine KB ?_;refine KB ?_
 first|refine KB (Mt hi.typeIs (KD ?_))|refine KB (MU hi.typeIs (KD ?_))
 refine KB (Na e1 d1 ?_);have own:Ld "dict_keyiterator"=false:=by decide
 simp only[own,Bool.false_eq_true,if_false];show KI _ _ (if (Value.ref d == Value.none)=true then _ else _) _ _ s;rw[if_neg (show ¬ ((Value.ref d == Value.none)=true)from Bool.false_ne_true)]
 refine KB (KD ?_);refine KB (LH e2 d2 ?_);have z:es.size=(es.toList.map (·.key)).length:=by simp
 rw[if_neg (by rw[z];simp)];refine KB (KD ?_);refine KB (LU e2 d2 ?_)
 rw[if_neg (by simp)];refine KD ?_
 have ge:es.size<=i:=by rw[z];simpa using hv
 simp only[show ¬ ((i:Int) < 0)from by walk_at "o",if_false,Int.toNat_natCast,Array.getElem?_eq_none ge];refine KB ?_
 first|refine KB (Mt hi.typeIs (KD ?_))|refine KB (MU hi.typeIs (KD ?_))
 show KI _ _ (N_ (.ref it) 0 .none >>= _) _ _ s;refine KB (Mp e1 d1 (by simp) ?_)
 show KI _ _ (Pi (.type "StopIteration") [] >>= _) _ _ _;refine KB ?_
 simp only[Pi,newTuple];refine KB (K6 ?_ (by size_fits))
 refine KB (m:=Nf _ _) (Py (a:=Value.none) (by first|rfl|(simp only[Nf];rfl)) ?_);refine K6 ?_ (by size_fits)
 simp only[raiseNew];refine KB (O4 ?_);rw[show A.in1.handled=none from hh]
 refine KB (KD (Px ?_));refine KB (NL (T:="StopIteration") (b:=true) ⟨_,KJ _ rfl,rfl⟩ Ob ?_);exact KD (q _ (((MS ..).extBut.push _).push _))
theorem Bn(hh:A.handled=none)(hne:d≠it):Walks prog w A it [it,d] [it] vs.length (fun i v=>vs[i]?=some v) (fun i h=>h.IsKeyIter it d i vs.length ep/\jN h d vs ep) where
 sub:=fun b hb=>by rw[mem_singleton.mp hb];exact KU
 frame:=fun _ _ _ t k=>⟨t.1.at fun o e=>k it KU o e,t.2.stay fun o e=>k d (KZ _ KU) o e⟩
 item:=fun i s Q E hi t q=>by
  obtain⟨v,hv⟩:∃ v,vs[i]?=some v:=⟨vs[i],by simp[hi]⟩
  refine vc t.1 t.2 hv fun h' a b=>?_;exact q v h' s.toks hv ⟨a,t.2.stay fun o e=>b.extBut d o hne e⟩ fun c o hc e=>b.extBut c o (fun z=>hc (by rw[z];exact KU)) e
 done:=fun s Q E t q=>xY hh t.1 t.2 (by simp) fun h' b=>q h' s.toks fun c o hc e=>b c o (fun z=>hc (by rw[z];exact KU)) e
 self:=fun _ _ _ _ t q=>wpAny_pyIter_keyiter t.1 q
theorem DA:KdlSrc prog w "dict_keys" r d vs.length (fun i v=>vs[i]?=some v) (fun h=>KdlKeysView h r d/\jN h d vs ep) where
 type:=fun _ x=>x.1.typeIs
 there:=fun _ x=>⟨let ⟨_,e,_⟩:=x.1;KN e,x.2.there⟩
 keep:=fun _ _ x k=>⟨let ⟨o,e,z⟩:=x.1;⟨o,k r (.inl rfl) o e,z⟩,x.2.stay fun o e=>k d (.inr rfl) o e⟩
 notList:=by decide
 notTuple:=by decide
 hint:=fun _ _ _ _ x q=>kdl_hint_keys x.1.typeIs q
 iter:=fun _ _ hh x=>⟨_,_,(fun _ _ q=>Bo x.1 x.2 q),Bn hh (K_ x.2.there),⟨⟨_,KJ _ rfl,rfl,rfl⟩,x.2.stay fun o e=>KG _ e⟩⟩
end
open HT
section
variable{X:Cx}{prog:KQ}{w:K2}{A:KY}{E:KC->KF->Prop}{s:KF}
def Kg:ID:=fun x lo hi G Q=>match x with
 | .tup ds=>Q (.tup (cutD ds lo hi)) G
 | _=>False
end
end L3
namespace L2
open PySem PySem.Spec PyProof.Rows
end L2
namespace L3
open PySem PySem.Spec PyProof.Rows L2
def Ii:ww:=fun ds G Q=>match ds with
 | [d]=>∃ bs:List Bool,sB G d=some (bs.map D.bl)/\Q (.bl (bs.all id)) G
 | _=>False
end L3
namespace L2
open PySem PySem.Spec PyProof.Rows
abbrev eN(h:K1)(z TI TO:KE)(f0 f1:KC):Prop:=
 h.get? z=some { cls:=.type "zip",dict:=none,data:=.fields #[f0,f1,.bool false,.ref TI,.ref TO],slots:=#[] }
def l8(f0:KC):Prop:=f0=.none\/∃ T:KE,f0=LP T
structure ZApart(z TI TO i1 i2:KE)(fp1 fp2:List KE):Prop where
 a1:TI≠z
 a2:TO≠z
 a3:i1≠z
 a4:i2≠z
 a5:TI≠TO
 a6:TI≠i1
 a7:TI≠i2
 a8:TO≠i1
 a9:TO≠i2
 a10:i1≠i2
 f1:∀ b∈fp1,b≠z/\b≠TO/\b≠i2
 f2:∀ b∈fp2,b≠z/\b≠TO/\b≠i1
section
variable{prog:KQ}{w:K2}{A:KY}{E:KC->KF->Prop}{s:KF}
theorem uT{α:Type}{M:PK}{a:KE}{k:Option Obj->Sem α}{Q:α->KF->Prop}(h:KI M A (k (s.heap.get? a)) Q E s):KI M A (OR a >>= k) Q E s:=fun Γ p hΓ=>by
 have e:(OR a >>= k)=Sem.loadIfAlive a k:=rfl;rw[e,Sem.wp_loadIfAlive];exact h Γ p hΓ
theorem uO{z TI TO:KE}{f0 f1:KC}{Q:Bool->KF->Prop}(hz:eN s.heap z TI TO f0 f1)(hf:l8 f0)(q1:Q true s)
  (q2:∀ h' f1',eN h' z TI TO f0 f1'->LS z s.heap h'->Q false { s with heap:=h' }):KI (KL prog w) A (Ma (.ref z)) Q E s:=by
 unfold Ma;refine KB (Lk hz rfl (x:=f0) rfl ?_);rcases hf with rfl|⟨T,rfl⟩
 ·exact KD q1
 ·show KI _ _ (OR _ >>= _) _ _ _;refine uT ?_;cases hT:s.heap.get? (Int.toNat (T:Int)) with
  | none=>exact KD q1
  | some o=>
   show KI _ _ (Qo (.ref z) 1 >>= _) _ _ _
   refine KB (Lk hz rfl (x:=f1) rfl ?_)
   by_cases e:(f1 != Value.bool true)=true
   ·rw[if_pos e];exact KB (La hz (by simp) fun h1 hz1 hs1=>KD (q2 h1 _ hz1 hs1))
   ·rw[if_neg e];exact KB (KD (KD (q2 s.heap f1 hz (NH ..))))
theorem uP{z TI TO i1 i2:KE}{f0 f1 a b:KC}{i:Nat}{fp1 fp2:List KE}{n1 n2:Nat}{P1 P2:Nat->KC->Prop}{St1 St2:Nat->K1->Prop}{Q:Option KC->KF->Prop}
  (D1:Qr prog w A.in1 i1 fp1 n1 P1 St1) (D2:Qr prog w A.in1 i2 fp2 n2 P2 St2) (D:ZApart z TI TO i1 i2 fp1 fp2) (hz:eN s.heap z TI TO f0 f1) (hf:l8 f0) (hTI:MM s.heap TI (.ref i1) (.ref i2)) (hTO:MM s.heap TO a b)
  (h1:St1 i s.heap) (h2:St2 i s.heap) (l1:i < n1) (l2:i < n2)
  (hQ:∀ h' tk x y f0' f1' a' b',P1 i x->P2 i y->l8 f0'->eN h' z TI TO f0' f1'->MM h' TO a' b'->St1 (i+1) h'->St2 (i+1) h'->MM h' s.heap.objs.size x y->h'.objs.size=s.heap.objs.size+1->
   (∀ c o,c≠z->c≠TO->c≠i1->c≠i2->s.heap.get? c=some o->h'.get? c=some o)->Q (some (.ref s.heap.objs.size)) { s with heap:=h',toks:=tk }):
  KI (KL prog w) A (Me (.ref z)) Q E s:=by
 have hT:s.TypeIs (.ref z) "zip":=⟨_,hz,rfl⟩;unfold Me;refine KB (L4 (Lq (name:=KH "__next__") hT N0 (Lh N0 hT F.entry_zip_next ?_ (Qq _))));show KI _ _ (Qo (.ref z) 2 >>= _) _ _ _;refine KB (Lk hz rfl (x:=.bool false) rfl ?_)
 show KI _ _ (Qo (.ref z) 3 >>= _) _ _ _;refine KB (Lk hz rfl (x:=.ref TI) rfl ?_)
 refine KB (MI hTI rfl ?_);show KI _ _ (Ma (.ref z) >>= _) _ _ _;refine KB (uO hz hf ?_ fun h0 f1' hz0 hs0=>?_)
 ·simp only[if_true];refine KB (NP ?_);refine KB (Lk hz rfl (x:=.ref TO) rfl ?_);refine KB (La hz (by simp) fun g1 z1 s1=>?_)
  replace z1:eN g1 z TI TO .ellipsis f1:=z1
  refine KB ?_;simp only[List.zipIdx_cons,List.zipIdx_nil,M4,NN];refine KB (KB (NJ ?_));show KI _ _ (Lv (.ref i1) >>= _) _ _ _;refine KB (D1.item i { s with heap:=g1 } _ _ l1 (D1.frame i _ _ h1 fun b hb o e=>s1.extBut _ _ (D.f1 b hb).1 e) fun x g2 t2 p1 st1 s2=>KD ?_)
  have o2:MM g2 TO a b:=s2.extBut _ _ D.a8 (s1.extBut _ _ D.a2 hTO);refine KB (MI o2 rfl ?_);refine KB (N6 o2 fun g3 o3 s3=>?_)
  replace o3:MM g3 TO x b:=o3
  refine KB (N8 (KD ?_));refine KB (KB (NJ ?_));show KI _ _ (Lv (.ref i2) >>= _) _ _ _;refine KB (D2.item i { s with heap:=g3,toks:=t2 } _ _ l2 (D2.frame i _ _ h2 fun b hb o e=>s3.extBut _ _ (D.f2 b hb).2.1 (s2.extBut _ _ (D.f2 b hb).2.2 (s1.extBut _ _ (D.f2 b hb).1 e))) fun y g4 t4 p2 st2 s4=>KD ?_)
  have o4:MM g4 TO x b:=s4.extBut _ _ D.a9 o3;refine KB (MI o4 rfl ?_);refine KB (N6 o4 fun g5 o5 s5=>?_)
  replace o5:MM g5 TO x y:=o5
  refine KB (N8 (KD (KD ?_)));refine KB (MI o5 rfl ?_);refine KB (N7 ?_);have sz:g5.objs.size=s.heap.objs.size:=by rw[s5.1,s4.1,s3.1,s2.1,s1.1]
  have z5:eN g5 z TI TO .ellipsis f1:=s5.extBut _ _ D.a2.symm (s4.extBut _ _ D.a4.symm (s3.extBut _ _ D.a2.symm (s2.extBut _ _ D.a3.symm z1)));have k5:∀ c o,c≠z->c≠TO->c≠i1->c≠i2->s.heap.get? c=some o->g5.get? c=some o:=fun c o c1 c2 c3 c4 e=>s5.extBut _ _ c2 (s4.extBut _ _ c4 (s3.extBut _ _ c2 (s2.extBut _ _ c3 (s1.extBut _ _ c1 e))));have lz:z < g5.objs.size:=KN z5;show KI _ _ (Om (.ref z) (.ref g5.objs.size) >>= _) _ _ _;refine KB ?_;unfold Om
  have z6:eN (g5.push { cls:=.type "tuple",data:=.seq #[x,y] }) z TI TO .ellipsis f1:=KG _ z5;refine KB (La z6 (by simp) fun g7 z7 s7=>?_)
  replace z7:eN g7 z TI TO (LP g5.objs.size) f1:=z7
  refine La z7 (by simp) fun g8 z8 s8=>?_
  replace z8:eN g8 z TI TO (LP g5.objs.size) (.bool false):=z8
  have up:∀ c o,c≠z->g5.get? c=some o->g8.get? c=some o:=fun c o c1 e=>s8.extBut _ _ c1 (s7.extBut _ _ c1 (KG _ e));have t8:MM g8 g5.objs.size x y:=s8.extBut _ _ (Nb lz) (s7.extBut _ _ (Nb lz) (KJ _ rfl));have sz8:g8.objs.size=g5.objs.size+1:=by rw[s8.1,s7.1,Lj]
  have r1:St1 (i+1) g8:=D1.frame _ _ _ st1 fun b hb o e=>up b o (D.f1 b hb).1 (s5.extBut _ _ (D.f1 b hb).2.1 (s4.extBut _ _ (D.f1 b hb).2.2 (s3.extBut _ _ (D.f1 b hb).2.1 e)));have r2:St2 (i+1) g8:=D2.frame _ _ _ st2 fun b hb o e=>up b o (D.f2 b hb).1 (s5.extBut _ _ (D.f2 b hb).2.1 e);rw[sz]at z8 t8 sz8;refine KD ⟨.ref g5.objs.size,rfl,KD ?_⟩;rw[sz];exact hQ g8 t4 x y _ _ x y p1 p2 (.inr ⟨_,rfl⟩) z8 (up _ _ D.a2 o5) r1 r2 t8 sz8 fun c o c1 c2 c3 c4 e=>up c o c1 (k5 c o c1 c2 c3 c4 e)
 ·simp only[Bool.false_eq_true,if_false];rw[<- Array.forIn_toList];simp only[M4,NN];refine KB (KB (KB (Lm ?_)));show KI _ _ (Lv (.ref i1) >>= _) _ _ _
  refine KB (D1.item i { s with heap:=h0 } _ _ l1 (D1.frame i _ _ h1 fun b hb o e=>hs0.extBut _ _ (D.f1 b hb).1 e) fun x g2 t2 p1 st1 s2=>KD (KD ?_))
  refine KB (KB (Lm ?_));show KI _ _ (Lv (.ref i2) >>= _) _ _ _
  refine KB (D2.item i { s with heap:=g2,toks:=t2 } _ _ l2 (D2.frame i _ _ h2 fun b hb o e=>s2.extBut _ _ (D.f2 b hb).2.2 (hs0.extBut _ _ (D.f2 b hb).1 e)) fun y g4 t4 p2 st2 s4=>KD (KD (KD ?_)))
  refine KB (N7 ?_ (by show 2<=KM;decide))
  have sz:g4.objs.size=s.heap.objs.size:=by rw[s4.1,s2.1,hs0.1]
  have k4:∀ c o,c≠z->c≠TO->c≠i1->c≠i2->s.heap.get? c=some o->g4.get? c=some o:=fun c o c1 _ c3 c4 e=>s4.extBut _ _ c4 (s2.extBut _ _ c3 (hs0.extBut _ _ c1 e));have z4:eN g4 z TI TO f0 f1':=s4.extBut _ _ D.a4.symm (s2.extBut _ _ D.a3.symm hz0);have o4:MM g4 TO a b:=s4.extBut _ _ D.a9 (s2.extBut _ _ D.a8 (hs0.extBut _ _ D.a2 hTO));refine KD ⟨.ref g4.objs.size,rfl,KD ?_⟩;have up:∀ c o,g4.get? c=some o->(g4.push { cls:=.type "tuple",data:=.seq #[x,y] }).get? c=some o:=fun c o e=>KG _ e;have t8:MM (g4.push { cls:=.type "tuple",data:=.seq #[x,y] }) g4.objs.size x y:=KJ _ rfl;have sz8:(g4.push { cls:=.type "tuple",data:=.seq #[x,y] }).objs.size=g4.objs.size+1:=Lj ..;rw[sz]at t8 sz8 ⊢;exact hQ _ t4 x y _ _ a b p1 p2 hf (up _ _ z4) (up _ _ o4) (D1.frame _ _ _ st1 fun b hb o e=>up _ _ (s4.extBut _ _ (D.f1 b hb).2.2 e)) (D2.frame _ _ _ st2 fun b _ o e=>up b o e) t8 sz8 fun c o c1 c2 c3 c4 e=>up _ _ (k4 c o c1 c2 c3 c4 e)
theorem wz{z TI TO i1 i2:KE}{f0 f1 a b:KC}{i:Nat}{fp1 fp2:List KE}{n1 n2:Nat}{P1 P2:Nat->KC->Prop}{St1 St2:Nat->K1->Prop}{Q:Option KC->KF->Prop}
  (D1:Qr prog w A.in1 i1 fp1 n1 P1 St1) (D2:Qr prog w A.in1 i2 fp2 n2 P2 St2) (D:ZApart z TI TO i1 i2 fp1 fp2) (hz:eN s.heap z TI TO f0 f1) (hf:l8 f0) (hTI:MM s.heap TI (.ref i1) (.ref i2)) (hTO:MM s.heap TO a b)
  (h1:St1 i s.heap) (h2:St2 i s.heap) (le:i=n1\/(i < n1/\i=n2))
  (hQ:∀ h' tk,(∀ c o,c≠z->c≠TO->c≠i1->c≠i2->s.heap.get? c=some o->h'.get? c=some o)->Q none { s with heap:=h',toks:=tk }):
  KI (KL prog w) A (Me (.ref z)) Q E s:=by
 have hT:s.TypeIs (.ref z) "zip":=⟨_,hz,rfl⟩;unfold Me;have fin:∀ {h':K1} {tk:Nat} {e:KE},(∀ c o,c≠z->c≠TO->c≠i1->c≠i2->s.heap.get? c=some o->h'.get? c=some o)->(∃ o,h'.get? e=some o/\o.cls=.type "StopIteration")->
   KI (KL prog w) A (do if <- Ot (.ref e) (.type "StopIteration")then pure none else throw (.ref e)) Q E { s with heap:=h',toks:=tk }:=fun hk ⟨o,ho,hc⟩=>
  KB (NL (T:="StopIteration") (b:=true) ⟨o,ho,hc⟩ Ob (KD (hQ _ _ hk)))
 refine KB (L4 (Lq (name:=KH "__next__") hT N0 (Lh N0 hT F.entry_zip_next ?_ (Qq _))));show KI _ _ (Qo (.ref z) 2 >>= _) _ _ _;refine KB (Lk hz rfl (x:=.bool false) rfl ?_)
 show KI _ _ (Qo (.ref z) 3 >>= _) _ _ _;refine KB (Lk hz rfl (x:=.ref TI) rfl ?_)
 refine KB (MI hTI rfl ?_);show KI _ _ (Ma (.ref z) >>= _) _ _ _;refine KB (uO hz hf ?_ fun h0 f1' hz0 hs0=>?_)
 ·simp only[if_true];refine KB (NP ?_);refine KB (Lk hz rfl (x:=.ref TO) rfl ?_);refine KB (La hz (by simp) fun g1 z1 s1=>?_)
  replace z1:eN g1 z TI TO .ellipsis f1:=z1
  refine KB ?_;simp only[List.zipIdx_cons,List.zipIdx_nil,M4,NN];refine KB (KB (NJ ?_));show KI _ _ (Lv (.ref i1) >>= _) _ _ _;have st0:St1 i g1:=D1.frame i _ _ h1 fun b hb o e=>s1.extBut _ _ (D.f1 b hb).1 e;rcases le with rfl|⟨l1,rfl⟩
  ·refine KB (D1.done { s with heap:=g1 } _ _ st0 fun g2 e s2 he=>?_)
   obtain⟨oe,hoe,hce⟩:=he;have z2:eN g2 z TI TO .ellipsis f1:=s2 _ _ D.a3.symm z1;have hez:e≠z:=fun x=>by subst x;rw[z2]at hoe;cases hoe;simp at hce
   exact La z2 (by simp) fun g3 _ s3=>fin (tk:=s.toks) (fun c o c1 _ c3 _ x=>s3.extBut _ _ c1 (s2 _ _ c3 (s1.extBut _ _ c1 x))) ⟨oe,s3.extBut _ _ hez hoe,hce⟩
  ·refine KB (D1.item i { s with heap:=g1 } _ _ l1 st0 fun x g2 t2 p1 st1 s2=>KD ?_)
   have o2:MM g2 TO a b:=s2.extBut _ _ D.a8 (s1.extBut _ _ D.a2 hTO);refine KB (MI o2 rfl ?_);refine KB (N6 o2 fun g3 o3 s3=>?_);refine KB (N8 (KD ?_));refine KB (KB (NJ ?_));show KI _ _ (Lv (.ref i2) >>= _) _ _ _;refine KB (D2.done { s with heap:=g3,toks:=t2 } _ _ (D2.frame i _ _ h2 fun b hb o e=>s3.extBut _ _ (D.f2 b hb).2.1 (s2.extBut _ _ (D.f2 b hb).2.2 (s1.extBut _ _ (D.f2 b hb).1 e))) fun g4 e s4 he=>?_)
   obtain⟨oe,hoe,hce⟩:=he;have z4:eN g4 z TI TO .ellipsis f1:=s4 _ _ D.a4.symm (s3.extBut _ _ D.a2.symm (s2.extBut _ _ D.a3.symm z1));have hez:e≠z:=fun x=>by subst x;rw[z4]at hoe;cases hoe;simp at hce
   exact La z4 (by simp) fun g5 _ s5=>fin (tk:=t2) (fun c o c1 c2 c3 c4 x=>s5.extBut _ _ c1 (s4 _ _ c4 (s3.extBut _ _ c2 (s2.extBut _ _ c3 (s1.extBut _ _ c1 x))))) ⟨oe,s5.extBut _ _ hez hoe,hce⟩
 ·simp only[Bool.false_eq_true,if_false];rw[<- Array.forIn_toList];simp only[M4,NN];refine KB (KB (KB (Lm ?_)));show KI _ _ (Lv (.ref i1) >>= _) _ _ _
  have st0:St1 i h0:=D1.frame i _ _ h1 fun b hb o e=>hs0.extBut _ _ (D.f1 b hb).1 e;rcases le with rfl|⟨l1,rfl⟩
  ·exact KB (D1.done { s with heap:=h0 } _ _ st0 fun g2 e s2 he=>fin (tk:=s.toks) (fun c o c1 _ c3 _ x=>s2 _ _ c3 (hs0.extBut _ _ c1 x)) he)
  ·refine KB (D1.item i { s with heap:=h0 } _ _ l1 st0 fun x g2 t2 p1 st1 s2=>KD (KD ?_))
   refine KB (KB (Lm ?_));show KI _ _ (Lv (.ref i2) >>= _) _ _ _
   exact KB (D2.done { s with heap:=g2,toks:=t2 } _ _ (D2.frame i _ _ h2 fun b hb o e=>s2.extBut _ _ (D.f2 b hb).2.2 (hs0.extBut _ _ (D.f2 b hb).1 e)) fun g4 e s4 he=>fin (tk:=t2) (fun c o c1 _ c3 c4 x=>s4 _ _ c4 (s2.extBut _ _ c3 (hs0.extBut _ _ c1 x))) he)
theorem Fc{tg:K4}{z TI TO:KE}{f0 f1 u:KC}{Q:Unit->KF->Prop}(hz:eN s.heap z TI TO f0 f1)(hf:l8 f0)
  (hQ:∀ h' f0',l8 f0'->eN h' z TI TO f0' f1->LS z s.heap h'->Q () { s with heap:=h' }):KI (KL prog w) A (Mj tg (.ref z) u) Q E s:=by
 have same:Q () s:=hQ s.heap f0 hf hz (NH ..);unfold Mj;cases tg<;>first
  | exact KD same
  | (cases u<;>first
    | exact KD same
    | (refine KB (P0 hz ?_)
       dsimp only;split
       ·refine KB (NP ?_);exact La hz (by simp) fun h1 z1 s1=>hQ h1 _ (.inl rfl) z1 s1
       ·exact KD same))
end
inductive Zk where
 | lst (l:KE) (xs:List V)
 | txt (z:Str) (t:Tok)
def Zk.vs:Zk->List V
 | .lst _ xs=>xs
 | .txt z _=>cq z
def Zk.val:Zk->KC
 | .lst l _=>.ref l
 | .txt z t=>.str z t
def Zk.here(K:Nq)(H:Hp):Zk->Prop
 | .lst l xs=>fV K H l xs
 | .txt _ _=>True
def Zk.ready(h:K1):Zk->Prop
 | .lst l xs=>∃ us,Vals xs us/\h.IsList l us.toArray
 | .txt _ _=>True
def Zk.it(it:KE)(i:Nat)(h:K1):Zk->Prop
 | .lst l _=>h.IsListIter it l i
 | .txt z t=>h.IsStrIter it (NC z) z t i
theorem kj(z:Str):NC z="str_ascii_iterator"\/NC z="str_iterator":=by unfold NC;split;exact .inl rfl;exact .inr rfl
theorem Zk.obj{k:Zk}{it:KE}{i:Nat}{h:K1}(x:k.it it i h):∃ o,h.get? it=some o/\(∀ v,o.data≠.cell v)/\o.cls≠.type "list"/\o.cls≠.type "tuple"/\o.cls≠.type "zip":=by
 cases k with
 | lst l xs=>
  obtain⟨o,e,c,d⟩:=x;exact⟨o,e,(fun v z=>by rw[d]at z;cases z),by rw[c];decide,by rw[c];decide,by rw[c];decide⟩
 | txt z t=>
  obtain⟨o,e,c,d⟩:=x;refine⟨o,e,(fun v z=>by rw[d]at z;cases z),?_⟩
  rw[c];rcases kj z with q|q<;>rw[q]<;>decide
theorem Zk.keep{k:Zk}{it:KE}{i:Nat}{h h':K1}(x:k.it it i h)(q:∀ o,h.get? it=some o->h'.get? it=some o):k.it it i h':=by
 cases k with
 | lst l xs=>exact x.at fun o e=>q o e
 | txt z t=>
  obtain⟨o,e,c⟩:=x;exact⟨o,q o e,c⟩
theorem Zk.of{X:Cx}{pins:List (KE×Obj)}{σ:St}{H:Hp}{s:KF}{k:Zk}(I:Inv X pins σ H s)(x:k.here X.K H):k.ready s.heap:=by
 cases k with
 | lst l xs=>
  obtain⟨its,rv,p,_⟩:=I.list x;exact⟨its,rv,p.isList⟩
 | txt z t=>exact True.intro
theorem Zk.draws{P:KQ}{w:K2}{k:Zk}{it:KE}{h:K1}{j:Nat}(x:k.ready h)(y:k.it it j h):∃ (fp:List KE) (Pv:Nat->KC->Prop) (St:Nat->K1->Prop),(∀ A:KY,A.handled=none->Qr P w A it fp k.vs.length Pv St)/\(∀ i v,Pv i v->∃ u,k.vs[i]?=some u/\RelV u v)/\
  (∀ i,k.it it i h->St i h)/\(∀ i h',St i h'->k.it it i h')/\∀ b∈fp,b=it\/∃ o,h.get? b=some o/\o.cls=.type "list":=by
 cases k with
 | lst l xs=>
  obtain⟨us,rv,p⟩:=x;obtain⟨o,e,c,d⟩:=id y;obtain⟨o',e',c',d'⟩:=id p;have hne:l≠it:=fun z=>by subst z;rw[e]at e';cases e';rw[c]at c';exact absurd c' (by decide)
  have hl:us.toArray.size=xs.length:=by rw[KS];exact rv.length.symm
  refine⟨[it,l],fun i v=>us.toArray[i]?=some v,fun i h=>h.IsListIter it l i/\h.IsList l us.toArray,fun A hh=>?_,fun i v q=>?_,fun i q=>⟨q,p⟩,fun i h' q=>q.1,fun b hb=>?_⟩
  ·have:=Draws.list (prog:=P) (w:=w) hh it l hne us.toArray;rw[hl]at this;exact this
  ·have q':us[i]?=some v:=by simpa using q
   obtain⟨u,e1,r⟩:=L3.Vals.getV rv q';exact⟨u,e1,r⟩
  ·have hb':b=it\/b=l:=by simpa using hb
   rcases hb' with rfl|rfl
   ·exact .inl rfl
   ·exact .inr ⟨o',e',c'⟩
 | txt z t=>
  have hz:(cq z).length=z.cps.size:=by simp[cq]
  refine⟨[it],fun i v=>∃ c u,z.cps[i]?=some c/\v=.str ⟨#[c]⟩ u,fun i h=>h.IsStrIter it (NC z) z t i,fun A hh=>?_,fun i v q=>?_,fun i q=>q,fun i h' q=>q,fun b hb=>.inl (by simpa using hb)⟩
  ·show Qr P w A it [it] (cq z).length _ _;rw[hz];rcases kj z with q|q<;>rw[q]
   ·exact Draws.strAscii hh it z t
   ·exact Draws.strWide hh it z t
  ·obtain⟨c,u,e1,rfl⟩:=q;have e2:z.cps.toList[i]?=some c:=by simpa using e1
   exact⟨.str ⟨#[c]⟩,by simp[Zk.vs,cq,e2],⟨u,rfl⟩⟩
def zl(k1 k2:Zk)(z TI TO i1 i2:KE)(i:Nat)(h:K1):Prop:=
 (∃ f0 f1,l8 f0/\eN h z TI TO f0 f1)/\MM h TI (.ref i1) (.ref i2)/\(∃ a b,MM h TO a b)/\k1.it i1 i h/\k2.it i2 i h
structure ZAp(z TI TO i1 i2:KE):Prop where
 t:TI≠TO
 i:i1≠i2
theorem zl.apart{k1 k2:Zk}{z TI TO i1 i2:KE}{i:Nat}{h:K1}{fp1 fp2:List KE}(D:ZAp z TI TO i1 i2)(x:zl k1 k2 z TI TO i1 i2 i h)(q1:∀ b∈fp1,b=i1\/∃ o,h.get? b=some o/\o.cls=.type "list")(q2:∀ b∈fp2,b=i2\/∃ o,h.get? b=some o/\o.cls=.type "list"):ZApart z TI TO i1 i2 fp1 fp2:=by
 obtain⟨⟨f0,f1,_,hz⟩,hTI,⟨a,b,hTO⟩,h1,h2⟩:=x;obtain⟨o1,e1,_,c1,c2,c3⟩:=Zk.obj h1;obtain⟨o2,e2,_,d1,d2,d3⟩:=Zk.obj h2;have ne:∀ {a b:KE} {o o':Obj},h.get? a=some o->h.get? b=some o'->o.cls≠o'.cls->a≠b:=fun ha hb hc z=>by subst z;rw[ha]at hb;cases hb;exact hc rfl
 have y1:i1≠z:=ne e1 hz c3;have y2:i2≠z:=ne e2 hz d3;have y3:TO≠i1:=(ne e1 hTO c2).symm;have y4:TO≠i2:=(ne e2 hTO d2).symm;have tz:Value.type "tuple"≠Value.type "zip":=by decide
 have lz:Value.type "list"≠Value.type "zip":=by decide
 have lt:Value.type "list"≠Value.type "tuple":=by decide
 refine⟨ne hTI hz tz,ne hTO hz tz,y1,y2,D.t,(ne e1 hTI c2).symm,(ne e2 hTI d2).symm,y3,y4,D.i,fun b hb=>?_,fun b hb=>?_⟩
 ·rcases q1 b hb with rfl|⟨o,e,c⟩
  ·exact⟨y1,y3.symm,D.i⟩
  ·exact⟨ne e hz (by rw[c];exact lz),ne e hTO (by rw[c];exact lt),ne e e2 (by rw[c];exact d1.symm)⟩
 ·rcases q2 b hb with rfl|⟨o,e,c⟩
  ·exact⟨y2,y4.symm,D.i.symm⟩
  ·exact⟨ne e hz (by rw[c];exact lz),ne e hTO (by rw[c];exact lt),ne e e1 (by rw[c];exact c1.symm)⟩
section
variable{prog:KQ}{w:K2}{A:KY}{E:KC->KF->Prop}{s:KF}{k1 k2:Zk}{z TI TO i1 i2:KE}{i:Nat}
theorem xM{Q:Option KC->KF->Prop}(hh:A.in1.handled=none)(D:ZAp z TI TO i1 i2)(x:zl k1 k2 z TI TO i1 i2 i s.heap)(r1:k1.ready s.heap)(r2:k2.ready s.heap)(l1:i < k1.vs.length)(l2:i < k2.vs.length)
  (hQ:∀ h' tk x y u v,k1.vs[i]?=some u->k2.vs[i]?=some v->RelV u x->RelV v y->zl k1 k2 z TI TO i1 i2 (i+1) h'->MM h' s.heap.objs.size x y->h'.objs.size=s.heap.objs.size+1->
   (∀ c o,c∉[z,TI,TO,i1,i2]->s.heap.get? c=some o->h'.get? c=some o)->Q (some (.ref s.heap.objs.size)) { s with heap:=h',toks:=tk }):KI (KL prog w) A (Me (.ref z)) Q E s:=by
 obtain⟨fp1,P1,St1,D1,v1,t1,b1,q1⟩:=Zk.draws (P:=prog) (w:=w) r1 x.2.2.2.1;obtain⟨fp2,P2,St2,D2,v2,t2,b2,q2⟩:=Zk.draws (P:=prog) (w:=w) r2 x.2.2.2.2;have ap:=x.apart D q1 q2;obtain⟨⟨f0,f1,hf,hz⟩,hTI,⟨a,b,hTO⟩,h1,h2⟩:=x;refine uP (D1 _ hh) (D2 _ hh) ap hz hf hTI hTO (t1 i h1) (t2 i h2) l1 l2 fun h' tk x y f0' f1' a' b' p1 p2 hf' z' o' s1 s2 tp sz kp=>?_;obtain⟨u,e1,ru⟩:=v1 i x p1;obtain⟨v,e2,rv⟩:=v2 i y p2;exact hQ h' tk x y u v e1 e2 ru rv ⟨⟨f0',f1',hf',z'⟩,kp _ _ ap.a1 ap.a5 ap.a6 ap.a7 hTI,⟨a',b',o'⟩,b1 _ _ s1,b2 _ _ s2⟩ tp sz fun c o hc e=>kp c o (fun q=>hc (by simp[q])) (fun q=>hc (by simp[q])) (fun q=>hc (by simp[q])) (fun q=>hc (by simp[q])) e
theorem AS{Q:Option KC->KF->Prop}(hh:A.in1.handled=none)(D:ZAp z TI TO i1 i2)(x:zl k1 k2 z TI TO i1 i2 i s.heap)(r1:k1.ready s.heap)(r2:k2.ready s.heap)(l:i=min k1.vs.length k2.vs.length)
  (hQ:∀ h' tk,(∀ c o,c∉[z,TI,TO,i1,i2]->s.heap.get? c=some o->h'.get? c=some o)->Q none { s with heap:=h',toks:=tk }):KI (KL prog w) A (Me (.ref z)) Q E s:=by
 obtain⟨fp1,P1,St1,D1,v1,t1,b1,q1⟩:=Zk.draws (P:=prog) (w:=w) r1 x.2.2.2.1;obtain⟨fp2,P2,St2,D2,v2,t2,b2,q2⟩:=Zk.draws (P:=prog) (w:=w) r2 x.2.2.2.2;have ap:=x.apart D q1 q2;obtain⟨⟨f0,f1,hf,hz⟩,hTI,⟨a,b,hTO⟩,h1,h2⟩:=x;exact wz (D1 _ hh) (D2 _ hh) ap hz hf hTI hTO (t1 i h1) (t2 i h2) (by walk_at "o") fun h' tk kp=>hQ h' tk fun c o hc e=>kp c o (fun q=>hc (by simp[q])) (fun q=>hc (by simp[q])) (fun q=>hc (by simp[q])) (fun q=>hc (by simp[q])) e
theorem zl.keep{h h':K1}(x:zl k1 k2 z TI TO i1 i2 i h)(q:∀ b∈[z,TI,TO,i1,i2],∀ o,h.get? b=some o->h'.get? b=some o):zl k1 k2 z TI TO i1 i2 i h':=by
 obtain⟨⟨f0,f1,hf,hz⟩,hTI,⟨a,b,hTO⟩,h1,h2⟩:=x;exact⟨⟨f0,f1,hf,q z (by simp) _ hz⟩,q TI (by simp) _ hTI,⟨a,b,q TO (by simp) _ hTO⟩,Zk.keep h1 fun o e=>q i1 (by simp) o e,Zk.keep h2 fun o e=>q i2 (by simp) o e⟩
end
def Ky(K:Nq)(k1 k2:Zk):It:=
 ⟨fun i H=>(i < k1.vs.length/\i < k2.vs.length)/\k1.here K H/\k2.here K H,fun i H x H'=>∃ p u v,H p=none/\x=.ref p/\H'=aI H p (.tup [u,v])/\k1.vs[i]?=some u/\k2.vs[i]?=some v,fun i H=>i=min k1.vs.length k2.vs.length/\k1.here K H/\k2.here K H⟩
theorem A0{P:KQ}{w:K2}{K:Nq}{tg:K4}(k1 k2:Zk)(z TI TO i1 i2:KE)(D:ZAp z TI TO i1 i2):Turn P w K tg (Ky K k1 k2) [z,TI,TO,i1,i2] z (zl k1 k2 z TI TO i1 i2) where
 mem:=by simp
 obj:=fun i h st b hb=>by
  obtain⟨⟨f0,f1,hf,hz⟩,hTI,⟨a,b',hTO⟩,h1,h2⟩:=st;obtain⟨o1,e1,c1,_⟩:=Zk.obj h1;obtain⟨o2,e2,c2,_⟩:=Zk.obj h2;simp only[Le,Lg,or_false]at hb;rcases hb with rfl|rfl|rfl|rfl|rfl
  ·exact⟨_,hz,fun v q=>by cases q⟩
  ·exact⟨_,hTI,fun v q=>by cases q⟩
  ·exact⟨_,hTO,fun v q=>by cases q⟩
  ·exact⟨o1,e1,c1⟩
  ·exact⟨o2,e2,c2⟩
 keep:=fun i h h' st q=>st.keep q
 item:=by
  intro X hP hw hK hc i pins s σ H E I hf st hg;subst hP hw hK;obtain⟨⟨l1,l2⟩,e1,e2⟩:=hg;refine xM (I.ok.hd hc) D st (Zk.of I e1) (Zk.of I e2) l1 l2 fun h' tk x y u v q1 q2 ru rv st' tp sz kp=>?_;refine⟨_,rfl,?_⟩;obtain⟨⟨f0,f1,hl,hz⟩,hTI,⟨a,b,hTO⟩,h1,h2⟩:=id st';refine Fc (s:={ s with heap:=h',toks:=tk }) hz hl fun h2' f0' hl' hz' sb=>?_
  have hn:H s.heap.objs.size=none:=I.hok.fresh (le_refl _);have lt:∀ b∈[z,TI,TO,i1,i2],b≠s.heap.objs.size:=fun b hb=>by
   obtain⟨o,e,_⟩:=(show ∃ o,s.heap.get? b=some o/\True from by
    obtain⟨⟨g0,g1,_,gz⟩,gTI,⟨ga,gb,gTO⟩,k1',k2'⟩:=st;obtain⟨o1,x1,_⟩:=Zk.obj k1';obtain⟨o2,x2,_⟩:=Zk.obj k2';simp only[Le,Lg,or_false]at hb;rcases hb with rfl|rfl|rfl|rfl|rfl
    ·exact⟨_,gz,True.intro⟩
    ·exact⟨_,gTI,True.intro⟩
    ·exact⟨_,gTO,True.intro⟩
    ·exact⟨_,x1,True.intro⟩
    ·exact⟨_,x2,True.intro⟩)
   exact K_ (KN e)
  have up:∀ c o,c≠z->h'.get? c=some o->h2'.get? c=some o:=fun c o hc e=>sb.extBut _ _ hc e;have hzs:z≠s.heap.objs.size:=lt z (by simp)
  have I0:Inv X pins σ (aI H s.heap.objs.size (.tup [u,v])) { s with heap:=s.heap.push { cls:=.type "tuple",data:=.seq #[x,y] },toks:=s.toks }:=by
   refine I.laid (t':=s.toks) (fun b v q=>KG _ q) (le_refl _) ?_;exact⟨by show 2<=KM;decide,[x,y],.cons ru (.cons rv .nil),oA.new _ _⟩
  have I1:Inv X pins σ (aI H s.heap.objs.size (.tup [u,v])) { s with heap:=h2',toks:=tk }:=by
   have:=Inv.turnedL (s:={ s with heap:=s.heap.push { cls:=.type "tuple",data:=.seq #[x,y] },toks:=s.toks }) (h':=h2') (t':=tk) (fp:=[z,TI,TO,i1,i2]) I0 (fun b o hb q=>?_) fun b hb=>?_
   ·exact this
   ·have hbz:b≠z:=fun q=>hb (by simp[q])
    have q':(s.heap.push { cls:=.type "tuple",data:=.seq #[x,y] }).get? b=some o:=q
    by_cases hbs:b=s.heap.objs.size
    ·subst hbs;rw[KJ _ rfl]at q';cases q';exact up _ _ hbz tp
    ·rw[NG _ _ _ hbs]at q';exact up _ _ hbz (kp b o hb q')
   ·obtain⟨g0,g1,g2,g3,g4,g5⟩:=hf b hb;exact⟨by rw[aj (lt b hb)];exact g0,g1,g2,g3,g4,g5⟩
  have ap:=st'.apart (fp1:=[]) (fp2:=[]) D (fun b hb=>by simp at hb) fun b hb=>by simp at hb
  refine⟨.ref s.heap.objs.size,_,I1,rfl,⟨_,u,v,hn,rfl,rfl,q1,q2⟩,⟨⟨f0',f1,hl',hz'⟩,up _ _ ap.a1 hTI,⟨a,b,up _ _ ap.a2 hTO⟩,Zk.keep h1 fun o e=>up _ _ ap.a3 e,Zk.keep h2 fun o e=>up _ _ ap.a4 e⟩,fun b hb=>?_⟩;rw[aj (lt b hb)];exact (hf b hb).1
 done:=by
  intro X hP hw hK hc i pins s σ H E I hf st hg;subst hP hw hK;obtain⟨l,e1,e2⟩:=hg;exact AS (I.ok.hd hc) D st (Zk.of I e1) (Zk.of I e2) l fun h' tk kp=>⟨rfl,I.turnedL (t':=tk) (fp:=[z,TI,TO,i1,i2]) kp hf⟩
 self:=fun _ _ _ _ _ st h=>by
  obtain⟨⟨f0,f1,_,hz⟩,_⟩:=st;have hT:=(⟨_,hz,rfl⟩:Op _ (.ref z) "zip");refine MG hT F.slot_zip_iter (Lh F.slot_zip_iter hT F.entry_zip_iter ?_ (F.args_zip_iter_1 _));show KI _ _ (ret (.ref z)) _ _ _
  exact KD ⟨_,rfl,"zip",_,hT,N0.lookup,h⟩
def Zk.itObj:Zk->Obj
 | .lst l _=>{ cls:=.type "list_iterator",data:=.fields #[.ref l,.int 0 0] }
 | .txt z t=>{ cls:=.type (NC z),data:=.fields #[.str z t,.int 0 0] }
theorem Zk.iter{prog:KQ}{w:K2}{A:KY}{E:KC->KF->Prop}{s:KF}{k:Zk}{Q:KC->KF->Prop}(r:k.ready s.heap)(hQ:Q (.ref s.heap.objs.size) { s with heap:=s.heap.push k.itObj }):KI (KL prog w) A (Ni k.val) Q E s:=by
 cases k with
 | lst l xs=>
  obtain⟨us,_,p⟩:=r;exact Ow p hQ
 | txt z t=>exact wpAny_pyIter_strU hQ
theorem Zk.grow{k:Zk}{h h':K1}(r:k.ready h)(q:∀ c o,h.get? c=some o->h'.get? c=some o):k.ready h':=by
 cases k with
 | lst l xs=>
  obtain⟨us,rv,p⟩:=r;exact⟨us,rv,p.at fun o e=>q l o e⟩
 | txt z t=>exact True.intro
theorem Zk.it0{k:Zk}{h:K1}{it:KE}(e:h.get? it=some k.itObj):k.it it 0 h:=by
 cases k with
 | lst l xs=>exact⟨_,e,rfl,rfl⟩
 | txt z t=>exact⟨_,e,rfl,rfl⟩
theorem Zk.alive{k:Zk}{h:K1}:(h.push k.itObj).get? h.objs.size=some k.itObj:=by
 cases k with
 | lst l xs=>exact KJ _ rfl
 | txt z t=>exact KJ _ rfl
abbrev Df(h:K1)(k1:Zk):K1:=h.push k1.itObj
abbrev De(h:K1)(k1 k2:Zk):K1:=(Df h k1).push k2.itObj
abbrev Dc(h:K1)(k1 k2:Zk):K1:=(De h k1 k2).push { cls:=.type "tuple",data:=.seq #[.ref h.objs.size,.ref (Df h k1).objs.size] }
abbrev Db(h:K1)(k1 k2:Zk):K1:=(Dc h k1 k2).push { cls:=.type "tuple",data:=.seq #[.none,.none] }
abbrev wy(h:K1)(k1 k2:Zk):K1:=(Db h k1 k2).push { cls:=.type "zip",data:=.fields #[.none,.bool false,.bool false,.ref (De h k1 k2).objs.size,.ref (Dc h k1 k2).objs.size] }
theorem xg(k1 k2:Zk):Meets (Builtin.«zip.__new__» ⟨[.type "zip",k1.val,k2.val],[]⟩) (fun _ R s=>k1.ready s.heap/\k2.ready s.heap/\R (.ok (.ret (.ref (Db s.heap k1 k2).objs.size))) { s with heap:=wy s.heap k1 k2 }):=
 .of_wp fun prog w A R s h=>by
  obtain⟨hp,g,d,tk,os⟩:=s;obtain⟨r1,r2,h⟩:=h;have hsub:=sub_zip;have q2:k2.ready (Shared.heap ⟨hp.push k1.itObj,g,d,tk,os⟩):=Zk.grow r2 fun c o e=>KG _ e
  wp_walk using Zk.iter (k:=k1) (s:=⟨hp,g,d,tk,os⟩) r1,Zk.iter (k:=k2) (s:=⟨hp.push k1.itObj,g,d,tk,os⟩) q2
  exact⟨_,rfl,h⟩
theorem AB{prog:KQ}{w:K2}{A:KY}{E:KC->KF->Prop}{s:KF}{k1 k2:Zk}{Q:KC->KF->Prop}(r1:k1.ready s.heap)(r2:k2.ready s.heap)
  (h:∀ h',zl k1 k2 (s.heap.objs.size+4) (s.heap.objs.size+2) (s.heap.objs.size+3) s.heap.objs.size (s.heap.objs.size+1) 0 h'->h'.objs.size=s.heap.objs.size+5->
   (∀ c o,s.heap.get? c=some o->h'.get? c=some o)->Q (.ref (s.heap.objs.size+4)) { s with heap:=h' }):KI (KL prog w) A (call (.type "zip") [k1.val,k2.val]) Q E s:=by
 refine callType_new F.called_zip (by decide) (F.typeCall_zip_2 _ _) (F.newCall_zip_2 _ _) (fun obj=>F.args_object_init_3 obj _ _) F.entry_zip_new (xg k1 k2) ⟨r1,r2,?_⟩
 have z1:(Df s.heap k1).objs.size=s.heap.objs.size+1:=Lj ..;have z2:(De s.heap k1 k2).objs.size=s.heap.objs.size+2:=by rw[Lj,z1]
 have z3:(Dc s.heap k1 k2).objs.size=s.heap.objs.size+3:=by rw[Lj,z2]
 have z4:(Db s.heap k1 k2).objs.size=s.heap.objs.size+4:=by rw[Lj,z3]
 have z5:(wy s.heap k1 k2).objs.size=s.heap.objs.size+5:=by rw[Lj,z4]
 have u:∀ {h:K1} {c:KE} {o o':Obj},h.get? c=some o->(h.push o').get? c=some o:=fun e=>KG _ e;have g5:(wy s.heap k1 k2).get? (Db s.heap k1 k2).objs.size=some _:=KJ _ rfl;have g4:(wy s.heap k1 k2).get? (Dc s.heap k1 k2).objs.size=some _:=u (KJ _ rfl);have g3:(wy s.heap k1 k2).get? (De s.heap k1 k2).objs.size=some _:=u (u (KJ _ rfl));have g2:(wy s.heap k1 k2).get? (Df s.heap k1).objs.size=some k2.itObj:=u (u (u Zk.alive));have g1:(wy s.heap k1 k2).get? s.heap.objs.size=some k1.itObj:=u (u (u (u Zk.alive)));show _/\_
 rw[z2,z3,z4]at g5;rw[z1,z2]at g3;rw[z3]at g4;rw[z1]at g2;rw[z4];exact⟨⟨_,g5,rfl⟩,h _ ⟨⟨_,_,.inl rfl,g5⟩,g3,⟨_,_,g4⟩,Zk.it0 g1,Zk.it0 g2⟩ z5 fun c o x=>u (u (u (u (u x))))⟩
end L2
namespace L3
open PySem PySem.Spec PyProof.Rows L2
def fi:D->Option (List D)
 | .lst ds=>some ds
 | .str x=>some (signs x)
 | _=>none
def nM:List D->List D->List D
 | a::r,b::t=>.tup [a,b]::nM r t
 | _,_=>[]
theorem nj:∀ (a b:List D),(nM a b).length=min a.length b.length
 | [],_=>by simp[nM]
 | _::_,[]=>by simp[nM]
 | _::r,_::t=>by simp only[nM,Lb,nj r t];omega
theorem uR:∀ {a b:List D} {i:Nat} {x y:D},a[i]?=some x->b[i]?=some y->(nM a b)[i]?=some (.tup [x,y])
 | _::_,_::_,0,_,_,h,h'=>by simp at h h';subst h h';rfl
 | _::r,_::t,i+1,_,_,h,h'=>by simp only[LY]at h h';simpa[nM]using uR h h'
 | [],_,_,_,_,h,_=>by simp at h
 | _::_,[],_,_,_,_,h=>by simp at h
theorem rT{K:Nq}{H:Hp}(z:Str):RDs K H (signs z) (cq z):=by
 have e1:signs z=(z.cps.toList.map fun c=>(⟨#[c]⟩:Str)).map D.str:=by simp[signs]
 have e2:cq z=(z.cps.toList.map fun c=>(⟨#[c]⟩:Str)).map V.str:=by simp[cq]
 rw[e1,e2];exact RDs.strs _
theorem EO{K:Nq}{H:Hp}{d:D}{v:V}{u:KC}{ds:List D}(e:fi d=some ds)(r:RD K H d v)(ru:RelV v u):
  ∃ k:Zk,u=k.val/\RDs K H ds k.vs/\∀ (G:Gp) (G':Gp) (H':Hp),RG K H G->Kp G H G' H'->k.here K H'/\RDs K H' ds k.vs:=by
 cases d with
 | lst es=>
  simp only[fi,Option.some.injEq]at e;subst e;simp only[RD]at r;obtain⟨a,xs,rfl,f,rr⟩:=r;cases ru;exact⟨.lst a xs,rfl,rr,fun G G' H' rg k=>⟨((k.stb rg).l _ _ f).sq,RDs.mono (k.stb rg) _ _ rr⟩⟩
 | str z=>
  simp only[fi,Option.some.injEq]at e;subst e;simp only[RD]at r;subst r;obtain⟨t,rfl⟩:=ru;exact⟨.txt z t,rfl,rT z,fun _ _ _ _ _=>⟨True.intro,rT z⟩⟩
 | _=>simp[fi]at e
def JE(ta:iF):CS:=fun σ G Q=>ta σ G fun ds G'=>match ds with
 | [x,y]=>∃ a b,(fi x=some a/\fi y=some b)/\Q (nM a b) G'
 | _=>False
theorem CK:LM "zip"=some (.type "zip"):=by kernel_rfl
theorem xQ{K:Nq}{H:Hp}{x y:D}{vs:List V}(h:RDs K H [x,y] vs):∃ v u,vs=[v,u]/\RD K H x v/\RD K H y u:=by
 obtain⟨v,t,rfl,h1,h2⟩:=h.inv_cons;obtain⟨u,rfl,h3⟩:=dj h2;exact⟨v,u,rfl,h1,h3⟩
end L3
namespace L2
open PySem PySem.Spec PyProof.Rows
theorem tU:NR (.type "list") "keys"=pure none:=by rw[OW,N5];kernel_rfl
theorem vK:NR (.type "zip") "keys"=pure none:=by rw[OW,N5];kernel_rfl
theorem ma:NR (.type "zip") "__getattr__"=pure none:=by rw[OW,N5];kernel_rfl
theorem um:entryFor table "zip.__getattribute__"=some Builtin.«object.__getattribute__»:=entryFor_alias (id':="object.__getattribute__") (by kernel_rfl) (by first|rfl|decide +kernel) (by decide +kernel) (by kernel_rfl)
theorem Aa:(["__module__","__name__","__qualname__","__doc__","__annotations__"]:List Str).contains (KH "keys")=false:=by decide +kernel
theorem rS:(KH "keys").length+100<=KM:=by rw[LB];decide +kernel
theorem pY(a:KE)(vs:Array KC)(u:Tok):Meets (Builtin.«object.__getattribute__» ⟨[.ref a,.str "keys" u],[]⟩) (fun A R s=>s.heap.get? a=some { cls:=.type "zip",dict:=none,data:=.fields vs,slots:=#[] }/\raisesAttr (.ref a) "keys" A R s):=
 Meets.of_wp fun prog w A R s hs=>by
  obtain⟨hp,g,d,tk,os⟩:=s;obtain⟨hx,hs⟩:=hs;have hT:(⟨hp,g,d,tk,os⟩:KF).TypeIs (.ref a) "zip":=⟨_,hx,rfl⟩;have f4:=vK;unfold Builtin.«object.__getattribute__»
  repeat (any_goals (first|assumption|wp_step))
  exact wpAny_raiseAttrError hs.1 hs.2 (attrMsg_fits (by decide +kernel) rS)
section
variable{prog:KQ}{w:K2}{A:KY}{E:KC->KF->Prop}{s:KF}{a:KE}{Q:Option KC->KF->Prop}
theorem tQ{xs:Array KC}{k:Nat}{sl:Array (Option KC)}(hx:s.heap.get? a=some { cls:=.type "list",dict:=none,data:=.seq xs k,slots:=sl })(hA:A.in1.handled=none)
  (h:∀ h' tk,(∀ c o,s.heap.get? c=some o->h'.get? c=some o)->Q none { s with heap:=h',toks:=tk }):KI (KL prog w) A (NM (.ref a) "keys") Q E s:=by
 obtain⟨hp,g,d,tk,os⟩:=s;have hT:∀ tk',(⟨hp,g,d,tk',os⟩:KF).TypeIs (.ref a) "list":=fun _=>⟨_,hx,rfl⟩;have f1:=P8;have f3:=F.slot_list_getattribute.lookup;have f4:=F.slot_list_getattribute.bind (.ref a);have f5:=am_list_getattr_none;unfold NM Qb
 repeat (any_goals (first|assumption|exact hT _|((with_reducible show KI _ _ (call _ _ _) _ _ _);refine Qe F.slot_list_getattribute (hT _) am_entry_list_getattribute (F.args_list_getattribute_2 _ _) (meets_getattribute_miss_list a xs k sl _ _ tU Aa rS) ⟨hx,hA,fun h' t' e hx'=>?_⟩)|wp_step))
 obtain⟨t1,u1,he⟩:=hx'.there;show KI _ _ (Nw _ _ _ _ _ _ _) _ _ _
 unfold Nw
 repeat (any_goals (first|assumption|wp_step))
 exact h _ _ hx'.keeps
theorem vA{vs:Array KC}(hx:s.heap.get? a=some { cls:=.type "zip",dict:=none,data:=.fields vs,slots:=#[] })(hA:A.in1.handled=none)
  (h:∀ h' tk,(∀ c o,s.heap.get? c=some o->h'.get? c=some o)->Q none { s with heap:=h',toks:=tk }):KI (KL prog w) A (NM (.ref a) "keys") Q E s:=by
 obtain⟨hp,g,d,tk,os⟩:=s;have hT:∀ tk',(⟨hp,g,d,tk',os⟩:KF).TypeIs (.ref a) "zip":=fun _=>⟨_,hx,rfl⟩;have f1:=P8;have f3:=F.slot_zip_getattribute.lookup;have f4:=F.slot_zip_getattribute.bind (.ref a);have f5:=ma;unfold NM Qb
 repeat (any_goals (first|assumption|exact hT _|((with_reducible show KI _ _ (call _ _ _) _ _ _);refine Qe F.slot_zip_getattribute (hT _) um (F.args_zip_getattribute_2 _ _) (pY a vs _) ⟨hx,hA,fun h' t' e hx'=>?_⟩)|wp_step))
 obtain⟨t1,u1,he⟩:=hx'.there;show KI _ _ (Nw _ _ _ _ _ _ _) _ _ _
 unfold Nw
 repeat (any_goals (first|assumption|wp_step))
 exact h _ _ hx'.keeps
end
structure PWalk(prog:KQ)(w:K2)(A:KY)(it:KE)(wr:List KE)(n:Nat)(Pv:Nat->KC->KC->Prop)(St:Nat->K1->Prop):Prop where
 frame:∀ i h h',St i h->(∀ c o,o.cls≠.type "dict"->h.get? c=some o->h'.get? c=some o)->St i h'
 item:∀ i (s:KF) (Q:Option KC->KF->Prop) (E:KC->KF->Prop),i < n->St i s.heap->
  (∀ h' tk p k v,Pv i k v->(∃ o m,h'.get? p=some o/\o.cls=.type "tuple"/\o.data=.seq #[k,v] m)->St (i+1) h'->(∀ c o,c∉wr->s.heap.get? c=some o->h'.get? c=some o)->Q (some (.ref p)) { s with heap:=h',toks:=tk })->
  KI (KL prog w) A (Me (.ref it)) Q E s
 done:∀ (s:KF) (Q:Option KC->KF->Prop) (E:KC->KF->Prop),St n s.heap->(∀ h' tk,(∀ c o,c∉wr->s.heap.get? c=some o->h'.get? c=some o)->Q none { s with heap:=h',toks:=tk })->
  KI (KL prog w) A (Me (.ref it)) Q E s
theorem dL:plainId "dict.update.loop"=true:=by decide +kernel
theorem jc:entryFor table "dict.update.loop"=some Builtin.«dict.update.loop»:=entryFor_of_tree (by kernel_rfl)
section
variable{prog:KQ}{w:K2}{A:KY}{it d:KE}{wr:List KE}{n:Nat}{Pv:Nat->KC->KC->Prop}{St:Nat->K1->Prop}{R:NW->KF->Prop}{h0:K1}
def IL(prog:KQ)(w:K2)(h:K1)(d:KE)(xs:List (List ar×KE×KC)):Prop:=
 ∃ o es ep,h.get? d=some o/\o.ExactDict/\o.data=.dict es ep/\es.toList=xs.map (entryOfKey (LW (aK prog w)))/\(xs.map (·.1)).Nodup
theorem w8{p:KE}{k v:KC}{s:KF}{E:KC->KF->Prop}{Q:List KC->KF->Prop}(h:∃ o m,s.heap.get? p=some o/\o.cls=.type "tuple"/\o.data=.seq #[k,v] m)(q:Q [k,v] s):KI (KL prog w) A (Pr (.ref p)) Q E s:=by
 obtain⟨o,m,e,c,dt⟩:=h;unfold Pr;refine KB (Pf (T:="tuple") ⟨o,e,c⟩ ?_);rw[if_pos (by decide)]
 exact KB (MI e dt (KD q))
theorem AX(W:PWalk prog w A.in1 it wr n Pv St)(hu:A.units+1 < Ly)(hd:d∉wr)(hn:n<=KM)(Acc:Nat->List (List ar×KE×KC)->Prop)
  (hk:∀ i k v xs,Pv i k v->Acc i xs->∃ ks b,k=.ref b/\Acc (i+1) (Og xs ks b v)/\∀ h,(∀ c o,c∉wr->c≠d->h0.get? c=some o->h.get? c=some o)->(LW (aK prog w)).is h ks b)
  (hx:∀ i xs,Acc i xs->xs.length<=i/\∀ x∈xs,∀ h,(∀ c o,c∉wr->c≠d->h0.get? c=some o->h.get? c=some o)->(LW (aK prog w)).is h x.1 x.2.1):
  ∀ (k i:Nat) (s:KF) (xs:List (List ar×KE×KC)),n - i=k->i<=n->St i s.heap->(∀ c o,c∉wr->c≠d->h0.get? c=some o->s.heap.get? c=some o)->IL prog w s.heap d xs->Acc i xs->
   (∀ h' tk ys,(∀ c o,c∉wr->c≠d->h0.get? c=some o->h'.get? c=some o)->(∀ c o,c∉wr->c≠d->s.heap.get? c=some o->h'.get? c=some o)->IL prog w h' d ys->Acc n ys->R (.ok (.ret .none)) { s with heap:=h',toks:=tk })->
   Ml (KL prog w) A (.builtin "dict.update.loop" ⟨[.ref d,.ref it,LP i,.none],[]⟩) R s:=by
 intro k
 induction k with
 | zero=>
  intro i s xs hk' hi st keep dr ac hR;have hin:i=n:=by walk_at "o"
  subst hin;refine codeAny_builtin jc ?_;rw[PP dL _];show KI _ A.in1 (Me (.ref it) >>= _) _ _ s
  refine KB (W.done s _ _ st fun h' tk kp=>?_);show KI _ _ (Builtin.Dict.addKeywords d [] >>= _) _ _ _
  refine KB (KD (KD ?_));obtain⟨o,es,ep,e,r⟩:=dr;exact hR h' tk xs (fun c o hc hcd q=>kp c o hc (keep c o hc hcd q)) (fun c o hc _ q=>kp c o hc q) ⟨o,es,ep,kp d o hd e,r⟩ ac
 | succ k ih=>
  intro i s xs hk' hi st keep dr ac hR;have hlt:i < n:=by walk_at "o"
  refine codeAny_builtin jc ?_;rw[PP dL _];show KI _ A.in1 (Me (.ref it) >>= _) _ _ s
  refine KB (W.item i s _ _ hlt st fun h1 t1 p kv vv pv tp st1 kp=>?_);obtain⟨ks,b,rfl,ac',key⟩:=hk i kv vv xs pv ac;refine KB (Lm (KB (wpAny_tryCatch (w8 tp ?_))));refine Lm ?_;obtain⟨o,es,ep,e,r1,r2,r3,r4⟩:=dr;have QU:∀ c o,c∉wr->c≠d->h0.get? c=some o->h1.get? c=some o:=fun c o hc hcd q=>kp c o hc (keep c o hc hcd q);obtain⟨len,keys⟩:=hx i xs ac;have dd:Heap.DictOfH (LW (aK prog w)) h1 d xs:=⟨o,es,ep,kp d o hd e,r1,r2,r3,fun x hx'=>keys x hx' h1 QU,r4⟩;refine P4 (s:={ s with heap:=h1,toks:=t1 }) (hsz:=by walk_at "o") (show A.in1.units < Ly from hu) (key h1 QU) dd fun h2 dd2 sb=>?_
  obtain⟨o2,es2,ep2,e2,q1,q2,q3,_,q4⟩:=dd2;have up:∀ c o,c≠d->h1.get? c=some o->h2.get? c=some o:=fun c o hc q=>sb.extBut _ _ hc q;have kpd:h1.get? d=some o:=kp d o hd e;refine KD ⟨plainId_quiet dL _,?_⟩;have:=ih (i+1) { s with heap:=h2,toks:=t1+(LW (aK prog w)).draws ks } (Og xs ks b vv) (by walk_at "o") hlt (W.frame _ _ _ st1 fun c o' hc q=>up c o' (fun z=>by subst z;rw[kpd]at q;cases q;exact hc r1.1) q) (fun c o hc hcd q=>up c o hcd (QU c o hc hcd q)) ⟨o2,es2,ep2,e2,q1,q2,q3,q4⟩ ac'
   fun h' tk ys k1 k2 k3 k4=>hR h' tk ys k1 (fun c o hc hcd q=>k2 c o hc hcd (up c o hcd (kp c o hc q))) k3 k4
  exact this
end
end L2
namespace L3
open PySem PySem.Spec PyProof.Rows L2
def vo(kv:List ar×D):D:=.tup [.tup (kv.1.map kD),kv.2]
def dictOf(kvs:List (List ar×D)):List (List ar×D):=kvs.foldl (fun a kv=>aS a kv.1 kv.2) []
theorem lV(kvs:List (List ar×D)):∀ a:List (List ar×D),(kvs.foldl (fun a kv=>aS a kv.1 kv.2) a).length<=a.length+kvs.length:=by
 induction kvs with
 | nil=>intro a;exact le_refl _
 | cons kv r ih=>
  intro a;have h1:=ih (aS a kv.1 kv.2);have h2:=dC a kv.1 kv.2;simp only[List.foldl_cons,Lb];omega
theorem wa{kvs:List (List ar×D)}{i:Nat}{kv:List ar×D}(h:kvs[i]?=some kv):dictOf (kvs.take (i+1))=aS (dictOf (kvs.take i)) kv.1 kv.2:=by
 unfold dictOf;rw[MN,h,List.foldl_append];rfl
theorem ut(kvs:List (List ar×D)):((dictOf kvs).map (·.1)).Nodup:=by
 unfold dictOf
 suffices h:∀ a:List (List ar×D),(a.map (·.1)).Nodup->((kvs.foldl (fun a kv=>aS a kv.1 kv.2) a).map (·.1)).Nodup from h [] M7
 induction kvs with
 | nil=>intro a h;exact h
 | cons kv r ih=>intro a h;exact ih _ (kB kv.1 kv.2 h)
theorem Au{prog:KQ}{w:K2}{A:KY}{E:KC->KF->Prop}{s:KF}{src:KE}{T:String}{Q:KC->KF->Prop}(hT:∃ o,s.heap.get? src=some o/\o.cls=.type T)(hne:(Value.type T != Value.type "dict")=true)
  (hno:∀ (s':KF) (Q':Option KC->KF->Prop) (E':KC->KF->Prop),(∀ c o,s.heap.get? c=some o->s'.heap.get? c=some o)->(∀ h' tk,(∀ c o,s'.heap.get? c=some o->h'.get? c=some o)->Q' none { s' with heap:=h',toks:=tk })->KI (KL prog w) A.in1.in1 (NM (.ref src) "keys") Q' E' s')
  (h:∀ h' tk,(∀ c o,s.heap.get? c=some o->h'.get? c=some o)->h'.get? s.heap.objs.size=some { cls:=.type "dict",data:=.dict #[] }->
   KI (KL prog w) A.in1.in1 (Ni (.ref src)) (fun it s2=>Ml (KL prog w) A.in1 (.builtin "dict.update.loop" ⟨[.ref s.heap.objs.size,it,LP 0,.none],[]⟩) (wants (fun r s₂=>r=.none/\Q (.ref s.heap.objs.size) s₂) E) s2) (fun e s'=>wants (fun r s₂=>r=.none/\Q (.ref s.heap.objs.size) s₂) E (.error e) s') { s with heap:=h',toks:=tk }):
  KI (KL prog w) A (call (.type "dict") [.ref src]) Q E s:=by
 refine callType_codes (Q₁:=fun obj s₁=>obj=.ref s.heap.objs.size/\s₁={ s with heap:=s.heap.push { cls:=.type "dict",data:=.dict #[] } }) F.kt_called_dict (F.kt_typeCall_dict_1 _) F.entry_dict_init (kt_code_dict_new _ ⟨rfl,rfl⟩) ?_
 rintro obj s₁ ⟨rfl,rfl⟩
 have hd:(s.heap.push { cls:=.type "dict",data:=.dict #[] }).get? s.heap.objs.size=some { cls:=.type "dict",data:=.dict #[] }:=KJ _ rfl;have tyd:Op { s with heap:=s.heap.push { cls:=.type "dict",data:=.dict #[] } } (.ref s.heap.objs.size) "dict":=⟨_,hd,rfl⟩
 obtain⟨o,e,c⟩:=hT;have up:∀ c o,s.heap.get? c=some o->(s.heap.push { cls:=.type "dict",data:=.dict #[] }).get? c=some o:=fun c o e=>KG _ e;refine⟨tyd,F.args_dict_init_2 _ _,?_⟩;unfold Builtin.«dict.__init__»;refine KB ?_;unfold Builtin.Dict.selfAndRest;refine KB (ME tyd ?_);show KI _ _ (pure (s.heap.objs.size,[Value.ref src])) _ _ _;refine KD ?_
 show KI _ _ (Pe "dict.__init__" s.heap.objs.size (.ref src) [] .none) _ _ _
 unfold Pe;refine KB (Pf (T:=T) ⟨o,up _ _ e,c⟩ ?_);rw[if_pos hne];refine KB (hno _ _ _ up fun h' tk kp=>?_);simp only[Option.isNone_none,if_true];refine KB (NP ?_);refine KB (K9 (h h' tk (fun c o e=>kp c o (up c o e)) (kp _ _ hd)) (fun it s2 q=>KD ⟨plainId_quiet dL _,q⟩) fun _ _ q=>q)
section
variable{X:Cx}{pins:List (KE×Obj)}{τ:St}{H1:Hp}{s1:KF}{G1:Gp}
theorem v_{src:KE}{T:String}{kvs:List (List ar×D)}{Q:KC->KF->Prop}(hu:X.A.units+8 < Ly)(I1:L2.Inv X pins τ H1 s1)(rg1:RG X.K H1 G1)(hz:kvs.length<=900000)
  (hT:∃ o,s1.heap.get? src=some o/\o.cls=.type T) (hne:(Value.type T != Value.type "dict")=true)
  (hno:∀ (s':KF) (Q':Option KC->KF->Prop) (E':KC->KF->Prop),(∀ c o,s1.heap.get? c=some o->s'.heap.get? c=some o)->(∀ h' tk,(∀ c o,s'.heap.get? c=some o->h'.get? c=some o)->Q' none { s' with heap:=h',toks:=tk })->KI (KL X.prog X.w) X.A.in1.in1 (NM (.ref src) "keys") Q' E' s')
  (hit:∀ (h2:K1) (tk2:Nat) (Q':KC->KF->Prop) (E':KC->KF->Prop),(∀ c o,s1.heap.get? c=some o->h2.get? c=some o)->s1.heap.objs.size < h2.objs.size->
   (∀ it wr Pv St h3,PWalk X.prog X.w X.A.in1.in1 it wr kvs.length Pv St->St 0 h3->(∀ c o,h2.get? c=some o->h3.get? c=some o)->(∀ b∈wr,kO X pins H1 b/\b≠s1.heap.objs.size)->
    (∀ i k v,Pv i k v->∃ kv b x,kvs[i]?=some kv/\k=.ref b/\ij X.K H1 b (kv.1.map kV)/\RD X.K H1 kv.2 x/\RelV x v)->Q' (.ref it) { s1 with heap:=h3,toks:=tk2 })->
   KI (KL X.prog X.w) X.A.in1.in1 (Ni (.ref src)) Q' E' { s1 with heap:=h2,toks:=tk2 })
  (q:∀ s' H',L2.Inv X pins τ H' s'->H1 s1.heap.objs.size=none->Kp G1 H1 (gset G1 s1.heap.objs.size (.dT (ax X.prog X.w) (dictOf kvs))) H'->RG X.K H' (gset G1 s1.heap.objs.size (.dT (ax X.prog X.w) (dictOf kvs)))->Q (.ref s1.heap.objs.size) s'):
  KI (KL X.prog X.w) X.A (call (.type "dict") [.ref src]) Q X.xe s1:=by
 have hsl:=aq;have sle:=LB;refine Au hT hne hno fun h2 tk2 kp2 hd2=>?_;refine hit h2 tk2 _ _ kp2 (KN hd2) fun it wr Pv St h3 W st0 kp3 hwr hpv=>?_;have hf:H1 s1.heap.objs.size=none:=I1.hok.fresh (le_refl _);have hdw:s1.heap.objs.size∉wr:=fun z=>(hwr _ z).2 rfl;have ltk:∀ {b:KE} {ks:List ar},ij X.K H1 b (ks.map kV)->b∉wr/\b≠s1.heap.objs.size/\∀ h:K1,(∀ c o,c∉wr->c≠s1.heap.objs.size->s1.heap.get? c=some o->h.get? c=some o)->(LW (aK X.prog X.w)).is h ks b:=fun {b ks} sq=>by
  have key:=mQ I1 sq;obtain⟨o,its,n,e,c,dd,ii⟩:=id key;have hb1:b≠s1.heap.objs.size:=K_ (KN e);have hb2:b∉wr:=fun z=>by
   obtain⟨⟨g0,g1,g2,g3,g4,g5⟩,_⟩:=hwr b z;rcases sq with (e1|⟨o',e1⟩)|⟨o',its',n',kl,_⟩
   ·rw[g0]at e1;cases e1
   ·rw[g0]at e1;cases e1
   ·have e2:X.base.get? b=some o':=I1.mod.kin b o' kl;rcases g3 with g3|g3
    ·exact I1.ok.noex b o' e2 g3
    ·exact absurd (KN (I1.ok.bs b o' e2).1) (not_lt.mpr g3)
  exact⟨hb2,hb1,fun h kp=>⟨o,its,n,kp b o hb2 hb1 e,c,dd,ii⟩⟩
 have SO:∀ {i:Nat} {xs:List (List ar×KE×KC)},jM X.K H1 (dictOf (kvs.take i)) xs->xs.length<=i/\∀ x∈xs,ij X.K H1 x.2.1 (x.1.map kV):=fun {i xs} r=>by
  refine⟨?_,?_⟩
  ·rw[<- r.length];have:=lV (kvs.take i) [];rw[M8]at this;unfold dictOf;simp only[Lx]at this;omega
  ·unfold jM at r;generalize dictOf (kvs.take i)=ks at r
   induction r with
   | nil=>intro x hx;exact nomatch hx
   | @cons p q ps qs hq t ih=>
    intro x hx;rcases Le.mp hx with e|hx
    ·subst e;rw[<- hq.1];exact hq.2.1
    ·exact ih x hx
 refine AX (A:=X.A.in1) (h0:=s1.heap) (d:=s1.heap.objs.size) W (show X.A.units+1+1 < Ly by walk_at "o") hdw (by walk_at "o") (fun i xs=>jM X.K H1 (dictOf (kvs.take i)) xs) (fun i k v xs pv ac=>?_) (fun i xs ac=>?_) kvs.length 0 { s1 with heap:=h3,toks:=tk2 } [] (Nat.sub_zero _) (LG _) st0 (fun c o _ _ e=>kp3 c o (kp2 c o e)) ⟨_,#[],0,kp3 _ _ hd2,⟨rfl,rfl,rfl⟩,rfl,rfl,M7⟩ .nil fun h' tk ys k1 k2 dr ac=>?_
 ·obtain⟨kv,b,x,e,rfl,sq,rd,rv⟩:=hpv i k v pv;refine⟨kv.1,b,rfl,?_,(ltk sq).2.2⟩;show jM X.K H1 (dictOf (kvs.take (i+1))) _
  rw[wa e];exact jM.put ac kv.1 sq rd rv
 ·obtain⟨len,ks⟩:=SO ac;exact⟨len,fun x hx h kp=>(ltk (ks x hx)).2.2 h kp⟩
 ·rw[Nn]at ac;obtain⟨o,es,ep,e,r1,r2,r3,r4⟩:=dr;have hsm:(s1.heap.objs.size == Lw)=false:=beq_eq_false_iff_ne.mpr (Ne.symm (K_ I1.big));have fd:o.isFreed=false:=by
   obtain⟨c,dd,dt,sl⟩:=o;have r2':dt=.dict es ep:=r2;subst r2';rfl
  obtain⟨kpp,rg2⟩:=Ck (o:=.dT (ax X.prog X.w) (dictOf kvs)) (ho:=.ext (nL (ax X.prog X.w) s1.heap.objs.size ys)) rg1 hf fun H' st=>⟨ys,rfl,ac.mono st,ut kvs,by
   have:=lV kvs [];unfold dictOf;simp only[Lx]at this;omega⟩
  have I2:L2.Inv X pins τ (aI H1 s1.heap.objs.size (.ext (nL (ax X.prog X.w) s1.heap.objs.size ys))) { s1 with heap:=s1.heap.push o,toks:=s1.toks }:=
   I1.laid (fun _ _ q=>KG _ q) (le_refl _) (kM ⟨hsm,o,es,ep,KJ _ fd,r1,r2,r3⟩)
  have I3:=Inv.turnedL (s:={ s1 with heap:=s1.heap.push o,toks:=s1.toks }) (h':=h') (t':=tk) (fp:=wr) I2 (fun b o' hb qb=>by
   have qb':(s1.heap.push o).get? b=some o':=qb
   by_cases hbs:b=s1.heap.objs.size
   ·subst hbs;rw[KJ _ fd]at qb';cases qb';exact e
   ·rw[NG _ _ _ hbs]at qb';exact k1 b o' hb hbs qb') fun b hb=>by
   obtain⟨⟨g0,g1,g2,g3,g4,g5⟩,nb⟩:=hwr b hb;exact⟨by rw[aj nb];exact g0,g1,g2,g3,g4,g5⟩
  exact⟨rfl,q _ _ I3 hf kpp rg2⟩
end
end L3
namespace L2
open PySem PySem.Spec PyProof.Rows
theorem wR{prog:KQ}{w:K2}{A:KY}{it l:KE}{us:List KC}{Pv:Nat->KC->KC->Prop}(hh:A.handled=none):
  PWalk prog w A it [it] us.length Pv (fun i h=>h.IsListIter it l i/\h.IsList l us.toArray/\∀ j u,us[j]?=some u->∃ p kk vv,u=.ref p/\(∃ o m,h.get? p=some o/\o.cls=.type "tuple"/\o.data=.seq #[kk,vv] m)/\Pv j kk vv) where
 frame:=fun i h h' ⟨⟨o1,e1,c1,d1⟩,⟨o2,e2,c2,d2⟩,ps⟩ kp=>⟨⟨o1,kp _ _ (by rw[c1];decide) e1,c1,d1⟩,⟨o2,kp _ _ (by rw[c2];decide) e2,c2,d2⟩,fun j u hu=>by
  obtain⟨p,kk,vv,e,⟨o,m,g,c,dt⟩,pv⟩:=ps j u hu;exact⟨p,kk,vv,e,⟨o,m,kp _ _ (by rw[c];decide) g,c,dt⟩,pv⟩⟩
 item:=fun i s Q E hi ⟨x1,x2,ps⟩ q=>by
  have hu:us[i]?=some us[i]:=KW hi;obtain⟨p,kk,vv,e,tp,pv⟩:=ps i _ hu;refine Pg x1 x2 (x:=us[i]) (by simpa using hu) fun h' st' sb=>?_
  obtain⟨o1,e1,c1,_⟩:=x1;obtain⟨o2,e2,c2,_⟩:=id x2;have ne:∀ {b:KE} {o:Obj} {T:String},s.heap.get? b=some o->o.cls=.type T->Value.type T≠.type "list_iterator"->b≠it:=fun hb hc hT z=>by subst z;rw[e1]at hb;cases hb;rw[c1]at hc;exact hT hc.symm
  have lk:∀ {p:KE} {kk vv:KC},(∃ o m,s.heap.get? p=some o/\o.cls=.type "tuple"/\o.data=.seq #[kk,vv] m)->∃ o m,h'.get? p=some o/\o.cls=.type "tuple"/\o.data=.seq #[kk,vv] m:=fun⟨o,m,g,c,dt⟩=>⟨o,m,(sb.2 _ (ne g c (by decide))).trans g,c,dt⟩
  rw[e];refine q h' s.toks p kk vv pv (lk tp) ⟨st',x2.at fun o g=>(sb.2 l (ne e2 c2 (by decide))).trans g,fun j u hu=>?_⟩ fun c o hc g=>(sb.2 c (fun z=>hc (by simp[z]))).trans g
  obtain⟨p',k',v',e',tp',pv'⟩:=ps j u hu;exact⟨p',k',v',e',lk tp',pv'⟩
 done:=fun s Q E ⟨x1,x2,ps⟩ q=>Pt hh x1 x2 (by simp) fun h' eb=>q h' s.toks fun c o hc g=>eb c o (fun z=>hc (by simp[z])) g
theorem zl.wr{k1 k2:Zk}{z TI TO i1 i2:KE}{i:Nat}{h:K1}(x:zl k1 k2 z TI TO i1 i2 i h):∀ b∈[z,TI,TO,i1,i2],∃ o,h.get? b=some o/\o.cls≠.type "list"/\o.cls≠.type "dict":=by
 obtain⟨⟨f0,f1,_,hz⟩,hTI,⟨a,b',hTO⟩,h1,h2⟩:=x;have nd:∀ {k:Zk} {it:KE},k.it it i h->∃ o,h.get? it=some o/\o.cls≠.type "list"/\o.cls≠.type "dict":=fun {k it} y=>by
  cases k with
  | lst l xs=>
   obtain⟨o,e,c,_⟩:=y;exact⟨o,e,by rw[c];decide,by rw[c];decide⟩
  | txt z t=>
   obtain⟨o,e,c,_⟩:=y;refine⟨o,e,?_⟩;rw[c];rcases kj z with q|q<;>rw[q]<;>decide
 intro b hb;simp only[Le,Lg,or_false]at hb;rcases hb with rfl|rfl|rfl|rfl|rfl
 ·exact⟨_,hz,by show Value.type "zip"≠_;decide,by show Value.type "zip"≠_;decide⟩
 ·exact⟨_,hTI,by show Value.type "tuple"≠_;decide,by show Value.type "tuple"≠_;decide⟩
 ·exact⟨_,hTO,by show Value.type "tuple"≠_;decide,by show Value.type "tuple"≠_;decide⟩
 ·exact nd h1
 ·exact nd h2
theorem Zk.stay{k:Zk}{h h':K1}(r:k.ready h)(q:∀ c o,o.cls=.type "list"->h.get? c=some o->h'.get? c=some o):k.ready h':=by
 cases k with
 | lst l xs=>
  obtain⟨us,rv,o,e,c,d⟩:=r;exact⟨us,rv,o,q l o c e,c,d⟩
 | txt z t=>exact True.intro
theorem zN{prog:KQ}{w:K2}{A:KY}{k1 k2:Zk}{z TI TO i1 i2:KE}(hh:A.in1.handled=none)(D:ZAp z TI TO i1 i2):
  PWalk prog w A z [z,TI,TO,i1,i2] (min k1.vs.length k2.vs.length) (fun i k v=>∃ u x,k1.vs[i]?=some u/\k2.vs[i]?=some x/\RelV u k/\RelV x v) (fun i h=>zl k1 k2 z TI TO i1 i2 i h/\k1.ready h/\k2.ready h) where
 frame:=fun i h h' ⟨st,r1,r2⟩ kp=>⟨st.keep fun b hb o e=>by
  obtain⟨o',e',_,c⟩:=st.wr b hb;rw[e]at e';cases e';exact kp b o c e,Zk.stay r1 fun c o hc e=>kp c o (by rw[hc];decide) e,Zk.stay r2 fun c o hc e=>kp c o (by rw[hc];decide) e⟩
 item:=fun i s Q E hi ⟨st,r1,r2⟩ q=>by
  refine xM hh D st r1 r2 (by walk_at "o") (by walk_at "o") fun h' tk x y u v e1 e2 ru rv st' tp sz kp=>?_
  have ls:∀ c o,o.cls=.type "list"->s.heap.get? c=some o->h'.get? c=some o:=fun c o hc e=>kp c o (fun hb=>by
   obtain⟨o',e',c',_⟩:=st.wr c hb;rw[e]at e';cases e';exact c' hc) e
  exact q h' tk _ x y ⟨u,v,e1,e2,ru,rv⟩ ⟨_,_,tp,rfl,rfl⟩ ⟨st',Zk.stay r1 ls,Zk.stay r2 ls⟩ kp
 done:=fun s Q E ⟨st,r1,r2⟩ q=>AS hh D st r1 r2 rfl fun h' tk kp=>q h' tk kp
end L2
namespace L3
open PySem PySem.Spec PyProof.Rows L2
theorem sv:LM "dict"=some (.type "dict"):=by kernel_rfl
def xz(hw:List ar->Int)(te:aL):aL:=fun σ G Q=>te σ G fun x G1=>match sB G1 (val x) with
 | some ds=>∃ kvs:List (List ar×D),(ds=kvs.map vo/\kvs.length<=900000)/\∀ p,G1 p=none->Q (.ref p) (gset G1 p (.dT hw (dictOf kvs)))
 | none=>False
def xy(hw:List ar->Int)(ta:iF):aL:=fun σ G Q=>ta σ G fun ds G1=>match ds with
 | [x,y]=>∃ a b,∃ kvs:List (List ar×D),(fi x=some a/\fi y=some b/\nM a b=kvs.map vo/\kvs.length<=900000)/\∀ p,G1 p=none->Q (.ref p) (gset G1 p (.dT hw (dictOf kvs)))
 | _=>False
theorem E5{K:Nq}{H:Hp}{ks:List ar}{v:V}(r:RD K H (.tup (ks.map kD)) v):∃ b,v=.ref b/\ij K H b (ks.map kV):=lQ (d:=.tup (ks.map kD)) (yP ks) r
theorem DW{X:Cx}{e:K4}{te:aL}{p1 pos:Pos}(hu:X.A.units+8 < Ly)(hc:X.calm=true)(hg:Gl X "dict")(hm:X.mg "dict"=none)(he:PE X e (au X.K te))(hs:KO [e] X.env=[(false,eval e X.env)]:=by rfl):
  PE X (.Call (.Name "dict" p1) [e] [] pos) (au X.K (xz (ax X.prog X.w) te)):=by
 rintro pins s τ H Q I ⟨σ,G,Q3,rs,rg,h,k⟩
 refine PN (eV I hg hm sv (PyProof.Rows.callWith_type1 ?_ hs rfl) (by decide) (by decide))
 rw[show LN pos (KO [e] X.env)=[(false,eval e X.env)]by rw[hs];rfl]
 refine LZ (br (cQ he I rs rg h) fun ov s1 ⟨ox,H1,I1,rox,x,G1,q1,k1,rg1,rd1⟩=>Mm ?_);split at q1
 ·rename_i ds hq;obtain⟨kvs,⟨rfl,hz⟩,q1⟩:=q1;obtain⟨l,xs,rfl,sq,r⟩:=m5 (G:=G1) (H:=H1) hq (.of rd1) rg1;cases rox;obtain⟨its,rv,pl,_⟩:=I1.list sq;have n1:=r.length;have n2:=rv.length;rw[KP]at n1;obtain⟨lo,ln,le,lc,ld,ldat⟩:=id pl;have tps:∀ (j:Nat) u,its[j]?=some u->∃ p kk vv,u=.ref p/\(∃ o m,s1.heap.get? p=some o/\o.cls=.type "tuple"/\o.data=.seq #[kk,vv] m)/\∃ kv b x,kvs[j]?=some kv/\kk=.ref b/\ij X.K H1 b (kv.1.map kV)/\RD X.K H1 kv.2 x/\RelV x vv:=fun j u hu=>by
   obtain⟨v,e1,ru⟩:=Vals.getV rv hu;obtain⟨d,e2,rd⟩:=RDs.getV r e1;rw[K8]at e2;cases hkv:kvs[j]? with
   | none=>rw[hkv]at e2;cases e2
   | some kv=>
    rw[hkv]at e2;cases e2;unfold vo at rd;simp only[RD]at rd;obtain⟨p,ys,rfl,sqp,ry⟩:=rd;obtain⟨y1,y2,rfl,ra,rb⟩:=xQ ry;obtain⟨b,rfl,sb⟩:=E5 (ks:=kv.1) (by simpa only[RD]using ra)
    cases ru;obtain⟨its2,rv2,tp,_⟩:=I1.tuple sqp;obtain⟨o,g1,g2,m,g3⟩:=tp;obtain⟨w1,w2,rfl,rw1,rw2⟩:=rv2.two;cases rw1;exact⟨p,_,w2,rfl,⟨o,m,g1,g2,by simpa using g3⟩,kv,b,y2,rfl,rfl,sb,rb,rw2⟩
  refine v_ (T:="list") (kvs:=kvs) hu I1 rg1 hz ⟨lo,le,lc⟩ (by decide) (fun s' Q' E' kp q'=>?_) (fun h2 tk2 Q' E' kp hlt q'=>?_) fun s' H' I' hf kp rg'=>⟨.ref s1.heap.objs.size,H',I',rfl,k _ _ _ H' (q1 _ (rg1.free hf)) (k1.trans kp) rg' (.of d8)⟩
  ·obtain⟨c0,d0,t0,s0⟩:=lo;simp only at lc ld ldat;subst lc ld ldat;exact tQ (kp _ _ le) (I.ok.hd hc) q'
  ·refine Ow (pl.isList.at fun o e=>kp _ _ e) ?_;have hln:kvs.length=its.length:=n1.trans n2;have W:=wR (prog:=X.prog) (w:=X.w) (A:=X.A.in1.in1) (it:=h2.objs.size) (l:=l) (us:=its) (Pv:=fun (j:Nat) (kk vv:KC)=>∃ (kv:List ar×D) (b:KE) (x:V),kvs[j]?=some kv/\kk=Value.ref b/\ij X.K H1 b (kv.1.map kV)/\RD X.K H1 kv.2 x/\RelV x vv) (I.ok.hd hc);rw[<- hln]at W;refine q' h2.objs.size [h2.objs.size] _ _ _ W ⟨⟨_,KJ _ rfl,rfl,rfl⟩,(pl.isList.at fun o e=>kp _ _ e).push _,fun j u hu=>?_⟩ (fun c o e=>KG _ e) (fun b hb=>?_) fun i k v pv=>pv
   ·obtain⟨p,kk,vv,e,⟨o,m,g1,g2,g3⟩,pv⟩:=tps j u hu;exact⟨p,kk,vv,e,⟨o,m,KG _ (kp _ _ g1),g2,g3⟩,pv⟩
   ·have e:=mem_singleton.mp hb;subst e;exact⟨I1.fpOk (le_of_lt hlt) (I1.hok.fresh (le_of_lt hlt)),Nb hlt⟩
 ·exact q1.elim
theorem DV{X:Cx}{a b:K4}{ta:iF}{p1 p2 pos QF:Pos}(hu:X.A.units+8 < Ly)(hc:X.calm=true)(hg1:Gl X "dict")(hm1:X.mg "dict"=none)(hg2:Gl X "zip")(hm2:X.mg "zip"=none)(ha:PA X [a,b] (cT X.K ta))
  (hs:KO [a,b] X.env=[(false,eval a X.env),(false,eval b X.env)]:=by rfl) (hs2:KO [b] X.env=[(false,eval b X.env)]:=by rfl):
  PE X (.Call (.Name "dict" p1) [.Call (.Name "zip" p2) [a,b] [] QF] [] pos) (au X.K (xy (ax X.prog X.w) ta)):=by
 rintro pins s τ H Q I ⟨σ,G,Q3,rs,rg,h,k⟩
 refine PN (eV I hg1 hm1 sv (PyProof.Rows.callWith_type1 ?_ rfl rfl) (by decide) (by decide))
 show KI _ _ (spliced [(false,eval (.Call (.Name "zip" p2) [a,b] [] QF) X.env)]) _ _ _
 refine LZ (PN (eV I hg2 hm2 CK (PyProof.Rows.callWith_type1 (br (ha QF pins s τ H (fun vs H1=>∃ ds G1,(match ds with|[x,y]=>∃ a b,∃ kvs:List (List ar×D),(fi x=some a/\fi y=some b/\nM a b=kvs.map vo/\kvs.length<=900000)/\∀ p,G1 p=none->Q3 (.ref p) (gset G1 p (.dT (ax X.prog X.w) (dictOf kvs)))|_=>False)/\Kp G H G1 H1/\RG X.K H1 G1/\RDs X.K H1 ds vs) I
  ⟨σ,G,_,rs,rg,h,fun ds G1 vs H1 q k1 rg1 rds=>⟨ds,G1,q,k1,rg1,rds⟩⟩) fun us s1 ⟨vs,H1,I1,r1,q1⟩=>?_) (by rw[hs,hs2]) (by rw[hs2];rfl)) (by decide) (by decide)))
 obtain⟨ds,G1,q,k1,rg1,rds⟩:=q1;split at q
 ·rename_i x y;obtain⟨as,bs,kvs,⟨ea,eb,ez,hz⟩,q⟩:=q;obtain⟨v,v',rfl,rd1,rd2⟩:=xQ rds;obtain⟨u,u',rfl,ru1,ru2⟩:=r1.two;obtain⟨z1,rfl,t1,w1⟩:=EO ea rd1 ru1;obtain⟨z2,rfl,t2,w2⟩:=EO eb rd2 ru2;have n1:=t1.length;have n2:=t2.length;have hr1:=(w1 G1 G1 H1 rg1 Kp.refl).1;have hr2:=(w2 G1 G1 H1 rg1 Kp.refl).1;refine AB (Zk.of I1 hr1) (Zk.of I1 hr2) fun h' zs hsz kp=>Mm ?_;have I2:L2.Inv X pins τ H1 { s1 with heap:=h' }:=I1.kept (t':=s1.toks) kp
  have DZ:ZAp (s1.heap.objs.size+4) (s1.heap.objs.size+2) (s1.heap.objs.size+3) s1.heap.objs.size (s1.heap.objs.size+1):=⟨K_ (Nat.lt_succ_self (s1.heap.objs.size+2)),K_ (Nat.lt_succ_self s1.heap.objs.size)⟩;obtain⟨f0,f1,_,hzo⟩:=zs.1;have hlen:kvs.length=min z1.vs.length z2.vs.length:=by
   have:=nj as bs;rw[ez,KP]at this;omega
  refine v_ (s1:={ s1 with heap:=h' }) (T:="zip") (kvs:=kvs) hu I2 rg1 hz ⟨_,hzo,rfl⟩ (by decide) (fun s' Q' E' kp' q'=>vA (kp' _ _ hzo) (I.ok.hd hc) q') (fun h2 tk2 Q' E' kp2 hlt q'=>?_) fun s' H' I' hf kp' rg'=>⟨.ref h'.objs.size,H',I',rfl,k _ _ _ H' (q _ (rg1.free hf)) (k1.trans kp') rg' (.of d8)⟩
  have zs2:zl z1 z2 (s1.heap.objs.size+4) (s1.heap.objs.size+2) (s1.heap.objs.size+3) s1.heap.objs.size (s1.heap.objs.size+1) 0 h2:=zs.keep fun b _ o e=>kp2 b o e;refine (A0 (P:=X.prog) (w:=X.w) (K:=X.K) (tg:=.Name "" pos) z1 z2 _ _ _ _ _ DZ).self _ 0 { s1 with heap:=h2,toks:=tk2 } _ _ zs2 ?_
  have W:=zN (prog:=X.prog) (w:=X.w) (A:=X.A.in1.in1) (k1:=z1) (k2:=z2) (I.ok.hd hc) DZ;rw[<- hlen]at W;refine q' _ _ _ _ _ W ⟨zs2,Zk.grow (Zk.of I1 hr1) fun c o e=>kp2 c o (kp c o e),Zk.grow (Zk.of I1 hr2) fun c o e=>kp2 c o (kp c o e)⟩ (fun _ _ e=>e) (fun c hc=>?_) fun i kk vv pv=>?_
  ·have hc':s1.heap.objs.size<=c/\c≠s1.heap.objs.size+5:=by
    simp only[Le,Lg,or_false]at hc;rcases hc with rfl|rfl|rfl|rfl|rfl
    ·exact⟨Nat.le_add_right _ _,K_ (Nat.add_lt_add_left (by decide) _)⟩
    ·exact⟨Nat.le_add_right _ _,K_ (Nat.add_lt_add_left (by decide) _)⟩
    ·exact⟨Nat.le_add_right _ _,K_ (Nat.add_lt_add_left (by decide) _)⟩
    ·exact⟨le_refl _,K_ (Nat.lt_add_of_pos_right (by decide))⟩
    ·exact⟨Nat.le_add_right _ _,K_ (Nat.add_lt_add_left (by decide) _)⟩
   refine⟨I1.fpOk hc'.1 (I1.hok.fresh hc'.1),?_⟩;show c≠h'.objs.size
   rw[hsz];exact hc'.2
  ·obtain⟨u,x,e1,e2,ru,rx⟩:=pv;obtain⟨d1,g1,r1⟩:=RDs.getV t1 e1;obtain⟨d2,g2,r2⟩:=RDs.getV t2 e2;have e3:=uR g1 g2;rw[ez,K8]at e3;cases hkv:kvs[i]? with
   | none=>rw[hkv]at e3;cases e3
   | some kv=>
    rw[hkv]at e3;simp only[Option.map_some,Option.some.injEq,vo,D.tup.injEq,List.cons.injEq,and_true]at e3;obtain⟨rfl,rfl⟩:=e3;obtain⟨b,rfl,sb⟩:=E5 r1;cases ru;exact⟨kv,b,x,rfl,rfl,sb,r2,rx⟩
 ·exact q.elim
def qe(kv:List ar×D):D:=.tup (kv.1.map kD)
def Be(te:aL)(g:m6)(tb:bh):bh:=fun E σ G=>te σ G fun d G1=>match d with
 | .ref a=>∃ hw kvs,G1 a=some (.dT hw kvs)/\zn g tb { nx:=fun σ' G'=>E.nx σ' (gset G' a (.dT hw kvs)),rt:=fun _ _=>False } σ (kvs.map qe) (d_ G1 a)
 | _=>False
theorem Ak{prog:KQ}{w:K2}{A:KY}{E:KC->KF->Prop}{s:KF}{d:KE}{vs:List KC}{ep:Nat}{Q:KC->KF->Prop}(hd:(d == Lw)=false)(x:jN s.heap d vs ep)
  (q:Q (.ref s.heap.objs.size) { s with heap:=s.heap.push { cls:=.type "dict_keyiterator",data:=.fields #[.ref d,.int 0 0,.int vs.length 0,.int ep 0] } }):KI (KL prog w) A (Ni (.ref d)) Q E s:=by
 obtain⟨o,es,ho,hc,hdat,rfl⟩:=id x;refine MG x.ty PySem.F.slot_dict_iter (Lh PySem.F.slot_dict_iter x.ty PySem.F.entry_dict_iter ?_ (PySem.F.args_dict_iter_1 _));unfold Builtin.«dict.__iter__»;refine KB ?_;unfold Builtin.Dict.dictSlotNone;refine KB (ME x.ty ?_);show KI _ _ (pure (Value.ref d)) _ _ s;refine KD ?_
 show KI _ _ (LK d >>= _) _ _ s;unfold LK;rw[if_neg (by rw[hd];exact Bool.false_ne_true)]
 refine KB (KD ?_);refine KB (LH ho hdat ?_);refine KB (LU ho hdat ?_);refine KB (K6 (KD ⟨_,rfl,"dict_keyiterator",_,⟨_,KJ _ rfl,rfl⟩,PySem.F.slot_dict_keyiterator_next.lookup,?_⟩))
 simpa[LP]using q
theorem pD{K:Nq}{H:Hp}:∀ ks:List ar,RDs K H (ks.map kD) (ks.map kV)
 | []=>RDs.nil
 | .inl i::r=>RDs.cons bQ (pD r)
 | .inr x::r=>RDs.cons h8 (pD r)
theorem jM.at{K:Nq}{H:Hp}{kvs:List (List ar×D)}{xs:List (List ar×KE×KC)}(r:jM K H kvs xs):∀ {i:Nat} {kv:List ar×D},kvs[i]?=some kv->∃ x,xs[i]?=some x/\RD K H (qe kv) (.ref x.2.1):=by
 unfold jM at r
 induction r with
 | nil=>intro i kv h;simp at h
 | @cons p q ps qs hq t ih=>
  intro i kv h;cases i with
  | zero=>
   simp only[Mf,Option.some.injEq]at h;subst h;refine⟨q,rfl,?_⟩;unfold qe;simp only[RD];exact⟨q.2.1,_,rfl,hq.2.1,pD _⟩
  | succ i=>
   simp only[LY]at h ⊢;exact ih h
abbrev EX(a:KE)(o:Obj):HO:=.ext fun h=>h.get? a=some o
theorem HR{P:KQ}{w:K2}{H:Hp}{h:K1}{a:KE}{o:Obj}(e:h.get? a=some o):ba P w H h a (EX a o):=⟨e,⟨o,e⟩,fun _ _ q k=>k o q⟩
theorem FC{X:Cx}{tg iter:K4}{body:List Lf}{te:aL}{g:m6}{tb:bh}{pos:Pos}(hp:Oj (KL X.prog X.w) X.A X.env X.xe)(hc:X.calm=true)(hi:PE X iter (au X.K te))(hg:PG X tg (fF X.K g))(hb:fh X body (aZ X.K tb))
  (hs:∀ x,LI iter X.env x=pure x:=by intro _;rfl):PS X (.For tg iter body [] pos) (aZ X.K (Be te g tb)):=by
 rintro pins s τ H Dd I ⟨σ,G,D3,rs,rg,h,k⟩
 refine wpAny_For (br (cQ hi I rs rg h) fun v s1 ⟨ox,H1,I1,rox,d,G1,q1,k1,rg1,rd1⟩=>?_) hs;cases d with
 | ref a=>
  obtain⟨hw,kvs,hga,Pv,p0,step,fin⟩:=q1;simp only[val,RD]at rd1;subst rd1;cases rox;obtain⟨hob,eo,ro⟩:=rg1 a _ hga;cases hob with
  | ext φ=>
   obtain⟨xs,rfl,rt,nd,len⟩:=ro;obtain⟨hsm,o1,es,ep,g1,g2,g3,g4⟩:=(show ba X.prog X.w H1 s1.heap a (.ext (nL hw a xs))from I1.hok a _ eo).1
   have raw:∀ {h:K1},h.get? a=some o1->jN h a (xs.map fun x=>Value.ref x.2.1) ep:=fun e=>⟨o1,es,e,g2,g3,by rw[g4,LL];rfl⟩
   have lx:=rt.length;refine Ak hsm (raw g1) ?_;have hita:a≠s1.heap.objs.size:=K_ (KN g1);have kpA:Kp G1 H1 (d_ G1 a) (aI H1 a (EX a o1)):=fun b u e n=>by
    have hb:b≠a:=fun z=>by subst z;rw[hga]at n;cases n
    exact⟨by rw[aj hb];exact e,by rw[c8 hb];exact n⟩
   have rg2:RG X.K (aI H1 a (EX a o1)) (d_ G1 a):=fun b u e=>by
    have hb:b≠a:=fun z=>by subst z;rw[c7]at e;cases e
    rw[c8 hb]at e;obtain⟨ho,e1,r1⟩:=rg1 b u e;exact⟨ho,by rw[aj hb];exact e1,r1.mono (kpA.stb rg1)⟩
   have I1':L2.Inv X pins τ (aI H1 a (EX a o1)) { s1 with heap:=s1.heap,toks:=s1.toks }:=I1.write (x:=a) (e:=a) (by rw[eo];exact True.intro) (.inl rfl) (fun _ _ _ q=>q) ⟨o1,g1⟩ (HR g1)
   have I2:L2.Inv X pins τ (aI H1 a (EX a o1)) { s1 with heap:=s1.heap.push { cls:=.type "dict_keyiterator",data:=.fields #[.ref a,.int 0 0,.int (xs.map fun x=>Value.ref x.2.1).length 0,.int ep 0] } }:=I1'.kept (t':=s1.toks) fun _ _ q=>KG _ q
   have fit:kO X pins (aI H1 a (EX a o1)) s1.heap.objs.size:=I1.fpOk (le_refl _) (by rw[aj hita.symm];exact I1.hok.fresh (le_refl _))
   have back:∀ {τ':St} {H':Hp} {G':Gp} {σ':cL} {s':KF},L2.Inv X pins τ' H' s'->Kp (d_ G1 a) (aI H1 a (EX a o1)) G' H'->RS X.K H' σ' τ'->RG X.K H' G'->D3.nx σ' (gset G' a (.dT hw kvs))->∃ τ'' H'',L2.Inv X pins τ'' H'' s'/\Dd.nx τ'' H'':=fun {τ' H' G' σ' s'} I' kk rs' rg' q=>by
    obtain⟨e1,e2⟩:=kk a _ ay c7;have e3:s'.heap.get? a=some o1:=(show ba X.prog X.w H' s'.heap a (EX a o1)from I'.hok a _ e1).1
    have I'':L2.Inv X pins τ' (aI H' a (.ext (nL hw a xs))) { s' with heap:=s'.heap,toks:=s'.toks }:=I'.write (x:=a) (e:=a) (by rw[e1];exact True.intro) (.inl rfl) (fun _ _ _ q=>q) ⟨o1,e3⟩ (kM ⟨hsm,o1,es,ep,e3,g2,g3,g4⟩)
    have st1:=(kpA.stb rg1);have st2:=(kk.stb rg2);have st3:Stb X.K H' (aI H' a (.ext (nL hw a xs))):=⟨fun b ys y=>by
     rcases y with (y|⟨o',y⟩)|y
     ·exact .inl (.inl (by rw[aj (fun z=>by rw[z,e1]at y;cases y)];exact y))
     ·exact .inl (.inr ⟨o',by rw[aj (fun z=>by rw[z,e1]at y;cases y)];exact y⟩)
     ·exact .inr y,fun b ys y=>by
     rcases y with ⟨o',y⟩|y
     ·exact .inl ⟨o',by rw[aj (fun z=>by rw[z,e1]at y;cases y)];exact y⟩
     ·exact .inr y⟩
    have rg3:RG X.K (aI H' a (.ext (nL hw a xs))) (gset G' a (.dT hw kvs)):=fun b u e=>by
     by_cases hb:b=a
     ·subst hb;rw[ai]at e;cases e;exact⟨_,ay,xs,rfl,((rt.mono st1).mono st2).mono st3,nd,len⟩
     ·rw[af hb]at e;obtain⟨ho,e4,r4⟩:=rg' b u e;exact⟨ho,by rw[aj hb];exact e4,r4.mono st3⟩
    have kpC:Kp G H (gset G' a (.dT hw kvs)) (aI H' a (.ext (nL hw a xs))):=fun b u e n=>by
     obtain⟨e4,n4⟩:=k1 b u e n;have hb:b≠a:=fun z=>by subst z;rw[hga]at n4;cases n4
     obtain⟨e5,n5⟩:=kk b u (by rw[aj hb];exact e4) (by rw[c8 hb];exact n4)
     exact⟨by rw[aj hb];exact e5,by rw[af hb];exact n5⟩
    exact⟨τ',_,I'',k.nx σ' _ τ' _ q kpC rg3 (rs'.mono st3)⟩
   refine PU (fun n s'=>∃ i σ' τ' G' H',L2.Inv X pins τ' H' s'/\s'.heap.IsKeyIter s1.heap.objs.size a i (xs.map fun x=>Value.ref x.2.1).length ep/\H' s1.heap.objs.size=none/\RS X.K H' σ' τ'/\RG X.K H' G'/\Pv i σ' G'/\Kp (d_ G1 a) (aI H1 a (EX a o1)) G' H'/\i<=kvs.length/\n=kvs.length - i) ?_ kvs.length
    ⟨0,σ,τ,d_ G1 a,_,I2,⟨_,KJ _ rfl,rfl,rfl⟩,fit.1,rs.mono ((k1.trans kpA).stb rg),rg2,p0,Kp.refl,LG _,rfl⟩
   rintro n s3 ⟨i,σ3,τ3,G3,H3,I3,ki,fr3,rs3,rg3,pv,kk,hil,rfl⟩
   obtain⟨e1,e2⟩:=kk a _ ay c7;have e3:s3.heap.get? a=some o1:=(show ba X.prog X.w H3 s3.heap a (EX a o1)from I3.hok a _ e1).1
   by_cases hlt:i < kvs.length
   ·obtain⟨x,hx,rd⟩:=((rt.mono (kpA.stb rg1)).mono (kk.stb rg2)).at (KW hlt);refine LD hp (vc ki (raw e3) (v:=.ref x.2.1) (by rw[K8,hx];rfl) fun h4 ki4 sb=>?_)
    have I4:L2.Inv X pins τ3 H3 { s3 with heap:=h4,toks:=s3.toks }:=I3.turned (fun b o hb e=>(sb.2 b hb).trans e) fr3 fit.2.1 fit.2.2.2.1 fit.2.2.2.2.1 fit.2.2.2.2.2
    obtain⟨oi,ei,ci,di⟩:=id ki4;refine LD hp (vY (s:={ s3 with heap:=h4 }) ei ci di (by decide) ?_)
    have I4':=I4.pinned (fp:=[s1.heap.objs.size]) (fun b hb=>by rw[mem_singleton.mp hb];exact⟨fr3,fit.2⟩) fun b hb=>by rw[mem_singleton.mp hb];exact⟨oi,ei,fun v z=>by rw[di]at z;cases z⟩
    refine LD hp (br (hg _ _ τ3 H3 (.ref x.2.1) (.ref x.2.1) (fun τ2 H2=>aZ X.K tb { nx:=fun τ' H'=>∃ σ' G',RS X.K H' σ' τ'/\RG X.K H' G'/\Pv (i+1) σ' G'/\Kp (d_ G1 a) (aI H1 a (EX a o1)) G' H',ct:=fun τ' H'=>∃ σ' G',RS X.K H' σ' τ'/\RG X.K H' G'/\Pv (i+1) σ' G'/\Kp (d_ G1 a) (aI H1 a (EX a o1)) G' H',bk:=fun τ' H'=>∃ σ' G',RS X.K H' σ' τ'/\RG X.K H' G'/\D3.nx σ' (gset G' a (.dT hw kvs))/\Kp (d_ G1 a) (aI H1 a (EX a o1)) G' H',rt:=fun _ _=>False } τ2 H2) I4' rfl
     ⟨qe kvs[i],σ3,G3,_,rd,rs3,rg3,step i _ σ3 G3 (by rw[K8,KW hlt];rfl) pv,fun σ5 G5 τ5 H5 q5 k5 rg5 rs5=>⟨σ5,G5,_,rs5,rg5,q5,⟨fun σ6 G6 τ6 H6 q6 k6 rg6 rs6=>⟨σ6,G6,rs6,rg6,q6,kk.trans (k5.trans k6)⟩,fun _ _ _ _ q _ _ _=>q.elim,fun σ6 G6 τ6 H6 q6 k6 rg6 rs6=>⟨σ6,G6,rs6,rg6,q6,kk.trans (k5.trans k6)⟩,fun σ6 G6 τ6 H6 q6 k6 rg6 rs6=>⟨σ6,G6,rs6,rg6,q6,kk.trans (k5.trans k6)⟩⟩⟩⟩) fun _ s6 ⟨σ6,H6,I6,q6⟩=>?_)
    refine LD hp (br (hb _ s6 σ6 H6 _ I6 q6) fun f s7 q7=>?_);have again:∀ {τ7:St} {H7:Hp},L2.Inv X (pins ++ mE [s1.heap.objs.size] h4) τ7 H7 s7->(∃ σ' G',RS X.K H7 σ' τ7/\RG X.K H7 G'/\Pv (i+1) σ' G'/\Kp (d_ G1 a) (aI H1 a (EX a o1)) G' H7)->∃ m,m < kvs.length - i/\∃ i σ' τ' G' H',L2.Inv X pins τ' H' s7/\s7.heap.IsKeyIter s1.heap.objs.size a i (xs.map fun x=>Value.ref x.2.1).length ep/\H' s1.heap.objs.size=none/\RS X.K H' σ' τ'/\RG X.K H' G'/\Pv i σ' G'/\Kp (d_ G1 a) (aI H1 a (EX a o1)) G' H'/\i<=kvs.length/\m=kvs.length - i:=fun {τ7 H7} I7 ⟨σ7,G7,rs7,rg7,pv7,k7⟩=>by
     have pin:=I7.pin (s1.heap.objs.size,oi) (Lr _ (Lr _ (fE (by simp) ei)))
     exact⟨kvs.length - (i+1),by walk_at "o",i+1,σ7,τ7,G7,H7,I7.unpinned,⟨oi,pin.1,ci,di⟩,pin.2.1,rs7,rg7,pv7,k7,hlt,rfl⟩
    cases f with
    | next=>obtain⟨σ7,H7,I7,n7⟩:=q7;exact again I7 n7
    | cont=>obtain⟨σ7,H7,I7,n7⟩:=q7;exact again I7 n7
    | brk=>
     obtain⟨σ7,H7,I7,σ8,G8,rs8,rg8,q8,k8⟩:=q7;exact back I7.unpinned k8 rs8 rg8 q8
    | ret v=>obtain⟨x7,σ7,H7,I7,r7,q7⟩:=q7;exact q7.elim
   ·have ei:i=kvs.length:=by walk_at "o"
    subst ei;refine LD hp (xY (I.ok.hd hc) ki (raw e3) (by rw[K8,Mc (by walk_at "o")];rfl) fun h4 eb=>MB ?_)
    have I4:L2.Inv X pins τ3 H3 { s3 with heap:=h4,toks:=s3.toks }:=I3.turned (fun b o hb e=>eb b o hb e) fr3 fit.2.1 fit.2.2.2.1 fit.2.2.2.2.1 fit.2.2.2.2.2
    exact back I4 kk rs3 rg3 (fin σ3 G3 (by rw[KP];exact pv))
  | _=>exact ro.elim
 | _=>exact q1.elim
open HT PySem.SeqAt
def HU(te:aL)(tl th ts:GC):aL:=fun σ G Q=>te σ G fun x G1=>tl σ G1 fun l G2=>th σ G2 fun u G3=>ts σ G3 fun st G4=>match x with
 | .tup ds=>(l=none/\u=none/\st=some (-1))/\Q (.tup ds.reverse) G4
 | _=>False
def Es(to:aL)(ta:iF):aL:=fun σ G Q=>to σ G fun x G1=>match x with
 | .tup ds=>ta σ G1 fun es G2=>match es with
  | [y]=>(pl 7 y/\(∀ d∈ds,pl 7 d)/\y∈ds)/\Q (.int (Cg y ds)) G2
  | _=>False
 | _=>False
section
variable{K:Nq}{H:Hp}
theorem Aq{G:Gp}{a:KE}{o:GO}(h:G a=some o):gset G a o=G:=by
 funext b;unfold gset;split
 ·rename_i e;rw[e,h]
 ·rfl
end
def GI(a:KE)(k:Nat)(g:m6)(tt:iJ)(te:aL)(σ:cL)(ds:List D)(G1:Gp)(Q:fK):Prop:=ds.length<=KM/\∃ Pv:Nat->List D->Gp->Prop,Pv 0 [] G1/\(∀ i acc G',Pv i acc G'->G' a=some (.lst ds))/\
 (∀ (i:Nat) d acc G',ds[i]?=some d->Pv i acc G'->g d (List.replicate k none ++ σ) G' fun σ2 G2=>(k<=σ2.length/\σ2.drop k=σ)/\tt σ2 G2 fun b G3=>if b=true then te σ2 G3 fun y G4=>Pv (i+1) (acc ++ [val y]) G4 else Pv (i+1) acc G3)/\
 ∀ acc G',Pv ds.length acc G'->Q (.fl acc) G'
def jd(k:Nat)(tl:aL)(g:m6)(tt:iJ)(te:aL):aL:=fun σ G Q=>tl σ G fun d G1=>match d with
 | .ref a=>∃ ds,G1 a=some (.lst ds)/\GI a k g tt te σ ds G1 Q
 | d=>match dQ d with
  | some ds=>jo k g tt te σ ds G1 Q
  | none=>False
section
variable{X:Cx}{elt tg iter:K4}{ifs:List K4}{scope:MX}{T M:List Str}{pos:Pos}{tl:aL}{g:m6}{tt:iJ}{te:aL}
theorem fg{K:Nq}{τ:St}{σ:cL}{G G1:Gp}{H H1:Hp}{Q:VK}{Q3:fK}{ds:List D}{J:It}{Pv:Nat->List D->Gp->Prop}(rs:RS K H σ τ)(rg:RG K H G)(k:∀ d G' v H',Q3 d G'->Kp G H G' H'->RG K H' G'->RE K G H G' H' d v->Q v H')(k1:Kp G H G1 H1)(rg1:RG K H1 G1)
  (p0:Pv 0 [] G1) (it:∀ i acc G' H',Pv i acc G'->Kp G1 H1 G' H'->RG K H' G'->(i < ds.length->J.go i H'/\∀ x H2,J.yld i H' x H2->Kp G' H' G' H2/\RG K H2 G'/\∃ d,ds[i]?=some d/\RD K H2 d x)/\(i=ds.length->J.stop i H'))
  (step:∀ (i:Nat) d acc G',ds[i]?=some d->Pv i acc G'->g d (List.replicate T.length none ++ σ) G' fun σ2 G2=>(T.length<=σ2.length/\σ2.drop T.length=σ)/\tt σ2 G2 fun b G3=>if b=true then te σ2 G3 fun y G4=>Pv (i+1) (acc ++ [val y]) G4 else Pv (i+1) acc G3)
  (fin:∀ acc G',Pv ds.length acc G'->Q3 (.fl acc) G') (hsz:ds.length<=KM):
  ∀ Da,H1 Da=none->∃ W:Nat->Nat->List V->St->Hp->Prop,(∃ m,W 0 m [] (ent T τ) (aI H1 Da (.lst [])))/\
   ∀ i m ys σ1 H2,W i m ys σ1 H2->H2 Da=some (.lst ys)/\((J.stop i H2/\Q (.ref Da) H2)\/(J.go i H2/\∃ N:List V->St->Hp->Prop,(∀ ys' σ' H',N ys' σ' H'->∃ m',m' < m/\W (i+1) m' ys' σ' H')/\
    ∀ x H',J.yld i H2 x H'->fF K g x σ1 H' fun σ2 H3=>bu K tt σ2 H3 fun b H4=>if b=true then p7 K te σ2 H4 fun y H5=>H5 Da=some (.lst ys)/\ys.length < KM/\N (ys ++ [y]) σ2 (aI H5 Da (.lst (ys ++ [y])))else N ys σ2 H4)):=by
 intro Da hD;have kD:Kp G1 H1 G1 (aI H1 Da (.lst [])):=Kp.laid hD;have rgD:RG K (aI H1 Da (.lst [])) G1:=rg1.laid hD;have gD:G1 Da=none:=rg1.free hD;refine⟨fun i m ys τ2 H2=>m=ds.length - i/\i<=ds.length/\∃ acc G2,H2 Da=some (.lst ys)/\G2 Da=none/\RG K H2 G2/\RS K H2 (List.replicate T.length none ++ σ) τ2/\RDs K H2 acc ys/\acc.length<=i/\Pv i acc G2/\(∀ a h,a≠Da->H1 a=some h->G1 a=none->H2 a=some h/\G2 a=none),
  ⟨ds.length,rfl,LG _,[],G1,ay,gD,rgD,Bh T (rs.mono ((k1.trans kD).stb rg)),RDs.nil,le_refl _,p0,fun a h ha e n=>⟨by rw[aj ha];exact e,n⟩⟩,?_⟩
 rintro i m ys τ2 H2 ⟨rfl,hi',acc,G2,eD,nD,rg2,rs2,ra,la,pv,k2⟩
 have k2':Kp G1 H1 G2 H2:=fun a h e n=>k2 a h (bf e hD) e n;refine⟨eD,?_⟩;obtain⟨hgo,hstop⟩:=it i acc G2 H2 pv k2' rg2
 by_cases hlt:i < ds.length
 ·obtain⟨go,yld⟩:=hgo hlt;refine .inr ⟨go,fun ys' τ' H'=>∃ acc G',H' Da=some (.lst ys')/\G' Da=none/\RG K H' G'/\RS K H' (List.replicate T.length none ++ σ) τ'/\RDs K H' acc ys'/\acc.length<=i+1/\Pv (i+1) acc G'/\(∀ a h,a≠Da->H1 a=some h->G1 a=none->H' a=some h/\G' a=none),
   fun ys' τ' H' q'=>⟨ds.length - (i+1),by walk_at "o",rfl,hlt,q'⟩,fun x H3 y=>?_⟩
  obtain⟨ky,rgy,d,hd,rd⟩:=yld x H3 y;refine⟨d,List.replicate T.length none ++ σ,G2,_,rd,rs2.mono (ky.stb rg2),rgy,step i d acc G2 hd pv,fun σ4 G4 τ4 H4 q4 k4 rg4 rs4=>?_⟩;obtain⟨⟨hlen,hdrop⟩,q4⟩:=q4;have rs4':RS K H4 (List.replicate T.length none ++ σ) τ4:=by
   have:=mq T.length hlen rs4;rw[hdrop]at this;exact this
  refine⟨σ4,G4,_,rs4,rg4,q4,fun b G5 H5 q5 k5 rg5=>?_⟩;have e3:H3 Da=some (.lst ys):=(ky Da _ eD nD).1;have e4:=k4 Da _ e3 nD;have e5:=k5 Da _ e4.1 e4.2;have kk:∀ {G6:Gp} {H6:Hp},Kp G5 H5 G6 H6->∀ a h,a≠Da->H1 a=some h->G1 a=none->H6 a=some h/\G6 a=none:=fun k6 a h ha e n=>((((Kp.trans k2' ky).trans k4).trans k5).trans k6) a h e n;cases b with
  | false=>
   refine iteF ⟨acc,G5,e5.1,e5.2,rg5,rs4'.mono (k5.stb rg4),RDs.mono (((ky.trans k4).trans k5).stb rg2) _ _ ra,by walk_at "o",q5,kk Kp.refl⟩
  | true=>
   refine iteT ⟨σ4,G5,_,rs4.mono (k5.stb rg4),rg5,q5,fun yv G6 v H6 q6 k6 rg6 rd6=>?_⟩;have e6:=k6 Da _ e5.1 e5.2;have la':=ra.length;have st:Stb K H6 (aI H6 Da (.lst (ys ++ [v]))):=by
    constructor
    ·intro a zs q;rcases q with (q|⟨o,q⟩)|q
     ·exact .inl (.inl (by rw[aj (fun z=>by subst z;rw[e6.1]at q;cases q)];exact q))
     ·exact .inl (.inr ⟨o,by rw[aj (fun z=>by subst z;rw[e6.1]at q;cases q)];exact q⟩)
     ·exact .inr q
    ·intro a zs q;rcases q with ⟨o,q⟩|q
     ·exact .inl ⟨o,by rw[aj (fun z=>by subst z;rw[e6.1]at q;cases q)];exact q⟩
     ·exact .inr q
   refine⟨e6.1,by walk_at "o",acc ++ [val yv],G6,ay,e6.2,fun a o q=>?_,(rs4'.mono ((k5.trans k6).stb rg4)).mono st,?_,by simp;omega,q6,fun a h ha e n=>?_⟩
   ·obtain⟨h',q1,q2⟩:=rg6 a o q;exact⟨h',by rw[aj (fun z=>by subst z;rw[e6.2]at q;cases q)];exact q1,q2.mono st⟩
   ·exact RDs.append (RDs.mono st _ _ (RDs.mono ((((ky.trans k4).trans k5).trans k6).stb rg2) _ _ ra)) (RDs.cons (RD.mono st _ _ rd6) RDs.nil)
   ·rw[aj ha];exact kk k6 a h ha e n
 ·have e:i=ds.length:=by walk_at "o"
  refine .inl ⟨hstop e,k _ G2 _ H2 (fin acc G2 (by rw[<- e];exact pv)) (k1.trans k2') rg2 (.inl ⟨acc,Da,ys,rfl,rfl,eD,nD,ra,?_⟩)⟩
  exact k1.fr (oO hD)
def HK(K:Nq)(te:aL):TI:=fun τ H R=>∃ σ G Q3,RS K H σ τ/\RG K H G/\te σ G Q3/\∀ d G1 H1,Q3 d G1->Kp G H G1 H1->RG K H1 G1->match d with
  | .ref a=>(∃ ds,G1 a=some (.lst ds))/\R (IJ K a) H1
  | d=>∃ ds,dQ d=some ds/\∀ J,uG K G1 H1 ds J->R J H1
theorem DM{e:K4}{te:aL}(h:PE X e (au X.K te)):PI X tg e (HK X.K te):=yD h
theorem xB{K:Nq}{τ:St}{H:Hp}{Q:VK}(h:au K (jd T.length tl g tt te) τ H Q):uZ (ent T) (HK K tl) (fF K g) (bu K tt) (p7 K te) τ H Q:=by
 obtain⟨σ,G,Q3,rs,rg,h,k⟩:=h;refine⟨σ,G,_,rs,rg,h,fun d G1 H1 q k1 rg1=>?_⟩;cases d with
 | ref a=>
  obtain⟨ds,hg,hsz,Pv,p0,live,step,fin⟩:=q;refine⟨⟨ds,hg⟩,fg rs rg k k1 rg1 p0 (fun i acc G' H' pv k' rg'=>?_) step fin hsz⟩;obtain⟨xs,e1,r⟩:=pZ rg' (live i acc G' pv);have hl:=r.length;refine⟨fun hi=>⟨⟨xs,xs[i]'(by walk_at "o"),fV.of e1,by simp[show i < xs.length by walk_at "o"]⟩,fun x H2 y=>?_⟩,fun e=>⟨xs,fV.of e1,by walk_at "o"⟩⟩
  obtain⟨rfl,hx⟩:=y;refine⟨Kp.refl,rg',ds[i],by simp[hi],?_⟩
  obtain⟨y,e,q⟩:=r.get (i:=i) (d:=ds[i]) (by simp[hi])
  rw[hx xs (fV.of e1)]at e;cases e;exact q
 | lst ds=>
  obtain⟨hsz,Pv,p0,step,fin⟩:=q;exact⟨_,rfl,fun J it=>fg rs rg k k1 rg1 p0 (fun i acc G' H' _ k' rg'=>it i G' H' k' rg') step fin hsz⟩
 | fl ds=>
  obtain⟨hsz,Pv,p0,step,fin⟩:=q;exact⟨_,rfl,fun J it=>fg rs rg k k1 rg1 p0 (fun i acc G' H' _ k' rg'=>it i G' H' k' rg') step fin hsz⟩
 | tup ds=>
  obtain⟨hsz,Pv,p0,step,fin⟩:=q;exact⟨_,rfl,fun J it=>fg rs rg k k1 rg1 p0 (fun i acc G' H' _ k' rg'=>it i G' H' k' rg') step fin hsz⟩
 | str z=>
  obtain⟨hsz,Pv,p0,step,fin⟩:=q;exact⟨_,rfl,fun J it=>fg rs rg k k1 rg1 p0 (fun i acc G' H' _ k' rg'=>it i G' H' k' rg') step fin hsz⟩
 | _=>exact q.elim
theorem oM(ok:CompOk X scope T M)
  (hin:∀ cl C s₀ H₀ fp,PG (aV X (T ++ M) scope cl C s₀ H₀ fp) tg (fF X.K g)/\CT (aV X (T ++ M) scope cl C s₀ H₀ fp) ifs (bu X.K tt)/\PE (aV X (T ++ M) scope cl C s₀ H₀ fp) elt (au X.K te))
  (hi:PE X iter (au X.K tl)) (hs:∀ x,LI iter X.env x=pure x:=by intro _;rfl):PE X (.ListComp elt [⟨tg,iter,ifs,0⟩] scope pos) (au X.K (jd T.length tl g tt te)):=
 (yF ok (fun cl C s₀ H₀ fp=>let ⟨a,b,c⟩:=hin cl C s₀ H₀ fp;⟨a,b,cH c⟩) (DM hi) hs).imp fun _ _ _ h=>xB h
end
open PySem.W
abbrev ig(C t:KE):Obj:={ cls:=.ref C,data:=.fields #[.ref t,.none,.none,.none,.bool false,.none] }
abbrev fb(h:K1)(C:KE)(bP:List KC):K1:=(h.push { cls:=.type "tuple",data:=.seq bP.toArray }).push (ig C h.objs.size)
section
variable{prog:KQ}{w:K2}{A:KY}{K:Nq}{h:K1}{g:Array GenState}{d:Drawn}{t:Nat}{os:OsState}{R:NW->KF->Prop}
variable{nm q:Str}{C N fI:KE}{bs bm bmB:List KC}{hdct:Bool}{sn:List Str}{sub:List KC}{ab:Bool}{col:Option Bool}{dd:Option KE}{k0 k1 k2 k3 k5:Option KC}{B newId Sc:String}{bP:List KC}
theorem Eo(F:ExcBaseFacts B newId Sc bmB)(T:OwnTail h bmB bm)(hC:h.get? C=some (PF nm q C N bs bm hdct sn sub ab col dd k0 k1 k2 k3 k5 newId))(X:K.In h)
  (hi:Oc K (.ref C) "__init__"=some (some (.ref fI))) (hf:typeIn K (.ref fI)=some (.type "function")) (QX:bP.length<=KM)
  (hq:Ml (KL prog w) (A.under (.builtin "type.__call__" ⟨.ref C::bP,[]⟩)) (.call (.ref fI) ⟨.ref (h.objs.size+1)::bP,[]⟩) (InitBack (h.objs.size+1) R) ⟨fb h C bP,g,d,t,os⟩):
  Ml (KL prog w) A (.call (.ref C) ⟨bP,[]⟩) R ⟨h,g,d,t,os⟩:=by
 have f1:=tc_lookup;have f2:=tc_bind (.ref C);have hT:(⟨h,g,d,t,os⟩:KF).TypeIs (.ref C) "type":=⟨_,hC,rfl⟩;refine codeAny_of_tree ?_;show KI _ _ (callAny (.ref C) _) _ _ _
 repeat (any_goals (first|assumption|with_reducible refine NB hC ?_|wp_step))
 refine⟨rfl,?_⟩;refine codeAny_call_builtin_at (Qi _ (by decide +kernel)) entry_typeCall (wpAny_check_type_call_sub hC ?_)
 repeat (first|with_reducible refine NB hC ?_|with_reducible refine wpAny_madeBy_exc hC ?_|wp_step)
 refine codeAny_call_builtin_code (Qi _ F.quiet) (wpAny_check_new_subT F T hC ?_);refine codeAny_exc_new_subT F T hC ?_ QX;show KI (KL prog w) (A.under (.builtin "type.__call__" ⟨.ref C::bP,[]⟩)) _ _ _ ⟨fb h C bP,g,d,t,os⟩
 have k:∀ b o,h.get? b=some o->(fb h C bP).get? b=some o:=fun b o e=>KG _ (KG _ e);have hx:(fb h C bP).get? (h.objs.size+1)=some (ig C h.objs.size):=by heap_get
 have hC1:=k _ _ hC;have hcC:(Value.ref C::bm).contains (.ref C)=true:=by simp
 have i1:OT (KL prog w) (fb h C bP) (NR (.ref C) "__init__") (some (.ref fI)):=(Oy X hi).keeps k;have b1:OT (KL prog w) (fb h C bP) (bindSpecial (.ref fI) (.ref (h.objs.size+1))) (.ref fI,[.ref (h.objs.size+1)]):=(bind_fn X _ hf).keeps k;have t1:OT (KL prog w) (fb h C bP) (typeOf (.ref (h.objs.size+1))) (.ref C):=(Looks.ld hx).andThen .now;have s1:OT (KL prog w) (fb h C bP) (isSubtype (.ref C) (.ref C)) true:=fun A Q E s kk qq=>by
  obtain⟨hh,g',d',t',os'⟩:=s;refine PQ (kk _ _ hC1) ?_;rw[hcC];exact qq
 unfold Ot callSpecial? specialOf
 repeat (first|with_reducible refine Nh ?_|simp only[hcC,Bool.not_true,Bool.false_eq_true,if_false]|lk)
 refine Mz hq fun r s' z=>?_;rcases r with e|(v|_|_|_)<;>first|exact z|exact z.elim|skip
 obtain⟨rfl,z⟩:=z;exact KD (KD z)
end
section
open Builtin Builtin.ObjectAttr
variable{prog:KQ}{w:K2}{A:KY}{K:Nq}{s:KF}{x C:KE}{o:Obj}{cd:NO}{name:Str}{v:KC}
theorem DY{tk:Tok}{R:NW->KF->Prop}(X:K.In s.heap)(I:S3 s.heap x o C none)(hc:clsIn K C=some cd)(hp:refuseLoop (.ref x) "__setattr__" cd.mro=pure ())(ho:cd.mro.contains (.type "object")=true)(ne:cd.mro.isEmpty=false)(ht:takerIn K C name=some none)
  (h:∀ b,KI (KL prog w) A.in1 (storeInOwnDict (.ref x) (.ref C) (.str name tk) name v b) (fun fin s'=>match fin with|.done f=>R (.ok f) s'|.again c'=>c'.quiet=true/\Ml (KL prog w) A c' R s') (fun e s'=>R (.error e) s') s):
  Ml (KL prog w) A (.call (.builtin "object.__setattr__") ⟨[.ref x,.str name tk,v],[]⟩) R s:=by
 have SF:=PySem.F.store_object;have isO:OT (KL prog w) s.heap (Ot (.ref x) (.type "object")) true:=I.type.andThen (PB X (by unfold mroIn;rw[hc,Option.bind_some,if_neg (by rw[ne];decide),ho]))
 refine Oe SF.slot.plain SF.entry (@Qd (KL prog w) _ _ s "object.__setattr__" "object" "__setattr__" (.ref x) [.str name tk,v] [] _ SF.kind SF.split isO (SF.args (.ref x) (.str name tk) v) ?_);obtain⟨attr,ha,hr⟩:=Option.bind_eq_some_iff.mp ht;have mro:OT (KL prog w) s.heap (mroOf (.ref C)) cd.mro:=(looks_clsIn X hc).andThen .now;have tak:OT (KL prog w) s.heap (storeTaker? attr) none:=by
  cases attr with
  | none=>exact .now
  | some a=>
   obtain⟨b,hb,e⟩:=Option.map_eq_some_iff.mp hr;refine (looks_takesIn X hb).andThen ?_;cases b with
   | true=>cases e
   | false=>exact .now
 rw[osa_eq,refuse_eq];refine KB (KB (I.type.here (KB (mro.here ?_))));rw[hp];exact KD (KB (I.type.here (KB ((Oy X ha).here (KB (tak.here (h _)))))))
theorem set_exc{E:KC->KF->Prop}{Q:Unit->KF->Prop}(X:K.In s.heap)(hx:s.heap.get? x=some o)(hcl:o.cls=.ref C)(hno:notCls o=true)(hdn:o.dict=none)(hs:Oc K (.ref C) "__setattr__"=some (some (.builtin "object.__setattr__")))
  (hc:clsIn K C=some cd) (hd:cd.hasDict=true) (hp:refuseLoop (.ref x) "__setattr__" cd.mro=pure ()) (ho:cd.mro.contains (.type "object")=true) (ne:cd.mro.isEmpty=false) (ht:takerIn K C name=some none)
  (h:∀ h' tk,h'.get? x=some { o with dict:=some s.heap.objs.size }->h'.Ns1 s.heap.objs.size (fun y=>if y=name then some v else none)->(∀ b ob,b≠x->s.heap.get? b=some ob->h'.get? b=some ob)->Q () { s with heap:=h',toks:=tk }):
  KI (KL prog w) A (Qm (.ref x) name v) Q E s:=by
 have I:S3 s.heap x o C none:=⟨hx,hcl,hno,by rw[hdn];trivial⟩
 have hnc:∀ c,o.data≠.cls c:=fun c e=>by unfold notCls at hno;rw[e]at hno;cases hno
 refine set_plain X I hs (DY (s:={ s with toks:=s.toks+1 }) X I hc hp ho ne ht fun b=>?_)
 have hx1:(s.heap.push { cls:=.type "dict",data:=.dict #[] }).get? x=some o:=KG _ hx;have hxs:x≠s.heap.objs.size:=K_ (KN hx);have fin:KI (KL prog w) A.in1 (storeInDict s.heap.objs.size (.str name s.toks) name v) (fun fin s'=>match fin with
   | .done f=>(match (Except.ok f:NW) with|.ok (.ret _)=>Q () s'|.ok _=>False|.error e=>E e s')
   | .again c'=>c'.quiet=true/\Ml (KL prog w) A c' (fun r s'=>match r with|.ok (.ret _)=>Q () s'|.ok _=>False|.error e=>E e s') s')
   (fun e s'=>match (Except.error e:NW) with|.ok (.ret _)=>Q () s'|.ok _=>False|.error e=>E e s')
   { s with heap:=(s.heap.push { cls:=.type "dict",data:=.dict #[] }).update x fun o=>{ o with dict:=some s.heap.objs.size },toks:=s.toks+1 }:=by
  have gd:((s.heap.push { cls:=.type "dict",data:=.dict #[] }).update x fun o=>{ o with dict:=some s.heap.objs.size }).get? s.heap.objs.size=some { cls:=.type "dict",data:=.dict #[] }:=
   (PV _ _ _ _ hxs.symm).trans (Heap.get?_push_at rfl rfl)
  have nd:((s.heap.push { cls:=.type "dict",data:=.dict #[] }).update x fun o=>{ o with dict:=some s.heap.objs.size }).Ns s.heap.objs.size (fun _=>none):=⟨_,#[],_,gd,rfl,fun e he=>absurd he (by simp),fun _=>rfl⟩
  unfold storeInDict newKeyGuard;refine KB (KD (KB (wpAny_nsSet1 (Qp nd) fun h' hn' hs'=>?_)));obtain⟨oD,esD,epD,hoD,hdD,hcD⟩:=hn'.count (Within.cons name v Within.nil);refine KB (wpAny_lookBehind hoD (by rw[hdD];exact pastItsLine_dict (le_trans hcD (by rw[Lb,Lx,LB];omega))) ?_)
  refine KD (h h' _ ?_ hn' fun b ob hb e=>?_)
  ·refine (hs'.2 x hxs).trans (LV _ hx1 ?_);have hfr:=(Heap.get?_some_iff.mp hx).2;obtain⟨oc,od,odt,osl⟩:=o;cases odt<;>first|rfl|exact hfr
  ·exact (hs'.2 b (K_ (KN e))).trans ((PV _ _ _ _ hb).trans (KG _ e))
 obtain⟨oc,od,odt,osl⟩:=o;dsimp only at hcl hdn;subst hcl hdn;unfold storeInOwnDict;refine KB (KD ?_);show KI _ _ (ownDictForStores (.ref x) >>= _) _ _ _
 refine KB ?_;unfold ownDictForStores instanceDict;refine KB (OZ hx ?_);dsimp only;refine KB (Looks.here (s:={ s with toks:=s.toks+1 }) (looks_clsIn X hc) ?_)
 rw[hd,if_neg (by decide),if_neg (by simp[typeHasDict])]
 split
 ·exact absurd rfl (hnc _)
 ·refine KB (wpAny_alloc ?_);refine KB (wpAny_update (s:={ s with heap:=s.heap.push { cls:=.type "dict",data:=.dict #[] },toks:=s.toks+1 }) hx1 ?_)
  exact KD fin
end
section
variable{M:PK}{A:KY}{E:KC->KF->Prop}{env:Env}{nm q:Str}{C N:KE}{bs bm:List KC}{hdct:Bool}{sn:List Str}{sub:List KC}{ab:Bool}{col:Option Bool}{dd:Option KE}{k0 k1 k2 k3 k5:Option KC}{newId:String}
theorem zL{s:KF}{x:Sem KC}{Q:Flow->KF->Prop}(Qx:bm.contains (.type "BaseException")=true)(hh:A.handled=none)
  (h:KI M A x (fun v s₁=>∃ e t dx,v=.ref e/\s₁.heap.get? C=some (PF nm q C N bs bm hdct sn sub ab col dd k0 k1 k2 k3 k5 newId)/\s₁.heap.get? e=some { cls:=.ref C,dict:=dx,data:=.fields #[.ref t,.none,.none,.none,.bool false,.none] }/\E (.ref e) s₁) E s):
  KI M A (raiseStmt env (some x) none) Q E s:=by
 have isB:(Value.ref C::bm).contains (.type "BaseException")=true:=by rw[List.contains_cons,Qx,Bool.or_true]
 unfold raiseStmt;refine KB (K9 h (fun v s₁ h₁=>?_) fun _ _ x=>x);obtain⟨e,t,dx,rfl,hC,he,hE⟩:=h₁;obtain⟨hp,g,d,tk,os⟩:=s₁
 repeat (first|with_reducible refine NB he ?_|with_reducible refine NB hC ?_|(with_reducible refine PQ hC ?_;rw[isB])|wp_step)
 exact wpAny_raiseNew_none hh hE
end
end L3
namespace L2
open PySem PySem.Spec PyProof.Rows
structure Noted(fs:List KE)(x:KE)(oe:Obj)(vs:Array KC)(h h':K1):Prop where
 keep:∀ b o,b∉fs->b≠x->(∀ T,vs[1]?=some (.ref T)->b≠T)->h.get? b=some o->h'.get? b=some o
 slot:∀ b o,b∈fs->h.get? b=some o->∃ sl,h'.get? b=some { o with slots:=sl }
 there:∀ b o,h.get? b=some o->∃ o',h'.get? b=some o'
 exc:∃ T oT ts,h'.get? x=some (oe.mapFields (·.setIfInBounds 1 (.ref T)))/\h.objs.size<=T/\T≠x/\h'.get? T=some oT/\oT.data=.fields ts/\ts[3]?=some .none
section
variable{M:PK}{A:KY}{E:KC->KF->Prop}{s:KF}
theorem qy{base:K1}{env:Env}{outer:List Env}{L x:KE}{oe:Obj}{vs:Array KC}{head:KC}{Q4:Bool}{Q:Unit->KF->Prop}
  (hfr:A.frames=some (env::outer)) (hl:s.heap.FunFrames base (env::outer)) (hf:env.frame=some L) (he:s.heap.get? x=some oe) (hd:oe.data=.fields vs) (hsz:1 < vs.size)
  (h:∀ h',Noted ((env::outer).filterMap (·.frame)) x oe #[] s.heap h'->Q () { s with heap:=h' }):
  KI M A (do let a <- frameOf env;let pl <- entryPlaceOf L Q4;let b <- PX head a .none (LP L) .none pl;N_ (.ref x) 1 b) (fun _ s'=>KI M A (OJ (.ref x) none) Q E s') E s:=by
 have Sw:x∉(env::outer).filterMap (·.frame):=fun hm=>by
  obtain⟨_,o,ho,hnf⟩:=hl.mem hm;rw[he]at ho;injection ho with ho;subst ho;exact hnf vs hd
 refine KB (wpAny_frameOf_fun hfr hl hf fun h₁ hs₁=>?_);refine KB (wpAny_entryPlaceOf fun pl hpl=>?_);unfold PX newFields;refine KB (K6 ?_ (hpl.sizeOk5 _ _ _ _ _));have he₁:h₁.get? x=some oe:=(hs₁.2.1 x Sw).trans he;generalize hob:({ cls:=.type "traceback",dict:=none,data:=.fields ([head,.ref L,.none,LP L,.none] ++ (if pl.isEmpty then List.replicate 6 Value.none else pl)).toArray }:Obj)=ob
 have hod:ob.data=.fields ([head,.ref L,.none,LP L,.none] ++ (if pl.isEmpty then List.replicate 6 Value.none else pl)).toArray:=by rw[<- hob]
 have SJ:ob.isFreed=false:=Mi hod;have he₂:=KG (h:=h₁) ob he₁;refine Mp he₂ hd hsz ?_;have hTe:h₁.objs.size≠x:=Nb (KN he₁);have hd₃:=LC hd (·.setIfInBounds 1 (Value.ref h₁.objs.size));have he₃:=LV (Lu (·.setIfInBounds 1 (Value.ref h₁.objs.size))) he₂ (Mi hd₃);have hT₃:=(Ln (h₁.push ob) (Lu (·.setIfInBounds 1 (Value.ref h₁.objs.size))) (Ne.symm hTe)).trans (KJ h₁ SJ);have hs3:3 < ([head,.ref L,.none,LP L,.none] ++ (if pl.isEmpty then List.replicate 6 Value.none else pl)).toArray.size:=by
  simp only[KS,Lc,Lb,Lx];omega
 unfold OJ;refine KB (Lk he₃ hd₃ (x:=.ref h₁.objs.size) (by simp[hsz]) ?_)
 rw[if_pos (show (Value.ref h₁.objs.size != Value.none)=true from by simp)]
 refine Mp hT₃ hod hs3 (h _ ?_);have keep:∀ b o,b≠x->h₁.get? b=some o->
   (((h₁.push ob).update x (Lu (·.setIfInBounds 1 (Value.ref h₁.objs.size)))).update h₁.objs.size (Lu (·.setIfInBounds 3 ((none:Option KE).elim Value.none fun f=>LP f)))).get? b=some o:=fun b o hbe hb=>by
  have hbT:h₁.objs.size≠b:=Nb (KN hb);rw[Ln _ _ hbT,Ln _ _ (Ne.symm hbe)];exact KG _ hb
 have hx':(((h₁.push ob).update x (Lu (·.setIfInBounds 1 (Value.ref h₁.objs.size)))).update h₁.objs.size (Lu (·.setIfInBounds 3 ((none:Option KE).elim Value.none fun f=>LP f)))).get? x=some (oe.mapFields (·.setIfInBounds 1 (.ref h₁.objs.size))):=by
  rw[Ln _ _ hTe];exact he₃
 refine⟨fun b o hb hbx _ e=>keep b o hbx ((hs₁.2.1 b hb).trans e),fun b o hb e=>?_,fun b o e=>?_,h₁.objs.size,_,_,hx',Oa hs₁.1.symm,hTe,LV _ hT₃ (Mi (LC hod _)),LC hod _,?_⟩
 ·obtain⟨sl,hsl⟩:=hs₁.2.2 b o e;exact⟨sl,keep b _ (fun z=>Sw (z ▸ hb)) hsl⟩
 ·by_cases hbx:b=x
  ·exact⟨_,by rw[hbx];exact hx'⟩
  ·obtain⟨sl,hsl⟩:=hs₁.2.2 b o e;exact⟨_,keep b _ hbx hsl⟩
 ·rw[Array.getElem?_setIfInBounds_self_of_lt hs3];rfl
def xI(h:K1)(x:KE)(vs:Array KC):Prop:=vs[1]?=some .none\/∃ T oT ts,vs[1]?=some (.ref T)/\T≠x/\h.get? T=some oT/\oT.data=.fields ts/\ts[3]?=some .none
theorem r_{base:K1}{env:Env}{outer:List Env}{L x:KE}{oe:Obj}{vs:Array KC}{Q:Unit->KF->Prop}
  (hfr:A.frames=some (env::outer)) (hl:s.heap.FunFrames base (env::outer)) (hf:env.frame=some L) (he:s.heap.get? x=some oe) (hd:oe.data=.fields vs) (hH:xI s.heap x vs)
  (h:∀ h',Noted ((env::outer).filterMap (·.frame)) x oe vs s.heap h'->Q () { s with heap:=h' }):
  KI M A (O7 (.ref x) env) (fun _ s'=>KI M A (OJ (.ref x) none) Q E s') E s:=by
 unfold O7;simp only[hf];rcases hH with h1|⟨T,oT,ts,h1,hTx,hT,hTd,h3⟩
 ·have hsz:1 < vs.size:=(Array.getElem?_eq_some_iff.mp h1).1;refine KB (Lk he hd h1 ?_);rw[if_neg (by decide)]
  exact qy hfr hl hf he hd hsz fun h' N=>h h' ⟨fun b o hb hx _ e=>N.keep b o hb hx (fun T z=>by simp at z) e,N.slot,N.there,N.exc⟩
 ·have hsz:1 < vs.size:=(Array.getElem?_eq_some_iff.mp h1).1;have hs3:3 < ts.size:=(Array.getElem?_eq_some_iff.mp h3).1;refine KB (Lk he hd h1 ?_);rw[if_pos (show (Value.ref T != Value.none)=true from by simp)]
  refine KB (Lk hT hTd h3 ?_);rw[if_neg (by simp[LP])]
  refine KB (Mp hT hTd hs3 ?_);have hdT:=LC hTd (·.setIfInBounds 3 Value.none);have kT:∀ b o,b≠T->s.heap.get? b=some o->(s.heap.update T (Lu (·.setIfInBounds 3 Value.none))).get? b=some o:=fun b o hb e=>(Ln _ _ (Ne.symm hb)).trans e;have hTT:=LV (Lu (·.setIfInBounds 3 Value.none)) hT (Mi hdT);have nf:∀ b,b∈(env::outer).filterMap (·.frame)->b≠T:=fun b hb z=>by
   obtain⟨_,o,ho,hnf⟩:=hl.mem hb;rw[z,hT]at ho;injection ho with ho;subst ho;exact hnf ts hTd
  have hl':(s.heap.update T (Lu (·.setIfInBounds 3 Value.none))).FunFrames base (env::outer):=hl.of_keeps fun b o hb hnf=>⟨o,kT b o (fun z=>by rw[z,hT]at hb;injection hb with hb;subst hb;exact hnf ts hTd) hb,rfl⟩
  refine qy (s:={ s with heap:=s.heap.update T (Lu (·.setIfInBounds 3 Value.none)) }) hfr hl' hf (kT x oe (Ne.symm hTx) he) hd hsz fun h' N=>h h' ⟨fun b o hb hx ht e=>N.keep b o hb hx (fun _ z=>by simp at z) (kT b o (ht T h1) e),fun b o hb e=>N.slot b o hb (kT b o (nf b hb) e),fun b o e=>?_,?_⟩
  ·by_cases hb:b=T
   ·exact N.there b _ (by rw[hb];exact hTT)
   ·exact N.there b o (kT b o hb e)
  ·obtain⟨T',oT',ts',q1,q2,q3⟩:=N.exc;exact⟨T',oT',ts',q1,le_trans (Oa (Heap.size_update ..).symm) q2,q3⟩
end
def J0(n:Nat)(H:Hp)(h:K1)(x C dx:KE):Prop:=n<=x/\H x=none/\∃ oe vs,h.get? x=some oe/\oe.cls=.ref C/\oe.dict=some dx/\oe.data=.fields vs/\
 (vs[1]?=some .none\/∃ T oT ts,vs[1]?=some (.ref T)/\T≠x/\n<=T/\H T=none/\h.get? T=some oT/\oT.data=.fields ts/\ts[3]?=some .none)
def uN(P:KQ)(w:K2):zo:=fun outer H s E e s'=>∃ x C dx H',e=.ref x/\s'.os=s.os/\NI s'.gens/\Un (ue outer) [] H H' s.heap s'.heap/\iH P w H' s'.heap/\J0 s.heap.objs.size H' s'.heap x C dx/\s.heap.get? dx=none/\E (.ref C) (some dx) H'
theorem i9{o:Obj}{vs:Array KC}{f:Array KC->Array KC}(hd:o.data=.fields vs):(o.mapFields f).dict=o.dict:=by
 obtain⟨c,d,dt,sl⟩:=o;obtain rfl:dt=.fields vs:=hd;rfl
section
variable{X:Cx}{pins:List (KE×Obj)}{σ:St}{H:Hp}{s:KF}{E:XK}{x C dx:KE}
theorem yK{env:Env}{outer:List Env}{L b:KE}(hf:env.frame=some L)(h:b∈(env::outer).filterMap (·.frame)):b=L\/b∈ue outer:=by
 rw[L6,hf]at h;exact Le.mp h
theorem Inv.noted{h':K1}{oe:Obj}{vs:Array KC}{n:Nat}(I:Inv X pins σ H s)(N:Noted (ue X.stack) x oe vs s.heap h')(hn:n<=s.heap.objs.size)(h0:n<=x)(hx:H x=none)(he:s.heap.get? x=some oe)(hc:oe.cls=.ref C)(hdx:oe.dict=some dx)(hd:oe.data=.fields vs)(hsz:1 < vs.size)
  (hT:∀ T,vs[1]?=some (.ref T)->H T=none):iH X.prog X.w H h'/\J0 n H h' x C dx:=by
 refine⟨fun b u e=>?_,h0,hx,?_⟩
 ·have un:∀ c v,H c=some v->c∉ue X.stack/\c≠x/\∀ T,vs[1]?=some (.ref T)->c≠T:=fun c v q=>
   ⟨(fun z=>by rw[I.stkFree c z]at q;cases q),(fun z=>by rw[z,hx]at q;cases q),(fun T t z=>by rw[z,hT T t]at q;cases q)⟩
  refine (I.hok b u e).stay (fun c v hc' q=>?_) (fun _ q=>q) fun _ _ q=>q;rcases hc' with z|z
  ·obtain⟨a1,a2,a3⟩:=un b u e;rw[z]at q ⊢;exact N.keep b v a1 a2 a3 q
  ·obtain⟨a1,a2,a3⟩:=un c _ z;exact N.keep c v a1 a2 a3 q
 ·obtain⟨T,oT,ts,q1,q2,q3,q4,q5,q6⟩:=N.exc;refine⟨_,_,q1,(NF _ _).trans hc,(i9 hd).trans hdx,LC hd _,.inr ⟨T,oT,ts,by simp[hsz],q3,le_trans hn q2,I.hok.fresh q2,q4,q5,q6⟩⟩
theorem vP(I:Inv X pins σ H s)(hst:X.stack=X.env::X.outer)(hf:X.env.frame=some X.env.locals)(hex:X.ex=[])(F:J0 X.s₀.heap.objs.size H s.heap x C dx)(Sh:X.s₀.heap.get? dx=none)(q:E (.ref C) (some dx) H):
  KI (KL X.prog X.w) X.A (Pj X.env (.ref x)) (fun _ s''=>uN X.prog X.w X.outer X.H₀ X.s₀ E (.ref x) s'') (fun e' s''=>uN X.prog X.w X.outer X.H₀ X.s₀ E e' s'') s:=by
 obtain⟨h0,hx,oe,vs,he,hc,hdx,hd,hh⟩:=F;have hsz:1 < vs.size:=by
  rcases hh with z|⟨T,_,_,z,_⟩
  ·exact (Array.getElem?_eq_some_iff.mp z).1
  ·exact (Array.getElem?_eq_some_iff.mp z).1
 have hH:xI s.heap x vs:=by
  rcases hh with z|⟨T,oT,ts,z1,z2,z3,z4,z5,z6,z7⟩
  ·exact .inl z
  ·exact .inr ⟨T,oT,ts,z1,z2,z5,z6,z7⟩
 have hTn:∀ T,vs[1]?=some (.ref T)->X.s₀.heap.objs.size<=T/\H T=none:=fun T z=>by
  rcases hh with z1|⟨T',oT,ts,z1,z2,z3,z4,z5,z6,z7⟩
  ·rw[z1]at z;cases z
  ·rw[z1]at z;cases z;exact⟨z3,z4⟩
 have QW:=I.stack;rw[hst]at QW;unfold Pj;refine KB (r_ (base:=X.base) (by rw[I.ok.frames,hst]) QW hf he hd hH fun h' N=>?_)
 have N':Noted (ue X.stack) x oe vs s.heap h':=by rw[hst];exact N
 obtain⟨hok,fly⟩:=I.noted N' I.sz h0 hx he hc hdx hd hsz fun T z=>(hTn T z).2;have hL:X.s₀.heap.objs.size<=X.env.locals:=I.ok.above;refine⟨x,C,dx,H,rfl,I.os,I.bare,⟨fun b o e n nf _=>?_,fun b o e n nf _=>?_,fun b o e n _=>I.base.free b o e n (by rw[hex];simp),fun b o e _=>?_,I.base.tups,I.base.frzs,I.base.tbls⟩,hok,fly,Sh,q⟩
 ·have lt:b < X.s₀.heap.objs.size:=KN e;refine N.keep b o (fun z=>?_) (fun z=>not_lt.mpr h0 (z ▸ lt)) (fun T z w=>not_lt.mpr (hTn T z).1 (w ▸ lt)) (I.base.keep b o e n nf (by rw[hex];simp))
  rcases yK hf z with z|z
  ·exact not_lt.mpr hL (z ▸ lt)
  ·exact nf z
 ·obtain⟨sl,e1⟩:=I.base.slot b o e n nf (by rw[hex];simp)
  obtain⟨sl',e2⟩:=N.slot b _ (by rw[L6,hf];exact KZ _ nf) e1
  exact⟨sl',e2⟩
 ·obtain⟨o',e1⟩:=I.base.there b o e (by rw[hex];simp)
  exact N.there b o' e1
theorem zZ{E E':XK}(hst:X.stack=X.env::X.outer)(hf:X.env.frame=some X.env.locals)(hex:X.ex=[])
  (hxe:X.xe=fun e s'=>KI (KL X.prog X.w) X.A (Pj X.env e) (fun _ s''=>uN X.prog X.w X.outer X.H₀ X.s₀ E e s'') (fun e' s''=>uN X.prog X.w X.outer X.H₀ X.s₀ E e' s'') s')
  (h:∀ c d H',E' c d H'->E c d H'):ji (uN X.prog X.w) X E':=fun pins σ H s e s' I q=>by
 obtain⟨x,C,dx,H',rfl,os,bare,un,hok,fly,hd0,q⟩:=q;have Sh:X.s₀.heap.get? dx=none:=by
  cases z:X.s₀.heap.get? dx with
  | none=>rfl
  | some o=>
   obtain⟨o',z'⟩:=I.base.there dx o z (by rw[hex];simp)
   rw[hd0]at z';cases z'
 have J:Inv X pins σ H' s':=I.call' os un hok bare (fun b z=>absurd z (by simp))
 rw[hxe];obtain⟨h0,hx,oe,vs,he,hc,hdx,hd,hh⟩:=fly;have sz:=I.sz;refine vP J hst hf hex ⟨le_trans sz h0,hx,oe,vs,he,hc,hdx,hd,?_⟩ Sh (h _ _ _ q);rcases hh with z|⟨T,oT,ts,z1,z2,z3,z4,z5,z6,z7⟩
 ·exact .inl z
 ·exact .inr ⟨T,oT,ts,z1,z2,le_trans sz z3,z4,z5,z6,z7⟩
end
open L3
def veMro:List KC:=[.type "ValueError",.type "Exception",.type "BaseException",.type "object"]
structure XMk(K:Nq)(C f:KE)(a:Str):Prop where
 obj:∃ nm q N bs bm hdct sn sub ab col dd k0 k1 k2 k3 k5,K.lookup C=some (PF nm q C N bs bm hdct sn sub ab col dd k0 k1 k2 k3 k5 "ValueError.__new__")/\P7 K veMro bm=true/\bm.contains (.type "BaseException")=true
 init:Oc K (.ref C) "__init__"=some (some (.ref f))
 fn:SZ K (.ref f)=some (.type "function")
 kp:OK K (.ref C)=true
 sa:Oc K (.ref C) "__setattr__"=some (some (.builtin "object.__setattr__"))
 cls:∃ cd,S2 K C=some cd/\cd.hasDict=true/\(∀ x,PySem.refuseLoop (.ref x) "__setattr__" cd.mro=pure ())/\cd.mro.contains (.type "object")=true/\cd.mro.isEmpty=false
 tk:SX K C a=some none
abbrev ie(C t dx:KE):Obj:={ cls:=.ref C,dict:=some dx,data:=.fields #[.ref t,.none,.none,.none,.bool false,.none] }
def f_(H:Hp)(a:KE):Hp:=fun b=>if b=a then none else H b
theorem jy{H:Hp}{a:KE}:f_ H a a=none:=by unfold f_;rw[if_pos rfl]
theorem bx{H:Hp}{a b:KE}(h:b≠a):f_ H a b=H b:=by unfold f_;rw[if_neg h]
section
variable{X:Cx}{pins:List (KE×Obj)}{σ:St}{H:Hp}{s:KF}
theorem Inv.drop{x:KE}{φ:K1->Prop}(I:Inv X pins σ H s)(e:H x=some (.ext φ))(hn:X.s₀.heap.objs.size<=x):Inv X pins σ (f_ H x) s:=by
 have non:∀ b,H b=none->f_ H x b=none:=fun b q=>by unfold f_;split;rfl;exact q
 refine⟨I.ok,I.os,I.bare,⟨I.base.keep,I.base.slot,fun b o q n z=>non b (I.base.free b o q n z),I.base.there,fun b xs q=>?_,fun b o u q=>?_,fun b ps q=>?_⟩,I.loc,I.cell,non _ I.free,fun y c q=>non c (I.freeC y c q),fun p hp=>?_,fun b u q=>?_,I.len⟩
 ·have:=I.base.tups b xs q;rw[bx (fun z=>by rw[z,e]at this;cases this)];exact this
 ·have:=I.base.frzs b o u q;rw[bx (fun z=>by rw[z,e]at this;cases this)];exact this
 ·obtain⟨more,this⟩:=I.base.tbls b ps q;exact⟨more,by rw[bx (fun z=>by rw[z,e]at this;cases this)];exact this⟩
 ·obtain⟨a,b,c⟩:=I.pin p hp;exact⟨a,non _ b,c⟩
 ·have hb:b≠x:=fun z=>by rw[z,jy]at q;cases q
  rw[bx hb]at q;refine (I.hok b u q).stay (fun _ _ _ z=>z) (fun c z=>?_) fun c ys z=>?_
  ·rw[bx (fun y=>by rw[y,e]at z;cases z)];exact z
  ·rw[bx (fun y=>by rw[y,e]at z;cases z)];exact z
theorem Inv.xset{x C t f:KE}{a:Str}{v:V}{u:KC}{Q:Unit->KF->Prop}{E:KC->KF->Prop}(M:XMk X.K C f a)(I:Inv X pins σ H s)(e:H x=some (XO x (ig C t)))(r:RelV v u)
  (h:∀ dx s',H dx=none->dx≠x->Inv X pins σ (aI (aI H dx (.xd [(a,v)])) x (XO x (ie C t dx))) s'->Q () s'):KI (KL X.prog X.w) X.A (Qm (.ref x) a u) Q E s:=by
 obtain⟨cd,c1,c2,c3,c4,c5⟩:=M.cls;have hx:=jb I e;refine L3.set_exc I.kIn hx rfl rfl rfl M.sa c1 c2 (c3 x) c4 c5 M.tk fun h' tk g1 g2 g3=>?_;have fr:H s.heap.objs.size=none:=I.hok.fresh (le_refl _);have lx:x < s.heap.objs.size:=KN hx;have nx:s.heap.objs.size≠x:=Nb lx;refine h s.heap.objs.size _ fr nx (I.un (h':=h') (t':=tk) ⟨fun b o q n _ _=>?_,fun b o q n _ _=>?_,fun b o q n _=>?_,fun b o q _=>?_,fun b xs q=>?_,fun b o w q=>?_,fun b ps q=>?_⟩ fun b w q=>?_)
 ·exact g3 b o (fun z=>by rw[z,e]at n;cases n) q
 ·exact⟨o.slots,g3 b o (fun z=>by rw[z,e]at n;cases n) q⟩
 ·rw[aj (fun z=>by rw[z,e]at n;cases n),aj (fun z=>lt_irrefl _ (z ▸ (KN q:b < _)))];exact n
 ·by_cases hb:b=x
  ·exact⟨_,by rw[hb];exact g1⟩
  ·exact⟨o,g3 b o hb q⟩
 ·rw[aj (fun z=>by rw[z,e]at q;cases q),aj (fun z=>by rw[z,fr]at q;cases q)];exact q
 ·rw[aj (fun z=>by rw[z,e]at q;cases q),aj (fun z=>by rw[z,fr]at q;cases q)];exact q
 ·exact⟨#[],by rw[aj (fun z=>by rw[z,e]at q;cases q),aj (fun z=>by rw[z,fr]at q;cases q)];simpa using q⟩
 ·by_cases hb:b=x
  ·subst hb;rw[ay]at q;cases q;exact AU g1
  ·rw[aj hb]at q
   by_cases hb2:b=s.heap.objs.size
   ·subst hb2;rw[ay]at q;cases q;refine⟨_,g2,fun f=>?_⟩
    by_cases hf:f=a
    ·subst hf;simp only[List.lookup,beq_self_eq_true,if_true];exact r
    ·have:(f == a)=false:=by simpa using hf
     simp only[List.lookup,this,if_neg hf];trivial
   ·rw[aj hb2]at q;refine (I.hok b w q).stay (fun c o hc z=>g3 c o (fun y=>?_) z) (fun c z=>?_) fun c ys z=>?_
    ·rcases hc with w'|w'
     ·exact hb (w' ▸ y)
     ·rw[y,e]at w';cases w'
    ·rw[aj (fun y=>by rw[y,e]at z;cases z),aj (fun y=>by rw[y,fr]at z;cases z)];exact z
    ·rw[aj (fun y=>by rw[y,e]at z;cases z),aj (fun y=>by rw[y,fr]at z;cases z)];exact z
end
section
variable{X:Cx}{C f:KE}{a:Str}
def GU(C:KE)(a:Str)(to tv:TE):TS:=fun D σ H=>tv σ H fun v H1=>to σ H1 fun y H2=>∃ x t,y=.ref x/\H2 x=some (XO x (ig C t))/\∀ dx,H2 dx=none->dx≠x->D.nx σ (aI (aI H2 dx (.xd [(a,v)])) x (XO x (ie C t dx)))
theorem DH{o value:K4}{to tv:TE}{pos pos':Pos}(M:XMk X.K C f a)(ho:PE X o to)(hv:PE X value tv)(hs:Mb value (some (.Attribute o a pos')) pos.line X.env=pure false:=by rfl):PS X (.Assign [.Attribute o a pos'] value pos) (GU C a to tv):=by
 intro pins s σ H D I h;refine OE (br (hv pins s σ H _ I h) fun u s1 zz=>?_) hs;obtain⟨y,H1,I1,ry,q⟩:=zz;refine br (ho pins s1 σ H1 _ I1 q) fun ov s2 zz=>?_;obtain⟨y2,H2,I2,rx,q2⟩:=zz;obtain⟨x,t,ex,ea,q3⟩:=q2;subst ex;obtain rfl:ov=Value.ref x:=rx;exact I2.xset M ea ry fun dx s3 n1 n2 I3=>⟨σ,_,I3,q3 dx n1 n2⟩
def oZ(C:KE)(a:Str):Sp:=fun vs H Q _=>∃ x v t,vs=[.ref x,v]/\H x=some (XO x (ig C t))/\∀ dx,H dx=none->dx≠x->Q .non (aI (aI H dx (.xd [(a,v)])) x (XO x (ie C t dx)))
theorem Du{pins:List (KE×Obj)}{σ:St}{H:Hp}{s:KF}{v:V}{u:KC}{R:KC->KF->Prop}{fd:Lz}{ps:List Str}{k:Nat}(M:XMk X.K C f a)(F:FnOk X.prog X.w X.K X.mg X.base l_ k f fd ps (oZ C a))(hr:Room (k+1) X.A)(hb:db X.K fd ps [])
  (I:Inv X pins σ H s) (r:RelV v u) (h:∀ x t dx s',X.s₀.heap.objs.size<=x->H dx=none->H x=none->dx≠x->s.heap.get? dx=none->Inv X pins σ (aI H dx (.xd [(a,v)])) s'->s'.heap.get? x=some (ie C t dx)->R (.ref x) s'):
  KI (KL X.prog X.w) X.A (call (.ref C) [u]) R X.xe s:=by
 obtain⟨nm,q,N,bs,bm,hdct,sn,sub,ab,col,dd,k0,k1,k2,k3,k5,lk,tl,Qx⟩:=M.obj;have fx:H (s.heap.objs.size+1)=none:=I.hok.fresh (NE _);have I1:Inv X pins σ H { s with heap:=s.heap.push { cls:=.type "tuple",data:=.seq #[u] },toks:=s.toks }:=I.kept fun b o e=>KG _ e
 have sz:(s.heap.push { cls:=.type "tuple",data:=.seq #[u] }).objs.size=s.heap.objs.size+1:=Lj ..;have I2:Inv X pins σ (aI H (s.heap.objs.size+1) (XO (s.heap.objs.size+1) (ig C s.heap.objs.size))) { s with heap:=fb s.heap C [u],toks:=s.toks }:=mT (s:={ s with heap:=s.heap.push { cls:=.type "tuple",data:=.seq #[u] },toks:=s.toks }) I1 sz rfl
 have r2:Vals [V.ref (s.heap.objs.size+1),v] [Value.ref (s.heap.objs.size+1),u]:=.cons rfl (.cons r .nil);have sp0:oZ C a [V.ref (s.heap.objs.size+1),v] (aI H (s.heap.objs.size+1) (XO (s.heap.objs.size+1) (ig C s.heap.objs.size))) (fun v' H'=>v'=.non/\∃ dx,H dx=none/\dx≠s.heap.objs.size+1/\H'=aI (aI (aI H (s.heap.objs.size+1) (XO (s.heap.objs.size+1) (ig C s.heap.objs.size))) dx (.xd [(a,v)])) (s.heap.objs.size+1) (XO (s.heap.objs.size+1) (ie C s.heap.objs.size dx))) E0:=
  ⟨_,v,_,rfl,ay,fun dx n1 n2=>⟨rfl,dx,by rw[aj n2]at n1;exact n1,n2,rfl⟩⟩
 have hl:([Value.ref (s.heap.objs.size+1),u] ++ []).length=ps.length:=(F.len _ _ _ _ sp0);obtain⟨hp,g,d,tk,os⟩:=s;refine Nh (Eo PySem.F.excBase_ValueError (PySem.W.tail_of_in I.kIn tl) (I.kIn _ _ lk) I.kIn M.init M.fn (by show 1<=KM;decide) (Mz (F.run _ X.stack _ _ ⟨[.ref (hp.objs.size+1),u],[]⟩ [.ref (hp.objs.size+1),u] _ _ E0 (hr.make C [u] []) (I2.env0.make C [u] []) (hb _ [.ref (hp.objs.size+1),u] I2.kIn hl) r2 sp0) fun r s' hq'=>?_))
 cases r with
 | error e=>exact False.elim hq'
 | ok fl=>
  cases fl with
  | ret u'=>
   obtain⟨v',H',os1,bare1,un,hok,rv,⟨ev,dx,n1,n2,eH⟩⟩:=hq';have I3:=I2.call' os1 un hok bare1 (fun b z=>absurd z (by simp))
   have n0:hp.get? dx=none:=by
    cases z:hp.get? dx with
    | none=>rfl
    | some o=>
     have z1:=un.free dx o (KG _ (KG _ z)) (by rw[aj n2];exact n1) (by simp)
     rw[eH,aj n2,ay]at z1;cases z1
   subst ev eH;have hx:=jb I3 ay;have I4:=I3.drop (x:=hp.objs.size+1) ay (le_trans I.sz (NE _));have eq:f_ (aI (aI (aI H (hp.objs.size+1) (XO (hp.objs.size+1) (ig C hp.objs.size))) dx (.xd [(a,v)])) (hp.objs.size+1) (XO (hp.objs.size+1) (ie C hp.objs.size dx))) (hp.objs.size+1)=aI H dx (.xd [(a,v)]):=by
    funext b
    by_cases hb1:b=hp.objs.size+1
    ·rw[hb1,jy,aj (Ne.symm n2)];exact fx.symm
    ·rw[bx hb1,aj hb1]
     by_cases hb2:b=dx
     ·rw[hb2,ay,ay]
     ·rw[aj hb2,aj hb2,aj hb1]
   rw[eq]at I4;exact⟨rv,h _ _ dx _ (le_trans I.sz (NE _)) n1 fx n2 n0 I4 hx⟩
  | next=>exact False.elim hq'
  | brk=>exact False.elim hq'
  | cont=>exact False.elim hq'
def Fq(t:TA)(Ex:V->Hp->Prop):TS:=fun _ σ H=>t σ H fun vs H1=>∃ v,vs=[v]/\Ex v H1
theorem BA{nm:Str}{e:K4}{t:TA}{Ex:V->Hp->Prop}{p pos QF:Pos}{fd:Lz}{ps:List Str}{k:Nat}(M:XMk X.K C f a)(F:FnOk X.prog X.w X.K X.mg X.base l_ k f fd ps (oZ C a))(hr:Room (k+1) X.A)(hb:db X.K fd ps [])(hc:X.calm=true)(hex:X.ex=[])(hg:Gl X nm)(hm:X.mg nm=some (.ref C))(ha:PA X [e] t)
  (hX:∀ pins σ H s x t' dx v,Inv X pins σ (aI H dx (.xd [(a,v)])) s->H dx=none->H x=none->X.s₀.heap.objs.size<=x->dx≠x->X.s₀.heap.get? dx=none->s.heap.get? x=some (ie C t' dx)->Ex v H->X.xe (.ref x) s)
  (hdb:(nm == ("__debug__":Str))=false:=by decide) (he:KO [e] X.env=(false,eval e X.env)::KO [] X.env:=by rfl) (hpl:(LN pos (KO [] X.env)).any (·.1)=false:=by rfl):
  PS X (.Raise (some (.Call (.Name nm p) [e] [] pos)) none QF) (Fq t Ex):=by
 intro pins s σ H D I h;obtain⟨nm',q,N,bs,bm,hdct,sn,sub,ab,col,dd,k0,k1,k2,k3,k5,lk,tl,Qx⟩:=M.obj;rw[arm_exec_Raise];refine KB (Nl ?_);refine zL (nm:=nm') (q:=q) (C:=C) (N:=N) (bs:=bs) (bm:=bm) (hdct:=hdct) (sn:=sn) (sub:=sub) (ab:=ab) (col:=col) (dd:=dd) (k0:=k0) (k1:=k1) (k2:=k2) (k3:=k3) (k5:=k5) (newId:="ValueError.__new__") Qx (I.ok.hd hc) ?_;refine KB ?_;refine Md (jw I hg hm ?_ hdb);refine Nx (h₀:=X.base) I.ok.mod.kin M.kp (br (ha pos pins s σ H _ I h) fun us s1 ⟨vs,H1,I1,r,q1⟩=>⟨I1.kIn,?_⟩) he hpl;obtain⟨v,rfl,q1⟩:=q1;cases r with
 | cons r rr=>
  cases rr;refine Du M F hr hb I1 r fun x t' dx s' n0 n1 n2 n3 n4 I2 hx=>?_;have n5:X.s₀.heap.get? dx=none:=by
   cases z:X.s₀.heap.get? dx with
   | none=>rfl
   | some o=>
    obtain⟨o',z'⟩:=I1.base.there dx o z (by rw[hex];simp)
    rw[n4]at z';cases z'
  refine KB (Nl (KD ?_));exact⟨x,t',some dx,rfl,I2.kIn _ _ lk,hx,hX _ _ _ _ _ _ _ _ I2 n1 n2 n0 n3 n5 hx q1⟩
end
open PySem.W
section
variable{prog:KQ}{w:K2}{A:KY}{E:KC->KF->Prop}{s:KF}{K:Nq}{x C:KE}{ox:Obj}{od:Option Obj}{name:Str}
structure XGet(K:Nq)(C:KE):Prop where
 ga:Oc K (.ref C) "__getattribute__"=some (some (.builtin "BaseException.__getattribute__"))
 gt:Oc K (.ref C) "__getattr__"=some none
 be:mroIn K C (.type "BaseException")=some true
 hd:hasDictIn K C=true
theorem qJ:plainId "BaseException.__getattribute__"=true:=by decide +kernel
theorem zr{v:KC}{tk:Tok}{R:NW->KF->Prop}(X:K.In s.heap)(G:XGet K C)(I:InstAt s.heap x ox C od)(hf:Qn K C od name=some (.value v))(h:R (.ok (.ret v)) s):
  Ml (KL prog w) A (.call (.builtin "BaseException.__getattribute__") ⟨[.ref x,.str name tk],[]⟩) R s:=by
 obtain⟨hh,g,d,t,os⟩:=s;have hk:builtinKind "BaseException.__getattribute__"=some .slot:=by decide +kernel
 have QG:splitId "BaseException.__getattribute__"=some ("BaseException","__getattribute__"):=by decide +kernel
 have L0:=I.type (M:=KL prog w);have isB:OT (KL prog w) hh (Ot (.ref x) (.type "BaseException")) true:=L0.andThen (PB X G.be);have L1:=looks_find (M:=KL prog w) X I hf;refine Oe qJ PySem.F.entry_bexc_ga (@Qd (KL prog w) _ _ ⟨hh,g,d,t,os⟩ "BaseException.__getattribute__" "BaseException" "__getattribute__" (.ref x) [.str name tk] [] _ hk QG isB (PySem.F.args_bexc_ga (.ref x) (.str name tk)) ?_);refine KB (KD ?_);refine KB (KD ?_);refine KB (L0.at (KB (L1.at ?_)));exact KD h
theorem wA{g a:KC}{tk:Tok}{R:NW->KF->Prop}(X:K.In s.heap)(G:XGet K C)(I:InstAt s.heap x ox C od)(hf:Qn K C od name=some (.bind g a))
  (h:KI (KL prog w) A.in1 (call g [a,.ref x,.ref C]) (fun v s'=>R (.ok (.ret v)) s') (fun e s'=>R (.error e) s') s):
  Ml (KL prog w) A (.call (.builtin "BaseException.__getattribute__") ⟨[.ref x,.str name tk],[]⟩) R s:=by
 obtain⟨hh,gg,d,t,os⟩:=s;have hk:builtinKind "BaseException.__getattribute__"=some .slot:=by decide +kernel
 have QG:splitId "BaseException.__getattribute__"=some ("BaseException","__getattribute__"):=by decide +kernel
 have L0:=I.type (M:=KL prog w);have isB:OT (KL prog w) hh (Ot (.ref x) (.type "BaseException")) true:=L0.andThen (PB X G.be);have L1:=looks_find (M:=KL prog w) X I hf;refine Oe qJ PySem.F.entry_bexc_ga (@Qd (KL prog w) _ _ ⟨hh,gg,d,t,os⟩ "BaseException.__getattribute__" "BaseException" "__getattribute__" (.ref x) [.str name tk] [] _ hk QG isB (PySem.F.args_bexc_ga (.ref x) (.str name tk)) ?_);refine KB (KD ?_);refine KB (KD ?_);refine KB (L0.at (KB (L1.at ?_)));show KI _ _ (holding [a] (call g [a,.ref x,.ref C]) >>= ret) _ _ _
 exact KB (Lm (K9 h (fun v s' z=>KD z) fun _ _ z=>z))
theorem AF(o:KC):bindSpecial (.builtin "BaseException.__getattribute__") o=pure (.builtin "BaseException.__getattribute__",[o]):=by kernel_rfl
theorem xN{tk:Tok}{fill expr:Bool}{Q:KC->KF->Prop}(X:K.In s.heap)(G:XGet K C)(I:InstAt s.heap x ox C od)
  (h:Ml (KL prog w) A (.call (.builtin "BaseException.__getattribute__") ⟨[.ref x,.str name tk],[]⟩) (fun r s'=>match r with|.ok (.ret v)=>KI (KL prog w) A (handedOut v) Q E s'|_=>False) s):
  KI (KL prog w) A (getAttrBy (.ref x) (.str name tk) fill expr) Q E s:=by
 obtain⟨hh,gg,d,t,os⟩:=s;have L0:=I.type (M:=KL prog w);have L1:=Oy (M:=KL prog w) X G.ga;have L2:=Oy (M:=KL prog w) X G.gt;have hx2:(Value.builtin "BaseException.__getattribute__" == Value.builtin "object.__getattribute__")=false:=by decide +kernel
 unfold getAttrBy;refine Lm (KB (L0.at (KB (L1.at ?_))));dsimp only;rw[if_neg (by rw[hx2,Bool.and_false];decide)]
 unfold getAttrByItsOwn hookBefore;rw[if_pos (show onTheHeap (Value.ref C)=true from rfl)]
 refine KB (L2.at ?_);unfold callGetattribute;rw[if_neg (by cases expr<;>decide)]
 refine KB (L4 (Lm ?_));unfold boundAndCalled;rw[AF];refine KB (KD (Nh (Mz h fun r s' z=>?_)));rcases r with e|(v|_|_|_)<;>first|exact z|exact z.elim
theorem GP{v:KC}{expr:Bool}{Q:KC->KF->Prop}(X:K.In s.heap)(G:XGet K C)(I:InstAt s.heap x ox C od)(hf:Qn K C od name=some (.value v))(hv:handedIn v=true)(h:Q v { s with toks:=s.toks+1 }):
  KI (KL prog w) A (Pl (.ref x) name expr) Q E s:=by
 unfold Pl;refine KB (wpAny_mkText ?_);refine xN (s:={ s with toks:=s.toks+1 }) X G I (zr (s:={ s with toks:=s.toks+1 }) X G I hf ?_)
 show KI _ _ (handedOut v) _ _ _
 rw[handedOut_of hv];exact KD h
theorem Fd{od:Obj}{Q:Option KC->KF->Prop}(X:K.In s.heap)(G:XGet K C)(I:InstAt s.heap x ox C (some od))(ha:Oc K (.ref C) "__class__"=some (some (.builtin "object.__class__")))
  (hn:OI K (.builtin "object.__class__") "__get__"=some (some (.builtin "getset_descriptor.__get__"))) (htk:takesIn K (.builtin "object.__class__")=some true) (hm:mroIn K C (.type "object")=some true)
  (h:Q (some (.ref C)) { s with toks:=s.toks+1 }):KI (KL prog w) A (NM (.ref x) "__class__") Q E s:=by
 have hf:Qn K C (some od) "__class__"=some (.bind (.builtin "getset_descriptor.__get__") (.builtin "object.__class__")):=findObj_data (by obtain⟨cd,hc,_⟩:=any_some G.hd;rw[hc];rfl) ha hn htk
 unfold NM Qb;refine KB (wpAny_mkText ?_);refine KB (L4 (xN (s:={ s with toks:=s.toks+1 }) X G I (wA (s:={ s with toks:=s.toks+1 }) X G I hf ?_)))
 refine Nh (class_get (s:={ s with toks:=s.toks+1 }) (ox:=ox) (od:=some od) X I hm ?_)
 show KI _ _ (handedOut (.ref C)) _ _ _
 rw[handedOut_of rfl];exact KD (KD h)
theorem Cb{od:Obj}(G:XGet K C)(ha:Oc K (.ref C) "__class__"=some (some (.builtin "object.__class__")))
  (hn:OI K (.builtin "object.__class__") "__get__"=some (some (.builtin "getset_descriptor.__get__"))) (htk:takesIn K (.builtin "object.__class__")=some true) (hm:mroIn K C (.type "object")=some true):
  KitX K (.ref x) (.ref C) (fun h=>InstAt h x ox C (some od)) where
 ty:=fun _ _ _ I=>I.type
 it:=fun _ _ X _=>by
  obtain⟨cdD,hcD,_⟩:=any_some G.hd;unfold clsIn at hcD;split at hcD
  ·rename_i c' d' cd' sl' ho;intro A' Q' E' s' k q;unfold isType loadHead;exact KB (OZ (k _ _ (X _ _ ho)) (KD q))
  ·cases hcD
 ne:=fun h tp dd its n sl X htp=>by
  obtain⟨cdD,hcD,_⟩:=any_some G.hd;refine Bool.eq_false_iff.mpr fun q=>?_;have e:C=tp:=Value.ref.inj (beq_iff_eq.mp q);subst e;unfold clsIn at hcD;split at hcD
  ·rename_i c' d' cd' sl' ho;have z:=(X _ _ ho).symm.trans htp;cases z
  ·cases hcD
 ca:=fun X I k=>Fd X G I ha hn htk hm k
end
section
variable{X:Cx}{pins:List (KE×Obj)}{σ:St}{H:Hp}{s:KF}
theorem zw{A:KY}{E:KC->KF->Prop}{i:Nat}{n:Str}{v:V}{Q:Unit->KF->Prop}(I:Inv X pins σ H s)(hN:X.N.Nodup)(hi:X.N[i]?=some n)(hk:X.env.scope.names.lookup n=some .local)(hv:σ[i]?=some (some v))
  (h:∀ s',Inv X pins (σ.set i none) H s'->Q () s'):KI (KL X.prog X.w) A (unbindName X.env n) Q E s:=by
 obtain⟨m,hn,hl⟩:=id I.loc;have Si:(X.env.scope.kind == .class || (X.env.scope.kind == .module && X.env.locals != X.env.globals))=false:=by rw[I.ok.kind];rfl
 have hiσ:i < σ.length:=by rw[I.len];exact (List.getElem?_eq_some_iff.mp hi).1
 have cne:=I.cne;obtain⟨u,ru,q⟩:=hl i n v hi hv (.inl hk);have hm:m n=some u:=by
  rcases q with ⟨_,q⟩|⟨k,_⟩
  ·exact q
  ·have hk':X.env.kindOf n=some .local:=hk;rcases k with k|k<;>(rw[hk']at k;cases k)
 refine wpAny_unbindName_local hk hn hm Si fun h' u' hn' hs=>?_;obtain⟨oL,_,_,hoL,_⟩:=id hn;have tracked:iH X.prog X.w H h':=fun b ob e=>by
  refine (I.hok b ob e).stay (fun c w' hc q=>(hs.2 c ?_).trans q) (fun _ q=>q) fun _ _ q=>q
  rintro rfl
  rcases hc with z|hc
  ·rw[<- z,I.free]at e;cases e
  ·rw[I.free]at hc;cases hc
 refine h _ ⟨I.ok,I.os,I.bare,⟨fun b o e n hb hx=>?_,fun b o e n hb hx=>?_,I.base.free,fun b o e hx=>?_,I.base.tups,I.base.frzs,I.base.tbls⟩,⟨_,hn',fun j y v' e1 e2 e3=>?_⟩,fun y c e=>?_,I.free,I.freeC,fun p hp=>?_,tracked,by simpa using I.len⟩
 ·exact (hs.2 b (K_ (K7 (KN e) I.ok.above))).trans (I.base.keep b o e n hb hx)
 ·obtain⟨sl,e1⟩:=I.base.slot b o e n hb hx;exact⟨sl,(hs.2 b (K_ (K7 (KN e) I.ok.above))).trans e1⟩
 ·obtain⟨o',e1⟩:=I.base.there b o e hx;exact⟨o',(hs.2 b (K_ (K7 (KN e) I.ok.above))).trans e1⟩
 ·by_cases hj:j=i
  ·subst hj;rw[List.getElem?_set_self hiσ]at e2;cases e2
  ·rw[List.getElem?_set_ne (Ne.symm hj)]at e2;obtain⟨u',r',q⟩:=hl j y v' e1 e2 e3;refine⟨u',r',?_⟩;rcases q with ⟨k,e⟩|⟨k,c,e,z⟩
   ·refine .inl ⟨k,?_⟩;have:y≠n:=fun e=>hj (pS hN e1 (e ▸ hi));simp[this,e]
   ·exact .inr ⟨k,c,e,z.sameBut hs (cne y c e)⟩
 ·obtain⟨w',z⟩:=I.cell y c e;exact⟨w',z.sameBut hs (cne y c e)⟩
 ·obtain⟨e,n,ne,nf,d⟩:=I.pin p hp;exact⟨(hs.2 p.1 ne).trans e,n,ne,nf,d⟩
abbrev mV(X:Cx)(x:KE)(o:Obj):Cx:={ X with A:=X.A.mark (some (.ref x)),calm:=false,pn:=(x,o)::X.pn,xe:=fun _ _=>False }
theorem Inv.toH{x:KE}{o:Obj}(I:Inv X pins σ H s)(hx:s.heap.get? x=some o)(hn:H x=none)(hl:x≠X.env.locals)(hf:x∉X.fs)(hc:∀ v,o.data≠.cell v):Inv (mV X x o) pins σ H s:=
 ⟨⟨I.ok.mod,I.ok.kind,I.ok.glob,I.ok.blt,I.ok.above,I.ok.inj,I.ok.has,I.ok.cab,(fun z=>nomatch z),I.ok.frames,I.ok.stk,I.ok.exf,I.ok.bs,I.ok.bsz,I.ok.noex,I.ok.exfs,I.ok.funs,I.ok.frf⟩,
  I.os,I.bare,I.base,I.loc,I.cell,I.free,I.freeC,fun p hp=>by
   rcases Le.mp hp with z|z
   ·subst z;exact⟨hx,hn,hl,hf,hc⟩
   ·exact I.pin p z,I.hok,I.len⟩
theorem Inv.ofH{x:KE}{o:Obj}(ok:X.Ok)(I:Inv (mV X x o) pins σ H s):Inv X pins σ H s:=
 ⟨ok,I.os,I.bare,I.base,I.loc,I.cell,I.free,I.freeC,fun p hp=>I.pin p (KZ _ hp),I.hok,I.len⟩
end
section
variable{prog:KQ}{w:K2}{A:KY}{E:KC->KF->Prop}{s:KF}{env:Env}
theorem An{e:KE}{t:K4}{n:Str}{b₀:Lf}{QC:List Lf}{pos:Pos}{bP:List MZ}{Q:Flow->KF->Prop}
  (h:KI (KL prog w) (A.mark (some (.ref e))) (eval t env) (fun c s₁=>KI (KL prog w) (A.mark (some (.ref e))) (excMatches (.ref e) c) (fun b s₂=>b=true/\
   KI (KL prog w) (A.mark (some (.ref e))) (OJ (.ref e) none) (fun _ s₃=>KI (KL prog w) (A.mark (some (.ref e))) (storeName env n (.ref e)) (fun _ s₄=>
    KI (KL prog w) (A.mark (some (.ref e))) (execs (b₀::QC) env) (fun f s₅=>KI (KL prog w) A (do bindName env n .none;N9 env n pos) (fun _ s₆=>Q f s₆) E s₅) (fun _ _=>False) s₄) (fun _ _=>False) s₃) (fun _ _=>False) s₂) (fun _ _=>False) s₁) (fun _ _=>False) s):
  KI (KL prog w) A (handleBy (.ref e) env (.ExceptHandler (some t) (some n) (b₀::QC) pos::bP)) Q E s:=by
 refine wpAny_handleBy_cons (codeAny_handlers_test (K9 h (fun c s₁ h₁=>K9 h₁ (fun b s₂ h₂=>?_) fun _ _ z=>z.elim) fun _ _ z=>z.elim)) (by intro q;cases q)
 obtain⟨rfl,h₂⟩:=h₂;exact codeAny_handlers_suite_as (K9 h₂ (fun _ s₃ h₃=>K9 h₃ (fun _ s₄ h₄=>K9 h₄ (fun f s₅ h₅=>h₅) fun _ _ z=>z.elim) fun _ _ z=>z.elim) fun _ _ z=>z.elim)
end
section
variable{X:Cx}{pins:List (KE×Obj)}{σ:St}{H:Hp}{s:KF}
theorem Inv.rec_ne{b:KE}{o:Obj}{vs:Array KC}(I:Inv X pins σ H s)(e:s.heap.get? b=some o)(hd:o.data=.fields vs):b≠X.env.locals/\∀ y c,X.env.cells.lookup y=some c->c≠b:=by
 refine⟨fun z=>?_,fun y c q z=>?_⟩
 ·obtain⟨m,⟨oL,es,ep,hL,hLd,_⟩,_⟩:=I.loc;rw[z,hL]at e;cases e;rw[hLd]at hd;cases hd
 ·obtain⟨v,oc,hc,hcd⟩:=I.cell y c q;rw[z,e]at hc;cases hc;rw[hd]at hcd;cases hcd
theorem Inv.note{h':K1}{x n:Nat}{oe:Obj}{vs:Array KC}(I:Inv X pins σ H s)(hst:X.stack=X.env::X.outer)(hf:X.env.frame=some X.env.locals)(N:Noted (ue X.stack) x oe vs s.heap h')(hok:iH X.prog X.w H h')(he:s.heap.get? x=some oe)(hd:oe.data=.fields vs)
  (hn:X.s₀.heap.objs.size<=n) (h0:n<=x) (hp:∀ p∈X.pn ++ pins,p.1 < n) (hT:∀ T,vs[1]?=some (.ref T)->n<=T/\∃ oT ts,s.heap.get? T=some oT/\oT.data=.fields ts):Inv X pins σ H { s with heap:=h' }:=by
 obtain⟨x1,x2⟩:=I.rec_ne he hd;obtain⟨ch,hch⟩:∃ ch:List KE,∀ b,b∈ch↔b=x\/vs[1]?=some (.ref b):=by
  cases hv:vs[1]? with
  | none=>exact⟨[x],fun b=>by simp⟩
  | some v=>
   cases v with
   | ref T=>exact⟨[x,T],fun b=>by simp[eq_comm]⟩
   | _=>exact⟨[x],fun b=>by simp⟩
 have Ss:∀ b,b∉ch->b≠x/\∀ T,vs[1]?=some (.ref T)->b≠T:=fun b hb=>⟨fun z=>hb ((hch b).mpr (.inl z)),fun T t z=>hb ((hch b).mpr (.inr (z ▸ t)))⟩;have nst:∀ b,b≠X.env.locals->b∉X.fs->b∉ue X.stack:=fun b h1 h2 z=>by
  rw[hst]at z;rcases yK hf z with z|z
  ·exact h1 z
  ·exact h2 z
 refine I.step (g':=s.gens) (t':=s.toks) (d':=s.drawn) (ch:=ch) (fun b hb=>?_) (fun b o h1 h2 h3 e _=>N.keep b o (nst b h1 h2) (Ss b h3).1 (Ss b h3).2 e) (fun b o _ h2 _ e _=>N.slot b o (by rw[hst];show b∈(X.env::X.outer).filterMap _;rw[L6,hf];exact KZ _ h2) e) (fun _ _ _ _ z=>z) (fun b o _ e=>N.there b o e)
  (fun _ _ z=>z) (fun _ _ _ z=>z) (fun _ ps z=>⟨#[],by simpa using z⟩) (fun m hm=>?_) hok I.bare
 ·rcases (hch b).mp hb with z|z
  ·subst z;exact⟨.inr (le_trans hn h0),x1,x2,fun p q w=>not_lt.mpr h0 (w ▸ hp p q)⟩
  ·obtain⟨t1,oT,ts,t2,t3⟩:=hT b z;obtain⟨y1,y2⟩:=I.rec_ne t2 t3;exact⟨.inr (le_trans hn t1),y1,y2,fun p q w=>not_lt.mpr t1 (w ▸ hp p q)⟩
 ·obtain⟨o,es,ep,ho,r⟩:=hm;obtain⟨sl,e⟩:=N.slot _ o (by rw[hst];show X.env.locals∈(X.env::X.outer).filterMap _;rw[L6,hf];exact KU) ho
  exact⟨_,es,ep,e,r⟩
end
theorem B0{P:KQ}{w:K2}{H:Hp}{h:K1}{a:KE}{o:HO}(x:ba P w H h a o):∃ ob,h.get? a=some ob:=by
 cases o with
 | lst xs=>obtain⟨_,_,_,_,e⟩:=x;exact⟨_,e⟩
 | tup xs=>obtain⟨z,its,r,ob,e,c⟩:=x;exact⟨_,e⟩
 | dK kvs=>obtain⟨_,_,_,_,o,_,_,e,_⟩:=x;exact⟨_,e⟩
 | dT kvs=>obtain⟨_,_,_,_,o,_,_,e,_⟩:=x;exact⟨_,e⟩
 | set S n=>obtain⟨o,_,_,_,e,_⟩:=x;exact⟨_,e⟩
 | ins C dx fs=>obtain⟨_,_,_,e,_⟩:=x;exact⟨_,e⟩
 | own y=>obtain⟨_,e⟩:=x;exact⟨_,e⟩
 | xd fs=>obtain⟨_,⟨_,_,_,e,_⟩,_⟩:=x;exact⟨_,e⟩
 | rng lo hi=>obtain⟨_,_,_,e⟩:=x;exact⟨_,e⟩
 | frz ob u=>obtain⟨e,_⟩:=x;exact⟨_,e⟩
 | tbl ps=>exact⟨_,x⟩
 | met f y=>exact⟨_,x⟩
 | ext φ=>obtain⟨_,⟨_,e⟩,_⟩:=x;exact⟨_,e⟩
section
variable{X:Cx}{pins:List (KE×Obj)}{σ:St}{H:Hp}{s:KF}
theorem Inv.dropX{x:KE}{gs:List (Str×V)}(I:Inv X pins σ H s)(e:H x=some (.xd gs)):Inv X pins σ (f_ H x) s:=by
 have non:∀ b,H b=none->f_ H x b=none:=fun b q=>by unfold f_;split;rfl;exact q
 refine⟨I.ok,I.os,I.bare,⟨I.base.keep,I.base.slot,fun b o q n z=>non b (I.base.free b o q n z),I.base.there,fun b xs q=>?_,fun b o u q=>?_,fun b ps q=>?_⟩,I.loc,I.cell,non _ I.free,fun y c q=>non c (I.freeC y c q),fun p hp=>?_,fun b u q=>?_,I.len⟩
 ·have:=I.base.tups b xs q;rw[bx (fun z=>by rw[z,e]at this;cases this)];exact this
 ·have:=I.base.frzs b o u q;rw[bx (fun z=>by rw[z,e]at this;cases this)];exact this
 ·obtain⟨more,this⟩:=I.base.tbls b ps q;exact⟨more,by rw[bx (fun z=>by rw[z,e]at this;cases this)];exact this⟩
 ·obtain⟨a,b,c⟩:=I.pin p hp;exact⟨a,non _ b,c⟩
 ·have hb:b≠x:=fun z=>by rw[z,jy]at q;cases q
  rw[bx hb]at q;refine (I.hok b u q).stay (fun _ _ _ z=>z) (fun c z=>?_) fun c ys z=>?_
  ·rw[bx (fun y=>by rw[y,e]at z;cases z)];exact z
  ·rw[bx (fun y=>by rw[y,e]at z;cases z)];exact z
abbrev lG(X:Cx)(dx:KE)(od:Obj):Cx:={ X with pn:=(dx,od)::X.pn }
theorem Inv.toP{dx:KE}{od:Obj}(I:Inv X pins σ H s)(hx:s.heap.get? dx=some od)(hn:H dx=none)(hl:dx≠X.env.locals)(hf:dx∉X.fs)(hc:∀ v,od.data≠.cell v):Inv (lG X dx od) pins σ H s:=
 ⟨⟨I.ok.mod,I.ok.kind,I.ok.glob,I.ok.blt,I.ok.above,I.ok.inj,I.ok.has,I.ok.cab,I.ok.hd,I.ok.frames,I.ok.stk,I.ok.exf,I.ok.bs,I.ok.bsz,I.ok.noex,I.ok.exfs,I.ok.funs,I.ok.frf⟩,
  I.os,I.bare,I.base,I.loc,I.cell,I.free,I.freeC,fun p hp=>by
   rcases Le.mp hp with z|z
   ·subst z;exact⟨hx,hn,hl,hf,hc⟩
   ·exact I.pin p z,I.hok,I.len⟩
theorem Inv.ofP{dx:KE}{od:Obj}(ok:X.Ok)(I:Inv (lG X dx od) pins σ H s):Inv X pins σ H s:=
 ⟨ok,I.os,I.bare,I.base,I.loc,I.cell,I.free,I.freeC,fun p hp=>I.pin p (KZ _ hp),I.hok,I.len⟩
end
structure XIs(C:KE)(o:Obj)(dx:KE)(od:Obj)(a:Str)(v:V):Prop where
 cls:o.cls=.ref C
 dict:o.dict=some dx
 data:∃ vs,o.data=.fields vs
 look:∃ u,lookIn a od=some (some u)/\RelV v u
def Ends.un(i:Nat)(D:Ends):Ends:={ nx:=fun σ H=>D.nx (σ.set i none) H,rt:=D.rt,bk:=fun σ H=>D.bk (σ.set i none) H,ct:=fun σ H=>D.ct (σ.set i none) H }
end L2
namespace L3
open PySem PySem.Spec PyProof.Rows L2 PySem.W
abbrev XQ:=KE->Str->D->Gp->Prop
def xJ(K:Nq)(G:Gp)(H:Hp)(EQ:XQ)(E:XK):Prop:=∀ C a d G' v dx H',EQ C a d G'->Kp G H G' H'->RG K H' G'->G' dx=none->H' dx=some (.xd [(a,v)])->RD K H' d v->E (.ref C) (some dx) H'
theorem xJ.base{K:Nq}{G G1:Gp}{H H1:Hp}{EQ:XQ}{E:XK}(f:xJ K G H EQ E)(k:Kp G H G1 H1):xJ K G1 H1 EQ E:=fun C a d G' v dx H' q k'=>f C a d G' v dx H' q (k.trans k')
abbrev wu:=List D->Gp->fK->XQ->Prop
def ib(K:Nq)(sp:wu):Sp:=fun vs H Q E=>∃ ds G Q3 EQ,RDs K H ds vs/\RG K H G/\sp ds G Q3 EQ/\oB K G H Q3 Q/\xJ K G H EQ E
def dq(K:Nq)(E:XK)(EQ:XQ)(t:bh):TS:=fun D τ H=>∃ σ G D3,RS K H σ τ/\RG K H G/\xJ K G H EQ E/\t D3 σ G/\EndsOk K G H D3 D
structure CtxW(X:Cx)(E:XK):Prop where
 st:X.stack=X.env::X.outer
 fr:X.env.frame=some X.env.locals
 ex:X.ex=[]
 calm:X.calm=true
 xe:X.xe=fun e s'=>KI (KL X.prog X.w) X.A (Pj X.env e) (fun _ s''=>uN X.prog X.w X.outer X.H₀ X.s₀ E e s'') (fun e' s''=>uN X.prog X.w X.outer X.H₀ X.s₀ E e' s'') s'
structure FnX(P:KQ)(w:K2)(K:Nq)(mg:Str->Option KC)(base:K1)(k:Nat)(x:Str)(sp:wu):Prop where
 ex:∃ f fd ps,FnOk P w K mg base (uN P w) k f fd ps (ib K sp)/\mg x=some (.ref f)/\OK K (.ref f)=true/\db K fd ps []
structure ErX(P:KQ)(w:K2)(K:Nq)(mg:Str->Option KC)(base:K1)(k:Nat)(x:Str)(C:KE)(a:Str):Prop where
 ex:∃ f fd ps,XMk K C f a/\mg x=some (.ref C)/\FnOk P w K mg base l_ k f fd ps (oZ C a)/\db K fd ps []
def pc(C:KE)(a:Str)(ta:iF)(EQ:XQ):bh:=fun _ σ G=>ta σ G fun ds G1=>∃ d,ds=[d]/\EQ C a d G1
def Bf(sp:wu)(ta:iF)(EQ:XQ):bh:=fun D σ G=>ta σ G fun ds G1=>sp ds G1 (fun _ G2=>D.nx σ G2) EQ
section
variable{X:Cx}{E:XK}{EQ:XQ}{st:Lf}{bP:List Lf}{t u:bh}{pos:Pos}
theorem GR(h:PS X st (aZ X.K t)):PS X st (dq X.K E EQ t):=h.imp fun D τ H z=>by
 obtain⟨σ,G,D3,rs,rg,_,h,k⟩:=z;exact⟨σ,G,D3,rs,rg,h,k⟩
theorem rO(h:fh X bP (aZ X.K t)):fh X bP (dq X.K E EQ t):=h.imp fun D τ H z=>by
 obtain⟨σ,G,D3,rs,rg,_,h,k⟩:=z;exact⟨σ,G,D3,rs,rg,h,k⟩
theorem uS(h1:PS X st (dq X.K E EQ t)):fh X [st] (dq X.K E EQ t):=oJ h1
theorem me(h1:PS X st (dq X.K E EQ t))(h2:fh X bP (dq X.K E EQ u)):fh X (st::bP) (dq X.K E EQ (sSeq t u)):=(pL h1 h2).imp fun D τ H z=>by
 obtain⟨σ,G,D3,rs,rg,fx,h,k⟩:=z;exact⟨σ,G,{ D3 with nx:=u D3 },rs,rg,fx,h,⟨fun σ' G' τ' H' q k' rg' rs'=>⟨σ',G',D3,rs',rg',fx.base k',q,k.base k'⟩,k.rt,k.bk,k.ct⟩⟩
theorem Di{c:K4}{a b:List Lf}{tc:iJ}(hc:PT X c (bu X.K tc))(ha:fh X a (dq X.K E EQ t))(hb:fh X b (dq X.K E EQ u)):PS X (.If c a b pos) (dq X.K E EQ (iR tc t u)):=
 (BC hc ha hb).imp fun D τ H z=>by
  obtain⟨σ,G,D3,rs,rg,fx,h,k⟩:=z;refine⟨σ,G,_,rs,rg,h,fun b G' H' q k' rg'=>?_⟩;cases b with
  | true=>exact⟨σ,G',D3,rs.mono (k'.stb rg),rg',fx.base k',q,k.base k'⟩
  | false=>exact⟨σ,G',D3,rs.mono (k'.stb rg),rg',fx.base k',q,k.base k'⟩
theorem oF{C:KE}{a nm:Str}{k:Nat}{e:K4}{ta:iF}{p QF:Pos}(W:CtxW X E)(F:ErX X.prog X.w X.K X.mg X.base k nm C a)(hr:Room (k+1) X.A)(hg:Gl X nm)(ha:PA X [e] (cT X.K ta))
  (hdb:(nm == ("__debug__":Str))=false:=by decide) (he:KO [e] X.env=(false,eval e X.env)::KO [] X.env:=by rfl) (hpl:(LN pos (KO [] X.env)).any (·.1)=false:=by rfl):
  PS X (.Raise (some (.Call (.Name nm p) [e] [] pos)) none QF) (dq X.K E EQ (pc C a ta EQ)):=by
 obtain⟨f,fd,ps,M,hm,F,hb⟩:=F.ex;refine (BA (Ex:=fun v H=>∃ d G,RD X.K H d v/\RG X.K H G/\EQ C a d G/\xJ X.K G H EQ E) M F hr hb W.calm W.ex hg hm ha (fun pins σ H s x t' dx v I n1 n2 n3 n4 n5 hx q=>?_) hdb he hpl).imp fun D τ H z=>?_
 ·obtain⟨d,G,rd,rg,q,fx⟩:=q;rw[W.xe];have lt:G dx=none:=rg.free n1;exact vP I W.st W.fr W.ex ⟨n3,by rw[aj (Ne.symm n4)];exact n2,_,_,hx,rfl,rfl,rfl,.inl rfl⟩ n5 (fx C a d G v dx _ q (Kp.laid n1) (rg.laid n1) lt ay (RD.mono ((Kp.laid (G:=G) n1).stb rg) _ _ rd))
 ·obtain⟨σ,G,D3,rs,rg,fx,h,k⟩:=z;refine⟨σ,G,_,rs,rg,h,fun ds G1 vs H1 q k1 rg1 rds=>?_⟩;obtain⟨d,rfl,q⟩:=q;obtain⟨v,rfl,rd⟩:=dj rds;exact⟨v,rfl,d,G1,rd,rg1,q,fx.base k1⟩
theorem Fg{x:Str}{k:Nat}{e:K4}{es:List K4}{ta:iF}{sp:wu}{p pos1:Pos}(W:CtxW X E)(F:FnX X.prog X.w X.K X.mg X.base k x sp)(hr:Room k X.A)(hg:Gl X x)(ha:PA X (e::es) (cT X.K ta))(hdb:(x == ("__debug__":Str))=false:=by decide)
  (he:KO (e::es) X.env=(false,eval e X.env)::KO es X.env:=by rfl) (hpl:(LN pos (KO es X.env)).any (·.1)=false:=by rfl) (hs:Mb (.Call (.Name x p) (e::es) [] pos) none pos1.line X.env=pure false:=by rfl):
  PS X (.Expr (.Call (.Name x p) (e::es) [] pos) pos1) (dq X.K E EQ (Bf sp ta EQ)):=by
 obtain⟨f,fd,ps,ok,hm,hk,hb⟩:=F.ex;refine (x3 (yG (dvs:=[]) (ds:=[]) ok hr hg hm hk hb .nil (zZ (E:=E) (E':=E) W.st W.fr W.ex W.xe fun _ _ _ z=>z) ha hdb he hpl) hs).imp fun D τ H z=>?_;obtain⟨σ,G,D3,rs,rg,fx,h,kk⟩:=z;refine⟨σ,G,_,rs,rg,h,fun ds G1 vs H1 q k1 rg1 rds=>⟨ds,G1,_,EQ,by rw[M5];exact rds,rg1,q,fun d G' v H' q' k' rg' _=>?_,fx.base k1⟩⟩
 exact kk.nx σ G' τ H' q' (k1.trans k') rg' (rs.mono ((k1.trans k').stb rg))
end
section
variable{P:KQ}{w:K2}{K:Nq}{mg:Str->Option KC}{base:K1}
theorem qC{N:List Str}{qual:Str}{scope:MX}{f:KE}{cd:KC}{A:KY}{outer:List Env}{s:KF}{H:Hp}{E:XK}:CtxW (ow (uN P w) P w K mg base N qual scope f cd A outer s H E) E:=⟨rfl,rfl,rfl,rfl,rfl⟩
theorem Fun3.okX{x qual:Str}{st:Lf}{f:KE}{fd:Lz}{N ps:List Str}{k:Nat}{sp:wu}(F:Fun3 K x qual st f fd)(S:FnScope N ps (ah st))(len:∀ ds G Q EQ,sp ds G Q EQ->ds.length=ps.length)
  (Qz:∀ (cdv:KC) (A:KY) (outer:List Env) (s:KF) (H:Hp) (E:XK) (EQ:XQ),Room k (A.deeper (MR qual (ah st) s.heap.objs.size f cdv))->
   ∃ t:bh,fh (ow (uN P w) P w K mg base N qual (ah st) f cdv A outer s H E) (bn st) (dq K E EQ t)/\∀ ds G Q,sp ds G Q EQ->t { nx:=fun _ G'=>Q .non G',rt:=Q } (aw N ds) G):FnOk P w K mg base (uN P w) (k+1) f fd ps (ib K sp):=by
 obtain⟨oc,od,dV,kV,doc,pm,an,cdv,ct,osl,rfl,lk,hcd⟩:=F.ex;refine yU lk hcd S (fun vs H Q E z=>by obtain⟨ds,G,Q3,EQ,rds,rg,h,kk⟩:=z;rw[<- rds.length];exact len ds G Q3 EQ h) fun A outer s H vs Q E hr hsp=>?_
 obtain⟨ds,G,Q3,EQ,rds,rg,h,kk,fx⟩:=hsp;obtain⟨t,ht,hq⟩:=Qz cdv A outer s H E EQ hr;refine⟨dq K E EQ t,ht,aw N ds,G,{ nx:=fun _ G'=>Q3 .non G',rt:=Q3 },pi rds,rg,fx,hq ds G Q3 h,⟨fun σ' G' τ' H' q k' rg' rs'=>kk _ G' _ H' q k' rg' (.of pG),kk,fun _ _ _ _ q=>q.elim,fun _ _ _ _ q=>q.elim⟩⟩
theorem t_{x qual:Str}{st:Lf}{f C:KE}{fd:Lz}{a y z:Str}{p1 p2 p3 p4:Pos}(F:Fun3 K x qual st f fd)(S:FnScope [y,z] [y,z] (ah st))(M:XMk K C f a)(hb:bn st=[.Assign [.Attribute (.Name y p1) a p2] (.Name z p3) p4])
  (hy:E_ (ah st) y) (hz:E_ (ah st) z) (hd1:(y == ("__debug__":Str))=false:=by decide) (hd2:(z == ("__debug__":Str))=false:=by decide) (hc1:(y == ("__classdict__":Str))=false:=by decide) (hc2:(z == ("__classdict__":Str))=false:=by decide)
  (hs:∀ env,Mb (.Name z p3) (some (.Attribute (.Name y p1) a p2)) p4.line env=pure false:=by intro _;rfl):FnOk P w K mg base l_ 1 f fd [y,z] (oZ C a):=by
 obtain⟨oc,od,dV,kV,doc,pm,an,cdv,ct,osl,rfl,lk,hcd⟩:=F.ex;refine yU lk hcd S (fun vs H Q E q=>by obtain⟨x,v,t,rfl,_⟩:=q;rfl) fun A outer s H vs Q E hr hsp=>?_
 obtain⟨x,v,t,rfl,e,h⟩:=hsp;rw[hb];refine⟨_,oJ (DH M (mF (i:=0) rfl hy hd1 hc1) (mF (i:=1) rfl hz hd2 hc2) (hs _)),v,rfl,.ref x,rfl,x,t,rfl,e,h⟩
end
def Ends3.un(i:Nat)(D:Ends3):Ends3:={ nx:=fun σ G=>D.nx (σ.set i none) G,rt:=D.rt,bk:=fun σ G=>D.bk (σ.set i none) G,ct:=fun σ G=>D.ct (σ.set i none) G }
theorem xT{K:Nq}{H:Hp}{dx:KE}{gs:List (Str×V)}(e:H dx=some (.xd gs)):Stb K H (f_ H dx) where
 t:=fun a xs q=>by
  rcases q with (q|⟨o,q⟩)|q
  ·exact .inl (.inl (by rw[bx (fun z=>by rw[z,e]at q;cases q)];exact q))
  ·exact .inl (.inr ⟨o,by rw[bx (fun z=>by rw[z,e]at q;cases q)];exact q⟩)
  ·exact .inr q
 l:=fun a xs q=>by
  rcases q with ⟨o,q⟩|q
  ·exact .inl ⟨o,by rw[bx (fun z=>by rw[z,e]at q;cases q)];exact q⟩
  ·exact .inr q
theorem RS.unset{K:Nq}{H:Hp}:∀ {σ:cL} {τ:St} (i:Nat),RS K H σ τ->RS K H (σ.set i none) (τ.set i none)
 | _,_,_,.nil=>.nil
 | _,_,0,.cons _ t=>.cons (show AI K H none none from trivial) t
 | _,_,i+1,.cons r t=>.cons r (RS.unset i t)
section
variable{X:Cx}
structure XAsk(K:Nq)(C:KE)(a:Str):Prop where
 g:XGet K C
 ca:Oc K (.ref C) "__class__"=some (some (.builtin "object.__class__"))
 gs:OI K (.builtin "object.__class__") "__get__"=some (some (.builtin "getset_descriptor.__get__"))
 tk:takesIn K (.builtin "object.__class__")=some true
 mo:mroIn K C (.type "object")=some true
 fa:Oc K (.ref C) a=some none
theorem zb:LM "ValueError"=some (.type "ValueError"):=by kernel_rfl
theorem eT{nm:Str}{C:KE}{pos:Pos}(hg:Gl X nm)(hm:X.mg nm=some (.ref C))(hd:(nm == ("__debug__":Str))=false:=by decide):PE X (.Name nm pos) (au X.K (eC (.ref C))):=yH (v:=.ref C) hg hm rfl (fun _=>by simp only[RD]) hd
def Ie:D->KC
 | .ref a=>.ref a
 | .ty n=>.type n
 | _=>.none
def jf(x:KE)(c:D)(b:Bool):ww:=fun ds G Q=>ds=[.ref x,c]/\Q (.bl b) G
theorem oR{C x dx:KE}{o od:Obj}{a:Str}{v:V}{pins:List (KE×Obj)}{σ:St}{H:Hp}{s:KF}(hx:XIs C o dx od a v)(I:Inv (mV (lG X dx od) x o) pins σ H s):InstAt s.heap x o C (some od):=by
 have h1:=(I.pin (x,o) (by simp)).1
 have h2:=(I.pin (dx,od) (by simp)).1
 refine⟨h1,hx.cls,?_,?_⟩
 ·obtain⟨vs,e⟩:=hx.data;unfold notCls;rw[e]
 ·rw[hx.dict];exact h2
theorem fU{C x dx:KE}{o od:Obj}{a:Str}{v:V}{c:D}{b:Bool}(hx:XIs C o dx od a v)(A:XAsk X.K C a)(hc:(∃ y,c=.ref y)\/∃ n,c=.ty n)(e:kitOne X.K (.ref C) (Ie c)=some b):cJ (mV (lG X dx od) x o) (.builtin "isinstance") (j7 X.K (jf x c b)):=by
 intro pins s σ H vs us Q I rv h;obtain⟨ds,G,Q3,rds,rg,⟨rfl,h⟩,kk⟩:=h;obtain⟨v1,t,e1,h1,h2⟩:=rds.inv_cons;obtain⟨u2,e2,h3⟩:=dj h2;simp only[RD]at h1;subst e1 e2 h1;obtain⟨u,w',rfl,ru,rw'⟩:=ER rv;cases ru;have eu:w'=Ie c:=by
  rcases hc with ⟨y,rfl⟩|⟨n,rfl⟩
  ·simp only[RD]at h3;subst h3;exact rw'
  ·simp only[RD]at h3;subst h3;exact rw'
 subst eu;exact kia_one (Cb (ox:=o) (od:=od) A.g A.ca A.gs A.tk A.mo) I.kIn (oR hx I) e (fun z=>nomatch z) fun tk=>⟨.bl b,H,I.tok tk,rfl,kk _ G _ H h Kp.refl rg (.of fu)⟩
def HS(te:aL)(x:KE)(z:Int):aL:=fun σ G Q=>te σ G fun d G1=>d=.ref x/\Q (.int z) G1
theorem Hy{C x dx:KE}{o od:Obj}{a:Str}{z:Int}{e:K4}{te:aL}{pos:Pos}(hx:XIs C o dx od a (.int z))(A:XAsk X.K C a)(he:PE (mV (lG X dx od) x o) e (au X.K te))
  (hb:Ls e a (mV (lG X dx od) x o).env (eval e (mV (lG X dx od) x o).env)=eval e (mV (lG X dx od) x o).env:=by rfl):PE (mV (lG X dx od) x o) (.Attribute e a pos) (au X.K (HS te x z)):=by
 intro pins s τ H Q I h;obtain⟨σ,G,Q3,rs,rg,h,kk⟩:=h;refine uz hb (br (he pins s τ H (fun v H1=>v=.ref x/\Q (.int z) H1) I ⟨σ,G,_,rs,rg,h,fun d G1 v H1 q k1 rg1 re=>?_⟩) fun u s1 zz=>?_)
 ·obtain⟨rfl,q⟩:=q;exact⟨re.ref,kk _ G1 _ H1 q k1 rg1 (.of bQ)⟩
 ·obtain⟨v,H1,I1,rx,rfl,q⟩:=zz;obtain rfl:u=Value.ref x:=rx;obtain⟨u',hl,ru⟩:=hx.look;refine GP I1.kIn A.g (oR hx I1) (findObj_own A.g.hd A.fa rfl hl) ?_ ⟨.int z,H1,I1.tok _,ru,q⟩;obtain⟨t,rfl⟩:=ru;rfl
end
structure MtX(P:KQ)(w:K2)(K:Nq)(mg:Str->Option KC)(base:K1)(k:Nat)(C:KE)(m:Str)(sp:wu):Prop where
 cl:Cls K C
 ex:∃ f fd ps,FnOk P w K mg base (uN P w) k f fd ps (ib K sp)/\Meth K C m f/\db K fd ps []
def pd(C:KE)(L:List Str)(sp:wu)(to:aL)(ta:iF)(EQ:XQ):bh:=fun D σ G=>to σ G fun x G1=>match x with
 | .ref a=>match G1 a with
  | some (.ins C' L' _)=>(C'=C/\L'=L)/\ta σ G1 fun ds G2=>sp (.ref a::ds) G2 (fun _ G3=>D.nx σ G3) EQ
  | _=>False
 | _=>False
def qz(te:aL):aL:=fun σ G Q=>te σ G fun d G1=>∃ ds,d=.fl ds/\∀ p,G1 p=none->Q (.ref p) (gset G1 p (.lst ds))
theorem tJ{X:Cx}{e:K4}{te:aL}(he:PE X e (au X.K te)):PE X e (au X.K (qz te)):=
 he.imp fun τ H Q ⟨σ,G,Q3,rs,rg,h,k⟩=>⟨σ,G,_,rs,rg,h,fun d G' v H' q k' rg' re=>by
  obtain⟨ds,rfl,q⟩:=q;obtain⟨p,xs,rfl,e1,e2,e3,e4⟩:=re.fl;exact k (.ref p) _ _ H' (q p e2) (BY k' e4) (BX rg' e1 e3) (.of d8)⟩
open PySem.SeqAt
structure FnM(K:Nq)(n q:Str)(st:Lf)(dV:KC)(f:KE):Prop where
 ex:∃ (oc:KC) (od an:Option KE) (sl:Array (Option KC)) (kV dc pm cd ct:KC),K.lookup f=some ⟨oc,od,.func (fnOf n q (cw st) (bn st) (ah st) dV kV dc pm an cd ct),sl⟩/\Pn K cd q=true
structure FnG(K:Nq)(n:Str)(st:Lf):Prop where
 ex:∃ f,nsIn K KR n=some (some (.ref f))/\FnM K n n st .none f/\OK K (.ref f)=true
structure MtG(K:Nq)(C:KE)(n q:Str)(st:Lf):Prop where
 ex:∃ f,Meth K C n f/\FnM K n q st .none f
structure CfG(K:Nq)(C:KE)(n q:Str)(st:Lf):Prop where
 ex:∃ f,(OI K (.ref C) "__getattribute__"=some (some (.builtin "type.__getattribute__"))/\readsIn K C (.type "type")=true/\findCls K (.ref C) (.type "type") n=some (.val (.ref f))/\OK K (.ref f)=true)/\FnM K n q st .none f
structure MtD(K:Nq)(C:KE)(n q:Str)(st:Lf)(x:Str):Prop where
 ex:∃ f t,Meth K C n f/\FnM K n q st (.ref t) f/\∃ (oc:KC) (od:Option KE) (tk:Tok) (nt:Nat) (sl:Array (Option KC)),K.lookup t=some ⟨oc,od,.seq #[.str x tk] nt,sl⟩
section
variable{K:Nq}{n q:Str}{st:Lf}{f C t:KE}{oc oc' dV kV dc pm cd ct:KC}{od od' an:Option KE}{sl sl':Array (Option KC)}
theorem uk(l:K.lookup f=some ⟨oc,od,.func (fnOf n q (cw st) (bn st) (ah st) dV kV dc pm an cd ct),sl⟩)(c:Pn K cd q=true):FnM K n q st dV f:=⟨_,_,_,_,_,_,_,_,_,l,c⟩
theorem fnG_mk(a:nsIn K KR n=some (some (.ref f)))(l:K.lookup f=some ⟨oc,od,.func (fnOf n n (cw st) (bn st) (ah st) .none kV dc pm an cd ct),sl⟩)(c:Pn K cd n=true)(k:OK K (.ref f)=true):FnG K n st:=⟨f,a,uk l c,k⟩
theorem mtG_mk(a:Oc K (.ref C) n=some (some (.ref f)))(i:isFn K (.ref f)=true)(l:K.lookup f=some ⟨oc,od,.func (fnOf n q (cw st) (bn st) (ah st) .none kV dc pm an cd ct),sl⟩)(c:Pn K cd q=true)(k:OK K (.ref f)=true):MtG K C n q st:=⟨f,⟨a,i,k⟩,uk l c⟩
theorem cfG_mk(g:OI K (.ref C) "__getattribute__"=some (some (.builtin "type.__getattribute__")))(r:readsIn K C (.type "type")=true)(a:findCls K (.ref C) (.type "type") n=some (.val (.ref f)))(l:K.lookup f=some ⟨oc,od,.func (fnOf n q (cw st) (bn st) (ah st) .none kV dc pm an cd ct),sl⟩)(c:Pn K cd q=true)(k:OK K (.ref f)=true):CfG K C n q st:=⟨f,⟨g,r,a,k⟩,uk l c⟩
theorem mtD_mk{x:Str}{tk:Tok}{nt:Nat}(a:Oc K (.ref C) n=some (some (.ref f)))(i:isFn K (.ref f)=true)(l:K.lookup f=some ⟨oc,od,.func (fnOf n q (cw st) (bn st) (ah st) (.ref t) kV dc pm an cd ct),sl⟩)(c:Pn K cd q=true)(k:OK K (.ref f)=true)(d:K.lookup t=some ⟨oc',od',.seq #[.str x tk] nt,sl'⟩):MtD K C n q st x:=⟨f,t,⟨a,i,k⟩,uk l c,_,_,_,_,_,d⟩
end
def C_(n q:Str)(st:Lf)(ps:List Str):Prop:=∀ (kV dc pm:KC) (an:Option KE) (cd ct:KC) (us:List KC),us.length=ps.length->bindArgs (fnOf n q (cw st) (bn st) (ah st) .none kV dc pm an cd ct) ⟨us,[]⟩=pure (ps.zip us)
section
variable(P:KQ)(w:K2)(base:K1){K:Nq}{h:K1}{mg:Str->Option KC}{k:Nat}{n q x:Str}{st:Lf}{ps:List Str}{sp:de}{C:KE}
theorem Ko(X:K.In h)(G:h.Ns KR mg)(H:FnG K n st)(ok:∀ {f fd},Fun3 K n n st f fd->FnOk P w K mg base l_ k f fd ps (bC K sp))(b:C_ n n st ps:=by walk_at "b"):Fn3 P w K mg base k n [] sp:=by
 obtain⟨f,a,⟨⟨_,_,_,_,_,_,_,_,_,l,c⟩⟩,kp⟩:=H.ex;exact⟨_,_,_,[],[],ok (er l c),mg_of X G a,kp,.all (b _ _ _ _ _ _),.nil,fun _=>RDs.nil⟩
theorem Kl(cl:Cls K C)(H:MtG K C n q st)(ok:∀ {f fd},Fun3 K n q st f fd->FnOk P w K mg base l_ k f fd ps (bC K sp))(b:C_ n q st ps:=by walk_at "b"):Mt3 P w K mg base k C n [] sp:=by
 obtain⟨f,a,⟨⟨_,_,_,_,_,_,_,_,_,l,c⟩⟩⟩:=H.ex;exact⟨cl,_,_,_,[],[],ok (er l c),a,.all (b _ _ _ _ _ _),.nil,fun _=>RDs.nil⟩
theorem IS(X:K.In h)(G:h.Ns KR mg)(ca:nsIn K KR x=some (some (.ref C)))(m:makesIn K C=true)(kc:OK K (.ref C)=true)(H:MtG K C "__init__" q st)(ok:∀ {f fd},Fun3 K "__init__" q st f fd->FnOk P w K mg base l_ k f fd ps (bC K sp))(b:C_ "__init__" q st ps:=by walk_at "b"):Mk3 P w K mg base k x C [] sp:=by
 obtain⟨f,a,⟨⟨_,_,_,_,_,_,_,_,_,l,c⟩⟩⟩:=H.ex;exact⟨_,_,_,[],[],⟨m,a.at_,a.fn,kc⟩,mg_of X G ca,ok (er l c),.all (b _ _ _ _ _ _),.nil,fun _=>RDs.nil⟩
theorem Ks(X:K.In h)(G:h.Ns KR mg)(ca:nsIn K KR x=some (some (.ref C)))(H:CfG K C n q st)(ok:∀ {f fd},Fun3 K n q st f fd->FnOk P w K mg base l_ k f fd ps (bC K sp))(b:C_ n q st ps:=by walk_at "b"):Cf3 P w K mg base k x n [] sp:=by
 obtain⟨f,⟨g,r,a,kp⟩,⟨⟨_,_,_,_,_,_,_,_,_,l,c⟩⟩⟩:=H.ex;exact⟨C,_,_,_,[],[],ok (er l c),mg_of X G ca,g,r,a,kp,.all (b _ _ _ _ _ _),.nil,fun _=>RDs.nil⟩
end
section
variable(P:KQ)(w:K2)(base:K1){K:Nq}{h:K1}{mg:Str->Option KC}{k:Nat}{n q x:Str}{st:Lf}{ps:List Str}{sp:wu}{C:KE}
theorem JL(X:K.In h)(G:h.Ns KR mg)(H:FnG K n st)(ok:∀ {f fd},Fun3 K n n st f fd->FnOk P w K mg base (uN P w) k f fd ps (ib K sp))(b:C_ n n st ps:=by walk_at "b"):FnX P w K mg base k n sp:=by
 obtain⟨f,a,⟨⟨_,_,_,_,_,_,_,_,_,l,c⟩⟩,kp⟩:=H.ex;exact⟨_,_,_,ok (er l c),mg_of X G a,kp,.all (b _ _ _ _ _ _)⟩
theorem Jy(cl:Cls K C)(H:MtG K C n q st)(ok:∀ {f fd},Fun3 K n q st f fd->FnOk P w K mg base (uN P w) k f fd ps (ib K sp))(b:C_ n q st ps:=by walk_at "b"):MtX P w K mg base k C n sp:=by
 obtain⟨f,a,⟨⟨_,_,_,_,_,_,_,_,_,l,c⟩⟩⟩:=H.ex;exact⟨cl,_,_,_,ok (er l c),a,.all (b _ _ _ _ _ _)⟩
end
theorem _root_.L2.Room.m{j k:Nat}{A:KY}(h:Room k A)(d:j<=k:=by decide):Room j A:=h.mono d
section
variable{P:KQ}{w:K2}{base:K1}{K:Nq}{h:K1}{mg:Str->Option KC}{n q x:Str}{st:Lf}{N ps:List Str}{sp:de}{spx:wu}{rd:bh}{rx:XQ->bh}{C f:KE}{fd:Lz}
abbrev J1(P:KQ)(w:K2)(K:Nq)(mg:Str->Option KC)(base:K1)(k:Nat)(N:List Str)(q:Str)(st:Lf)(rd:bh):Prop:=∀ {f:KE} {cdv:KC} {A:KY} {outer:List Env} {s:KF} {H:Hp} {E:XK},Room k (A.deeper (MR q (ah st) s.heap.objs.size f cdv))->(A.deeper (MR q (ah st) s.heap.objs.size f cdv)).units+8 < Ly->(A.deeper (MR q (ah st) s.heap.objs.size f cdv)).units+4 < Ly->fh (ow l_ P w K mg base N q (ah st) f cdv A outer s H E).nox (bn st) (aZ K rd)
abbrev GH(P:KQ)(w:K2)(K:Nq)(mg:Str->Option KC)(base:K1)(k:Nat)(N:List Str)(q:Str)(st:Lf)(rx:XQ->bh):Prop:=∀ {f:KE} {cdv:KC} {A:KY} {outer:List Env} {s:KF} {H:Hp} {E:XK} {EQ:XQ},Room k (A.deeper (MR q (ah st) s.heap.objs.size f cdv))->(A.deeper (MR q (ah st) s.heap.objs.size f cdv)).units+8 < Ly->(A.deeper (MR q (ah st) s.heap.objs.size f cdv)).units+4 < Ly->fh (ow (uN P w) P w K mg base N q (ah st) f cdv A outer s H E) (bn st) (dq K E EQ (rx EQ))
theorem E1(k:Nat)(F:Fun3 K n q st f fd)(S:FnScope N ps (ah st))(len:∀ ds G Q,sp ds G Q->ds.length=ps.length)(rok:∀ ds G Q,sp ds G Q->rd { nx:=fun _ G'=>Q .non G',rt:=Q } (aw N ds) G)(d:J1 P w K mg base k N q st rd):FnOk P w K mg base l_ (k+1) f fd ps (bC K sp):=
 Fun3.ok3 F S len fun _ _ _ _ _ _ hr=>⟨rd,d hr (by have:=hr.units;omega) (by have:=hr.units;omega),rok⟩
theorem J6(k:Nat)(F:Fun3 K n q st f fd)(S:FnScope N ps (ah st))(len:∀ ds G Q EQ,spx ds G Q EQ->ds.length=ps.length)(rok:∀ EQ ds G Q,spx ds G Q EQ->rx EQ { nx:=fun _ G'=>Q .non G',rt:=Q } (aw N ds) G)(d:GH P w K mg base k N q st rx):FnOk P w K mg base (uN P w) (k+1) f fd ps (ib K spx):=
 Fun3.okX F S len fun _ _ _ _ _ _ EQ hr=>⟨rx EQ,d hr (by have:=hr.units;omega) (by have:=hr.units;omega),rok EQ⟩
variable(P w base)
theorem ou(X:K.In h)(G:h.Ns KR mg)(H:FnG K n st)(k:Nat)(S:FnScope N ps (ah st))(len:∀ ds G Q,sp ds G Q->ds.length=ps.length)(rok:∀ ds G Q,sp ds G Q->rd { nx:=fun _ G'=>Q .non G',rt:=Q } (aw N ds) G)(d:J1 P w K mg base k N n st rd)(b:C_ n n st ps:=by walk_at "b"):Fn3 P w K mg base (k+1) n [] sp:=Ko P w base X G H (fun F=>E1 k F S len rok d) b
variable(mg) in
theorem B6(cl:Cls K C)(H:MtG K C n q st)(k:Nat)(S:FnScope N ps (ah st))(len:∀ ds G Q,sp ds G Q->ds.length=ps.length)(rok:∀ ds G Q,sp ds G Q->rd { nx:=fun _ G'=>Q .non G',rt:=Q } (aw N ds) G)(d:J1 P w K mg base k N q st rd)(b:C_ n q st ps:=by walk_at "b"):Mt3 P w K mg base (k+1) C n [] sp:=Kl P w base cl H (fun F=>E1 k F S len rok d) b
theorem JK(X:K.In h)(G:h.Ns KR mg)(H:FnG K n st)(k:Nat)(S:FnScope N ps (ah st))(len:∀ ds G Q EQ,spx ds G Q EQ->ds.length=ps.length)(rok:∀ EQ ds G Q,spx ds G Q EQ->rx EQ { nx:=fun _ G'=>Q .non G',rt:=Q } (aw N ds) G)(d:GH P w K mg base k N n st rx)(b:C_ n n st ps:=by walk_at "b"):FnX P w K mg base (k+1) n spx:=JL P w base X G H (fun F=>J6 k F S len rok d) b
variable(mg) in
theorem HJ(cl:Cls K C)(H:MtG K C n q st)(k:Nat)(S:FnScope N ps (ah st))(len:∀ ds G Q EQ,spx ds G Q EQ->ds.length=ps.length)(rok:∀ EQ ds G Q,spx ds G Q EQ->rx EQ { nx:=fun _ G'=>Q .non G',rt:=Q } (aw N ds) G)(d:GH P w K mg base k N q st rx)(b:C_ n q st ps:=by walk_at "b"):MtX P w K mg base (k+1) C n spx:=Jy P w base cl H (fun F=>J6 k F S len rok d) b
end
end L3
namespace L2
open PySem PySem.Spec PyProof.Rows L3 PySem.W
structure Held(X:Cx)(pins:List (KE×Obj))(H:Hp)(s:KF)(x:KE)(o:Obj)(dx:KE)(od:Obj):Prop where
 ok:X.Ok
 ok2:(lG X dx od).Ok
 fl:∃ T oT vs ts,o.data=.fields vs/\vs[1]?=some (.ref T)/\s.heap.get? T=some oT/\oT.data=.fields ts/\3 < ts.size/\kO (mV (lG X dx od) x o) pins H T
def PH(X:Cx)(hs:List MZ)(C:KE)(a:Str)(i:Nat)(t:V->KE->TS):Prop:=∀ v x o dx od,XIs C o dx od a v->∀ pins s σ H D,Inv (mV (lG X dx od) x o) pins σ H s->Held X pins H s x o dx od->t v x (Ends.un i D) (σ.set i (some (.ref x))) H->KI (KL X.prog X.w) X.A (handleBy (.ref x) X.env hs) (SP X pins D) X.xe s
section
variable{X:Cx}{pins:List (KE×Obj)}{σ:St}{H H1:Hp}{s s1 s':KF}{C CB:KE}{a cn n:Str}{i:Nat}{t:V->KE->TS}{b₀:Lf}{QC:List Lf}{bP:List MZ}{p2 Q2:Pos}
theorem zp{x dx:KE}{o od:Obj}{v:V}(hx:XIs C o dx od a v)(e:s.heap.get? x=some o):OT (KL X.prog X.w) s.heap (typeOf (.ref x)) (.ref C):=hx.cls ▸ (Looks.ld e).andThen .now
theorem wV(hg2:Gl X cn)(hm2:X.mg cn=some (.ref CB))(he:exmOne X.K (.ref C) (.ref CB)=some true)(hN:X.N.Nodup)(hi:X.N[i]?=some n)(hl:X.env.scope.names.lookup n=some .local)
  (Qz:∀ v x o dx od,XIs C o dx od a v->fh (mV (lG X dx od) x o) (b₀::QC) (t v x)) (SL:(cn == ("__debug__":Str))=false:=by decide):PH X (.ExceptHandler (some (.Name cn p2)) (some n) (b₀::QC) Q2::bP) C a i t:=by
 intro v x o dx od hx pins s σ H D I K q;have e:=(I.pin (x,o) (by simp)).1
 refine An (jw (X:=mV (lG X dx od) x o) I hg2 hm2 ?_ SL);refine (exm_one (M:=KL X.prog X.w) I.kIn (zp (X:=X) hx e) he).here (s:=s) ⟨rfl,?_⟩;obtain⟨ok,ok2,T,oT,vs,ts,hd,h1,hT,hTd,h3,fp⟩:=K;refine wpAny_setFlight_none e hd h1 hT hTd h3 ?_;have I3:Inv (mV (lG X dx od) x o) pins σ H { s with heap:=s.heap.update T (Lu (·.setIfInBounds 3 Value.none)) }:=
  Inv.turnedL (s:=s) (t':=s.toks) (fp:=[T]) I (fun b o hb q=>(Ln _ _ (fun z=>hb (by simp[z]))).trans q) fun b hb=>by rw[mem_singleton.mp hb];exact fp
 refine kU (X:=mV (lG X dx od) x o) I3 hN hi (.inl hl) (v:=.ref x) rfl (fun s4 I4=>?_) (.inr hl);refine K9 (Qz v x o dx od hx pins s4 _ _ (Ends.un i D) I4 q) (fun fl s5 hq=>?_) fun _ _ z=>z;have fin:∀ {σ':St} {H':Hp},Inv (mV (lG X dx od) x o) pins σ' H' s5->(∀ s6,Inv X pins (σ'.set i none) H' s6->SP X pins D fl s6)->KI (KL X.prog X.w) X.A (do bindName X.env n .none;N9 X.env n Q2) (fun _ s6=>SP X pins D fl s6) X.xe s5:=fun {σ' H'} K5 kk=>by
  have I5:=Inv.ofP ok (Inv.ofH ok2 K5);have hiσ:i < σ'.length:=by rw[I5.len];exact (List.getElem?_eq_some_iff.mp hi).1
  refine KB (wpAny_bindName (kU I5 hN hi (.inl hl) (v:=.non) rfl (fun s6 I6=>?_) (.inr hl)));unfold N9;refine NJ (zw I6 hN hi hl (v:=.non) (by rw[List.getElem?_set_self hiσ]) fun s7 I7=>?_)
  rw[List.set_set]at I7;exact kk s7 I7
 cases fl with
 | next=>
  obtain⟨σ',H',K5,q5⟩:=hq;exact fin K5 fun s6 I6=>⟨_,_,I6,q5⟩
 | brk=>
  obtain⟨σ',H',K5,q5⟩:=hq;exact fin K5 fun s6 I6=>⟨_,_,I6,q5⟩
 | cont=>
  obtain⟨σ',H',K5,q5⟩:=hq;exact fin K5 fun s6 I6=>⟨_,_,I6,q5⟩
 | ret u=>
  obtain⟨v,σ',H',K5,rv,q5⟩:=hq;exact fin K5 fun s6 I6=>⟨v,_,_,I6,rv,q5⟩
theorem JA{E:XK}{e:KC}{D:Ends}{hs:List MZ}(hst:X.stack=X.env::X.outer)(hf:X.env.frame=some X.env.locals)(I1:Inv X pins σ H1 s1)(hq:uN X.prog X.w X.stack H1 s1 E e s')
  (hE:∀ cls dxo H2,E cls dxo H2->∃ C dx a v t,cls=.ref C/\dxo=some dx/\H2 dx=some (.xd [(a,v)])/\PH X hs C a i t/\(H1 dx=none->∀ x,f_ H2 dx x=none->t v x (Ends.un i D) (σ.set i (some (.ref x))) (f_ H2 dx))):
  KI (KL X.prog X.w) X.A (O7 e X.env) (fun _ s₂=>KI (KL X.prog X.w) X.A (OJ e none) (fun _ s₃=>KI (KL X.prog X.w) X.A (handleBy e X.env hs) (SP X pins D) X.xe s₃) X.xe s₂) X.xe s':=by
 obtain⟨x,C,dx,H2,rfl,os,bare,un,hok,fly,hd0,hq⟩:=hq;obtain⟨C1,dx1,a,v,t,e1,e2,hxd,ph,hth⟩:=hE _ _ _ hq;cases e1;cases e2;have SM:H1 dx=none:=by
  cases z:H1 dx with
  | none=>rfl
  | some o=>obtain⟨ob,z'⟩:=B0 (I1.hok dx o z);rw[hd0]at z';cases z'
 have J:Inv X pins σ H2 s':=I1.call' os un hok bare (fun b z=>absurd z (by simp))
 obtain⟨h0,hx,oe,vs',hex,hc,hdx,hd,hh⟩:=fly;have hsz:1 < vs'.size:=by
  rcases hh with z|⟨T,_,_,z,_⟩
  ·exact (Array.getElem?_eq_some_iff.mp z).1
  ·exact (Array.getElem?_eq_some_iff.mp z).1
 have hH:xI s'.heap x vs':=by
  rcases hh with z|⟨T,oT,ts,z1,z2,z3,z4,z5,z6,z7⟩
  ·exact .inl z
  ·exact .inr ⟨T,oT,ts,z1,z2,z5,z6,z7⟩
 have hTn:∀ T,vs'[1]?=some (.ref T)->(s1.heap.objs.size<=T/\∃ oT ts,s'.heap.get? T=some oT/\oT.data=.fields ts)/\H2 T=none:=fun T z=>by
  rcases hh with z1|⟨T',oT,ts,z1,z2,z3,z4,z5,z6,z7⟩
  ·rw[z1]at z;cases z
  ·rw[z1]at z;cases z;exact⟨⟨z3,oT,ts,z5,z6⟩,z4⟩
 have QW:=J.stack;rw[hst]at QW;refine r_ (base:=X.base) (by rw[J.ok.frames,hst]) QW hf hex hd hH fun h' N=>?_
 have N':Noted (ue X.stack) x oe vs' s'.heap h':=by rw[hst];exact N
 have sz1:X.s₀.heap.objs.size<=s1.heap.objs.size:=I1.sz;obtain⟨hok2,_⟩:=J.noted N' J.sz (le_trans sz1 h0) hx hex hc hdx hd hsz fun T z=>(hTn T z).2;have J2:Inv X pins σ H2 { s' with heap:=h' }:=J.note hst hf N' hok2 hex hd sz1 h0 (fun p hp=>KN (I1.pin p hp).1) fun T z=>(hTn T z).1
 obtain⟨T',oT',ts',t1,t2,t3,t4,t5,t6⟩:=N.exc;have hd2:=LC hd (·.setIfInBounds 1 (Value.ref T'));have hc2:(oe.mapFields (·.setIfInBounds 1 (Value.ref T'))).cls=.ref C:=(NF _ _).trans hc;have SK:(oe.mapFields (·.setIfInBounds 1 (Value.ref T'))).dict=some dx:=(i9 hd).trans hdx;generalize oe.mapFields (·.setIfInBounds 1 (Value.ref T'))=o2 at *
 obtain⟨mA,ns,rl⟩:=J2.hok dx _ hxd;obtain⟨od,hod,hlk⟩:=sf ns;have hnc:∀ v,od.data≠.cell v:=fun v z=>by
  obtain⟨o',es,ep,ho',hd',_⟩:=ns;rw[hod]at ho';cases ho';rw[z]at hd';cases hd'
 have lk:∃ u,lookIn a od=some (some u)/\RelV v u:=by
  have r:=rl a;simp only[List.lookup,beq_self_eq_true]at r;cases hm:mA a with
  | none=>rw[hm]at r;exact r.elim
  | some u=>rw[hm]at r;exact⟨u,by rw[hlk,hm],r⟩
 have xdx:x≠dx:=fun z=>by rw[z,hxd]at hx;cases hx
 have hx':f_ H2 dx x=none:=by rw[bx xdx];exact hx
 have dl:dx≠X.env.locals:=fun z=>by have:=J2.free;rw[<- z,hxd]at this;cases this
 have dfs:dx∉X.fs:=fun z=>by
  have:=J2.stkFree dx (by rw[hst];show dx∈(X.env::X.outer).filterMap _;rw[L6,hf];exact KZ _ z)
  rw[hxd]at this;cases this
 have JP:Inv (lG X dx od) pins σ (f_ H2 dx) { s' with heap:=h' }:=(J2.dropX hxd).toP hod jy dl dfs hnc
 have dlt:dx < s'.heap.objs.size:=(J.hok dx _ hxd).lt;obtain⟨x1,x2⟩:=J2.rec_ne t1 hd2;have nfs:∀ b,X.s₀.heap.objs.size<=b->b∉X.fs:=fun b hb z=>by
  obtain⟨o,ho,_⟩:=(J2.ok.funs.mem (show b∈X.outer.filterMap (·.frame)from z)).2
  exact not_lt.mpr hb (KN ho)
 have HI:Inv (mV (lG X dx od) x o2) pins σ (f_ H2 dx) { s' with heap:=h' }:=JP.toH t1 hx' x1 (nfs x (le_trans sz1 h0)) fun v z=>by rw[hd2]at z;cases z
 have szT:s'.heap.objs.size<=T':=t2;obtain⟨y1,y2⟩:=J2.rec_ne t4 t5;refine ph v x o2 dx od ⟨hc2,SK,⟨_,hd2⟩,lk⟩ pins _ σ _ D HI ⟨J.ok,JP.ok,T',oT',_,ts',hd2,by simp[hsz],t4,t5,(Array.getElem?_eq_some_iff.mp t6).1,?_⟩ (hth SM x hx')
 refine⟨(bx (fun z:T'=dx=>not_lt.mpr szT (by rw[z];exact dlt))).trans (J.hok.fresh szT),y1,nfs T' (le_trans J.sz szT),.inr (le_trans J.sz szT),y2,fun p hp z=>?_⟩
 rcases Le.mp hp with w|w
 ·subst w;exact t3 z.symm
 ·rcases Le.mp w with w|w
  ·subst w;exact not_lt.mpr szT (by rw[<- show dx=T' from z];exact dlt)
  ·exact not_lt.mpr szT (z ▸ (KN (J.pin p w).1:p.1 < _))
end
def PY(X:Cx)(sts:List Lf)(t:Ends->(Hp->XK)->St->Hp->Prop):Prop:=∀ (pins:List (KE×Obj)) (s:KF) (σ:St) (H:Hp) (D:Ends) (E:Hp->XK),Inv X pins σ H s->t D E σ H->KI (KL X.prog X.w) X.A (execs sts X.env) (SP X pins D) (fun e s'=>∃ H1 s1,Inv X pins σ H1 s1/\uN X.prog X.w X.stack H1 s1 (E H1) e s') s
end L2
namespace L3
open PySem PySem.Spec PyProof.Rows L2 PySem.W
def E2(K:Nq)(rb:XQ->bh):Ends->(Hp->XK)->St->Hp->Prop:=fun D E τ H=>∃ σ G D3 EQ,RS K H σ τ/\RG K H G/\rb EQ D3 σ G/\EndsOk K G H D3 D/\∀ G1 H1,Kp G H G1 H1->RG K H1 G1->xJ K G1 H1 EQ (E H1)
section
variable{X:Cx}
theorem AT{pl:Sem Bool}{L:List Str}{k:Nat}{C:KE}{m:Str}{sp:wu}{o e:K4}{es:List K4}{to:aL}{t:iF}{apos pos pos1:Pos}(F:MtX X.prog X.w X.K X.mg X.base k C m sp)(hL:m∉L)(hr:Room k X.A)(ho:PE X.nox o (au X.K to))(ha:PA X.nox (e::es) (cT X.K t))
  (hst:KO (e::es) X.env=(false,eval e X.env)::KO es X.env:=by rfl) (hpl:(LN pos (KO es X.env)).any (·.1)=false:=by rfl)
  (ht:eval (.Call (.Attribute o m apos) (e::es) [] pos) X.env=(do
   let ov <- eval o X.env
   Nu apos.atName
   let (f,first) <- holding [ov] (Nv ov m pl)
   Oz pos f first (LN pos (KO (e::es) X.env)) (No pos (Mv [] X.env))):=by rfl) (hs:Mb (.Call (.Attribute o m apos) (e::es) [] pos) none pos1.line X.env=pure false:=by rfl):
  PY X [.Expr (.Call (.Attribute o m apos) (e::es) [] pos) pos1] (E2 X.K fun EQ=>pd C L sp to t EQ):=by
 intro pins s τ H D E I h;obtain⟨f,fd,ps,F',hm,hb⟩:=F.ex;obtain⟨σ,G,D3,EQ,rs,rg,h,kk,fx⟩:=h;refine OH (wpAny_Expr_any ?_ I.quiet hs);refine NK (pl:=pl) (K9 (ho pins s τ H (fun v H1=>∃ a G1,v=.ref a/\(match G1 a with|some (.ins C' L' _)=>(C'=C/\L'=L)/\t σ G1 fun ds G2=>sp (.ref a::ds) G2 (fun _ G3=>D3.nx σ G3) EQ|_=>False)/\Kp G H G1 H1/\RG X.K H1 G1) (I.wish _) ⟨σ,G,_,rs,rg,h,fun d G1 v H1 q k1 rg1 re=>?_⟩) (fun u s1 zz=>?_) fun _ _ z=>z.elim) ht
 ·cases d with
  | ref a=>exact⟨a,G1,re.ref,q,k1,rg1⟩
  | _=>exact q.elim
 obtain⟨v,H1,I1,rv,a,G1,rfl,q,k1,rg1⟩:=zz;have I1:=I1.unwish;obtain rfl:u=Value.ref a:=rv;split at q
 ·rename_i C' L' ds hg;obtain⟨⟨rfl,rfl⟩,q⟩:=q;obtain⟨ho1,e1,ro⟩:=rg1 a _ hg;cases ho1 with
  | ins C2 dx gs=>
   obtain⟨rfl,r2,r3⟩:=ro;refine kK I1 e1 F.cl hm (mK (K:=X.K) r2 hL) ?_;refine Nx (first:=[.ref a]) (h₀:=X.base) I.ok.mod.kin hm.kp (K9 (ha pos pins s1 τ H1 (fun vs H2=>∃ ds' G2,sp (.ref a::ds') G2 (fun _ G3=>D3.nx σ G3) EQ/\Kp G1 H1 G2 H2/\RG X.K H2 G2/\RDs X.K H2 ds' vs) (I1.wish _) ⟨σ,G1,_,rs.mono (k1.stb rg),rg1,q,fun ds' G2 vs H2 q2 k2 rg2 rds=>⟨ds',G2,q2,k2,rg2,rds⟩⟩) (fun us s2 z2=>?_) fun _ _ z=>z.elim) hst hpl
   obtain⟨vs,H2,I2,rv2,ds',G2,q2,k2,rg2,rds⟩:=z2;have I2:=I2.unwish;refine⟨I2.kIn,?_⟩;have z:ib X.K sp (.ref a::vs) H2 (fun _ H3=>D.nx τ H3) (E H2):=⟨.ref a::ds',G2,_,EQ,RDs.cons d8 rds,rg2,q2,fun d G' v H' q' k' rg' _=>kk.nx σ G' τ H' q' ((k1.trans k2).trans k') rg' (rs.mono (((k1.trans k2).trans k').stb rg)),fx G2 H2 (k1.trans k2) rg2⟩;have r2:Vals (.ref a::vs) (.ref a::us):=.cons rfl rv2;have hlen:((.ref a::us:List KC) ++ []).length=ps.length:=by rw[M5,<- r2.length];exact F'.len _ _ _ _ z
   have hb1:=hb s2 (.ref a::us) I2.kIn hlen;rw[M5]at hb1;refine Nh (Mz (F'.run X.A X.stack s2 H2 ⟨.ref a::us,[]⟩ (.ref a::us) (.ref a::vs) _ _ hr I2.env0 hb1 r2 z) fun r' s' hq=>?_);cases r' with
   | ok fl=>
    cases fl with
    | ret u=>
     obtain⟨v,H3,I3,rv,q3⟩:=I2.after hq;exact MB ⟨τ,H3,I3,q3⟩
    | next=>exact False.elim hq
    | brk=>exact False.elim hq
    | cont=>exact False.elim hq
   | error ev=>exact⟨H2,s2,I2,hq⟩
  | _=>exact ro.elim
 ·exact q.elim
def eZ(K:Nq)(t:D->KE->bh):V->KE->TS:=fun v x D τ H=>∃ d σ G D3,RD K H d v/\RS K H σ τ/\RG K H G/\t d x D3 σ G/\EndsOk K G H D3 D
def xV(tab:List (KE×Str×(D->KE->bh)))(i:Nat)(rb:XQ->bh):bh:=fun D σ G=>rb (fun C a d G2=>∃ t,(C,a,t)∈tab/\∀ x,G2 x=none->t d x (Ends3.un i D) (σ.set i (some (.ref x))) G2) D σ G
theorem Bq{i:Nat}{tab:List (KE×Str×(D->KE->bh))}{rb:XQ->bh}{body:List Lf}{h₀:MZ}{hs:List MZ}{Sn:Pos}(hst:X.stack=X.env::X.outer)(hf:X.env.frame=some X.env.locals)(hy:PY X body (E2 X.K rb))
  (hh:∀ p∈tab,PH X (h₀::hs) p.1 p.2.1 i (eZ X.K p.2.2)):PS X (.Try body (h₀::hs) [] [] Sn) (aZ X.K (xV tab i rb)):=by
 intro pins s τ H D I h;obtain⟨σ,G,D3,rs,rg,h,kk⟩:=h;refine wpAny_Try_except (K9 (hy pins s τ H D (fun H1 cls dxo H2=>∃ C dx a v t,cls=.ref C/\dxo=some dx/\H2 dx=some (.xd [(a,v)])/\PH X (h₀::hs) C a i t/\(H1 dx=none->∀ x,f_ H2 dx x=none->t v x (Ends.un i D) (τ.set i (some (.ref x))) (f_ H2 dx))) I
  ⟨σ,G,D3,_,rs,rg,h,kk,fun G1 H1 k1 rg1=>?_⟩) (fun f s1 q=>?_) fun e s' q=>?_)
 ·intro C a d G' v dx H' q' k' rg' n e rd;obtain⟨t,mem,hth⟩:=q';refine⟨C,dx,a,v,_,rfl,rfl,e,hh _ mem,fun h1 x hx=>?_⟩;have rg2:RG X.K (f_ H' dx) G':=fun b o q=>by
   obtain⟨ho,e1,r⟩:=rg' b o q;exact⟨ho,by rw[bx (fun y=>by rw[y,n]at q;cases q)];exact e1,r.mono (xT e)⟩
  have kp:Kp G H G' (f_ H' dx):=fun b o e0 n0=>by
   obtain⟨a1,a2⟩:=k1 b o e0 n0;obtain⟨c1,c2⟩:=k' b o a1 a2;exact⟨by rw[bx (fun y=>by rw[y,h1]at a1;cases a1)];exact c1,c2⟩
  refine⟨d,_,G',_,RD.mono (xT e) _ _ rd,RS.set (d:=.ref x) (by simp only[RD]) i (rs.mono (kp.stb rg)),rg2,hth x (rg2.free hx),?_⟩
  have kb:=kk.base kp;exact⟨fun σ' G2 τ' H2 q k2 r2 s2=>kb.nx _ _ _ _ q k2 r2 (RS.unset i s2),kb.rt,fun σ' G2 τ' H2 q k2 r2 s2=>kb.bk _ _ _ _ q k2 r2 (RS.unset i s2),fun σ' G2 τ' H2 q k2 r2 s2=>kb.ct _ _ _ _ q k2 r2 (RS.unset i s2)⟩
 ·cases f with
  | next=>exact MB q
  | _=>exact q
 ·obtain⟨H1,s1,I1,q⟩:=q;exact JA hst hf I1 q fun _ _ _ z=>z
end
def GV(te:TE)(x:KE)(v:V):TE:=fun σ H Q=>te σ H fun y H1=>y=.ref x/\Q v H1
theorem FK{X:Cx}{C x dx b:KE}{o od:Obj}{a:Str}{e:K4}{te:TE}{pos:Pos}(hx:XIs C o dx od a (.ref b))(A:XAsk X.K C a)(he:PE (mV (lG X dx od) x o) e te)
  (hb:Ls e a (mV (lG X dx od) x o).env (eval e (mV (lG X dx od) x o).env)=eval e (mV (lG X dx od) x o).env:=by rfl):PE (mV (lG X dx od) x o) (.Attribute e a pos) (GV te x (.ref b)):=by
 intro pins s τ H Q I h;refine uz hb (br (he pins s τ H _ I h) fun u s1 zz=>?_);obtain⟨v,H1,I1,rx,rfl,q⟩:=zz;obtain rfl:u=Value.ref x:=rx;obtain⟨u',hl,ru⟩:=hx.look;obtain rfl:u'=Value.ref b:=ru;exact GP I1.kIn A.g (oR hx I1) (findObj_own A.g.hd A.fa rfl hl) rfl ⟨.ref b,H1,I1.tok _,rfl,q⟩
end L3
namespace L2
open PySem PySem.Spec PyProof.Rows L3
def EG(Q:Hp->Prop)(H1:Hp):Prop:=∃ a ob hw xs,H1 a=some (.ext (AR ob hw a xs))/\Q (aI H1 a (.ext (nL hw a xs)))
theorem Inv.thaw{X:Cx}{pins:List (KE×Obj)}{σ:St}{H1:Hp}{s:KF}{Q:Hp->Prop}(I:Inv X pins σ H1 s)(h:EG Q H1):∃ H2,Inv X pins σ H2 s/\Q H2:=by
 obtain⟨a,ob,hw,xs,e,q⟩:=h;obtain⟨e3,f⟩:=(show ba X.prog X.w H1 s.heap a (.ext (AR ob hw a xs))from I.hok a _ e).1
 exact⟨_,I.write (t':=s.toks) (x:=a) (e:=a) (by rw[e];exact True.intro) (.inl rfl) (fun _ _ _ q=>q) ⟨ob,e3⟩ (kM f),q⟩
theorem DI{X:Cx}{st:Lf}{t:TS}(h:PS X st t):PS X st fun D σ H=>t { D with nx:=fun σ'=>EG (D.nx σ') } σ H:=fun pins s σ H D I q=>
 K9 (h pins s σ H _ I q) (fun f s1 z=>by
  cases f with
  | next=>obtain⟨σ',H1,I1,q⟩:=z;obtain⟨H2,I2,q2⟩:=I1.thaw q;exact⟨σ',H2,I2,q2⟩
  | _=>exact z) fun _ _ z=>z
end L2
namespace L3
open PySem PySem.Spec PyProof.Rows L2 PySem.W
section
variable{X:Cx}{elt tg iter:K4}{ifs:List K4}{scope:MX}{T M:List Str}{pos:Pos}{tl:aL}{g:m6}{tt:iJ}{te:aL}
theorem AY{H:Hp}{a p:KE}{u w:HO}(h:p≠a):aI (aI H p u) a w=aI (aI H a w) p u:=by
 funext b;unfold aI
 by_cases hb:b=a
 ·rw[if_pos hb,if_neg (fun z=>h (z.symm.trans hb)),if_pos hb]
 ·rw[if_neg hb,if_neg hb]
end
theorem zJ{K:Nq}{H:Hp}{kvs:List (List ar×D)}{xs:List (List ar×KE×KC)}(r:jM K H kvs xs):RDs K H (kvs.map qe) (xs.map fun x=>V.ref x.2.1):=by
 unfold jM at r
 induction r with
 | nil=>exact RDs.nil
 | cons h _ ih=>exact RDs.cons (by unfold qe;simp only[RD];exact⟨_,_,rfl,h.2.1,pD _⟩) ih
theorem Cc{vs:List KC}{acc:Array KC}{n:Nat}(hn:vs.length=n)(h:ItemsOf (fun i v=>vs[i]?=some v) acc n):acc.toList=vs:=by
 refine List.ext_getElem? fun i=>?_;rcases MC i acc.size with q|q
 ·rw[h.2 i acc[i] (by simp[q])]
  simp[q]
 ·rw[Mc (by simpa using q),Mc (by rw[hn,<- h.1];exact q)]
theorem Ae{X:Cx}{pins:List (KE×Obj)}{τ:St}{H1:Hp}{G G1:Gp}{H:Hp}{s1:KF}{h':K1}{tk c':Nat}{acc:Array KC}{ds:List D}{vs:List V}{Q:VK}{Q3:fK}{p:KE}(I1:L2.Inv X pins τ H1 s1)(hp:s1.heap.objs.size<=p)(keep:∀ c o,s1.heap.get? c=some o->h'.get? c=some o)
  (hS:h'.get? p=some { cls:=.type "list",dict:=none,data:=.seq acc c',slots:=#[] }) (vv:Vals vs acc.toList) (len:vs.length<=KM) (rd:RDs X.K H1 ds vs) (k1:Kp G H G1 H1) (rg1:RG X.K H1 G1) (q:Q3 (.fl ds) G1) (k:oB X.K G H Q3 Q):EP X pins τ Q (.ref p) { s1 with heap:=h',toks:=tk }:=by
 have fr:H1 p=none:=I1.hok.fresh hp;exact⟨.ref p,aI H1 p (.lst vs),I1.laid keep hp ⟨len,acc.toList,c',vv,by simpa using hS⟩,rfl,k _ G1 _ _ q (k1.trans (Kp.laid fr)) (rg1.laid fr) ((qx rg1 fr rd).base k1)⟩
theorem oW:∀ xs:List (List ar×KE×KC),Vals (xs.map fun x=>V.ref x.2.1) (xs.map fun x=>Value.ref x.2.1)
 | []=>.nil
 | _::r=>.cons rfl (oW r)
open PySem.SeqAt
abbrev jO(h:K1)(it d:KE)(i n ep:Nat)(f0 f1 ok ov:KC):Prop:=
 h.get? it=some { cls:=.type "dict_itemiterator",dict:=none,data:=.fields #[f0,f1,.ref d,.int i 0,.int n 0,.int ep 0,ok,ov],slots:=#[] }
section
variable{prog:KQ}{w:K2}{A:KY}{E:KC->KF->Prop}{s:KF}{d r it:KE}{kvs:List (ar×KC)}{ep i n:Nat}{f0 f1 ok ov:KC}
theorem Eh{Q:Bool->KF->Prop}(hz:jO s.heap it d i n ep f0 f1 ok ov)(hf:l8 f0)(q1:Q true s)
  (q2:∀ h' f1',jO h' it d i n ep f0 f1' ok ov->LS it s.heap h'->Q false { s with heap:=h' }):KI (KL prog w) A (Oq (.ref it)) Q E s:=by
 unfold Oq;refine KB (Lk hz rfl (x:=f0) rfl ?_);rcases hf with rfl|⟨T,rfl⟩
 ·exact KD q1
 ·show KI _ _ (OR _ >>= _) _ _ _;refine uT ?_;cases hT:s.heap.get? (Int.toNat (T:Int)) with
  | none=>exact KD q1
  | some o=>
   show KI _ _ (Qo (.ref it) 1 >>= _) _ _ _
   refine KB (Lk hz rfl (x:=f1) rfl ?_)
   by_cases e:(f1 != Value.bool true)=true
   ·rw[if_pos e];exact KB (La hz (by simp) fun h1 hz1 hs1=>KD (q2 h1 _ hz1 hs1))
   ·rw[if_neg e];exact KB (KD (KD (q2 s.heap f1 hz (NH ..))))
end
abbrev JW:List (Str×Int)->List (ar×KC)->Prop:=Nr fun p q=>q.1=.inr p.1/\RelV (.int p.2) q.2
theorem JW.get:∀ {ps:List (Str×Int)} {kvs:List (ar×KC)} {i:Nat} {p:Str×Int},JW ps kvs->ps[i]?=some p->∃ v,kvs[i]?=some (.inr p.1,v)/\RelV (.int p.2) v
 | _,_,i,p,.nil,e=>by simp at e
 | _,_,0,p,.cons (b:=b) h t,e=>by
  cases e;exact⟨b.2,by rw[Mf,<- h.1],h.2⟩
 | _,_,i+1,p,.cons h t,e=>by
  obtain⟨v,e1,e2⟩:=JW.get t (i:=i) e;exact⟨v,e1,e2⟩
structure ItS(X:Cx)(pins:List (KE×Obj))(τ:St)(G:Gp)(H0:Hp)(S:KE)(ps:List (Str×Int))(i:Nat)(H:Hp)(s:KF)(acc:Array KC)(c:Nat)(vs:List V):Prop where
 inv:L2.Inv X pins τ H s
 kp:Kp G H0 G H
 rg:RG X.K H G
 fs:kO X pins H S
 ls:s.heap.get? S=some { cls:=.type "list",dict:=none,data:=.seq acc c,slots:=#[] }
 rd:RDs X.K H ((ps.take i).map Kj) vs
 wv:Vals vs acc.toList
section
variable{prog:KQ}{w:K2}{A:KY}{E:KC->KF->Prop}{s:KF}{d r it:KE}{es:Array Ol}{od:Obj}{ep i n:Nat}{f0 f1 ok ov:KC}{vs:List KC}
theorem zM(hs:(d == Lw)=false):MeetsIn prog w (Builtin.«dict.items» ⟨[.ref d],[]⟩) (fun _ R s=>(∃ vs ep,iI s.heap d vs ep)/\
  R (.ok (.ret (.ref s.heap.objs.size))) { s with heap:=s.heap.push { cls:=.type "dict_items",data:=.fields #[.ref d] } }):=
 .of_wp fun A R s ⟨⟨vs,ep,x⟩,q⟩=>by
  refine KB ?_;unfold On;refine KB (ME x.ty ?_);show KI _ _ (pure d) _ _ s;refine KD ?_
  show KI _ _ (LK d >>= _) _ _ s;unfold LK
  rw[if_neg (fun z=>by rw[hs]at z;cases z)];refine KB (KD ?_)
  exact KB (K6 (KD ⟨_,rfl,q⟩))
theorem Bp{Q:KC->KF->Prop}(hr:s.heap.IsItemsView r d)(e2:s.heap.get? d=some od)(d2:od.data=.dict es ep)
  (q:Q (.ref s.heap.objs.size) { s with heap:=s.heap.push { cls:=.type "dict_itemiterator",data:=.fields #[.none,.bool false,.ref d,.int 0 0,.int es.size 0,.int ep 0,.none,.none] } }):KI (KL prog w) A (Ni (.ref r)) Q E s:=by
 obtain⟨ov,e1,c1,d1⟩:=id hr;refine MG hr.typeIs Po (Lh Po hr.typeIs F.entry_dict_items_iter ?_ (F.args_dict_items_iter_1 _));unfold Builtin.«dict_items.__iter__»;refine KB (KD ?_);refine KB ?_;unfold NA;refine KB (Lk e1 d1 (x:=.ref d) rfl (KD ?_));refine KB ?_;unfold Nj;refine KB (LH e2 d2 ?_);refine KB (LU e2 d2 ?_);have own:Ld "dict_itemiterator"=true:=by decide
 simp only[own,if_true];refine K6 (KD ⟨_,rfl,"dict_itemiterator",_,⟨_,KJ _ rfl,rfl⟩,Mx.lookup,?_⟩)
  (by simp only[sizeOk,Os,KS,Lc,Lb,Lx,LB];omega)
 simpa[LP,Os]using q
theorem Ce{Q:Option KC->KF->Prop}(hi:jO s.heap it d i es.size ep f0 f1 ok ov)(hf:l8 f0)(hod:s.heap.get? d=some od)(hdd:od.data=.dict es ep)(lt:i < es.size)
  (q:∀ h' f0' f1' ok' ov',l8 f0'->jO h' it d (i+1) es.size ep f0' f1' ok' ov'->MM h' s.heap.objs.size es[i].key es[i].val->h'.objs.size=s.heap.objs.size+1->
   (∀ b o,b≠it->s.heap.get? b=some o->h'.get? b=some o)->Q (some (.ref s.heap.objs.size)) { s with heap:=h' }):KI (KL prog w) A (Me (.ref it)) Q E s:=by
 have hT:s.TypeIs (.ref it) "dict_itemiterator":=⟨_,hi,rfl⟩;unfold Me;refine KB (L4 (Lq (name:=KH "__next__") hT Mx (Lh Mx hT OL ?_ (OG _))));refine KB (KD ?_);refine KB ?_;refine KB ?_
 first|refine KB (Mo hT (KD ?_))|refine KB (MP hT (KD ?_))
 refine KB (Na hi rfl ?_);have own:Ld "dict_itemiterator"=true:=by decide
 simp only[own,if_true];show KI _ _ (if (Value.ref d == Value.none)=true then _ else _) _ _ _;rw[if_neg (show ¬ ((Value.ref d == Value.none)=true)from Bool.false_ne_true)]
 refine KB (KD ?_);refine KB (LH hod hdd ?_);rw[if_neg (by simp)];refine KB (KD ?_);refine KB (LU hod hdd ?_)
 rw[if_neg (by simp)];refine KD ?_
 simp only[show ¬ ((i:Int) < 0)from by walk_at "o",if_false,Int.toNat_natCast,Array.getElem?_eq_getElem lt];refine KB ?_
 first|refine KB (Mo hT (KD ?_))|refine KB (MP hT (KD ?_))
 refine KB (NQ hT ?_);show KI _ _ (N_ (.ref it) 3 (LP ((i:Int)+1)) >>= _) _ _ s;refine KB (La hi (by simp) fun g1 z1 s1=>?_)
 replace z1:jO g1 it d (i+1) es.size ep f0 f1 ok ov:=by
  have e:((i+1:Nat):Int)=(i:Int)+1:=by walk_at "o"
  unfold jO;rw[e];simpa[LP]using z1
 have hT1:Op { s with heap:=g1 } (.ref it) "dict_itemiterator":=⟨_,z1,rfl⟩
 refine KB (Lm ?_);refine KB (NQ hT1 ?_);refine KB (NQ hT1 ?_);show KI _ _ (OC (.ref it) 6 es[i].key es[i].val) _ _ { s with heap:=g1 };unfold OC
 refine KB (N7 ?_);have sz:g1.objs.size=s.heap.objs.size:=s1.1;have il:it < g1.objs.size:=KN z1;have z2:jO (g1.push { cls:=.type "tuple",data:=.seq #[es[i].key,es[i].val] }) it d (i+1) es.size ep f0 f1 ok ov:=KG _ z1;have t2:MM (g1.push { cls:=.type "tuple",data:=.seq #[es[i].key,es[i].val] }) g1.objs.size es[i].key es[i].val:=KJ _ rfl;have fin:∀ h' f0' f1' ok' ov',l8 f0'->jO h' it d (i+1) es.size ep f0' f1' ok' ov'->LS it (g1.push { cls:=.type "tuple",data:=.seq #[es[i].key,es[i].val] }) h'->Q (some (.ref g1.objs.size)) { s with heap:=h' }:=fun h' f0' f1' ok' ov' l' z' s'=>by
  rw[sz];refine q h' f0' f1' ok' ov' l' z' ?_ ?_ fun b o hb e=>s'.extBut _ _ hb (KG _ (s1.extBut _ _ hb e))
  ·rw[<- sz];exact s'.extBut _ _ (Nb il) t2
  ·rw[s'.1,Lj,sz]
 refine KB (Eh z2 hf ?_ fun h0 f1' z3 s3=>?_)
 ·simp only[if_true];refine KB (Lk z2 rfl (x:=ok) rfl ?_);refine KB (Lk z2 rfl (x:=ov) rfl ?_);refine KB (La z2 (by simp) fun g3 z3 s3=>?_)
  replace z3:jO g3 it d (i+1) es.size ep f0 f1 es[i].key ov:=z3
  refine KB (La z3 (by simp) fun g4 z4 s4=>?_)
  replace z4:jO g4 it d (i+1) es.size ep f0 f1 es[i].key es[i].val:=z4
  refine KB (La z4 (by simp) fun g5 z5 s5=>?_)
  replace z5:jO g5 it d (i+1) es.size ep (LP g1.objs.size) f1 es[i].key es[i].val:=z5
  refine KB (La z5 (by simp) fun g6 z6 s6=>?_)
  replace z6:jO g6 it d (i+1) es.size ep (LP g1.objs.size) (.bool false) es[i].key es[i].val:=z6
  refine KB (N8 (KD (KD ⟨_,rfl,KD (fin g6 _ _ _ _ (.inr ⟨_,rfl⟩) z6 (((s3.trans s4).trans s5).trans s6))⟩)))
 ·simp only[Bool.false_eq_true,if_false];exact KD (KD ⟨_,rfl,KD (fin h0 _ _ _ _ hf z3 s3)⟩)
theorem Ej{Q:Option KC->KF->Prop}(hh:A.handled=none)(hi:jO s.heap it d i es.size ep f0 f1 ok ov)(hod:s.heap.get? d=some od)(hdd:od.data=.dict es ep)(ge:es.size<=i)
  (q:∀ h',PL it s.heap h'->Q none { s with heap:=h' }):KI (KL prog w) A (Me (.ref it)) Q E s:=by
 have hT:s.TypeIs (.ref it) "dict_itemiterator":=⟨_,hi,rfl⟩;unfold Me;refine KB (L4 (Lq (name:=KH "__next__") hT Mx (Lh Mx hT OL ?_ (OG _))));refine KB (KD ?_);refine KB ?_;refine KB ?_
 first|refine KB (Mo hT (KD ?_))|refine KB (MP hT (KD ?_))
 refine KB (Na hi rfl ?_);have own:Ld "dict_itemiterator"=true:=by decide
 simp only[own,if_true];show KI _ _ (if (Value.ref d == Value.none)=true then _ else _) _ _ _;rw[if_neg (show ¬ ((Value.ref d == Value.none)=true)from Bool.false_ne_true)]
 refine KB (KD ?_);refine KB (LH hod hdd ?_);rw[if_neg (by simp)];refine KB (KD ?_);refine KB (LU hod hdd ?_)
 rw[if_neg (by simp)];refine KD ?_
 simp only[show ¬ ((i:Int) < 0)from by walk_at "o",if_false,Int.toNat_natCast,Array.getElem?_eq_none ge];refine KB ?_
 first|refine KB (Mo hT (KD ?_))|refine KB (MP hT (KD ?_))
 show KI _ _ (N_ (.ref it) 2 .none >>= _) _ _ s;refine KB (Mp hi rfl (by simp) ?_)
 show KI _ _ (Pi (.type "StopIteration") [] >>= _) _ _ _;refine KB ?_
 simp only[Pi,newTuple];refine KB (K6 ?_ (by size_fits))
 refine KB (m:=Nf _ _) (Py (a:=Value.none) (by first|rfl|(simp only[Nf];rfl)) ?_);refine K6 ?_ (by size_fits)
 simp only[raiseNew];refine KB (O4 ?_);rw[show A.in1.handled=none from hh]
 refine KB (KD (Px ?_));refine KB (NL (T:="StopIteration") (b:=true) ⟨_,KJ _ rfl,rfl⟩ Ob ?_);exact KD (q _ (((MS ..).extBut.push _).push _))
theorem Eg{tg:K4}{u:KC}{Q:Unit->KF->Prop}(hz:jO s.heap it d i n ep f0 f1 ok ov)(hf:l8 f0)
  (hQ:∀ h' f0',l8 f0'->jO h' it d i n ep f0' f1 ok ov->LS it s.heap h'->Q () { s with heap:=h' }):KI (KL prog w) A (Mj tg (.ref it) u) Q E s:=by
 have same:Q () s:=hQ s.heap f0 hf hz (NH ..);unfold Mj;cases tg<;>first
  | exact KD same
  | (cases u<;>first
    | exact KD same
    | (refine KB (P0 hz ?_)
       dsimp only;split
       ·refine KB (NP ?_);exact La hz (by simp) fun h1 z1 s1=>hQ h1 _ (.inl rfl) z1 s1
       ·exact KD same))
end
theorem zK:∀ {x y:V} {u:KC},L2.RelV x u->L2.RelV y u->x=y:=by
 intro x y u h1 h2;cases x<;>cases y<;>simp only[L2.RelV]at h1 h2<;>first|rfl|(subst h1;simp_all)|(obtain⟨t,rfl⟩:=h1;first|(obtain⟨t',h2⟩:=h2;simp_all)|simp_all)
end L3
namespace L2
open PySem PySem.Spec PyProof.Rows L3
theorem Cs:entryFor table "dict_itemiterator.__iter__"=some Builtin.«dict_keyiterator.__iter__»:=entryFor_alias (id':="dict_keyiterator.__iter__") (by kernel_rfl) rfl (by decide +kernel) (by kernel_rfl)
def J_(a:KE)(ob:Obj)(hw:List ar->Int)(xs:List (List ar×KE×KC))(vs:List V):It:=
 ⟨fun i H=>H a=some (.ext (AR ob hw a xs))/\i < xs.length,fun i H x H'=>∃ T y v,H T=none/\x=.ref T/\xs[i]?=some y/\vs[i]?=some v/\H'=aI H T (.tup [.ref y.2.1,v]),fun i H=>H a=some (.ext (AR ob hw a xs))/\i=xs.length⟩
theorem wF{P:KQ}{w:K2}{K:Nq}{tg:K4}{a it:KE}{ob:Obj}{hw:List ar->Int}{xs:List (List ar×KE×KC)}{vs:List V}{es:Array Ol}{ep:Nat}(hai:a≠it)(h2:ob.data=.dict es ep)(h3:es.toList=xs.map fun x=>(⟨hw x.1,.ref x.2.1,x.2.2⟩:Ol))(hv:Vals vs (xs.map (·.2.2))):
  Turn P w K tg (J_ a ob hw xs vs) [it] it (fun i h=>∃ f0 f1 ok ov,l8 f0/\jO h it a i es.size ep f0 f1 ok ov) where
 mem:=by simp
 obj:=fun i h st b hb=>by
  rw[mem_singleton.mp hb];obtain⟨_,_,_,_,_,e⟩:=st;exact⟨_,e,fun v z=>by cases z⟩
 keep:=fun i h h' st q=>by
  obtain⟨f0,f1,k,v,l,e⟩:=st;exact⟨f0,f1,k,v,l,q it (by simp) _ e⟩
 item:=by
  intro X hP hw' hK hc i pins s σ H E I hf st hg;subst hP hw' hK;obtain⟨f0,f1,k,v,l,e⟩:=st;have e3:s.heap.get? a=some ob:=(show ba X.prog X.w H s.heap a (.ext (AR ob hw a xs))from I.hok a _ hg.1).1.1
  have sz:es.size=xs.length:=by rw[<- Array.length_toList,h3,KP]
  have lt:i < es.size:=by rw[sz];exact hg.2
  have he:es[i]=(⟨hw xs[i].1,.ref xs[i].2.1,xs[i].2.2⟩:Ol):=by
   have q:es.toList[i]?=some es[i]:=by simp[lt]
   rw[h3,K8,KW hg.2]at q;exact (Option.some.inj q).symm
  obtain⟨u,eu,ru⟩:=L3.Vals.getV (i:=i) (u:=xs[i].2.2) hv (by rw[K8,KW hg.2];rfl)
  refine Ce e l e3 h2 lt fun h' f0' f1' k' v' l' e' tp sz' kp=>⟨_,rfl,?_⟩;rw[he]at tp;have hne:it≠s.heap.objs.size:=K_ (KN e);refine Eg (s:={ s with heap:=h' }) e' l' fun h2' SN l'' e'' sb=>?_
  have up:∀ c o,c≠it->h'.get? c=some o->h2'.get? c=some o:=fun c o hc e=>sb.extBut _ _ hc e;have hn:H s.heap.objs.size=none:=I.hok.fresh (le_refl _);have I0:Inv X pins σ (aI H s.heap.objs.size (.tup [.ref xs[i].2.1,u])) { s with heap:=s.heap.push { cls:=.type "tuple",data:=.seq #[.ref xs[i].2.1,xs[i].2.2] },toks:=s.toks }:=by
   refine I.laid (t':=s.toks) (fun b v q=>KG _ q) (le_refl _) ?_;exact⟨by show 2<=KM;decide,[.ref xs[i].2.1,xs[i].2.2],.cons rfl (.cons ru .nil),oA.new _ _⟩
  have I1:Inv X pins σ (aI H s.heap.objs.size (.tup [.ref xs[i].2.1,u])) { s with heap:=h2',toks:=s.toks }:=by
   have:=Inv.turnedL (s:={ s with heap:=s.heap.push { cls:=.type "tuple",data:=.seq #[.ref xs[i].2.1,xs[i].2.2] },toks:=s.toks }) (h':=h2') (t':=s.toks) (fp:=[it]) I0 (fun b o hb q=>?_) fun b hb=>?_
   ·exact this
   ·have hbz:b≠it:=fun q=>hb (by simp[q])
    have q':(s.heap.push { cls:=.type "tuple",data:=.seq #[.ref xs[i].2.1,xs[i].2.2] }).get? b=some o:=q
    by_cases hbs:b=s.heap.objs.size
    ·subst hbs;rw[KJ _ rfl]at q';cases q';exact up _ _ hbz tp
    ·rw[NG _ _ _ hbs]at q';exact up _ _ hbz (kp b o hbz q')
   ·obtain⟨g0,g1,g2,g3,g4,g5⟩:=hf b hb;rw[mem_singleton.mp hb]at *
    exact⟨by rw[aj hne];exact g0,g1,g2,g3,g4,g5⟩
  refine⟨.ref s.heap.objs.size,_,I1,rfl,⟨_,_,u,hn,rfl,KW hg.2,eu,rfl⟩,⟨SN,f1',k',v',l'',e''⟩,fun b hb=>?_⟩;rw[mem_singleton.mp hb,aj hne];exact (hf it (by simp)).1
 done:=by
  intro X hP hw' hK hc i pins s σ H E I hf st hg;subst hP hw' hK;obtain⟨f0,f1,k,v,l,e⟩:=st;have e3:s.heap.get? a=some ob:=(show ba X.prog X.w H s.heap a (.ext (AR ob hw a xs))from I.hok a _ hg.1).1.1
  have sz:es.size=xs.length:=by rw[<- Array.length_toList,h3,KP]
  refine Ej (I.ok.hd hc) e e3 h2 (by rw[sz];exact Oa hg.2.symm) fun h4 eb=>⟨rfl,?_⟩
  exact I.turnedL (t':=s.toks) (fp:=[it]) (fun b o hb q=>eb b o (fun z=>hb (by simp[z])) q) hf
 self:=fun _ _ _ _ _ st h=>by
  obtain⟨f0,f1,k,v,l,e⟩:=st;have hT:=(⟨_,e,rfl⟩:Op _ (.ref it) "dict_itemiterator");refine MG hT OU (Lh OU hT Cs ?_ (F.args_dict_itemiterator_iter_1 _));show KI _ _ (ret (.ref it)) _ _ _
  exact KD ⟨_,rfl,"dict_itemiterator",_,hT,Mx.lookup,h⟩
end L2
namespace L3
open PySem PySem.Spec PyProof.Rows L2 PySem.W
def IT(p:List ar×D):D:=.tup [qe p,p.2]
def uq(k:Nat)(tl:aL)(g:m6)(tt:iJ)(te:aL):aL:=fun σ G Q=>tl σ G fun d G1=>match d with
 | .ref a=>∃ hw kvs,G1 a=some (.dT hw kvs)/\∀ ob xs,∃ Pv:Nat->List D->Gp->Prop,Pv 0 [] (gset G1 a (.dF ob hw xs kvs))/\(∀ i acc G',Pv i acc G'->G' a=some (.dF ob hw xs kvs))/\
  (∀ (i:Nat) d acc G',(kvs.map IT)[i]?=some d->Pv i acc G'->g d (List.replicate k none ++ σ) G' fun σ2 G2=>(k<=σ2.length/\σ2.drop k=σ)/\tt σ2 G2 fun b G3=>if b=true then te σ2 G3 fun y G4=>Pv (i+1) (acc ++ [val y]) G4 else Pv (i+1) acc G3)/\
  ∀ acc G',Pv (kvs.map IT).length acc G'->Q (.fl acc) (gset G' a (.dT hw kvs))
 | _=>False
def HM(K:Nq)(te:aL):TI:=fun τ H R=>∃ σ G Q3,RS K H σ τ/\RG K H G/\te σ G Q3/\∀ d G1 H1,Q3 d G1->Kp G H G1 H1->RG K H1 G1->∃ a hw kvs,d=.ref a/\G1 a=some (.dT hw kvs)/\
 ∀ ob xs vs H2,Kp G1 H1 (gset G1 a (.dF ob hw xs kvs)) H2->RG K H2 (gset G1 a (.dF ob hw xs kvs))->jM K H2 kvs xs->H2 a=some (.ext (AR ob hw a xs))->kvs.length<=KM->Vals vs (xs.map (·.2.2))->R (J_ a ob hw xs vs) H2
theorem xW{K:Nq}{H:Hp}:∀ {kvs:List (List ar×D)} {xs:List (List ar×KE×KC)} {i:Nat} {p:List ar×D},jM K H kvs xs->kvs[i]?=some p->∃ y,xs[i]?=some y/\ij K H y.2.1 (p.1.map kV)/\∃ v,RD K H p.2 v/\RelV v y.2.2
 | _,_,0,_,.cons h _,e=>by simp at e;subst e;exact⟨_,rfl,h.2⟩
 | _,_,i+1,_,.cons _ r,e=>by simpa using xW (i:=i) r (by simpa using e)
theorem BI{X:Cx}{tg o:K4}{te:aL}{apos cpos:Pos}(h:PE X o (au X.K te))(Qx:Ls o "items" X.env (eval o X.env)=eval o X.env:=by rfl)(Qy:(apos.endLine == cpos.line)=true:=by rfl):PI X tg (.Call (.Attribute o "items" apos) [] [] cpos) (HM X.K te):=by
 intro pins s τ H R I hq;obtain⟨σ,G,Q3,rs,rg,hq,k⟩:=hq;refine M6 Qx Qy (br (cQ h I rs rg hq) fun u s1 ⟨v,H1,I1,r1,d,G1,q,k1,rg1,rd⟩=>?_);obtain⟨a,hw,kvs,rfl,hga,kr⟩:=k d G1 H1 q k1 rg1;simp only[val,RD]at rd;subst rd;cases r1;obtain⟨hob,eo,ro⟩:=rg1 a _ hga;cases hob with
 | ext φ=>
  obtain⟨xs,rfl,rt,nd,len⟩:=ro;have f:=(show ba X.prog X.w H1 s1.heap a (.ext (nL hw a xs))from I1.hok a _ eo).1
  obtain⟨hsm,o1,es,ep,g1,g2,g3,g4⟩:=id f;obtain⟨kp,rg2⟩:=mX (a:=a) (o:=.dF o1 hw xs kvs) (ho:=.ext (AR o1 hw a xs)) rg1 (by rw[hga];exact fun z=>nomatch z) fun H' st=>⟨rfl,rt.mono st,nd,len⟩
  have I1':L2.Inv X pins τ (aI H1 a (.ext (AR o1 hw a xs))) { s1 with heap:=s1.heap,toks:=s1.toks }:=I1.write (x:=a) (e:=a) (by rw[eo];exact True.intro) (.inl rfl) (fun _ _ _ q=>q) ⟨o1,g1⟩ ⟨⟨g1,f⟩,⟨o1,g1⟩,fun h1 h2 z kk=>⟨kk _ z.1,z.2.1,o1,es,ep,kk _ z.1,g2,g3,g4⟩⟩
  have dr:iI s1.heap a (xs.map fun x=>x.2.2) ep:=⟨o1,es,g1,g2,g3,by rw[g4,LL];rfl⟩
  obtain⟨vs,_,hv⟩:=pf rt;refine⟨"dict","dict.items",PySem.F.plainAttrs_dict,PySem.F.slot_dict_items,PySem.F.type_dict_items,dr.ty,fun b e=>?_,?_⟩
  ·cases e;exact⟨o1,g1,g2.2.1⟩
  ·refine L8 rfl (PySem.evalArgs_none (Ng PySem.F.slot_dict_items dr.ty PySem.F.entry_dict_items (PySem.F.args_dict_items_1 _) (zM hsm) ⟨⟨_,ep,dr⟩,?_⟩));refine Bp (od:=o1) (es:=es) (ep:=ep) ⟨_,KJ _ rfl,rfl,rfl⟩ (KG _ g1) g3 ?_;have hita:a≠(s1.heap.push { cls:=.type "dict_items",data:=.fields #[.ref a] }).objs.size:=K_ (by rw[Lj];exact Nat.lt_succ_of_lt (KN g1))
   have hle:s1.heap.objs.size<=(s1.heap.push { cls:=.type "dict_items",data:=.fields #[.ref a] }).objs.size:=by rw[Lj];exact NE _
   exact⟨_,_,_,_,_,rfl,I1'.kept (t':=s1.toks) fun _ _ q=>KG _ (KG _ q),wF hita g3 g4 hv,⟨_,_,_,_,.inl rfl,KJ _ rfl⟩,fun b hb=>by rw[mem_singleton.mp hb];exact I1.fpOk hle (by rw[aj hita.symm];exact I1.hok.fresh hle),kr o1 xs vs _ kp rg2 (rt.mono (kp.stb rg1)) ay len hv⟩
 | _=>exact ro.elim
section
variable{X:Cx}{elt tg o:K4}{ifs:List K4}{scope:MX}{T M:List Str}{pos apos cpos:Pos}{tl:aL}{g:m6}{tt:iJ}{te:aL}
theorem xC{K:Nq}{τ:St}{σ:cL}{G:Gp}{H:Hp}{Q:VK}{Q3:fK}(rs:RS K H σ τ)(rg:RG K H G)(h:uq T.length tl g tt te σ G Q3)
  (k:∀ d G2 v a ob hw xs H',H' a=some (.ext (AR ob hw a xs))->Q3 d G2->Kp G H G2 (aI H' a (.ext (nL hw a xs)))->RG K (aI H' a (.ext (nL hw a xs))) G2->RE K G H G2 (aI H' a (.ext (nL hw a xs))) d v->(∃ acc,d=.fl acc)->Q v H'):uZ (ent T) (HM K tl) (fF K g) (bu K tt) (p7 K te) τ H Q:=by
 refine⟨σ,G,_,rs,rg,h,fun d G1 H1 q k1 rg1=>?_⟩;cases d with
 | ref a=>
  obtain⟨hw,kvs,hga,q⟩:=q;refine⟨a,hw,kvs,rfl,hga,fun ob xs vs H2 kp rg2 rt ex len hv=>?_⟩;obtain⟨Pv,p0,live,step,fin⟩:=q ob xs;have lx:=rt.length;refine fg (ds:=kvs.map IT) (Q3:=fun d G'=>G' a=some (.dF ob hw xs kvs)/\Q3 d (gset G' a (.dT hw kvs))/\∃ acc,d=.fl acc) rs rg (fun d G' v H' q k' rg' re=>?_) (k1.trans kp) rg2 p0 (fun i acc G' H' pv k' rg'=>?_) step (fun acc G' pv=>⟨live _ _ _ pv,fin acc G' pv,acc,rfl⟩) (by rw[KP];exact len)
  ·obtain⟨ha,q,acc,rfl⟩:=q;obtain⟨hob,eo,ro⟩:=rg' a _ ha;cases hob with
   | ext φ=>
    obtain⟨rfl,rt',nd,len⟩:=ro;obtain⟨kp2,rg3⟩:=mX (a:=a) (o:=.dT hw kvs) (ho:=.ext (nL hw a xs)) rg' (by rw[ha];exact fun z=>nomatch z) fun H' st=>⟨xs,rfl,rt'.mono st,nd,len⟩
    obtain⟨p,ys,rfl,e1,e2,e3,e4⟩:=re.fl;have hp:p≠a:=fun z=>by rw[z,ha]at e2;cases e2
    exact k _ _ _ a ob hw xs H' eo q (k'.trans kp2) rg3 (.inl ⟨acc,p,ys,rfl,rfl,by rw[aj hp];exact e1,by rw[af hp];exact e2,RDs.mono (kp2.stb rg') _ _ e3,e4⟩) ⟨acc,rfl⟩
   | _=>exact ro.elim
  ·obtain⟨hob,eo,ro⟩:=rg' a _ (live i acc G' pv);cases hob with
   | ext φ=>
    obtain⟨rfl,rt',nd,_⟩:=ro;rw[KP];refine⟨fun hi=>⟨⟨eo,by walk_at "o"⟩,fun x H3 y=>?_⟩,fun e=>⟨eo,by walk_at "o"⟩⟩
    obtain⟨T',y,v,hT,rfl,ey,ev,rfl⟩:=y;obtain⟨y',e',sq,v',rd,rv⟩:=xW rt' (KW hi);rw[ey]at e';cases e';obtain⟨u,eu,ru⟩:=L2.Vals.get hv ev;rw[K8,ey]at eu;cases eu;cases zK rv ru;refine⟨Kp.laid hT,rg'.laid hT,_,by rw[K8,KW hi];rfl,?_⟩
    exact gX rg' hT (RDs.cons (by unfold qe;simp only[RD];exact⟨_,_,rfl,sq,pD _⟩) (RDs.cons rd RDs.nil))
   | _=>exact ro.elim
 | _=>exact q.elim
theorem DC{i:Nat}{x:Str}{px spos:Pos}(ok:CompOk X scope T M)(hN:X.N.Nodup)(hix:X.N[i]?=some x)(hx:X.env.scope.names.lookup x=some .local)
  (hin:∀ cl C s₀ H₀ fp,PG (aV X (T ++ M) scope cl C s₀ H₀ fp) tg (fF X.K g)/\CT (aV X (T ++ M) scope cl C s₀ H₀ fp) ifs (bu X.K tt)/\PE (aV X (T ++ M) scope cl C s₀ H₀ fp) elt (au X.K te))
  (hi:PE X o (au X.K tl)) (Qx:Ls o "items" X.env (eval o X.env)=eval o X.env:=by rfl) (Qy:(apos.endLine == cpos.line)=true:=by rfl) (hsw:Mb (.ListComp elt [⟨tg,.Call (.Attribute o "items" apos) [] [] cpos,ifs,0⟩] scope pos) (some (.Name x px)) spos.line X.env=pure true:=by rfl) (hs:∀ x,LI (.Call (.Attribute o "items" apos) [] [] cpos) X.env x=pure x:=by intro _;rfl):
  PS X (.Assign [.Name x px] (.ListComp elt [⟨tg,.Call (.Attribute o "items" apos) [] [] cpos,ifs,0⟩] scope pos) spos) (aZ X.K (bj i (uq T.length tl g tt te))):=
 (DI (x5 ok hN hix hx (fun cl C s₀ H₀ fp=>let ⟨a,b,c⟩:=hin cl C s₀ H₀ fp;⟨a,b,cH c⟩) (BI hi Qx Qy) hsw hs)).imp fun D τ H ⟨σ,G,D3,rs,rg,h,k⟩=>by
  refine xC (Q:=fun v H1=>EG (D.nx (τ.set i (some v))) H1\/∃ p xs,v=.ref p/\H1 p=some (.lst xs)/\∀ o,EG (D.nx (τ.set i (some v))) (aI H1 p (.frz o (.lst xs)))) rs rg h fun d G2 v a ob hw xs H' e q kp rg' re hd=>?_;obtain⟨acc,rfl⟩:=hd;obtain⟨p,ys,rfl,e1,e2,e3,e4⟩:=re.fl;have hp:p≠a:=fun z=>by rw[z,ay]at e1;cases e1
  refine .inr ⟨p,ys,rfl,by rw[aj hp]at e1;exact e1,fun o=>⟨a,ob,hw,xs,by rw[aj (Ne.symm hp)];exact e,?_⟩⟩
  rw[AY hp];obtain⟨rg2,st⟩:=xv (o:=o) rg' e1 e2;exact k.nx _ G2 _ _ q (xw (K:=X.K) kp e4) rg2 (((rs.mono (kp.stb rg)).mono st).set (mB (.inl ⟨o,ay⟩) (RDs.mono st _ _ e3)) i)
end
section
variable{Y:Cx}{st:Lf}{bP:List Lf}{v:V}{x:KE}{a b:D->KE->bh}
theorem mW(h1:PS Y st (eZ Y.K a v x))(h2:fh Y bP (eZ Y.K b v x)):fh Y (st::bP) (eZ Y.K (fun d x=>sSeq (a d x) (b d x)) v x):=(pL h1 h2).imp fun D τ H ⟨d,σ,G,D3,rd,rs,rg,h,k⟩=>
 ⟨d,σ,G,{ D3 with nx:=b d x D3 },rd,rs,rg,h,⟨fun σ' G' τ' H' q k' rg' rs'=>⟨d,σ',G',D3,RD.mono (k'.stb rg) _ _ rd,rs',rg',q,k.base k'⟩,k.rt,k.bk,k.ct⟩⟩
theorem lT(h1:PS Y st (eZ Y.K a v x)):fh Y [st] (eZ Y.K a v x):=oJ h1
theorem Ap{c:K4}{as bs:List Lf}{tc:KE->iJ}{pos:Pos}(hc:PT Y c (bu Y.K (tc x)))(ha:fh Y as (eZ Y.K a v x))(hb:fh Y bs (eZ Y.K b v x)):PS Y (.If c as bs pos) (eZ Y.K (fun d x=>iR (tc x) (a d x) (b d x)) v x):=
 (BC hc ha hb).imp fun D τ H ⟨d,σ,G,D3,rd,rs,rg,h,k⟩=>⟨σ,G,_,rs,rg,h,fun b G' H' q k' rg'=>by
  cases b with
  | true=>exact⟨d,σ,G',D3,RD.mono (k'.stb rg) _ _ rd,rs.mono (k'.stb rg),rg',q,k.base k'⟩
  | false=>exact⟨d,σ,G',D3,RD.mono (k'.stb rg) _ _ rd,rs.mono (k'.stb rg),rg',q,k.base k'⟩⟩
theorem yT{t:KE->bh}(h:PS Y st (aZ Y.K (t x))):PS Y st (eZ Y.K (fun _=>t) v x):=h.imp fun D τ H ⟨_,σ,G,D3,_,rs,rg,q,k⟩=>⟨σ,G,D3,rs,rg,q,k⟩
theorem mU{t:KE->bh}(h:fh Y bP (aZ Y.K (t x))):fh Y bP (eZ Y.K (fun _=>t) v x):=h.imp fun D τ H ⟨_,σ,G,D3,_,rs,rg,q,k⟩=>⟨σ,G,D3,rs,rg,q,k⟩
end
theorem sV{X:Cx}{hs:List MZ}{i:Nat}{C:KE}{a:Str}{r:D->KE->bh}{t:List (KE×Str×(D->KE->bh))}(h:PH X hs C a i (eZ X.K r))(k:∀ p∈t,PH X hs p.1 p.2.1 i (eZ X.K p.2.2)):∀ p∈(C,a,r)::t,PH X hs p.1 p.2.1 i (eZ X.K p.2.2):=fun p hp=>(Le.mp hp).elim (fun e=>e ▸ h) (k p)
def Bc(i:Nat)(d:D)(x:KE):bh:=fun D σ G=>(∃ z,d=.int z)/\σ[i]?=some (some (.ref x))/\D.rt d G
theorem Gg{X:Cx}{C x dx:KE}{o od:Obj}{a en:Str}{v:V}{i:Nat}{p3 p4 p5:Pos}(hx:XIs C o dx od a v)(A:XAsk X.K C a)(he:X.N[i]?=some en)(hev:X.env.scope.names.lookup en=some .local)
  (hd:(en == ("__debug__":Str))=false:=by decide) (hcd:(en == ("__classdict__":Str))=false:=by decide) (hb:Ls (.Name en p3) a X.env (eval (.Name en p3) X.env)=eval (.Name en p3) X.env:=by rfl):
  PS (mV (lG X dx od) x o) (.Return (some (.Attribute (.Name en p3) a p4)) p5) (eZ X.K (Bc i) v x):=by
 intro pins s τ H D I h;obtain⟨d,σ,G,D3,rd,rs,rg,⟨⟨z,rfl⟩,hσ,q⟩,kk⟩:=h;obtain rfl:v=.int z:=by simpa only[RD]using rd
 obtain⟨w,e1,r⟩:=rs.get hσ;obtain rfl:w=.ref x:=by simpa only[RD]using r
 refine aW (X:=mV (lG X dx od) x o) (Hy hx A (ao (X:=mV (lG X dx od) x o) i he (.inl hev) hd hcd) hb) pins s τ H D I ⟨σ,G,D3,rs,rg,?_,kk⟩;unfold bb HS ag;rw[hσ];exact⟨rfl,q⟩
def rZ(i:Nat)(c:Str)(d:D)(x:KE):bh:=fun D σ G=>(∃ ds,d=.tup ds)/\σ[i]?=some (some (.ref x))/\D.rt (.tup [.str c,d]) G
theorem uc{X:Cx}{C x dx:KE}{o od:Obj}{a c en:Str}{v:V}{i cj x1:Nat}{p2 p3 p4 p5 p6:Pos}(hx:XIs C o dx od a v)(A:XAsk X.K C a)(he:X.N[i]?=some en)(hev:X.env.scope.names.lookup en=some .local)
  (hd:(en == ("__debug__":Str))=false:=by decide) (hcd:(en == ("__classdict__":Str))=false:=by decide):
  PS (mV (lG X dx od) x o) (.Return (some (.Tuple [.Constant (.str c) cj p2,.Attribute (.Name en p3) a p4] x1 p5)) p6) (eZ X.K (rZ i c) v x):=by
 intro pins s τ H D I h;obtain⟨d,σ,G,D3,rd,rs,rg,⟨⟨ds,rfl⟩,hσ,q⟩,kk⟩:=h;obtain⟨b,rfl⟩:∃ b,v=.ref b:=by simp only[RD]at rd;obtain⟨b,_,e,_⟩:=rd;exact⟨b,e⟩
 obtain⟨w,e1,r⟩:=rs.get hσ;obtain rfl:w=.ref x:=by simpa only[RD]using r
 refine wT (X:=mV (lG X dx od) x o) (BK (tI tH (tI (FK hx A (mF he (.inl hev) hd hcd)) BQ))) pins s τ H D I ?_;refine⟨_,e1,rfl,by show 2<=KM;decide,fun p hp=>?_⟩
 exact kk.rt _ G _ _ q (Kp.laid hp) (rg.laid hp) (.of (gX rg hp (RDs.cons h8 (RDs.cons rd RDs.nil))))
def Cu(te:aL):aL:=fun σ G Q=>te σ G fun d G1=>match d with
 | .ref a=>∃ hw kvs,G1 a=some (.dT hw kvs)/\∃ ns:List Int,kvs.map (·.2)=ns.map D.int/\ns≠[]/\∀ M∈ns,Q (.int M) G1
 | _=>False
def uo(te:aL):aL:=fun σ G Q=>te σ G fun d G1=>match d with
 | .ref a=>∃ hw kvs,G1 a=some (.dT hw kvs)/\Q (.fl (kvs.map qe)) G1
 | _=>False
theorem FP{X:Cx}{o:K4}{to:aL}{p0 apos cpos pos:Pos}(hc:X.calm=true)(hg:Gl X "max")(hm:X.mg "max"=none)(ho:PE X o (au X.K to))
  (Qx:Ls o "values" X.env (eval o X.env)=eval o X.env:=by rfl) (Qy:(apos.endLine == cpos.line)=true:=by rfl):
  PE X (.Call (.Name "max" p0) [.Call (.Attribute o "values" apos) [] [] cpos] [] pos) (au X.K (Cu to)):=by
 rintro pins s τ H Q I ⟨σ,G,Q3,rs,rg,h,k⟩
 refine Md (eV I hg hm (u:=.builtin "max") (by decide +kernel) ?_ (by decide) (by decide))
 refine PyProof.Rows.callWith_builtin1 ?_ (by rfl) (by rfl)
 show KI _ _ (spliced [(false,eval (.Call (.Attribute o "values" apos) [] [] cpos) X.env)]) _ _ _
 refine LZ (M6 Qx Qy (br (cQ ho I rs rg h) fun ov s1 ⟨ox,H1,I1,rox,x,G1,q1,k1,rg1,rd1⟩=>?_));cases x with
 | ref a=>
  obtain⟨hw,kvs,hga,ns,hns,hne,q⟩:=q1;simp only[val,RD]at rd1;subst rd1;cases rox;obtain⟨hob,eo,ro⟩:=rg1 a _ hga;cases hob with
  | ext φ=>
   obtain⟨xs,rfl,rt,nd,len⟩:=ro;obtain⟨hsm,o1,es,ep,g1,g2,g3,g4⟩:=(show ba X.prog X.w H1 s1.heap a (.ext (nL hw a xs))from I1.hok a _ eo).1
   have dr:iI s1.heap a (xs.map fun x=>x.2.2) ep:=⟨o1,es,g1,g2,g3,by rw[g4,LL];rfl⟩
   refine⟨"dict","dict.values",PySem.F.plainAttrs_dict,PySem.F.slot_dict_values,PySem.F.type_dict_values,dr.ty,fun b e=>?_,?_⟩
   ·cases e;exact⟨o1,g1,g2.2.1⟩
   ·refine L8 rfl (PySem.evalArgs_none (Ng PySem.F.slot_dict_values dr.ty PySem.F.entry_dict_values (PySem.F.args_dict_values_1 _) (pI hsm) ⟨⟨_,ep,dr⟩,?_⟩));refine Mm ?_;obtain⟨vs,r1,r2⟩:=pf rt;rw[hns]at r1;rw[r1.ints_inv ns]at r2;obtain⟨zs,z1,z2⟩:=si r2;have Q2:0 < zs.length:=by
     cases zs with
     | nil=>exact absurd z2.symm (by simpa using hne)
     | cons _ _=>simp
    have hxl:(xs.map fun x=>x.2.2).length=zs.length:=by rw[z1,KP]
    have hla:a < s1.heap.objs.size:=KN g1;have sz:(s1.heap.push { cls:=.type "dict_values",data:=.fields #[.ref a] }).objs.size=s1.heap.objs.size+1:=Lj ..;refine call_max_walk (u_ (d:=a) (vs:=xs.map fun x=>x.2.2) (ep:=ep) ⟨_,KJ _ rfl,rfl,rfl⟩ (dr.stay fun b e=>KG _ e) ?_);refine⟨_,_,_,_,_,_,fun i j=>decide (OP zs.toArray i > OP zs.toArray j),rfl,u9 (A:=X.A.in1) (I.ok.hd hc) (d:=a) (vs:=xs.map fun x=>x.2.2) (ep:=ep) (by rw[sz];exact K_ (Nat.lt_succ_of_lt hla)),⟨⟨_,KJ _ rfl,rfl,rfl⟩,dr.stay fun b e=>KG _ (KG _ e)⟩,fun b hb=>?_,by rw[hxl];exact Q2,CmpOf.ints_gt (OP zs.toArray) fun i u hu=>?_,fun u h' tk hu hk=>?_⟩
    ·show b < (Heap.push _ _).objs.size;rw[Lj,sz];simp only[Le,Lg,or_false]at hb;rcases hb with rfl|rfl
     ·rw[sz];exact Nat.lt_succ_self _
     ·exact Nat.lt_succ_of_lt (Nat.lt_succ_of_lt hla)
    ·exact intItems_at (xs:=zs.toArray) (by rw[z1]at hu;simpa[intItems]using hu)
    ·obtain⟨t,rfl⟩:=intItems_at (xs:=zs.toArray) (v:=u) (i:=argBest (fun i j=>decide (OP zs.toArray i > OP zs.toArray j)) ((xs.map fun x=>x.2.2).length - 1)) (by rw[z1]at hu ⊢;simpa[intItems]using hu)
     have hm2:OP zs.toArray (argBest (fun i j=>decide (OP zs.toArray i > OP zs.toArray j)) ((xs.map fun x=>x.2.2).length - 1))∈ns:=by
      have hb:=argBest_gt (OP zs.toArray) ((xs.map fun x=>x.2.2).length - 1);rw[<- z2,numAt_eq];exact getD_mem (by have l1:=hb.1;have l2:(zs.map (·.1)).length=zs.length:=KP ..;omega)
     exact⟨.int _,H1,I1.kept fun b o' e=>hk b o' (fun z=>absurd (KN e) (by rw[mem_singleton.mp z];show ¬ ((s1.heap.push _).objs.size < s1.heap.objs.size);rw[Lj];omega)) (KG _ (KG _ e)),⟨_,rfl⟩,k _ G1 _ H1 (q _ hm2) k1 rg1 (.of bQ)⟩
  | _=>exact ro.elim
 | _=>exact q1.elim
theorem BU{X:Cx}{o:K4}{to:aL}{p1 apos cpos pos:Pos}(hc:X.calm=true)(hg1:Gl X "list")(hm1:X.mg "list"=none)(ho:PE X o (au X.K to))
  (Qx:Ls o "keys" X.env (eval o X.env)=eval o X.env:=by rfl) (Qy:(apos.endLine == cpos.line)=true:=by rfl):
  PE X (.Call (.Name "list" p1) [.Call (.Attribute o "keys" apos) [] [] cpos] [] pos) (au X.K (uo to)):=by
 rintro pins s τ H Q I ⟨σ,G,Q3,rs,rg,h,k⟩
 refine PN (eV I hg1 hm1 PyProof.Rows.boot_list (PyProof.Rows.callWith_type1 ?_ rfl rfl) (by decide) (by decide))
 show KI _ _ (spliced [(false,eval (.Call (.Attribute o "keys" apos) [] [] cpos) X.env)]) _ _ _
 refine LZ (M6 Qx Qy (br (cQ ho I rs rg h) fun ov s1 ⟨ox,H1,I1,rox,x,G1,q1,k1,rg1,rd1⟩=>?_));cases x with
 | ref a=>
  obtain⟨hw,kvs,hga,q⟩:=q1;simp only[val,RD]at rd1;subst rd1;cases rox;obtain⟨hob,eo,ro⟩:=rg1 a _ hga;cases hob with
  | ext φ=>
   obtain⟨xs,rfl,rt,nd,len⟩:=ro;obtain⟨hsm,o1,es,ep,g1,g2,g3,g4⟩:=(show ba X.prog X.w H1 s1.heap a (.ext (nL hw a xs))from I1.hok a _ eo).1
   have dr:jN s1.heap a (xs.map fun x=>Value.ref x.2.1) ep:=⟨o1,es,g1,g2,g3,by rw[g4,LL];rfl⟩
   have lx:=rt.length;refine⟨"dict","dict.keys",PySem.F.plainAttrs_dict,PySem.F.slot_dict_keys,PySem.F.type_dict_keys,dr.ty,fun b e=>?_,?_⟩
   ·cases e;exact⟨o1,g1,g2.2.1⟩
   ·refine L8 rfl (PySem.evalArgs_none (Ng PySem.F.slot_dict_keys dr.ty PySem.F.entry_dict_keys (PySem.F.args_dict_keys_1 _) (wQ hsm) ⟨⟨_,ep,dr⟩,?_⟩));refine Mm ?_;refine kdl_call (DA (r:=s1.heap.objs.size) (d:=a) (vs:=xs.map fun x=>Value.ref x.2.1) (ep:=ep)) (I.ok.hd hc) ⟨⟨_,KJ _ rfl,rfl,rfl⟩,dr.stay fun b e=>KG _ e⟩ (by rw[KP];omega) fun h' tk acc c' hk hS hacc=>?_
    have sz:(s1.heap.push { cls:=.type "dict_keys",data:=.fields #[.ref a] }).objs.size=s1.heap.objs.size+1:=Lj ..;rw[show (⟨.type "dict_keys",none,.fields #[.ref a],#[]⟩:Obj)={ cls:=.type "dict_keys",data:=.fields #[.ref a] } from rfl]at hS ⊢
    exact Ae (s1:=s1) I1 (by rw[sz];exact NE _) (fun c o e=>hk c o (KG _ e)) hS (by rw[Cc rfl hacc];exact oW xs) (by rw[KP];omega) (zJ rt) k1 rg1 q k
  | _=>exact ro.elim
 | _=>exact q1.elim
def zd:ww:=fun ds G Q=>match ds with
 | [.int i]=>i.natAbs.log2 < 1920/\Q (.str (ToString.toString i)) G
 | _=>False
theorem Gz{X:Cx}:cJ X (.type "str") (j7 X.K zd):=by
 rintro pins s σ H vs us Q I rv ⟨ds,G,Q3,rds,rg,h,kk⟩
 unfold zd at h;split at h
 ·rename_i i;obtain⟨v,rfl,h1⟩:=dj rds;simp only[RD]at h1;subst h1;obtain⟨u,rfl,ru⟩:=oX rv;obtain⟨t,rfl⟩:=ru;exact PySem.P.str_of_int h.1 ⟨.str _,H,I.tok _,⟨_,rfl⟩,kk _ G _ H h.2 Kp.refl rg (.of h8)⟩
 ·exact h.elim
theorem AA{K:Nq}{mg:Str->Option KC}{x:Str}{z:Int}{t:Tok}(hm:mg x=some (.int z t)):l9 K mg x (.int z):=⟨.int z t,.int z,hm,⟨t,rfl⟩,fun _=>bQ⟩
def Cv(a b:Str)(i j:Int):aL:=fun _ G Q=>∀ p,G p=none->Q (.ref p) (gset G p (.dK [(.inr a,.int i),(.inr b,.int j)]))
theorem FQ{X:Cx}{a b:Str}{i j:Int}{j1 j2 j3 j4:Nat}{q1 q2 q3 q4 pos:Pos}(h:a≠b):PE X (.Dict [some (.Constant (.str a) j1 q1),some (.Constant (.str b) j2 q2)] [.Constant (.int i) j3 q3,.Constant (.int j) j4 q4] pos) (au X.K (Cv a b i j)):=
 (DR (vh tH w6 (vh tH w6 DJ)) rfl rfl (by simp) (by simp)).imp fun τ H Q ⟨σ,G,Q3,rs,rg,h3,k⟩ p hp=>by
  refine⟨ay,[(.inr a,.int i),(.inr b,.int j)],rfl,by simp,?_⟩
  have e:kF [] [((.inr a:ar),V.int i),(.inr b,.int j)]=[(.inr a,.int i),(.inr b,.int j)]:=by
   simp[kF,gL,h]
  rw[e,Dk];obtain⟨kp,rg2⟩:=Ck (o:=.dK [(.inr a,.int i),(.inr b,.int j)]) (ho:=.dK [(.inr a,.int i),(.inr b,.int j)]) rg hp fun H' _=>(show uM X.K H' [(.inr a,.int i),(.inr b,.int j)] [(.inr a,.int i),(.inr b,.int j)]from .cons ⟨rfl,bQ⟩ (.cons ⟨rfl,bQ⟩ .nil))
  exact k _ _ _ _ (h3 _ (rg.free hp)) kp rg2 (.of d8)
def D8(m:Nat):R3:=fun x y G Q=>pl m x/\pl m y/\Q (.bl (dE x y)) G
theorem GS{X:Cx}{m:Nat}(hu:X.A.units+m < Ly):fe X (Ll .Eq) (ju X.K (D8 m)):=by
 rintro pins s σ H v u v' u' Q I rv ru ⟨x,y,G,Q3,rx,ry,rg,⟨p1,p2,q⟩,k⟩
 exact (su I m p1 p2 rx ry rv ru hu).rc X.prog X.w X.xe _ ⟨.bl _,H,I,rfl,k _ G _ H q Kp.refl rg (.of fu)⟩
def sG:de:=fun _ _ _=>False
def qA:aL:=fun _ _ _=>False
theorem oK{X:Cx}{e:K4}:PE X e (au X.K qA):=fun _ _ _ _ _ _ ⟨_,_,_,_,_,h,_⟩=>h.elim
def tNever:iJ:=fun _ _ _=>False
theorem pK{X:Cx}{e:K4}:PT X e (bu X.K tNever):=fun _ _ _ _ _ _ ⟨_,_,_,_,_,h,_⟩=>h.elim
end L3
namespace RQ
open PySem PySem.Spec PyProof.Rows L2 L3
section
variable{α:Type}
def dW(l:List (Sl×α))(k:Sl):Option α:=(l.find? fun p=>decide (p.1=k)).map (·.2)
def jH(l:List (Sl×α))(k:Sl)(v:α):List (Sl×α):=if (l.any fun p=>decide (p.1=k))=true then l.map (fun p=>if p.1=k then (p.1,v)else p)else l ++ [(k,v)]
def bY(l m:List (Sl×α)):List (Sl×α):=m.foldl (fun a p=>jH a p.1 p.2) l
def bA(f:α->D)(l:List (Sl×α)):List (List ar×D):=l.map fun p=>(p.1.key,f p.2)
theorem zi(f:α->D)(k:Sl):∀ l:List (Sl×α),((bA f l).any fun kv=>decide (kv.1=k.key))=l.any fun p=>decide (p.1=k)
 | []=>rfl
 | p::r=>by
  have ih:=zi f k r;unfold bA at ih ⊢;simp only[K3,Of,ih];congr 1
  by_cases e:p.1=k
  ·rw[decide_eq_true e,decide_eq_true (by rw[e])]
  ·rw[decide_eq_false e,decide_eq_false (fun z=>e (Sl.key_inj z))]
theorem vg(f:α->D)(l:List (Sl×α))(k:Sl)(v:α):aS (bA f l) k.key (f v)=bA f (jH l k v):=by
 unfold aS jH;rw[zi];split
 ·unfold bA;rw[LL,LL];refine Mq fun p _=>?_;simp only[Function.comp]
  by_cases e:p.1=k
  ·rw[if_pos e,if_pos (by rw[e])]
  ·rw[if_neg e,if_neg (fun z=>e (Sl.key_inj z))]
 ·unfold bA;rw[LQ];rfl
theorem uC(f:α->D)(k:Sl):∀ l:List (Sl×α),cW (bA f l) k.key=(dW l k).map f
 | []=>rfl
 | p::r=>by
  have ih:=uC f k r;unfold bA dW cW at *
  by_cases e:p.1=k
  ·simp[Li,e]
  ·have e':¬ p.1.key=k.key:=fun z=>e (Sl.key_inj z);simp only[K3,Li,decide_eq_false e,decide_eq_false e'];exact ih
theorem qB(f:α->D)(m:List (Sl×α)):dictOf (bA f m)=bA f (bY [] m):=by
 unfold dictOf bY;have:∀ (m l:List (Sl×α)),(bA f m).foldl (fun a kv=>aS a kv.1 kv.2) (bA f l)=bA f (m.foldl (fun a p=>jH a p.1 p.2) l):=by
  intro m
  induction m with
  | nil=>intro l;rfl
  | cons p r ih=>
   intro l;unfold bA at ih ⊢;simp only[K3,List.foldl_cons];have:=vg f l p.1 p.2;unfold bA at this;rw[this];exact ih _
 exact this m []
theorem EC(l:List (Sl×α))(k j:Sl)(v:α):dW (jH l k v) j=if j=k then some v else dW l j:=by
 unfold jH;split
 ·rename_i h
  induction l with
  | nil=>simp at h
  | cons p r ih=>
   simp only[K3,dW,Li]
   by_cases e:p.1=k
   ·rw[if_pos e]
    by_cases ej:j=k
    ·rw[if_pos ej];simp[e,ej]
    ·rw[if_neg ej];have e2:¬ p.1=j:=fun z=>ej (z.symm.trans e);simp only[decide_eq_false e2];clear ih h
     induction r with
     | nil=>rfl
     | cons q t ih2=>
      simp only[K3,Li]
      by_cases e3:q.1=k
      ·rw[if_pos e3];have e4:¬ q.1=j:=fun z=>ej (z.symm.trans e3);simp only[decide_eq_false e4];exact ih2
      ·rw[if_neg e3]
       by_cases e4:q.1=j
       ·simp[e4]
       ·simp only[decide_eq_false e4];exact ih2
   ·rw[if_neg e];simp only[Of,decide_eq_false e,Bool.false_or]at h;have ih':=ih h;unfold dW at ih'
    by_cases e2:p.1=j
    ·have ej:¬ j=k:=fun z=>e (e2.trans z);rw[if_neg ej];simp[e2]
    ·simp only[decide_eq_false e2];exact ih'
 ·rename_i h;have hn:∀ p∈l,p.1≠k:=fun p hp z=>h (List.any_eq_true.mpr ⟨p,hp,decide_eq_true z⟩);unfold dW;rw[List.find?_append]
  by_cases ej:j=k
  ·rw[if_pos ej];have:l.find? (fun p=>decide (p.1=j))=none:=List.find?_eq_none.mpr fun p hp=>by simpa using fun z=>hn p hp (z.trans ej)
   rw[this];simp[ej]
  ·rw[if_neg ej];cases l.find? (fun p=>decide (p.1=j)) with
   | some p=>rfl
   | none=>
    have ek:¬ k=j:=fun z=>ej z.symm;simp[ek]
theorem Bt{l:List (Sl×α)}{k:Sl}{v:α}{p:Sl×α}(h:p∈jH l k v):p∈l\/p=(k,v):=by
 unfold jH at h;split at h
 ·obtain⟨q,hq,e⟩:=mem_map.mp h;split at e
  ·rename_i z;exact .inr (by rw[<- e,z])
  ·exact .inl (e ▸ hq)
 ·rcases mem_append.mp h with h|h
  ·exact .inl h
  ·exact .inr (mem_singleton.mp h)
theorem zP{m:List (Sl×α)}:∀ {l:List (Sl×α)} {p:Sl×α},p∈bY l m->p∈l\/p∈m:=by
 induction m with
 | nil=>intro l p h;exact .inl h
 | cons q r ih=>
  intro l p h;rcases ih (l:=jH l q.1 q.2) h with h|h
  ·rcases Bt h with h|h
   ·exact .inl h
   ·exact .inr (h ▸ KU)
  ·exact .inr (KZ _ h)
theorem ED{l:List (Sl×α)}{k:Sl}{v:α}(h:dW l k=some v):(k,v)∈l:=by
 unfold dW at h;cases e:l.find? fun p=>decide (p.1=k) with
 | none=>rw[e]at h;cases h
 | some p=>
  rw[e]at h;cases h;have h1:=List.mem_of_find?_eq_some e;have h2:=List.find?_some e;have:p.1=k:=of_decide_eq_true h2;rw[<- this];exact h1
theorem CQ{l:List (Sl×α)}{p:Sl×α}(h:p∈l):∃ v,dW l p.1=some v:=by
 unfold dW;cases e:l.find? fun q=>decide (q.1=p.1) with
 | none=>exact absurd (List.find?_eq_none.mp e p h) (by simp)
 | some q=>exact⟨q.2,rfl⟩
theorem Bu(l:List (Sl×α))(k:Sl)(v:α):(jH l k v).length<=l.length+1:=by
 unfold jH;split<;>simp
theorem r9(m:List (Sl×α)):∀ l:List (Sl×α),(bY l m).length<=l.length+m.length:=by
 induction m with
 | nil=>intro l;exact le_refl _
 | cons p r ih=>
  intro l;have h1:=ih (jH l p.1 p.2);have h2:=Bu l p.1 p.2;show (bY (jH l p.1 p.2) r).length<=_
  rw[Lb];omega
theorem sT(l a b:List (Sl×α)):bY l (a ++ b)=bY (bY l a) b:=by unfold bY;rw[List.foldl_append]
theorem wS(l a:List (Sl×α))(p:Sl×α):bY l (a ++ [p])=jH (bY l a) p.1 p.2:=by rw[sT];rfl
end
def Ju(c:Nat):Str:=⟨#[c]⟩
def C5(x:Str):List Str:=x.cps.toList.map Ju
def Ez(s:Sk):List (Sl×Str):=match s.act with
 | .put _ x=>(made s).zip (C5 x)
 | _=>[]
def A6(s:Sk):List (Sl×Unit):=match s.act with
 | .strike ns=>ns.map fun n=>(n,())
 | _=>[]
def Fo(s:Sk):List (Sl×Sl):=match s.act with
 | .move ns _=>ns.zip (made s)
 | _=>[]
def Fi(s:Sk):List (Sl×Str):=match s.act with
 | .dress ns w=>ns.map fun n=>(n,w)
 | _=>[]
def aH(x:Str)(o:List Sk):List (Sl×Str):=bY [] ((gO x.length).zip (C5 x) ++ o.flatMap Ez)
def dg(o:List Sk):List (Sl×Unit):=bY [] (o.flatMap A6)
def fX(o:List Sk):List (Sl×Sl):=bY [] (o.flatMap Fo)
def rP(o:List Sk):List (Sl×Str):=bY [] (o.flatMap Fi)
abbrev Nm:=Str×Int
def Nm.d(n:Nm):D:=.tup [.str n.1,.int n.2]
def Nm.key(n:Nm):List ar:=[.inr n.1,.inl n.2]
def Sk.nm(s:Sk):Nm:=(s.pen,s.num)
def FH(row:List Sl)(s:Sk):Bool:=(made s).all fun x=>decide (x∈row)
def oG(out:List Sk)(names:List Nm)(row:List Sl):List Sk:=(out.filter fun s=>decide (s.nm∈names)).filter (FH row)
def bV(x:Str)(w:List Sk):List (Sl×Sl):=bY [] (((aH x w).filter fun p=>(dW (dg w) p.1).isNone).map fun p=>((dW (fX w) p.1).getD p.1,p.1))
structure Seat where
 slot:Sl
 name:Sl
 sign:Str
 word:Str
def Seat.d(s:Seat):D:=.tup [s.slot.d,s.name.d,.str s.sign,.str s.word]
def jp(x:Str)(w:List Sk)(row:List Sl):List (Sl×Sl):=row.filterMap fun s=>(dW (bV x w) s).map fun n=>(s,n)
def e8(x:Str)(out:List Sk)(names:List Nm):List Seat:=
 (jp x (oG out names (iV x.length out)) (iV x.length out)).map fun p=>⟨p.1,p.2,(dW (aH x (oG out names (iV x.length out))) p.2).getD "",(dW (rP (oG out names (iV x.length out))) p.2).getD ""⟩
def gn(i:Nat):Lf:=PySem.Challenge.pw_redquill_k87_answers_ten_deep.main.body.getD i (.Pass ⟨0,0,0,0⟩)
def k_DEEPEST:D:=.int 10
def k_START:D:=.tup [.str "",.int 0,.int 0]
theorem qo{a0 a1 a2 a3:D}:bp Aa0 [a0,a1,a2,a3] "name"=some a0:=by kernel_rfl
theorem qm{a0 a1 a2 a3:D}:bp Aa0 [a0,a1,a2,a3] "time"=some a1:=by kernel_rfl
theorem mZ{a0 a1 a2 a3:D}:bp Aa0 [a0,a1,a2,a3] "anchor"=some a2:=by kernel_rfl
theorem oj{a0 a1 a2 a3:D}:bp Aa0 [a0,a1,a2,a3] "names"=some a3:=by kernel_rfl
theorem sZ:da [] "name"=(["name"]:List Str):=by kernel_rfl
theorem tx{x:D}:cI [] [] "name" x=[x]:=by kernel_rfl
theorem sY:da ["name"] "time"=(["name","time"]:List Str):=by kernel_rfl
theorem tw{a0 x:D}:cI ["name"] [a0] "time" x=[a0,x]:=by kernel_rfl
theorem sX:da ["name","time"] "anchor"=(AH0:List Str):=by kernel_rfl
theorem tu{a0 a1 x:D}:cI ["name","time"] [a0,a1] "anchor" x=[a0,a1,x]:=by kernel_rfl
theorem sW:da AH0 "names"=(Aa0:List Str):=by kernel_rfl
theorem tq{a0 a1 a2 x:D}:cI AH0 [a0,a1,a2] "names" x=[a0,a1,a2,x]:=by kernel_rfl
theorem nV:(("slots":Str)∉(Aa0:List Str))=True:=eq_true (by decide +kernel)
theorem v5{a0 a1 a2 a3 a4:D}:bp Ad0 [a0,a1,a2,a3,a4] "name"=some a0:=by kernel_rfl
theorem v4{a0 a1 a2 a3 a4:D}:bp Ad0 [a0,a1,a2,a3,a4] "time"=some a1:=by kernel_rfl
theorem rC{a0 a1 a2 a3 a4:D}:bp Ad0 [a0,a1,a2,a3,a4] "anchor"=some a2:=by kernel_rfl
theorem ug{a0 a1 a2 a3 a4:D}:bp Ad0 [a0,a1,a2,a3,a4] "names"=some a3:=by kernel_rfl
theorem uf{a0 a1 a2 a3 a4:D}:bp Ad0 [a0,a1,a2,a3,a4] "signs"=some a4:=by kernel_rfl
theorem zV:da Aa0 "anchor"=(Aa0:List Str):=by kernel_rfl
theorem zX{a0 a1 a2 a3 x:D}:cI Aa0 [a0,a1,a2,a3] "anchor" x=[a0,a1,x,a3]:=by kernel_rfl
theorem zU:da Aa0 "signs"=(Ad0:List Str):=by kernel_rfl
theorem zW{a0 a1 a2 a3 x:D}:cI Aa0 [a0,a1,a2,a3] "signs" x=[a0,a1,a2,a3,x]:=by kernel_rfl
theorem tR:(("slots":Str)∉(Ad0:List Str))=True:=eq_true (by decide +kernel)
theorem xc:(("row":Str)∉(Ad0:List Str))=True:=eq_true (by decide +kernel)
theorem qr{a0 a1 a2 a3:D}:bp Aa0 [a0,a1,a2,a3] "name"=some a0:=by kernel_rfl
theorem qp{a0 a1 a2 a3:D}:bp Aa0 [a0,a1,a2,a3] "time"=some a1:=by kernel_rfl
theorem m3{a0 a1 a2 a3:D}:bp Aa0 [a0,a1,a2,a3] "anchor"=some a2:=by kernel_rfl
theorem om{a0 a1 a2 a3:D}:bp Aa0 [a0,a1,a2,a3] "names"=some a3:=by kernel_rfl
theorem s_:da Aa0 "names"=(Aa0:List Str):=by kernel_rfl
theorem tD{a0 a1 a2 a3 x:D}:cI Aa0 [a0,a1,a2,a3] "names" x=[a0,a1,a2,x]:=by kernel_rfl
theorem nW:(("slots":Str)∉(Aa0:List Str))=True:=eq_true (by decide +kernel)
theorem rh:(("row":Str)∉(Aa0:List Str))=True:=eq_true (by decide +kernel)
theorem rK{a0 a1 a2 a3 a4:D}:bp Ae0 [a0,a1,a2,a3,a4] "name"=some a0:=by kernel_rfl
theorem rJ{a0 a1 a2 a3 a4:D}:bp Ae0 [a0,a1,a2,a3,a4] "time"=some a1:=by kernel_rfl
theorem oo{a0 a1 a2 a3 a4:D}:bp Ae0 [a0,a1,a2,a3,a4] "anchor"=some a2:=by kernel_rfl
theorem qu{a0 a1 a2 a3 a4:D}:bp Ae0 [a0,a1,a2,a3,a4] "names"=some a3:=by kernel_rfl
theorem rH{a0 a1 a2 a3 a4:D}:bp Ae0 [a0,a1,a2,a3,a4] "word"=some a4:=by kernel_rfl
theorem vj:da Aa0 "names"=(Aa0:List Str):=by kernel_rfl
theorem vm{a0 a1 a2 a3 x:D}:cI Aa0 [a0,a1,a2,a3] "names" x=[a0,a1,a2,x]:=by kernel_rfl
theorem vi:da Aa0 "word"=(Ae0:List Str):=by kernel_rfl
theorem vk{a0 a1 a2 a3 x:D}:cI Aa0 [a0,a1,a2,a3] "word" x=[a0,a1,a2,a3,x]:=by kernel_rfl
theorem pV:(("slots":Str)∉(Ae0:List Str))=True:=eq_true (by decide +kernel)
theorem tS:(("row":Str)∉(Ae0:List Str))=True:=eq_true (by decide +kernel)
theorem uj{a0 a1 a2 a3:D}:bp Aa0 [a0,a1,a2,a3] "name"=some a0:=by kernel_rfl
theorem ui{a0 a1 a2 a3:D}:bp Aa0 [a0,a1,a2,a3] "time"=some a1:=by kernel_rfl
theorem qt{a0 a1 a2 a3:D}:bp Aa0 [a0,a1,a2,a3] "anchor"=some a2:=by kernel_rfl
theorem rG{a0 a1 a2 a3:D}:bp Aa0 [a0,a1,a2,a3] "names"=some a3:=by kernel_rfl
theorem wX:da Aa0 "names"=(Aa0:List Str):=by kernel_rfl
theorem wZ{a0 a1 a2 a3 x:D}:cI Aa0 [a0,a1,a2,a3] "names" x=[a0,a1,a2,x]:=by kernel_rfl
theorem wW:da Aa0 "anchor"=(Aa0:List Str):=by kernel_rfl
theorem wY{a0 a1 a2 a3 x:D}:cI Aa0 [a0,a1,a2,a3] "anchor" x=[a0,a1,x,a3]:=by kernel_rfl
theorem rj:(("slots":Str)∉(Aa0:List Str))=True:=eq_true (by decide +kernel)
theorem vB:(("row":Str)∉(Aa0:List Str))=True:=eq_true (by decide +kernel)
abbrev gW:List Str:=Ah0
theorem qv{a0 a1 a2 a3:D}:bp Ah0 [a0,a1,a2,a3] "name"=some a0:=by kernel_rfl
theorem oq{a0 a1 a2 a3:D}:bp Ah0 [a0,a1,a2,a3] "words"=some a1:=by kernel_rfl
theorem ot{a0 a1 a2 a3:D}:bp Ah0 [a0,a1,a2,a3] "depth"=some a2:=by kernel_rfl
theorem lW{a0 a1 a2 a3:D}:bp Ah0 [a0,a1,a2,a3] "answers"=some a3:=by kernel_rfl
theorem tj:da [] "name"=(["name"]:List Str):=by kernel_rfl
theorem tG{x:D}:cI [] [] "name" x=[x]:=by kernel_rfl
theorem tf:da ["name"] "words"=(["name","words"]:List Str):=by kernel_rfl
theorem tF{a0 x:D}:cI ["name"] [a0] "words" x=[a0,x]:=by kernel_rfl
theorem td:da ["name","words"] "depth"=(AI0:List Str):=by kernel_rfl
theorem tE{a0 a1 x:D}:cI ["name","words"] [a0,a1] "depth" x=[a0,a1,x]:=by kernel_rfl
theorem lE:da AI0 "answers"=(Ah0:List Str):=by kernel_rfl
theorem lF{a0 a1 a2 x:D}:cI AI0 [a0,a1,a2] "answers" x=[a0,a1,a2,x]:=by kernel_rfl
theorem dN:("answers_told":Str)∉gW:=by decide +kernel
abbrev jm:List Str:=Af0
theorem uh{a0 a1 a2 a3 a4:D}:bp Af0 [a0,a1,a2,a3,a4] "name"=some a0:=by kernel_rfl
theorem rD{a0 a1 a2 a3 a4:D}:bp Af0 [a0,a1,a2,a3,a4] "words"=some a1:=by kernel_rfl
theorem rF{a0 a1 a2 a3 a4:D}:bp Af0 [a0,a1,a2,a3,a4] "depth"=some a2:=by kernel_rfl
theorem on{a0 a1 a2 a3 a4:D}:bp Af0 [a0,a1,a2,a3,a4] "answers"=some a3:=by kernel_rfl
theorem rE{a0 a1 a2 a3 a4:D}:bp Af0 [a0,a1,a2,a3,a4] "names"=some a4:=by kernel_rfl
theorem pO:da Ah0 "names"=(Af0:List Str):=by kernel_rfl
theorem pP{a0 a1 a2 a3 x:D}:cI Ah0 [a0,a1,a2,a3] "names" x=[a0,a1,a2,a3,x]:=by kernel_rfl
theorem i7:("answers_told":Str)∉jm:=by decide +kernel
theorem kC:("numbers_in":Str)∉jm:=by decide +kernel
def aB:List Str:=["paper","laid","known","greatest"]
theorem eW:uH aB "paper" 0:=jx (by decide +kernel)
theorem jh:uH aB "laid" 1:=jx (by decide +kernel)
theorem cA:uH aB "known" 2:=jx (by decide +kernel)
theorem fJ:uH aB "greatest" 3:=jx (by decide +kernel)
theorem dZ:("coming_name":Str)∉aB:=by decide +kernel
theorem i8:("keep":Str)∉aB:=by decide +kernel
theorem fC:("note":Str)∉aB:=by decide +kernel
theorem gP:("answer":Str)∉aB:=by decide +kernel
theorem pT:("told":Str)∉aB:=by decide +kernel
def c_:List Str:=["old","drawn","states","greatest","time"]
theorem uA:uH c_ "old" 0:=jx (by decide +kernel)
theorem jg:uH c_ "drawn" 1:=jx (by decide +kernel)
theorem mG:("unwiped":Str)∉c_:=by decide +kernel
theorem f9:("view":Str)∉c_:=by decide +kernel
abbrev bo:Lf:=bZ (gn 3) 0
theorem hV:FnScope ["self","at"] ["self","at"] (ah bo):=by walk_at "j"
abbrev bW:Lf:=bZ (gn 5) 0
theorem ko:FnScope AP0 AP0 (ah bW):=by walk_at "j"
abbrev bO:Lf:=bZ (gn 6) 0
theorem jD:FnScope AP0 AP0 (ah bO):=by walk_at "j"
abbrev io:Lf:=gn 9
theorem gv:FnScope AC0 AC0 (ah io):=by walk_at "j"
abbrev kZ:Lf:=gn 12
theorem qV:FnScope Aw0 Aw0 (ah kZ):=by walk_at "j"
theorem nX:((["k"]:List Str) ++ (Aw0:List Str)).Nodup:=by decide +kernel
abbrev gw:Lf:=gn 19
theorem kW:FnScope AL0 AL0 (ah gw):=by walk_at "j"
abbrev o_:Lf:=gn 20
theorem iL:FnScope ["rows","by_name","row"] ["rows"] (ah o_):=by walk_at "j"
abbrev nk:Lf:=gn 22
theorem sN:FnScope ["old"] ["old"] (ah nk):=by walk_at "j"
abbrev k9:Lf:=gn 23
theorem eh:FnScope Az0 ["following","anchor","slots"] (ah k9):=by walk_at "j"
abbrev rY:Lf:=gn 24
theorem hJ:FnScope ["following","row","slot"] ["following"] (ah rY):=by walk_at "j"
abbrev o9:Lf:=gn 25
theorem iK:FnScope An0 ["old","strokes"] (ah o9):=by walk_at "j"
theorem rm:((AL0:List Str) ++ (An0:List Str)).Nodup:=by decide +kernel
abbrev u5:Lf:=gn 27
theorem zI:FnScope ["keys"] ["keys"] (ah u5):=by walk_at "j"
theorem vD:((["key"]:List Str) ++ (["keys"]:List Str)).Nodup:=by decide +kernel
abbrev no:Lf:=gn 29
theorem g_:FnScope Ag0 ["strokes","standing","in_row"] (ah no):=by walk_at "j"
theorem pX:((AL0:List Str) ++ (Ag0:List Str)).Nodup:=by decide +kernel
theorem pW:((["stroke"]:List Str) ++ (Ag0:List Str)).Nodup:=by decide +kernel
abbrev im:Lf:=gn 30
theorem d7:FnScope Au0 ["old","strokes"] (ah im):=by walk_at "j"
abbrev iO:Lf:=gn 31
theorem eO:FnScope AJ0 ["strokes"] (ah iO):=by walk_at "j"
abbrev jR:Lf:=gn 32
theorem fm:FnScope AB0 ["strokes"] (ah jR):=by walk_at "j"
abbrev kY:Lf:=gn 33
theorem fY:FnScope ["strokes","worn","stroke","name"] ["strokes"] (ah kY):=by walk_at "j"
abbrev u4:Lf:=gn 34
theorem cF:FnScope Ab0 Am0 (ah u4):=by walk_at "j"
theorem vC:((["slot"]:List Str) ++ (Ab0:List Str)).Nodup:=by decide +kernel
theorem nz:((["slot","name"]:List Str) ++ (Al0:List Str)).Nodup:=by decide +kernel
abbrev rW:Lf:=gn 35
theorem wK:FnScope Am0 Am0 (ah rW):=by walk_at "j"
theorem tT:((["seat"]:List Str) ++ (Am0:List Str)).Nodup:=by decide +kernel
abbrev lb:Lf:=gn 49
theorem jQ:FnScope AD0 ["_law_cell","_law_place"] (ah lb):=by walk_at "j"
abbrev k_:Lf:=gn 50
theorem fZ:FnScope Ar0 ["_law_margin","_law_pen","_law_name_here","_law_words"] (ah k_):=by walk_at "j"
abbrev jT:Lf:=gn 51
theorem iM:FnScope Av0 ["_law_margin","_law_pen","_law_at","_law_to"] (ah jT):=by walk_at "j"
abbrev iQ:Lf:=gn 52
theorem ik:FnScope AE0 AE0 (ah iQ):=by walk_at "j"
theorem dO:((At0:List Str) ++ (AE0:List Str)).Nodup:=by decide +kernel
abbrev jS:Lf:=gn 53
theorem o7:FnScope AF0 AF0 (ah jS):=by walk_at "j"
theorem c6:((As0:List Str) ++ (AF0:List Str)).Nodup:=by decide +kernel
abbrev nr:Lf:=gn 54
theorem cZ:FnScope Ai0 ["_law_margin","_law_depths","_law_counts","_law_pen","_law_name_here","_law_words"] (ah nr):=by walk_at "j"
abbrev iP:Lf:=gn 55
theorem eP:FnScope Ak0 ["_law_depths","_law_number"] (ah iP):=by walk_at "j"
theorem fR:((["_law_name_here","_law_depth"]:List Str) ++ (Ak0:List Str)).Nodup:=by decide +kernel
abbrev nq:Lf:=gn 56
theorem hU:FnScope Ap0 ["_law_depths","_law_counts","_law_cell"] (ah nq):=by walk_at "j"
abbrev rX:Lf:=gn 57
theorem dH:FnScope Ac0 ["_law_script"] (ah rX):=by walk_at "j"
abbrev dI:Lf:=bZ (gn 38) 0
theorem fq:FnScope Ax0 Ax0 (ah dI):=by walk_at "j"
abbrev cG:Lf:=bZ (gn 38) 1
theorem cr:FnScope Aq0 Aq0 (ah cG):=by walk_at "j"
theorem df:((["answer"]:List Str) ++ (Aq0:List Str)).Nodup:=by decide +kernel
abbrev iq:Lf:=bZ (gn 39) 0
theorem mm:FnScope Ay0 Ay0 (ah iq):=by walk_at "j"
abbrev fM:Lf:=bZ (gn 39) 1
theorem fo:FnScope AA0 AG0 (ah fM):=by walk_at "j"
theorem eG:((["number","row"]:List Str) ++ (AA0:List Str)).Nodup:=by decide +kernel
abbrev fN:Lf:=bZ (gn 40) 0
theorem kq:FnScope ["self","paper"] ["self","paper"] (ah fN):=by walk_at "j"
abbrev eF:Lf:=bZ (gn 40) 1
theorem iC:FnScope ["self","pen"] ["self","pen"] (ah eF):=by walk_at "j"
abbrev jW:Lf:=bZ (gn 40) 2
theorem o8:FnScope ["self","answer"] ["self","answer"] (ah jW):=by walk_at "j"
abbrev jV:Lf:=bZ (gn 40) 3
theorem cN:FnScope Aj0 ["self","pen","at","to","words"] (ah jV):=by walk_at "j"
theorem mJ:((AL0:List Str) ++ (Aj0:List Str)).Nodup:=by decide +kernel
abbrev ir:Lf:=bZ (gn 40) 4
theorem b9:FnScope Ao0 ["self","pen","note","words"] (ah ir):=by walk_at "j"
abbrev jU:Lf:=bZ (gn 40) 5
theorem iN:FnScope AG0 Aq0 (ah jU):=by walk_at "j"
theorem mI:((["note"]:List Str) ++ (AG0:List Str)).Nodup:=by decide +kernel
abbrev gA:Lf:=bZ (gn 47) 0
theorem kX:FnScope ["self","old"] ["self","old"] (ah gA):=by walk_at "j"
abbrev ip:Lf:=bZ (gn 47) 10
theorem ml:FnScope Aq0 Aq0 (ah ip):=by walk_at "j"
theorem kE:((AL0:List Str) ++ (Aq0:List Str)).Nodup:=by decide +kernel
abbrev lf:Lf:=bZ (gn 47) 11
theorem qW:FnScope Aq0 Aq0 (ah lf):=by walk_at "j"
def fW(G G':Gp):Prop:=∀ a o,G a=some o->G' a=some o
theorem fW.refl{G:Gp}:fW G G:=fun _ _ h=>h
theorem fW.trans{G G1 G2:Gp}(a:fW G G1)(b:fW G1 G2):fW G G2:=fun x o h=>b x o (a x o h)
theorem fW.gset{G G1:Gp}{p:KE}{o:GO}(a:fW G G1)(hp:G p=none):fW G (gset G1 p o):=fun x y h=>by
 have:x≠p:=fun z=>by subst z;rw[hp]at h;cases h
 rw[af this];exact a x y h
def cC(_:Zz)(_:HW):de:=fun ds G Q=>match ds with
 | [.tup [.str p,.int n],.int m]=>(0<=m/\m<=1000)/\Q (.fl ((cS p n m.toNat).map Sl.d)) G
 | _=>False
def cf(_:Zz)(_:HW):de:=fun ds G Q=>match ds with
 | [.str x]=>x.length<=1000/\Q (.fl ((gO x.length).map Sl.d)) G
 | _=>False
structure Zz where
 (Z1 Z2 Z3 Z4 Z5 C_Answer C_Note C_Margin C_Paper:KE)
def cD(zF:Zz)(hw:HW):de:=fun ds G Q=>match ds with
 | [.ref p,a,.lst xs]=>∃ (b:Sl) (ss W:List Sl) (kvs:List (List ar×D)),(a=b.d/\xs=ss.map Sl.d/\G p=some (.dT hw kvs)/\EM kvs W/\b∈W/\ss.Nodup/\(∀ x∈ss,x∉W)/\W.length+ss.length<=900000)/\
   ∀ kvs',EM kvs' (dR W b ss)->Q .non (gset G p (.dT hw kvs'))
 | _=>False
def d6(zF:Zz)(hw:HW):de:=fun ds G Q=>match ds with
 | [.ref p]=>∃ (R:List Sl) (kvs:List (List ar×D)),(G p=some (.dT hw kvs)/\EM kvs (aO::R)/\R.length<=900000)/\Q (.fl (R.map Sl.d)) G
 | _=>False
def dA(zF:Zz)(hw:HW):de:=fun ds G Q=>match ds with
 | [.lst xs]=>(∃ ss:List Sl,(xs=ss.map Sl.d/\ss.length<=900000)/\∀ p,G p=none->Q (.ref p) (gset G p (.dT hw (bA (fun _=>.bl true) (bY [] (ss.map fun s=>(s,())))))))\/
   ∃ ns:List Nm,(xs=ns.map Nm.d/\ns.length<=900000)/\∀ p,G p=none->Q (.ref p) (gset G p (.dT hw (dictOf (ns.map fun n=>(n.key,.bl true)))))
 | _=>False
def cM(_:Zz)(_:HW):de:=fun ds G Q=>match ds with
 | [.ref q]=>G q=some (.lst [])/\∀ G',fW G G'->Q (.fl []) G'
 | _=>False
def dw(_:Zz)(_:HW):de:=fun ds G Q=>match ds with
 | [.str x,.ref q]=>(G q=some (.lst [])/\x.length<=1000)/\∀ G',fW G G'->Q (.fl ((iV x.length []).map Sl.d)) G'
 | _=>False
def cX(_:Zz)(_:HW):de:=fun ds G Q=>match ds with
 | [.ref q,.lst [],.ref p]=>G q=some (.lst [])/\∀ G',fW G G'->Q (.fl []) G'
 | _=>False
def bF(zF:Zz)(hw:HW):de:=fun ds G Q=>match ds with
 | [.str x,.lst []]=>x.length<=1000/\∀ p,G p=none->Q (.ref p) (gset G p (.dT hw (bA D.str (aH x []))))
 | _=>False
def bS(zF:Zz)(hw:HW):de:=fun ds G Q=>match ds with
 | [.lst []]=>∀ p,G p=none->Q (.ref p) (gset G p (.dT hw []))
 | _=>False
def b7(zF:Zz)(hw:HW):de:=fun ds G Q=>match ds with
 | [.lst []]=>∀ p,G p=none->Q (.ref p) (gset G p (.dT hw []))
 | _=>False
def cB(zF:Zz)(hw:HW):de:=fun ds G Q=>match ds with
 | [.lst []]=>∀ p,G p=none->Q (.ref p) (gset G p (.dT hw []))
 | _=>False
def ff(_:Zz)(_:HW):de:=fun ds G Q=>match ds with
 | [.str x,.ref q,.lst []]=>(G q=some (.lst [])/\x.length<=1000)/\∀ G',fW G G'->Q (.fl ((e8 x [] []).map Seat.d)) G'
 | _=>False
def Seat.d3(s:Seat):D:=.tup [s.name.d,.str s.sign,.str s.word]
def d5(_:Zz)(_:HW):de:=fun ds G Q=>match ds with
 | [.str x,.ref q,.lst []]=>(G q=some (.lst [])/\x.length<=1000)/\∀ G',fW G G'->Q (.fl ((e8 x [] []).map Seat.d3)) G'
 | _=>False
structure Pp where
 old:Str
 time:Int
def IW(C:KE)(hw0:List ar->Int)(G:Gp)(p d s g:KE)(P:Pp):Prop:=G p=some (.ins C c_ [.str P.old,.ref d,.ref s,.ref g,.int P.time])/\G d=some (.lst [])/\G s=some (.dT hw0 [])/\G g=some (.dK [])
def wx(l:List KE)(G G':Gp):Prop:=∀ a o,a∉l->G a=some o->G' a=some o
def bH(zF:Zz)(hw:HW):de:=fun ds G Q=>match ds with
 | [.ref p]=>∃ (P:Pp) (d s g:KE),IW zF.C_Paper hw G p d s g P/\Q (.fl []) G
 | _=>False
def bt(zF:Zz)(hw:HW):de:=fun ds G Q=>match ds with
 | [.ref p]=>∃ (P:Pp) (d s g:KE),(IW zF.C_Paper hw G p d s g P/\P.old.length<=1000)/\∀ G',fW G G'->Q (.fl ((e8 P.old [] []).map Seat.d3)) G'
 | _=>False
def bd(zF:Zz)(hw:HW):de:=fun ds G Q=>match ds with
 | [.ref p,.str x]=>G p=some (.ins zF.C_Paper [] [])/\∀ d s g G',wx [p,d,s,g] G G'->IW zF.C_Paper hw G' p d s g ⟨x,0⟩->Q .non G'
 | _=>False
def bG(_:Zz)(_:HW):de:=fun ds G Q=>match ds with
 | [.int at_,.int to_,.int n]=>(0<=at_/\at_ < n/\at_ < to_/\to_<=n)/\Q .non G
 | _=>False
def sF(_:Zz)(_:HW):de:=fun vs _ Q=>match vs with
 | [.lst ds]=>∃ ns:List Int,ds=ns.map D.int/\ns.length<=63/\∀ G',Q (.bl true) G'
 | _=>False
structure Nd where
 a:KE
 l:KE
 pen:Str
 num:Int
 w:Str
 dep:Nat
 ks:List Nat
 nt:Option (List Sl)
def Nd.nm(x:Nd):Nm:=(x.pen,x.num)
def Nd.go(CA CN:KE)(x:Nd):GO:=match x.nt with
 | none=>.ins CA gW [x.nm.d,.str x.w,.int x.dep,.ref x.l]
 | some ss=>.ins CN jm [x.nm.d,.str x.w,.int x.dep,.ref x.l,.lst (ss.map Sl.d)]
def oz(ns:List Nd)(k:Nat):KE:=(ns[k]?.map Nd.a).getD 0
def IG(CA CN:KE)(G:Gp)(ns:List Nd):Prop:=∀ x∈ns,G x.a=some (x.go CA CN)/\G x.l=some (.lst (x.ks.map fun k=>.ref (oz ns k)))
structure Tre(ns:List Nd):Prop where
 kid:∀ x∈ns,∀ k∈x.ks,∃ y,ns[k]?=some y/\y.nt=none/\y.dep=x.dep+1
 dep:∀ x∈ns,1<=x.dep/\x.dep<=10
 few:∀ x∈ns,x.ks.length<=60
def kin(ns:List Nd):Nat->List Nat->List D
 | 0,_=>[]
 | n+1,ks=>ks.map fun k=>match ns[k]? with
  | some y=>.tup [y.nm.d,.str y.w,.lst (kin ns n y.ks)]
  | none=>.non
structure Mg where
 p:KE
 d:KE
 s:KE
 g:KE
 old:Str
 la:KE
 kn:KE
 gr:KE
 ns:List Nd
 lay:List Nat
 gs:List (ar×D)
def Mg.pp(M:Mg):Pp:=⟨M.old,0⟩
def Mg.kns(M:Mg):List (List ar×D):=M.ns.map fun x=>(x.nm.key,.ref x.a)
def Mg.deps(M:Mg):List (List ar×D):=M.ns.map fun x=>(x.nm.key,.int x.dep)
def aF(gs:List (ar×D))(pen:Str):Int:=match cW gs (.inr pen) with
 | some (.int m)=>m
 | _=>0
def Mg.cts(M:Mg):List (ar×D):=[(.inr (KH "ann"),.int (aF M.gs (KH "ann"))),(.inr (KH "bob"),.int (aF M.gs (KH "bob")))]
structure MAt(CA CN CM CP:KE)(hw0:List ar->Int)(G:Gp)(m:KE)(M:Mg):Prop where
 pap:IW CP hw0 G M.p M.d M.s M.g M.pp
 ins:G m=some (.ins CM aB [.ref M.p,.ref M.la,.ref M.kn,.ref M.gr])
 lay:G M.la=some (.lst (M.lay.map fun k=>.ref (oz M.ns k)))
 kn:G M.kn=some (.dT hw0 M.kns)
 gr:G M.gr=some (.dK M.gs)
 nds:IG CA CN G M.ns
structure Mg.ok(M:Mg)(n:Nat):Prop where
 old:∃ n,n<=20/\M.old=f7 (KH "a") n
 ls:([M.d,M.la] ++ M.ns.map Nd.l).Nodup
 sk:M.s≠M.kn
 gg:M.g≠M.gr
 nd:(M.ns.map Nd.nm).Nodup
 len:M.ns.length<=n
 tre:Tre M.ns
 kl:∀ x∈M.ns,x.ks.length<=M.ns.length
 lay:∀ k∈M.lay,∃ y,M.ns[k]?=some y/\(∃ ss,y.nt=some ss/\ss.length<=1000)/\y.dep=1
 lly:M.lay.length<=n
 gi:∀ k v,cW M.gs k=some v->∃ m:Int,v=.int m/\0<=m
 gl:M.gs.length<=n
 nm:∀ x∈M.ns,x.num<=aF M.gs x.pen
def Mg.vw(M:Mg):List Seat:=e8 M.old [] []
def En:D->D
 | .tup (d::_)=>d
 | _=>.non
def JD(ss:List Sl):D->Bool
 | .tup [_,.tup (n::_)]=>(ss.map Sl.d).any (dE n)
 | _=>false
def numsOf(vw:List Seat)(ss:List Sl):List D:=((v7 (vw.map Seat.d3)).filter (JD ss)).map En
def Mg.told(M:Mg):List D:=M.lay.map fun k=>match M.ns[k]? with
 | some y=>.tup [y.nm.d,.lst (numsOf M.vw (y.nt.getD [])),.str y.w,.lst (kin M.ns 11 y.ks)]
 | none=>.non
def Mg.give(M:Mg)(i:Nat)(x:Nd)(pen w:Str)(a l:KE):Mg:={ M with ns:=M.ns.set i { x with ks:=x.ks ++ [M.ns.length] } ++ [⟨a,l,pen,aF M.gs pen+1,w,x.dep+1,[],none⟩],gs:=aS M.gs (.inr pen) (.int (aF M.gs pen+1)) }
def Mg.put(M:Mg)(pen w:Str)(a l:KE)(ss:List Sl):Mg:={ M with ns:=M.ns ++ [⟨a,l,pen,aF M.gs pen+1,w,1,[],some ss⟩],lay:=M.lay ++ [M.ns.length],gs:=aS M.gs (.inr pen) (.int (aF M.gs pen+1)) }
def aQ(_:Zz)(_:HW):de:=fun ds G Q=>match ds with
 | [.int c,.int k]=>(0<=k/\k<=1000)/\∀ r:Int,0<=r->r < 2147483647->Q (.int r) G
 | _=>False
def aR(_:Zz)(_:HW)(n:Nat):de:=fun ds G Q=>match ds with
 | [.lst es]=>∃ (ns:List Nd) (ks:List Nat),(Tre ns/\0 < n/\ks.length<=60/\(∀ k∈ks,∃ y,ns[k]?=some y/\y.dep+n=13)/\es=kin ns n ks)/\Q (.fl (kin ns n ks)) G
 | _=>False
def aE(zF:Zz)(hw:HW)(n:Nat):de:=fun ds G Q=>match ds with
 | [.ref a]=>∃ (ns:List Nd) (x:Nd),(IG zF.C_Answer zF.C_Note G ns/\Tre ns/\x∈ns/\x.a=a/\x.dep+n=12)/\Q (.fl (kin ns n x.ks)) G
 | _=>False
def bq(zF:Zz)(hw:HW):de:=fun ds G Q=>match ds with
 | [.ref a,.lst vs]=>∃ (x:Nd) (ss:List Sl) (vw:List Seat),(G a=some (x.go zF.C_Answer zF.C_Note)/\x.nt=some ss/\ss.length<=1000/\vs=vw.map Seat.d3/\vw.length<=1000)/\∀ G',fW G G'->Q (.fl (numsOf vw ss)) G'
 | _=>False
def b8(zF:Zz)(hw:HW):de:=fun ds G Q=>match ds with
 | [.ref m]=>∃ M:Mg,(MAt zF.C_Answer zF.C_Note zF.C_Margin zF.C_Paper hw G m M/\M.ok 60)/\∀ G',fW G G'->Q (.fl M.told) G'
 | _=>False
def bL(zF:Zz)(hw:HW):de:=fun ds G Q=>match ds with
 | [.ref m]=>∃ M:Mg,(MAt zF.C_Answer zF.C_Note zF.C_Margin zF.C_Paper hw G m M/\M.ok 60)/\∀ G',fW G G'->Q (.fl M.told) G'
 | _=>False
def aN(zF:Zz)(hw:HW):de:=fun ds G Q=>match ds with
 | [.ref m,.str pen]=>∃ M:Mg,(MAt zF.C_Answer zF.C_Note zF.C_Margin zF.C_Paper hw G m M/\M.ok 60)/\Q (.tup [.str pen,.int (aF M.gs pen+1)]) G
 | _=>False
def bN(zF:Zz)(hw:HW):de:=fun ds G Q=>match ds with
 | [.ref m,.ref a]=>∃ (x:Nd) (p la kn gr:KE) (kvs:List (List ar×D)) (gs:List (ar×D)),(G m=some (.ins zF.C_Margin aB ([p,la,kn,gr].map D.ref))/\G kn=some (.dT hw kvs)/\G gr=some (.dK gs)/\G a=some (x.go zF.C_Answer zF.C_Note)/\kvs.length<=60/\gs.length<=60)/\
   Q x.nm.d (gset (gset G kn (.dT hw (aS kvs x.nm.key (.ref a)))) gr (.dK (aS gs (.inr x.pen) (.int x.num))))
 | _=>False
def aY(zF:Zz)(hw:HW):de:=fun ds G Q=>match ds with
 | [.ref a,.tup [.str b,.int k],.str w,.int dep]=>∃ C,((C=zF.C_Answer\/C=zF.C_Note)/\G a=some (.ins C [] []))/\∀ l G',wx [a] G G'->G l=none->l≠a->G' a=some (.ins C gW [.tup [.str b,.int k],.str w,.int dep,.ref l])->G' l=some (.lst [])->Q .non G'
 | _=>False
def bI(zF:Zz)(hw:HW):de:=fun ds G Q=>match ds with
 | [.ref a,.tup [.str b,.int k],.str w,.lst ss]=>G a=some (.ins zF.C_Note [] [])/\∀ l G',wx [a] G G'->G l=none->l≠a->G' a=some (.ins zF.C_Note jm [.tup [.str b,.int k],.str w,.int 1,.ref l,.lst ss])->G' l=some (.lst [])->Q .non G'
 | _=>False
def bJ(zF:Zz)(hw:HW):de:=fun ds G Q=>match ds with
 | [.ref m,.str pen,.tup [.str a,.int b],.str w]=>∃ (M:Mg) (i:Nat) (x:Nd),(MAt zF.C_Answer zF.C_Note zF.C_Margin zF.C_Paper hw G m M/\M.ok 59/\M.ns[i]?=some x/\x.nm=(a,b)/\x.dep<=9)/\
   ∀ a' l' G',MAt zF.C_Answer zF.C_Note zF.C_Margin zF.C_Paper hw G' m (M.give i x pen w a' l')->a'≠l'->G a'=none->G l'=none->wx [M.kn,M.gr,x.l] G G'->Q (.tup [.str pen,.int (aF M.gs pen+1)]) G'
 | _=>False
def Fa(M:Mg)(nm:Nm)(A B:Prop):Prop:=(nm∉M.ns.map Nd.nm/\A)\/∃ x,x∈M.ns/\x.nm=nm/\x.dep=10/\B
def bU(zF:Zz)(hw:HW)(_ Qu Qt:KE):wu:=fun ds G _ EQ=>match ds with
 | [.ref m,.str _,.tup [.str a,.int b],.str _]=>∃ M:Mg,(MAt zF.C_Answer zF.C_Note zF.C_Margin zF.C_Paper hw G m M/\M.ok 60)/\Fa M (a,b) (EQ Qu "name" (.tup [.str a,.int b]) G) (EQ Qt "name" (.tup [.str a,.int b]) G)
 | _=>False
def cE(zF:Zz)(hw:HW):de:=fun ds G Q=>match ds with
 | [.ref m,.str _,.tup [.str a,.int b],.str _]=>∃ M:Mg,(MAt zF.C_Answer zF.C_Note zF.C_Margin zF.C_Paper hw G m M/\M.ok 60)/\Fa M (a,b) (Q (.tup [.str (KH "no"),.tup [.str a,.int b]]) G) (Q (.tup [.str (KH "deep"),.tup [.str a,.int b]]) G)
 | _=>False
def IE(x:Str):Prop:=x=KH "ann"\/x=KH "bob"
structure LAt(CA CN CM CP:KE)(hw0:List ar->Int)(G:Gp)(m z c:KE)(M:Mg):Prop where
 mar:MAt CA CN CM CP hw0 G m M
 hz:G z=some (.dT hw0 M.deps)
 hc:G c=some (.dK M.cts)
 zk:z≠M.kn
 cg:c≠M.gr
 zs:z≠M.s
 cp:c≠M.g
def cm(zF:Zz)(hw:HW):de:=fun ds G Q=>match ds with
 | [.ref m,.ref z,.ref c,.str pen,.tup [.str a,.int b],.str w]=>∃ (M:Mg) (n:Nat),(LAt zF.C_Answer zF.C_Note zF.C_Margin zF.C_Paper hw G m z c M/\M.ok n/\n<=59/\IE pen)/\
   ∀ M' G',LAt zF.C_Answer zF.C_Note zF.C_Margin zF.C_Paper hw G' m z c M'->M'.ok (n+1)->M'.old=M.old->(M.ns≠[]->M'.ns≠[])->Q (.bl true) G'
 | _=>False
def bz(zF:Zz)(hw:HW):de:=fun ds G Q=>match ds with
 | [.ref z,.int k]=>∃ M:Mg,(G z=some (.dT hw M.deps)/\M.ns≠[]/\M.ns.length<=60/\0<=k)/\∀ (a:Str) (b:Int),Q (.tup [.str a,.int b]) G
 | _=>False
def cY(zF:Zz)(hw:HW):de:=fun ds G Q=>match ds with
 | [.ref z,.ref c,.int cell]=>∃ M:Mg,(G z=some (.dT hw M.deps)/\G c=some (.dK M.cts)/\M.ns≠[]/\M.ns.length<=60)/\∀ (a:Str) (b:Int),Q (.tup [.str a,.int b]) G
 | _=>False
def bM(zF:Zz)(hw:HW):de:=fun ds G Q=>match ds with
 | [.ref m,.str pen,.int i,.int j,.str w]=>∃ M:Mg,(MAt zF.C_Answer zF.C_Note zF.C_Margin zF.C_Paper hw G m M/\M.ok 59/\0<=i/\i < j/\j<=M.old.length)/\
   ∀ a' l' ss G',MAt zF.C_Answer zF.C_Note zF.C_Margin zF.C_Paper hw G' m (M.put pen w a' l' ss)->a'≠l'->G a'=none->G l'=none->ss.length<=1000->wx [M.kn,M.gr,M.la] G G'->Q (.tup [.str pen,.int (aF M.gs pen+1)]) G'
 | _=>False
def J3(n:Int)(i j:Int)(A:Int->Prop):Prop:=(¬ (0<=i/\i < n)/\A i)\/((0<=i/\i < n)/\¬ (i < j/\j<=n)/\A j)
def bT(_:Zz)(_:HW)(Qs _ _:KE):wu:=fun ds G _ EQ=>match ds with
 | [.int i,.int j,.int n]=>J3 n i j fun k=>EQ Qs "at" (.int k) G
 | _=>False
def cy(zF:Zz)(hw:HW)(Qs _ _:KE):wu:=fun ds G _ EQ=>match ds with
 | [.ref m,.str _,.int i,.int j,.str _]=>∃ M:Mg,(MAt zF.C_Answer zF.C_Note zF.C_Margin zF.C_Paper hw G m M/\M.ok 60)/\∀ G',fW G G'->J3 M.old.length i j fun k=>EQ Qs "at" (.int k) G'
 | _=>False
def bc(zF:Zz)(hw:HW):de:=fun ds G Q=>match ds with
 | [.ref m,.str _,.int i,.int j]=>∃ M:Mg,(MAt zF.C_Answer zF.C_Note zF.C_Margin zF.C_Paper hw G m M/\M.ok 60)/\∀ G',fW G G'->J3 M.old.length i j fun k=>Q (.int k) G'
 | _=>False
def aX(zF:Zz)(hw:HW):de:=fun ds G Q=>match ds with
 | [.ref m,.ref p]=>G m=some (.ins zF.C_Margin [] [])/\∀ la kn gr G',wx [m] G G'->G la=none->G kn=none->G gr=none->la≠m->kn≠m->gr≠m->la≠kn->la≠gr->kn≠gr->G' m=some (.ins zF.C_Margin aB ([p,la,kn,gr].map D.ref))->G' la=some (.lst [])->G' kn=some (.dT hw [])->G' gr=some (.dK [])->Q .non G'
 | _=>False
def j5(zF:Zz)(hw:List ar->Int):bh:=sSeq (bj 2 (cV jI (cV vz (cV dM (cV dM (ag 0) (cV vz (eC (.int 7919)) (ag 1))) (eC (.int 1))) (eC (.int 48271))) (eC (.int 2147483647))))
 (bb (cV jI (cV vz (ag 2) (cV dM (cV B1 (ag 2) (eC (.int 1009))) (eC (.int 69621)))) (eC (.int 2147483647))))
def iw(zF:Zz)(hw:List ar->Int)(ρ:de):bh:=bb (dS 3 (fH (ag 0)) (qk 3 (du (gN 0) (du (gN 1) (du (gN 2) (ql))))) (fk) (eg (ae (ag 0) (ae (ag 1) (ae (aM ρ [] (ae (ag 2) (av))) (av))))))
def jZ(zF:Zz)(hw:List ar->Int):bh:=sSeq (bj 3 (ag 1))
 (mn (fH (ag 2)) (gN 4) (sSeq (gB hw (ag 0) (ag 4) (iE hw (ag 0) (ag 3)))
 (sSeq (gB hw (ag 0) (ag 3) (ag 4))
 (bj 3 (ag 4)))))
def jY(zF:Zz)(hw:List ar->Int):bh:=bb (dS 1 (JG (ae (eC (.int 1)) (ae (cV dM (ag 1) (eC (.int 1))) (av)))) (gN 0) (fk) (cV dM (ag 1) (eg (ae (ag 0) (av)))))
def lw(zF:Zz)(hw:List ar->Int):bh:=bb (aM (cC zF hw) [] (ae (C7 A9 (eC k_START) (GM) (ix (eC (.int 2)))) (ae (eB wm (ae (ag 0) (av))) (av))))
def nw(zF:Zz)(hw:List ar->Int):bh:=sSeq (bj 1 (j_ hw))
 (sSeq (Bd (ag 0) (gN 2) (cO))
 (bb (xx (sG) (ag 1))))
def pH(zF:Zz)(hw:List ar->Int):bh:=sSeq (Fx 1 (v8 (av)))
 (sSeq (bj 2 (iE hw (ag 0) (eC k_START)))
 (sSeq (wL (cK (cV vy (ag 2) (eC .non))) (sSeq (iT (fT (ag 1) (ae (ag 2) (av))))
 (bj 2 (iE hw (ag 0) (ag 2)))))
 (jq 1)))
def nv(zF:Zz)(hw:List ar->Int):bh:=sSeq (bj 2 (xA hw (eC k_START) (eC .non)))
 (sSeq (iT (aM (cD zF hw) [] (ae (ag 2) (ae (eC k_START) (ae (aM (cf zF hw) [] (ae (ag 0) (av))) (av))))))
 (sSeq (mn (fH (dS 1 (fH (aM (cM zF hw) [] (ae (ag 1) (av)))) (gN 0) (fk) (qA))) (gN 3) (cO))
 (bb (aM (d6 zF hw) [] (ae (ag 2) (av))))))
def r8(zF:Zz)(hw:List ar->Int):bh:=bb (xz hw (dS 1 (fH (ag 0)) (gN 0) (fk) (eg (ae (ag 0) (ae (eC (.bl true)) (av))))))
def lA(zF:Zz)(hw:List ar->Int):bh:=sSeq (bj 3 (aM (dA zF hw) [] (ae (ag 1) (av))))
 (sSeq (bj 4 (dS 1 (fH (aM (cM zF hw) [] (ae (ag 0) (av)))) (gN 0) (tNever) (qA)))
 (bb (dS 1 (fH (ag 4)) (gN 0) (tNever) (qA))))
def gG(zF:Zz)(hw:List ar->Int):bh:=sSeq (bj 2 (xy hw (ae (aM (cf zF hw) [] (ae (ag 0) (av))) (ae (ag 0) (av)))))
 (sSeq (mn (fH (ag 1)) (gN 3) (cO))
 (bb (ag 2)))
def nU(zF:Zz)(hw:List ar->Int):bh:=sSeq (bj 1 (j_ hw))
 (sSeq (mn (fH (ag 0)) (gN 2) (cO))
 (bb (ag 1)))
def pE(zF:Zz)(hw:List ar->Int):bh:=sSeq (bj 1 (j_ hw))
 (sSeq (mn (fH (ag 0)) (gN 2) (cO))
 (bb (ag 1)))
def rf(zF:Zz)(hw:List ar->Int):bh:=sSeq (bj 1 (j_ hw))
 (sSeq (mn (fH (ag 0)) (gN 2) (cO))
 (bb (ag 1)))
def r6(zF:Zz)(hw:List ar->Int):bh:=sSeq (bj 3 (aM (dw zF hw) [] (ae (ag 0) (ae (ag 1) (av)))))
 (sSeq (bj 4 (aM (cX zF hw) [] (ae (ag 1) (ae (ag 2) (ae (aM (dA zF hw) [] (ae (ag 3) (av))) (av))))))
 (sSeq (bj 5 (aM (bF zF hw) [] (ae (ag 0) (ae (ag 4) (av)))))
 (sSeq (bj 6 (aM (bS zF hw) [] (ae (ag 4) (av))))
 (sSeq (bj 7 (aM (b7 zF hw) [] (ae (ag 4) (av))))
 (sSeq (bj 8 (aM (cB zF hw) [] (ae (ag 4) (av))))
 (sSeq (bj 9 (j_ hw))
 (sSeq (Be (ag 5) (gN 10) (iR (cK (fc hw (ag 10) (ag 6))) (gB hw (ag 9) (m4 hw (ag 7) (ag 10) (ag 10)) (ag 10)) (dG)))
 (sSeq (bj 11 (dS 1 (fH (ag 3)) (gN 0) (cK (Cw hw (ag 0) (ag 10))) (eg (ae (ag 0) (ae (iE hw (ag 10) (ag 0)) (av))))))
 (bb (dS 2 (fH (ag 11)) (qk 2 (du (gN 0) (du (gN 1) (ql)))) (fk) (eg (ae (ag 0) (ae (ag 1) (ae (iE hw (ag 7) (ag 1)) (ae (m4 hw (ag 10) (ag 1) (eC (.str ""))) (av))))))))))))))))
def pF(zF:Zz)(hw:List ar->Int):bh:=bb (dS 1 (fH (aM (ff zF hw) [] (ae (ag 0) (ae (ag 1) (ae (ag 2) (av)))))) (gN 0) (fk) (C7 A9 (ag 0) (ix (eC (.int 1))) (GM)))
def gI(zF:Zz)(hw:List ar->Int):bh:=bb (jd 1 (gT zF.C_Paper c_ 1 (ag 0)) (gN 0) (tNever) (qA))
def j6(zF:Zz)(hw:List ar->Int):bh:=bb (aM (d5 zF hw) [] (ae (gT zF.C_Paper c_ 0 (ag 0)) (ae (gT zF.C_Paper c_ 1 (ag 0)) (ae (cU zF.C_Paper c_ (bH zF hw) [] (ag 0) av) (av)))))
def fw(zF:Zz)(hw:List ar->Int):bh:=sSeq (bj 2 (aM (dA zF hw) [] (ae (ce [zF.C_Answer,zF.C_Note] "names" (ag 0)) (av))))
 (bb (dS 2 (Ci (ae (ag 1) (av))) (qk 2 (du (gN 0) (du (gN 1) (ql)))) (cK (Cw hw (cV wt (ag 1) (eC (.int 0))) (ag 4))) (ag 0)))
def dJ(zF:Zz)(hw:List ar->Int)(ρ:de):bh:=bb (jd 1 (ce [zF.C_Answer,zF.C_Note] "answers" (ag 0)) (gN 0) (fk) (eg (ae (ce [zF.C_Answer,zF.C_Note] "name" (ag 0)) (ae (ce [zF.C_Answer,zF.C_Note] "words" (ag 0)) (ae (cU zF.C_Answer gW ρ [] (ag 0) av) (av))))))
def iY(zF:Zz)(hw:List ar->Int):bh:=sSeq (bj 1 (cU zF.C_Paper c_ (bt zF hw) [] (gT zF.C_Margin aB 0 (ag 0)) av))
 (bb (jd 1 (gT zF.C_Margin aB 1 (ag 0)) (gN 0) (fk) (eg (ae (ce [zF.C_Answer,zF.C_Note] "name" (ag 0)) (ae (cU zF.C_Note jm (bq zF hw) [] (ag 0) (ae (ag 2) (av))) (ae (ce [zF.C_Answer,zF.C_Note] "words" (ag 0)) (ae (cU zF.C_Note jm (aE zF hw 11) [] (ag 0) av) (av))))))))
def iW(zF:Zz)(hw:List ar->Int):bh:=bb (dS 4 (fH (cU zF.C_Margin aB (b8 zF hw) [] (ag 0) av)) (qk 4 (du (gN 0) (du (gN 1) (du (gN 2) (du (gN 3) (ql)))))) (fk) (eg (ae (ag 0) (ae (eB ze (ae (ag 1) (av))) (ae (ag 2) (ae (aM (aR zF hw 11) [] (ae (ag 3) (av))) (av)))))))
def dY(zF:Zz)(hw:List ar->Int):bh:=bb (eg (ae (ag 1) (ae (cV dM (m4 hw (gT zF.C_Margin aB 3 (ag 0)) (ag 1) (eC (.int 0))) (eC (.int 1))) (av))))
def i0(zF:Zz)(hw:List ar->Int):bh:=sSeq (gB hw (gT zF.C_Margin aB 2 (ag 0)) (ce [zF.C_Answer,zF.C_Note] "name" (ag 1)) (ag 1))
 (sSeq (gB hw (gT zF.C_Margin aB 3 (ag 0)) (cV wt (ce [zF.C_Answer,zF.C_Note] "name" (ag 1)) (eC (.int 0))) (cV wt (ce [zF.C_Answer,zF.C_Note] "name" (ag 1)) (eC (.int 1))))
 (bb (ce [zF.C_Answer,zF.C_Note] "name" (ag 1))))
def fA(zF:Zz)(hw:List ar->Int):bh:=sSeq (pe [zF.C_Answer,zF.C_Note] "name" (ag 0) (ag 1))
 (sSeq (pe [zF.C_Answer,zF.C_Note] "words" (ag 0) (ag 2))
 (sSeq (pe [zF.C_Answer,zF.C_Note] "depth" (ag 0) (ag 3))
 (pe [zF.C_Answer,zF.C_Note] "answers" (ag 0) (qz (v8 (av))))))
def gK(zF:Zz)(hw:List ar->Int):bh:=sSeq (iR (cK (fc hw (ag 2) (gT zF.C_Margin aB 2 (ag 0)))) (cO) (dG))
 (sSeq (bj 4 (iE hw (gT zF.C_Margin aB 2 (ag 0)) (ag 2)))
 (sSeq (iR (cK (eL yI (ce [zF.C_Answer,zF.C_Note] "depth" (ag 4)) (eC k_DEEPEST))) (cO) (dG))
 (sSeq (bj 5 (iA zF.C_Answer (aY zF hw) [] (ae (cU zF.C_Margin aB (aN zF hw) [] (ag 0) (ae (ag 1) (av))) (ae (ag 3) (ae (cV dM (ce [zF.C_Answer,zF.C_Note] "depth" (ag 4)) (eC (.int 1))) (av))))))
 (sSeq (iT (fT (ce [zF.C_Answer,zF.C_Note] "answers" (ag 4)) (ae (ag 5) (av))))
 (bb (cU zF.C_Margin aB (bN zF hw) [] (ag 0) (ae (ag 5) (av))))))))
def gF(zF:Zz)(hw:List ar->Int)(Qs:KE)(Qu:KE)(Qt:KE)(EQ:XQ):bh:=sSeq (iR (cK (fc hw (ag 2) (gT zF.C_Margin aB 2 (ag 0)))) (pc Qu "name" (ae (ag 2) (av)) EQ) (dG))
 (sSeq (bj 4 (iE hw (gT zF.C_Margin aB 2 (ag 0)) (ag 2)))
 (sSeq (iR (cK (eL yI (ce [zF.C_Answer,zF.C_Note] "depth" (ag 4)) (eC k_DEEPEST))) (pc Qt "name" (ae (ag 2) (av)) EQ) (dG))
 (cO)))
def j0(zF:Zz)(hw:List ar->Int)(Qv:KE)(Qs:KE)(Qw:KE)(Qu:KE)(Qt:KE):bh:=sSeq (xV [(Qu,"name",fun d x=>sSeq (iR (mh (gu (eB (jf x (.ref Qw) false) (ae (ag 4) (ae (eC (.ref Qw)) (av))))) (mh (gu (eB (jf x (.ref Qs) false) (ae (ag 4) (ae (eC (.ref Qs)) (av))))) (dX (gu (eB (jf x (.ty "ValueError") true) (ae (ag 4) (ae (eC (.ty "ValueError")) (av)))))))) (bb (eg (ae (eC (.str "none")) (ae (ag 2) (av))))) (dG))
 (sSeq (iR (kS (gu (eB (jf x (.ref Qt) false) (ae (ag 4) (ae (eC (.ref Qt)) (av))))) (dX (gu (eB (jf x (.ref Qu) true) (ae (ag 4) (ae (eC (.ref Qu)) (av))))))) (rZ 4 "deep" d x) (dG))
 (sSeq (iR (kS (gu (eB (jf x (.ref Qu) true) (ae (ag 4) (ae (eC (.ref Qu)) (av))))) (dX (gu (eB (jf x (.ref Qt) false) (ae (ag 4) (ae (eC (.ref Qt)) (av))))))) (rZ 4 "no" d x) (dG))
 (bb (eg (ae (eC (.str "none")) (ae (ag 2) (av)))))))),(Qt,"name",fun d x=>sSeq (iR (mh (gu (eB (jf x (.ref Qw) false) (ae (ag 4) (ae (eC (.ref Qw)) (av))))) (mh (gu (eB (jf x (.ref Qs) false) (ae (ag 4) (ae (eC (.ref Qs)) (av))))) (dX (gu (eB (jf x (.ty "ValueError") true) (ae (ag 4) (ae (eC (.ty "ValueError")) (av)))))))) (bb (eg (ae (eC (.str "none")) (ae (ag 2) (av))))) (dG))
 (sSeq (iR (kS (gu (eB (jf x (.ref Qt) true) (ae (ag 4) (ae (eC (.ref Qt)) (av))))) (dX (gu (eB (jf x (.ref Qu) false) (ae (ag 4) (ae (eC (.ref Qu)) (av))))))) (rZ 4 "deep" d x) (dG))
 (sSeq (iR (kS (gu (eB (jf x (.ref Qu) false) (ae (ag 4) (ae (eC (.ref Qu)) (av))))) (dX (gu (eB (jf x (.ref Qt) true) (ae (ag 4) (ae (eC (.ref Qt)) (av))))))) (rZ 4 "no" d x) (dG))
 (bb (eg (ae (eC (.str "none")) (ae (ag 2) (av))))))))] 4 (fun EQ=>pd zF.C_Margin aB (bU zF hw Qs Qu Qt) (ag 0) (ae (ag 1) (ae (ag 2) (ae (ag 3) (av)))) EQ))
 (bb (eg (ae (eC (.str "done")) (ae (ag 2) (av)))))
def lC(zF:Zz)(hw:List ar->Int):bh:=sSeq (bj 6 (eC (.str "done")))
 (sSeq (iR (cK (fc hw (ag 4) (ag 1))) (bj 6 (eC (.str "no"))) (iR (cK (cV IR (iE hw (ag 1) (ag 4)) (eC (.int 9)))) (bj 6 (eC (.str "deep"))) (dG)))
 (sSeq (iR (cK (eL yI (ag 6) (eC (.str "done")))) (sSeq (bj 7 (cU zF.C_Margin aB (bJ zF hw) [] (ag 0) (ae (ag 3) (ae (ag 4) (ae (ag 5) (av))))))
 (sSeq (gB hw (ag 2) (ag 3) (cV dM (iE hw (ag 2) (ag 3)) (eC (.int 1))))
 (sSeq (gB hw (ag 1) (ag 7) (cV dM (iE hw (ag 1) (ag 4)) (eC (.int 1))))
 (bb (eL yI (ag 7) (eg (ae (ag 3) (ae (iE hw (ag 2) (ag 3)) (av))))))))) (dG))
 (sSeq (bj 8 (aM (bL zF hw) [] (ae (ag 0) (av))))
 (bb (Cy (eL yI (aM (cE zF hw) [] (ae (ag 0) (ae (ag 3) (ae (ag 4) (ae (ag 5) (av)))))) (eg (ae (ag 6) (ae (ag 4) (av))))) (eL (D8 40) (aM (bL zF hw) [] (ae (ag 0) (av))) (ag 8)))))))
def iu(zF:Zz)(hw:List ar->Int):bh:=sSeq (bj 2 (Cu (ag 0)))
 (sSeq (bj 3 (uq 2 (ag 0) (qk 2 (du (gN 0) (du (gN 1) (ql)))) (mh (cK (eL yI (ag 1) (ag 4))) (cK (eL yI (ag 1) (eC (.int 10))))) (ag 0)))
 (bb (cV wt (ag 3) (cV jI (ag 1) (eB wm (ae (ag 3) (av)))))))
def lB(zF:Zz)(hw:List ar->Int):bh:=sSeq (bj 3 (cV jI (aM (aQ zF hw) [] (ae (ag 2) (ae (eC (.int 2)) (av)))) (eC (.int 8))))
 (sSeq (iR (cK (cV F0 (ag 3) (eC (.int 4)))) (bb (aM (bz zF hw) [] (ae (ag 0) (ae (aM (aQ zF hw) [] (ae (ag 2) (ae (eC (.int 3)) (av)))) (av))))) (dG))
 (sSeq (iR (cK (eL yI (ag 3) (eC (.int 4)))) (bb (eg (ae (eC (.str "ann")) (ae (cV dM (cV dM (iE hw (ag 1) (eC (.str "ann"))) (eC (.int 1))) (cV jI (aM (aQ zF hw) [] (ae (ag 2) (ae (eC (.int 3)) (av)))) (eC (.int 9)))) (av))))) (dG))
 (sSeq (iR (cK (eL yI (ag 3) (eC (.int 5)))) (bb (eg (ae (cV wt (v8 (ae (eC (.str "cyd")) (ae (eC (.str "an")) (ae (eC (.str "annn")) (av))))) (cV jI (aM (aQ zF hw) [] (ae (ag 2) (ae (eC (.int 3)) (av)))) (eC (.int 3)))) (ae (eC (.int 1)) (av))))) (dG))
 (sSeq (bj 4 (uo (ag 0)))
 (bb (cV wt (ag 4) (cV jI (aM (aQ zF hw) [] (ae (ag 2) (ae (eC (.int 3)) (av)))) (eB wm (ae (ag 4) (av))))))))))
def gH(zF:Zz)(hw:List ar->Int):bh:=sSeq (iR (dX (cK (kL GN F0 (eC (.int 0)) (ag 0) (ag 2)))) (cO) (dG))
 (iR (dX (cK (kL F0 GN (ag 0) (ag 1) (ag 2)))) (cO) (dG))
def gJ(zF:Zz)(hw:List ar->Int):bh:=sSeq (iT (aM (aY zF hw) [] (ae (ag 0) (ae (ag 1) (ae (ag 2) (ae (eC (.int 1)) (av)))))))
 (pe [zF.C_Answer,zF.C_Note] "names" (ag 0) (ag 3))
def iZ(zF:Zz)(hw:List ar->Int):bh:=sSeq (bj 5 (cU zF.C_Paper c_ (bt zF hw) [] (gT zF.C_Margin aB 0 (ag 0)) av))
 (sSeq (iT (aM (bG zF hw) [] (ae (ag 2) (ae (ag 3) (ae (eB wm (ae (ag 5) (av))) (av))))))
 (sSeq (bj 6 (iA zF.C_Note (bI zF hw) [] (ae (cU zF.C_Margin aB (aN zF hw) [] (ag 0) (ae (ag 1) (av))) (ae (ag 4) (ae (dS 1 (fH (C7 A9 (ag 5) (ix (ag 2)) (ix (ag 3)))) (gN 0) (fk) (cV wt (ag 0) (eC (.int 0)))) (av))))))
 (sSeq (iT (fT (gT zF.C_Margin aB 1 (ag 0)) (ae (ag 6) (av))))
 (bb (cU zF.C_Margin aB (bN zF hw) [] (ag 0) (ae (ag 6) (av)))))))
def gC(zF:Zz)(hw:List ar->Int)(Qs:KE)(Qu:KE)(Qt:KE)(EQ:XQ):bh:=sSeq (iR (dX (cK (kL GN F0 (eC (.int 0)) (ag 0) (ag 2)))) (pc Qs "at" (ae (ag 0) (av)) EQ) (dG))
 (iR (dX (cK (kL F0 GN (ag 0) (ag 1) (ag 2)))) (pc Qs "at" (ae (ag 1) (av)) EQ) (dG))
def iU(zF:Zz)(hw:List ar->Int)(Qs:KE)(Qu:KE)(Qt:KE)(EQ:XQ):bh:=sSeq (bj 5 (cU zF.C_Paper c_ (bt zF hw) [] (gT zF.C_Margin aB 0 (ag 0)) av))
 (sSeq (Bf (bT zF hw Qs Qu Qt) (ae (ag 2) (ae (ag 3) (ae (eB wm (ae (ag 5) (av))) (av)))) EQ)
 (cO))
def iX(zF:Zz)(hw:List ar->Int)(Qv:KE)(Qs:KE)(Qw:KE)(Qu:KE)(Qt:KE):bh:=sSeq (xV [(Qs,"at",fun d x=>Bc 4 d x)] 4 (fun EQ=>pd zF.C_Margin aB (cy zF hw Qs Qu Qt) (ag 0) (ae (ag 1) (ae (ag 2) (ae (ag 3) (ae (eC (.str "x")) (av))))) EQ))
 (bb (eC .non))
def fy(zF:Zz)(hw:List ar->Int):bh:=sSeq (iS zF.C_Margin [] "paper" (ag 0) (ag 1))
 (sSeq (iS zF.C_Margin ["paper"] "laid" (ag 0) (qz (v8 (av))))
 (sSeq (iS zF.C_Margin ["paper","laid"] "known" (ag 0) (j_ hw))
 (iS zF.C_Margin ["paper","laid","known"] "greatest" (ag 0) (yV))))
def fO(zF:Zz)(hw:List ar->Int):bh:=sSeq (iS zF.C_Paper [] "old" (ag 0) (ag 1))
 (sSeq (iS zF.C_Paper ["old"] "drawn" (ag 0) (qz (v8 (av))))
 (sSeq (iS zF.C_Paper ["old","drawn"] "states" (ag 0) (j_ hw))
 (sSeq (iS zF.C_Paper AK0 "greatest" (ag 0) (yV))
 (iS zF.C_Paper ["old","drawn","states","greatest"] "time" (ag 0) (eC (.int 0))))))
def Bk(zF:Zz)(hw:List ar->Int):bh:=sSeq (bj 1 (eB EA (ae (C7 A9 (ag 0) (GM) (ix (eC (.int 1)))) (av))))
 (sSeq (bj 2 (cV dM (eC (.int 1)) (cV jI (ag 1) (eC (.int 20)))))
 (sSeq (bj 3 (iA zF.C_Margin (aX zF hw) [] (ae (iA zF.C_Paper (bd zF hw) [] (ae (cV vz (eC (.str "a")) (ag 2)) (av))) (av))))
 (sSeq (bj 4 (Cv "ann" "bob" 0 0))
 (sSeq (bj 5 (j_ hw))
 (sSeq (mn (IU (ae (cV dM (eC (.int 1)) (cV jI (cV B1 (ag 1) (eC (.int 20))) (eC (.int 3)))) (av))) (gN 6) (sSeq (bj 7 (cV jI (aM (aQ zF hw) [] (ae (ag 1) (ae (cV dM (eC (.int 10)) (ag 6)) (av)))) (ag 2)))
 (sSeq (bj 8 (cU zF.C_Margin aB (bM zF hw) [] (ag 3) (ae (eC (.str "ann")) (ae (ag 7) (ae (ag 2) (ae (cV dM (eC (.str "note ")) (eB zd (ae (ag 6) (av)))) (av)))))))
 (sSeq (gB hw (ag 4) (eC (.str "ann")) (cV dM (iE hw (ag 4) (eC (.str "ann"))) (eC (.int 1))))
 (gB hw (ag 5) (ag 8) (eC (.int 1)))))))
 (sSeq (iR (cK (eL yI (cV jI (cV B1 (ag 1) (eC (.int 60))) (eC (.int 4))) (eC (.int 1)))) (mn (IU (ae (eC (.int 9)) (av))) (gN 6) (iR (dX (gu (aM (cm zF hw) [] (ae (ag 3) (ae (ag 5) (ae (ag 4) (ae (eC (.str "bob")) (ae (aM (bz zF hw) [] (ae (ag 5) (ae (eC (.int 0)) (av)))) (ae (eC (.str "a row")) (av)))))))))) (bb (eC (.bl false))) (dG))) (dG))
 (sSeq (mn (fH (C7 A9 (ag 0) (ix (eC (.int 1))) (ix (eC (.int 31))))) (gN 9) (sSeq (bj 10 (cV wt (v8 (ae (eC (.str "ann")) (ae (eC (.str "bob")) (av)))) (cV jI (aM (aQ zF hw) [] (ae (ag 9) (ae (eC (.int 1)) (av)))) (eC (.int 2)))))
 (sSeq (bj 11 (aM (cY zF hw) [] (ae (ag 5) (ae (ag 4) (ae (ag 9) (av))))))
 (iR (dX (gu (aM (cm zF hw) [] (ae (ag 3) (ae (ag 5) (ae (ag 4) (ae (ag 10) (ae (ag 11) (ae (C7 A9 (eC (.str "why")) (GM) (ix (cV dM (eC (.int 1)) (cV jI (ag 9) (eC (.int 3)))))) (av)))))))))) (bb (eC (.bl false))) (dG)))))
 (sSeq (bj 12 (cV jI (ag 1) (cV FX (eC (.int 10)) (eC (.int 12)))))
 (sSeq (iR (mh (cK (eL FZ (aM (bc zF hw) [] (ae (ag 3) (ae (eC (.str "ann")) (ae (cV dM (ag 2) (ag 12)) (ae (cV dM (cV dM (ag 2) (ag 12)) (eC (.int 1))) (av)))))) (cV dM (ag 2) (ag 12)))) (cK (eL FZ (aM (bc zF hw) [] (ae (ag 3) (ae (eC (.str "ann")) (ae (Ct (eC (.int 1))) (ae (eC (.int 1)) (av)))))) (Ct (eC (.int 1)))))) (bb (eC (.bl false))) (dG))
 (sSeq (iR (mh (cK (eL FZ (aM (bc zF hw) [] (ae (ag 3) (ae (eC (.str "bob")) (ae (eC (.int 0)) (ae (cV dM (cV dM (ag 2) (eC (.int 1))) (ag 12)) (av)))))) (cV dM (cV dM (ag 2) (eC (.int 1))) (ag 12)))) (cK (eL FZ (aM (bc zF hw) [] (ae (ag 3) (ae (eC (.str "bob")) (ae (eC (.int 0)) (ae (eC (.int 0)) (av)))))) (eC (.int 0))))) (bb (eC (.bl false))) (dG))
 (bb (eL yI (cU zF.C_Margin aB (bM zF hw) [] (ag 3) (ae (eC (.str "bob")) (ae (eC (.int 0)) (ae (eC (.int 1)) (ae (eC (.str "last")) (av)))))) (eg (ae (eC (.str "bob")) (ae (cV dM (iE hw (ag 4) (eC (.str "bob"))) (eC (.int 1))) (av))))))))))))))))
def wl:String:="dG iT bb He Fy Hg iR cO bj Fx jq Jq Hf iS ag eC cV eL kL Cy Kq HX Kr Ct cK kS mh dX gu fk Fm eg v8 av ae dM oI EZ Jw jI B1 FX vz F0 GN IR Kk yI FZ wt C7 GM ix A9 eB wm ze xE EA JO GA JQ tZ aM cU iA gT HZ fT dS mn fH IU JG JF Jo dQ sB C9 gN qk du ql val aw List.map_cons List.map_nil List.replicate List.length_cons List.length_nil List.cons_append List.nil_append List.append_nil List.getElem?_cons_zero List.getElem?_cons_succ List.getElem?_nil List.set_cons_zero List.set_cons_succ List.set_nil Nat.reduceAdd Nat.reduceSub Nat.reduceLeDiff Nat.zero_add Option.some.injEq Option.map_some decide_eq_true_eq true_and and_true and_self if_true if_false Bool.false_eq_true reduceCtorEq List.cons.injEq GO.ins.injEq GO.lst.injEq D.lst.injEq D.fl.injEq exists_eq_left' exists_eq_left exists_eq' ai d9 pl bg IA Iz Iy Ix Iw Iv Iu Is Ir Iq Ip Io Im Il Ik j_ yV m4 gB eY HY HV Gk Jv FY iz bR lR vR C6 Bool.not_true Bool.not_false ce pe Gi xA Gj Gh xx Jx vy qg wL iE Cw fc JR Ih if_true if_false xz xy JE fi Be Ii JS HU Es Kg HV fc m4 iz IR qz Bd jd k_DEEPEST jf Ci Cu uo zd Cv D8 Bc rZ Ct k_START sG qo qm mZ oj sZ tx sY tw sX tu sW tq nV v5 v4 rC ug uf zV zX zU zW tR xc qr qp m3 om s_ tD nW rh rK rJ oo qu rH vj vm vi vk pV tS uj ui qt rG wX wZ wW wY rj vB qv oq ot lW tj tG tf tF td tE lE lF uh rD rF on rE pO pP cC cf cD d6 cM dw dA cX bF bS b7 cB ff d5 bG bH bt bd b8 aN bN bJ bM aX aE aY bq bI aQ aR bL cE cm bz cY bc"
local macro_rules | `(tactic| walk_at "st") => do let ls <- (("sSeq " ++ wl).splitOn " ").toArray.mapM (fun s => `(Lean.Parser.Tactic.simpLemma| $(Lean.mkIdent s.toName):term)); `(tactic| simp only [$ls,*, *])
local macro_rules | `(tactic| walk_at "s1") => do let ls <- (wl.splitOn " ").toArray.mapM (fun s => `(Lean.Parser.Tactic.simpLemma| $(Lean.mkIdent s.toName):term)); `(tactic| simp only [$ls,*, *])
theorem ite2{b:Bool}{p q:Prop}(h1:b=true->p)(h2:b=false->q):if b=true then p else q:=by
 cases b
 ·rw[if_neg (by decide)];exact h2 rfl
 ·rw[if_pos rfl];exact h1 rfl
theorem iteF{p q:Prop}(h:q):if (false:Bool)=true then p else q:=by rw[if_neg (by decide)];exact h
theorem iteT{p q:Prop}(h:p):if (true:Bool)=true then p else q:=by rw[if_pos rfl];exact h
theorem eK{a b:Int}(h:0 < b):0<=a % b/\a % b < b:=⟨Int.emod_nonneg _ (by walk_at "o"),Int.emod_lt_of_pos _ h⟩
theorem getD_mem{α:Type}[Inhabited α]{xs:List α}{i:Nat}(h:i < xs.length):xs.getD i default∈xs:=by
 rw[Lo,KW h];exact List.getElem_mem h
theorem As{G:Gp}{p:KE}{o:GO}(h:G p=none):d_ (gset G p o) p=G:=by
 funext a
 by_cases e:a=p
 ·subst e;rw[c7,h]
 ·rw[c8 e,af e]
def Ku(sp:de)(rd:bh)(ns:List Str):Prop:=∀ ds G Q,sp ds G Q->rd { nx:=fun _ G'=>Q .non G',rt:=Q } (aw ns ds) G
def Kx(sp:de)(n:Nat):Prop:=∀ ds G Q,sp ds G Q->ds.length=n
local macro_rules | `(tactic| walk_at "i") => `(tactic| first | exact Or.inl rfl | exact Or.inr rfl)
def Kt(sp:wu)(rx:XQ->bh)(ns:List Str):Prop:=∀ EQ ds G Q,sp ds G Q EQ->rx EQ { nx:=fun _ G'=>Q .non G',rt:=Q } (aw ns ds) G
def Kw(sp:wu)(n:Nat):Prop:=∀ ds G Q EQ,sp ds G Q EQ->ds.length=n
theorem pr(zF:Zz)(hw:HW):∀ ds G Q,cC zF hw ds G Q->jY zF hw { nx:=fun _ G'=>Q .non G',rt:=Q } (aw Aw0 ds) G:=by
 intro ds G Q h;unfold cC at h;split at h
 ·rename_i p n m;obtain⟨⟨h1,h2⟩,h⟩:=h;have hs:=aq;unfold jY;walk_at "s1";refine⟨⟨by walk_at "o",by walk_at "o",by walk_at "o",by walk_at "o"⟩,eM (fun d=>match d with|.int k=>.tup [.str p,.int n,.int k]|d=>d) (by rw[em];omega) (fun d hd P hP=>?_) ?_⟩
  ·obtain⟨k,hk,rfl⟩:=mem_map.mp hd;walk_at "st";exact⟨rfl,by walk_at "o",by simp,by walk_at "o",hP _ rfl⟩
  ·have e:(dm 1 (m+1 - 1).toNat).map (fun d=>match d with|D.int k=>D.tup [.str p,.int n,.int k]|d=>d)=(cS p n m.toNat).map Sl.d:=by
    unfold dm cS;rw[LL,LL,show m+1 - 1=m by walk_at "o"]
    refine Mq fun k _=>?_;simp only[Function.comp,Sl.d];rw[Int.add_comm]
   rw[e];exact h
 ·exact h.elim
theorem qX(zF:Zz)(hw:HW):∀ ds G Q,cf zF hw ds G Q->lw zF hw { nx:=fun _ G'=>Q .non G',rt:=Q } (aw ["old"] ds) G:=by
 intro ds G Q h;unfold cf at h;split at h
 ·rename_i x;obtain⟨h1,h⟩:=h;have hs:=aq;unfold lw;have ec:L3.cutD [D.str (KH ""),D.int 0,D.int 0] none (some 2)=[D.str (KH ""),D.int 0]:=by rw[yX (by decide)];rfl
  walk_at "st";refine⟨by decide,by walk_at "o",⟨by walk_at "o",by walk_at "o"⟩,?_⟩
  rw[Int.toNat_natCast];exact h
 ·exact h.elim
theorem A7{a b:String}(h:KH a≠KH b):dE (.str (KH a)) (.str (KH b))=false:=bD fun z=>h (by injection z)
def Ki(hw:List ar->Int)(G:Gp)(p:KE)(ss W:List Sl)(b:Sl)(a:D)(i:Nat)(σ:cL)(G':Gp):Prop:=∃ (x4:Option D) (Wi:List Sl) (bi:Sl) (kvs:List (List ar×D)),σ=[some (.ref p),some a,some (.lst (ss.map Sl.d)),some bi.d,x4]/\G'=gset G p (.dT hw kvs)/\EM kvs Wi/\bi∈Wi/\(∀ x∈ss.drop i,x∉Wi)/\dR Wi bi (ss.drop i)=dR W b ss/\Wi.length=W.length+i
theorem pz(zF:Zz)(hw:HW):∀ ds G Q,cD zF hw ds G Q->jZ zF hw { nx:=fun _ G'=>Q .non G',rt:=Q } (aw Az0 ds) G:=by
 intro ds G Q h;unfold cD at h;split at h
 ·rename_i p a xs;obtain⟨b,ss,W,kvs,⟨rfl,rfl,hG,hF,hb,nd,hf,hl⟩,h⟩:=h;have hs:=aq;unfold jZ;rw[az];have eb:(match b.d with|D.fl ds=>D.lst ds|d=>d)=b.d:=rfl
  simp only[bj,ag,aw,val,K3,NS,ML,M3,List.replicate,Mf,LY,Lb,Lx,MV,MW,Nat.reduceAdd,Nat.reduceSub,eb];refine⟨Ki hw G p ss W b b.d,⟨_,W,b,kvs,rfl,?_,hF,hb,hf,rfl,rfl⟩,?_,?_⟩
  ·funext z
   by_cases e:z=p
   ·subst e;rw[ai];exact hG
   ·rw[af e]
  ·rintro i d σ G' hd ⟨x4,Wi,bi,kvs,rfl,rfl,hF,hb,hf,hI,hlen⟩
   rw[K8]at hd;cases hx:ss[i]? with
   | none=>rw[hx]at hd;cases hd
   | some x=>
    rw[hx]at hd;cases hd;obtain⟨hi,ex⟩:=List.getElem?_eq_some_iff.mp hx;have dr:ss.drop i=x::ss.drop (i+1):=by rw[<- ex];exact List.drop_eq_getElem_cons hi
    rw[dr]at hf hI;have hxW:=hf x KU;have fs:=Cp hF hb hxW;have lk:=hF.2.2.2 bi hb;have lx:=hF.2.2.1 x hxW;have nx1:=hF.2.1;have nd':(x::ss.drop (i+1)).Nodup:=by rw[<- dr];exact nd.sublist (List.drop_sublist _ _)
    rw[L7]at nd';simp only[gN,MW,MV];have kx:=t7 x;have kb:=t7 bi;have vx:val x.d=x.d:=rfl;have vb:val bi.d=bi.d:=rfl;rw[az];show ∃ d,bR hw (gset G p (.dT hw kvs)) (.ref p) bi.d (some d)/\eY hw (.ref p) x.d (val d) (gset G p (.dT hw kvs)) _
    refine⟨nx Wi bi,?_,?_⟩
    ·show (match gset G p (.dT hw kvs) p with|some (.dT hw' kvs)=>hw'=hw/\∃ ks,lR bi.d=some ks/\some (nx Wi bi)=cW kvs ks|some (.dK kvs)=>_|some (.dF _ hw' _ kvs)=>_|_=>False)
     rw[ai];exact⟨rfl,bi.key,kb,lk.symm⟩
    ·rw[F1];show (match gset G p (.dT hw kvs) p with|some (.dT hw' kvs)=>hw'=hw/\∃ ks,lR x.d=some ks/\kvs.length < KM/\_|some (.dK kvs)=>_|some (.lst ds)=>_|_=>False)
     rw[ai];refine⟨rfl,x.key,kx,by walk_at "o",?_⟩
     rw[d9];dsimp only;rw[az];show (match gset G p (.dT hw (aS kvs x.key (nx Wi bi))) p with|some (.dT hw' kvs)=>hw'=hw/\∃ ks,lR bi.d=some ks/\kvs.length < KM/\_|some (.dK kvs)=>_|some (.lst ds)=>_|_=>False)
     rw[ai];refine⟨rfl,bi.key,kb,by have:=dC kvs x.key (nx Wi bi);omega,?_⟩
     rw[d9];refine⟨_,iD Wi bi x,x,_,rfl,rfl,fs,(gR hb x).mpr (.inr rfl),fun y hy hW=>?_,?_,by rw[nE hb];omega⟩
     ·rcases (gR hb y).mp hW with z|z
      ·exact hf y (KZ _ hy) z
      ·exact nd'.1 (z ▸ hy)
     ·exact hI
  ·rintro σ G' ⟨x4,Wi,bi,kvs,rfl,rfl,hF,hb,hf,hI,hlen⟩
   rw[KP,List.drop_length]at hI;have:Wi=dR W b ss:=hI;rw[this]at hF;exact h _ hF
 ·exact h.elim
def J5(G:Gp)(p q:KE)(R:List Sl)(m:Nat)(σ:cL)(G':Gp):Prop:=∃ i,i<=R.length/\m=R.length - i/\σ=[some (.ref p),some (.ref q),some (AO (R.drop i))]/\G'=gset G q (.lst ((R.take i).map Sl.d))
theorem HG{W:List Sl}(hW:W.Nodup):∀ {pre post:List Sl} {c:Sl},W=pre ++ c::post->nx W c=AO post:=by
 induction W with
 | nil=>intro pre post c h;simp at h
 | cons a t ih=>
  intro pre post c h;rw[L7]at hW;cases pre with
  | nil=>
   simp only[M3,List.cons.injEq]at h;obtain⟨rfl,rfl⟩:=h;simp[nx]
  | cons a' pre=>
   simp only[ML,List.cons.injEq]at h;obtain⟨rfl,h⟩:=h;have hc:c∈t:=by rw[h];simp
   simp only[nx];rw[if_neg (fun (z:a=c)=>hW.1 (by rw[z];exact hc))]
   exact ih hW.2 h
theorem u8(zF:Zz)(hw:HW):∀ ds G Q,d6 zF hw ds G Q->pH zF hw { nx:=fun _ G'=>Q .non G',rt:=Q } (aw ["following","row","slot"] ds) G:=by
 intro ds G Q h;unfold d6 at h;split at h
 ·rename_i p;obtain⟨R,kvs,⟨hG,hF,hl⟩,h⟩:=h;have hs:=aq;unfold pH;rw[az];walk_at "s1";refine⟨by walk_at "o",fun q hq=>?_⟩
  have hpq:p≠q:=fun z=>by subst z;rw[hG]at hq;cases hq
  have gp:∀ o,gset G q o p=some (.dT hw kvs):=fun o=>by rw[af hpq];exact hG
  have look:∀ c∈aO::R,∀ o,bR hw (gset G q o) (.ref p) c.d (some (nx (aO::R) c)):=fun c hc o=>by
   show (match gset G q o p with|some (.dT hw' kvs)=>hw'=hw/\∃ ks,lR c.d=some ks/\some (nx (aO::R) c)=cW kvs ks|some (.dK kvs)=>_|some (.dF _ hw' _ kvs)=>_|_=>False)
   rw[gp];exact⟨rfl,c.key,t7 c,(hF.2.2.2 c hc).symm⟩
  rw[az];show ∃ d,bR hw (gset G q (.lst [])) (.ref p) aO.d (some d)/\_
  refine⟨_,look aO (by simp) _,?_⟩
  have e0:nx (aO::R) aO=AO R:=by simp[nx]
  dsimp only;rw[az,e0,tP];simp only[MW,MV];refine⟨J5 G p q R,⟨R.length,0,LG _,rfl,rfl,rfl⟩,?_⟩;have wc:∀ (a b:Option D) (d:D) (K:Bool->Gp->Prop) (G:Gp),cK (cV vy (ag 2) (eC .non)) [a,b,some d] G K↔K (!qg d) G:=fun a b d K G=>Iff.rfl
  rintro m σ G' ⟨i,hi,rfl,rfl,rfl⟩
  by_cases hlt:i < R.length
  ·have dr:R.drop i=R[i]::R.drop (i+1):=List.drop_eq_getElem_cons hlt;rw[dr];refine (wc _ _ (R[i]).d _ _).mpr ?_;dsimp only;rw[show (!qg (R[i]).d)=true from rfl,if_pos rfl]
   have e1:nx (aO::R) R[i]=AO (R.drop (i+1)):=HG hF.1 (pre:=aO::R.take i) (by rw[ML];congr 1;rw[<- dr];exact (List.take_append_drop i R).symm)
   refine⟨fun σ G'=>J5 G p q R (R.length - (i+1)) σ G',fun σ2 G2 hN=>⟨_,by walk_at "o",hN⟩,?_⟩
   rw[az];have ua:∀ (E:Ends3) (Z:D),iT (fT (ag 1) (ae (ag 2) av)) E [some (.ref p),some (.ref q),some (R[i]).d] (gset G q (.lst ((R.take i).map Sl.d)))↔((R.take i).map Sl.d).length < KM/\E.nx [some (.ref p),some (.ref q),some (R[i]).d] (gset G q (.lst ((R.take i).map Sl.d ++ [(R[i]).d]))):=fun E Z=>by
    unfold Sl.d;walk_at "s1"
   rw[show AO (R[i]::R.drop (i+1))=(R[i]).d from rfl,ua _ .non]
   refine⟨by rw[KP,M8];omega,?_⟩
   dsimp only;show ∃ d,bR hw (gset G q _) (.ref p) (R[i]).d (some d)/\_
   refine⟨_,look R[i] (by simp) _,i+1,by walk_at "o",rfl,?_,?_⟩
   ·rw[e1,tP];rfl
   ·rw[MN,KW hlt,LQ];rfl
  ·have ei:i=R.length:=by walk_at "o"
   subst ei;rw[List.drop_length,Nn];refine (wc _ _ .non _ _).mpr ?_;dsimp only;rw[show (!qg D.non)=false from rfl,if_neg (by decide)]
   show jq 1 _ _ _
   simp only[jq,LY,Mf,ai];rw[As hq];exact h
 ·exact h.elim
local macro_rules | `(tactic| walk_at "conds") => `(tactic| (repeat ((with_reducible refine And.intro ?cc ?_); (case cc => first | decide | omega | rfl))))
theorem wN(zF:Zz)(hw:HW):∀ ds G Q,dA zF hw ds G Q->r8 zF hw { nx:=fun _ G'=>Q .non G',rt:=Q } (aw ["keys"] ds) G:=by
 intro ds G Q h;unfold dA at h;split at h
 ·rename_i xs;have hs:=aq;unfold r8;rcases h with ⟨ss,⟨rfl,hl⟩,h⟩|⟨ns,⟨rfl,hl⟩,h⟩
  ·walk_at "s1";refine eM (fun d=>.tup [d,.bl true]) (by rw[KP];omega) (fun d hd P hP=>?_) ?_
   ·obtain⟨s,hs',rfl⟩:=mem_map.mp hd;unfold Sl.d;walk_at "st";exact⟨rfl,by walk_at "o",hP _ rfl⟩
   ·dsimp only;refine⟨bA (fun _=>.bl true) (ss.map fun s=>(s,())),⟨?_,by unfold bA;rw[KP,KP];exact hl⟩,fun p hp=>?_⟩
    ·unfold bA;rw[LL,LL,LL];rfl
    ·rw[qB];exact h p hp
  ·walk_at "s1";refine eM (fun d=>.tup [d,.bl true]) (by rw[KP];omega) (fun d hd P hP=>?_) ?_
   ·obtain⟨s,hs',rfl⟩:=mem_map.mp hd;unfold Nm.d;walk_at "st";exact⟨rfl,by walk_at "o",hP _ rfl⟩
   ·dsimp only;refine⟨ns.map fun n=>(n.key,.bl true),⟨?_,by rw[KP];exact hl⟩,fun p hp=>h p hp⟩
    rw[LL,LL];rfl
 ·exact h.elim
theorem jt(zF:Zz)(hw:HW){G:Gp}{p:KE}{α:Type}{f:α->D}{l:List (Sl×α)}(x:Sl)(hG:G p=some (.dT hw (bA f l))):bR hw G (.ref p) x.d ((dW l x).map f):=by
 unfold bR;dsimp only;rw[hG];exact⟨rfl,x.key,rfl,(uC f x l).symm⟩
theorem D_(row:List Sl)(x:Sl):(dW (bY [] (row.map fun s=>(s,()))) x).isSome=decide (x∈row):=by
 suffices H:∀ l:List (Sl×Unit),(dW (bY l (row.map fun s=>(s,()))) x).isSome=((dW l x).isSome || decide (x∈row)) by
  have:=H []
  simpa[dW]using this
 induction row with
 | nil=>intro l;simp[bY]
 | cons m r ih=>
  intro l;show (dW (bY (jH l m ()) (r.map fun s=>(s,()))) x).isSome=_
  rw[ih,EC]
  by_cases e:x=m
  ·subst e;simp
  ·rw[if_neg e];simp[e]
theorem Dt{hw:HW}{α:Type}{f:α->D}{l:List (Sl×α)}{G:Gp}{p:KE}{x:Sl}{w:α}{K:Gp->Prop}(hG:G p=some (.dT hw (bA f l)))(hl:l.length < KM)(h:K (gset G p (.dT hw (bA f (jH l x w))))):eY hw (.ref p) x.d (f w) G K:=by
 unfold eY;dsimp only;rw[hG];exact⟨rfl,x.key,rfl,by unfold bA;rw[KP];exact hl,by rw[vg];exact h⟩
theorem uQ{α β:Type}(f:α->D)(g:β->D):∀ (a:List α) (b:List β),nM (a.map f) (b.map g)=(a.zip b).map fun q=>.tup [f q.1,g q.2]
 | [],_=>rfl
 | _::_,[]=>rfl
 | x::a,y::b=>by simp only[K3,nM,Nk,uQ f g a b]
theorem zE(x:Str):L3.signs x=(C5 x).map D.str:=by unfold L3.signs C5;rw[LL];rfl
theorem Dr(x:Str):(C5 x).length=x.length:=by simp[C5,Ou]
theorem aT{i:Nat}{te:aL}{u:bh}{E:Ends3}{σ:cL}{G:Gp}(h:te σ G fun d G'=>u E (σ.set i (some (val d))) G'):sSeq (bj i te) u E σ G:=h
theorem qF{k:Nat}{g:m6}{tt:iJ}{te:aL}{σ:cL}{G1:Gp}{Q:fK}(q:Q (.fl []) G1):jo k g tt te σ [] G1 Q:=⟨LG _,fun _ acc G'=>acc=[]/\G'=G1,⟨rfl,rfl⟩,(fun i d acc G' hd=>by simp at hd),fun acc G' hp=>by rw[hp.1,hp.2];exact q⟩
theorem lU{g:m6}{tb:bh}{E:Ends3}{σ:cL}{G1:Gp}(q:E.nx σ G1):zn g tb E σ [] G1:=⟨fun _ σ' G'=>σ'=σ/\G'=G1,⟨rfl,rfl⟩,(fun i d σ' G' hd=>by simp at hd),fun σ' G' hp=>by rw[hp.1,hp.2];exact q⟩
theorem sP(n:Nat):iV n []=gO n:=by
 have e:dR [aO] aO (gO n)=aO::iV n []:=Dv n [];rw[gY]at e;exact (List.cons.inj e).2.symm
theorem lj(zF:Zz)(hw:HW):∀ ds G Q,bH zF hw ds G Q->gI zF hw { nx:=fun _ G'=>Q .non G',rt:=Q } (aw Aq0 ds) G:=by
 intro ds G Q h;unfold bH at h;split at h
 ·obtain⟨P,d,s,g,⟨g1,g2,g3,g4⟩,h⟩:=h;unfold gI;walk_at "st";exact⟨LG _,fun _ acc G'=>acc=[]/\G'=G,⟨rfl,rfl⟩,(fun i acc G' hp=>by rw[hp.2];exact g2),(fun i d acc G' hd=>by simp at hd),fun acc G' hp=>by rw[hp.1,hp.2];exact h⟩
 ·exact h.elim
theorem sR(zF:Zz)(hw:HW):∀ ds G Q,cM zF hw ds G Q->nw zF hw { nx:=fun _ G'=>Q .non G',rt:=Q } (aw ["rows","by_name","row"] ds) G:=by
 intro ds G Q h;unfold cM at h;split at h
 ·rename_i q;obtain⟨hq,h⟩:=h;unfold nw;refine aT fun p hp=>?_;have hqp:q≠p:=fun z=>by rw[z,hp]at hq;cases hq
  have hq':gset G p (.dT hw []) q=some (.lst []):=(af hqp).trans hq;dsimp only;rw[az];refine⟨[],hq',fun _ σ' G'=>σ'=[some (.ref q),some (.ref p),none]/\G'=gset G p (.dT hw []),⟨rfl,rfl⟩,(fun i σ' G' hp=>by rw[hp.2];exact hq'),(fun i d σ' G' hd=>by simp at hd),?_⟩
  rintro σ' G' ⟨rfl,rfl⟩
  show match gset G p (.dT hw []) p with|some (.dT _ kvs)=>_|_=>_
  rw[ai];refine⟨[],fun _=>0,⟨by decide,rfl,(fun i d kd e=>by simp at e),(fun d hd=>nomatch hd),(fun a ha=>nomatch ha),(fun i j a b e=>by simp at e)⟩,fun r hr _=>?_⟩
  have e:r=[]:=by simpa using hr
  subst e;exact h _ (fW.refl.gset hp)
 ·exact h.elim
theorem sQ(zF:Zz)(hw:HW):∀ ds G Q,dw zF hw ds G Q->nv zF hw { nx:=fun _ G'=>Q .non G',rt:=Q } (aw An0 ds) G:=by
 intro ds G Q h;unfold dw at h;split at h
 ·rename_i x q;obtain⟨⟨hq0,hx⟩,h⟩:=h;have hs:=aq;unfold nv;rw[az];show ∀ f,G f=none->(match gset G f (.dT hw []) f with|some (.dT hw' [])=>hw'=hw/\∃ ks,lR aO.d=some ks/\_|_=>False)
  intro f hf;have hqf:q≠f:=fun z=>by subst z;rw[hf]at hq0;cases hq0
  rw[ai];refine⟨rfl,aO.key,rfl,?_⟩;rw[d9];dsimp only;rw[az];simp only[MW,MV,aw,K3,NS,ML,M3,List.replicate,Lb,Lx,Nat.reduceAdd,Nat.reduceSub];show x.length<=1000/\(∃ (b:Sl) (ss W:List Sl) (kvs:List (List ar×D)),(aO.d=b.d/\(gO x.length).map Sl.d=ss.map Sl.d/\gset G f (.dT hw [(aO.key,.non)]) f=some (.dT hw kvs)/\EM kvs W/\b∈W/\ss.Nodup/\(∀ x∈ss,x∉W)/\W.length+ss.length<=900000)/\∀ kvs',EM kvs' (dR W b ss)->_)
  have ol:(gO x.length).length=x.length:=dk _ _ _;refine⟨hx,aO,gO x.length,[aO],_,⟨rfl,rfl,ai,At (fun _=>True),by simp,i6 _ _ _,fun y hy hW=>?_,by rw[ol];simp;omega⟩,fun kvs hF=>?_⟩
  ·obtain⟨_,_,hk⟩:=lK hy;rw[mem_singleton.mp hW]at hk;exact absurd hk (by decide)
  ·rw[d9];dsimp only;rw[az];refine⟨(af hqf).trans hq0,fun G1 hE=>?_⟩;refine qF (lU ?_);have hG1:G1 f=some (.dT hw kvs):=hE f _ ai;rw[gY]at hF;rw[sP]at h;exact⟨gO x.length,kvs,⟨hG1,hF,by walk_at "o"⟩,h G1 ((fW.refl.gset hf).trans hE)⟩
 ·exact h.elim
theorem qY(zF:Zz)(hw:HW):∀ ds G Q,cX zF hw ds G Q->lA zF hw { nx:=fun _ G'=>Q .non G',rt:=Q } (aw Ag0 ds) G:=by
 intro ds G Q h;unfold cX at h;split at h
 ·rename_i q p;obtain⟨hq,h⟩:=h;unfold lA;refine aT (.inl ⟨[],⟨rfl,LG _⟩,fun a ha=>?_⟩);refine aT ⟨(fW.refl.gset ha) _ _ hq,fun G1 e1=>qF ?_⟩;exact qF (h G1 ((fW.refl.gset ha).trans e1))
 ·exact h.elim
theorem lh(zF:Zz)(hw:HW):∀ ds G Q,bF zF hw ds G Q->gG zF hw { nx:=fun _ G'=>Q .non G',rt:=Q } (aw Au0 ds) G:=by
 intro ds G Q h;unfold bF at h;split at h
 ·rename_i x;obtain⟨hx,h⟩:=h;have hs:=aq;unfold gG;rw[az];walk_at "s1";have ol:(gO x.length).length=x.length:=dk _ _ _;have l0:((gO x.length).zip (C5 x)).length<=1000:=by rw[List.length_zip];omega
  refine⟨_,_,bA D.str ((gO x.length).zip (C5 x)),⟨rfl,rfl,?_,by unfold bA;rw[KP];omega⟩,fun p hp=>?_⟩
  ·rw[zE,uQ];unfold bA;rw[LL];rfl
  rw[qB];have e0:bY [] ((gO x.length).zip (C5 x))=aH x []:=by unfold aH;simp
  rw[e0,az];exact lU (h p hp)
 ·exact h.elim
theorem ms(zF:Zz)(hw:HW):∀ ds G Q,bS zF hw ds G Q->nU zF hw { nx:=fun _ G'=>Q .non G',rt:=Q } (aw AJ0 ds) G:=by
 intro ds G Q h;unfold bS at h;split at h
 ·exact fun p hp=>lU (h p hp)
 ·exact h.elim
theorem nN(zF:Zz)(hw:HW):∀ ds G Q,b7 zF hw ds G Q->pE zF hw { nx:=fun _ G'=>Q .non G',rt:=Q } (aw AB0 ds) G:=by
 intro ds G Q h;unfold b7 at h;split at h
 ·exact fun p hp=>lU (h p hp)
 ·exact h.elim
theorem pj(zF:Zz)(hw:HW):∀ ds G Q,cB zF hw ds G Q->rf zF hw { nx:=fun _ G'=>Q .non G',rt:=Q } (aw ["strokes","worn","stroke","name"] ds) G:=by
 intro ds G Q h;unfold cB at h;split at h
 ·exact fun p hp=>lU (h p hp)
 ·exact h.elim
def Fw:D->Sl
 | .tup [.str q,.int n,.int k]=>⟨q,n,k⟩
 | _=>default
theorem A8(x:Sl):Fw x.d=x:=rfl
theorem zG(row:List Sl)(sit:List (Sl×Sl)):((row.map Sl.d).filter fun d=>(dW sit (Fw d)).isSome).map (fun d=>.tup [d,((dW sit (Fw d)).getD default).d])=(row.filterMap fun s=>(dW sit s).map fun n=>(s,n)).map fun p=>D.tup [p.1.d,p.2.d]:=by
 induction row with
 | nil=>rfl
 | cons s r ih=>
  rw[K3,List.filter_cons,A8];cases e:dW sit s with
  | none=>
   rw[List.filterMap_cons_none (by rw[e];rfl)]
   simpa using ih
  | some n=>
   rw[List.filterMap_cons_some (b:=(s,n)) (by rw[e];rfl)]
   simp only[Option.isSome_some,if_true,K3,ih,A8,e,Option.getD_some]
theorem wM(zF:Zz)(hw:HW):∀ ds G Q,ff zF hw ds G Q->r6 zF hw { nx:=fun _ G'=>Q .non G',rt:=Q } (aw Ab0 ds) G:=by
 intro ds G Q h;unfold ff at h;split at h
 ·rename_i x q0;obtain⟨⟨hq0,hx⟩,h⟩:=h;have hs:=aq;unfold r6;rw[az];walk_at "s1";intro G1 hE1;have Sb:(iV x.length []).length<=900000:=by rw[sP,show (gO x.length).length=x.length from dk _ _ _];omega
  rw[az];have h':=h;clear h;unfold e8 at h';generalize iV x.length []=row at Sb h' ⊢;walk_at "s1";refine .inl ⟨row,⟨rfl,Sb⟩,fun pm hpm=>?_⟩;refine⟨by first|exact (fW.refl.gset hpm) q0 _ (hE1 q0 _ hq0)|rfl,fun G2 hE2=>?_⟩
  have hE3:fW G G2:=hE1.trans ((fW.refl.gset hpm).trans hE2);have ew:oG [] [] row=[]:=rfl;rw[ew]at h';clear hE2 hpm;rw[az];walk_at "s1";intro pb hpb;have hE4:fW G (gset G2 pb (.dT hw (bA D.str (aH x [])))):=hE3.trans (fW.refl.gset hpb);have f1:gset G2 pb (.dT hw (bA D.str (aH x []))) pb=some (.dT hw (bA D.str (aH x []))):=ai;generalize gset G2 pb (.dT hw (bA D.str (aH x [])))=G4 at *
  clear hE3 hpb;rw[az];walk_at "s1";intro pk hpk;have ne1:pb≠pk:=fun z=>by subst z;rw[f1]at hpk;cases hpk
  have hE5:fW G4 (gset G4 pk (.dT hw [])):=fW.refl.gset hpk;have f2:gset G4 pk (.dT hw []) pk=some (.dT hw []):=ai;have f1':=hE5 _ _ f1;have hE5':=hE4.trans hE5;generalize gset G4 pk (.dT hw [])=G5 at *
  clear hE4 hpk hE5 f1;rw[az];walk_at "s1";intro pt hpt;have ne2:pb≠pt:=fun z=>by subst z;rw[f1']at hpt;cases hpt
  have ne3:pk≠pt:=fun z=>by subst z;rw[f2]at hpt;cases hpt
  have hE6:fW G5 (gset G5 pt (.dT hw [])):=fW.refl.gset hpt;have f3:gset G5 pt (.dT hw []) pt=some (.dT hw []):=ai;have f1:=hE6 _ _ f1';have f2':=hE6 _ _ f2;have hE6':=hE5'.trans hE6;generalize gset G5 pt (.dT hw [])=G6 at *
  clear hE5' hpt hE6 f1' f2;rw[az];walk_at "s1";intro pw hpw;have ne4:pb≠pw:=fun z=>by subst z;rw[f1]at hpw;cases hpw
  have hE7:fW G6 (gset G6 pw (.dT hw [])):=fW.refl.gset hpw;have f4:gset G6 pw (.dT hw []) pw=some (.dT hw []):=ai;have f1':=hE7 _ _ f1;have f2:=hE7 _ _ f2';have f3':=hE7 _ _ f3;have Sz:=hE6'.trans hE7;generalize gset G6 pw (.dT hw [])=G7 at *
  clear hE6' hpw hE7 f1 f2' f3;rw[az];walk_at "s1";intro pq hpq;have n1:pb≠pq:=fun z=>by subst z;rw[f1']at hpq;cases hpq
  have n2:pk≠pq:=fun z=>by subst z;rw[f2]at hpq;cases hpq
  have n3:pt≠pq:=fun z=>by subst z;rw[f3']at hpq;cases hpq
  have n4:pw≠pq:=fun z=>by subst z;rw[f4]at hpq;cases hpq
  rw[az];have gb:gset G7 pq (.dT hw []) pb=some (.dT hw (bA D.str (aH x []))):=by rw[af n1];exact f1'
  refine⟨hw,_,gb,?_⟩;clear gb;have bl:(aH x []).length<=65000:=by
   have h1:=r9 ((gO x.length).zip (C5 x) ++ []) [];rw[Lc,Lx,List.length_zip,Dr]at h1;unfold aH;simp only[List.flatMap_nil];omega
  have keys:(bA D.str (aH x [])).map qe=(aH x []).map fun p=>p.1.d:=by
   unfold bA;rw[LL];rfl
  rw[keys];refine⟨fun i σ G'=>∃ x10,σ=[some (.str x),some (.ref q0),some (.lst []),some (.lst (row.map Sl.d)),some (.lst []),some (.ref pb),some (.ref pk),some (.ref pt),some (.ref pw),some (.ref pq),x10,none]/\G'=gset (d_ G7 pb) pq (.dT hw (bA Sl.d (bY [] ((((aH x []).take i).filter fun p=>(dW (dg []) p.1).isNone).map fun p=>((dW (fX []) p.1).getD p.1,p.1))))),⟨_,rfl,?_⟩,?_,?_⟩
  ·funext b
   by_cases e1:b=pq
   ·rw[e1,c8 n1.symm,ai,ai];rfl
   ·rw[af e1]
    by_cases e2:b=pb
    ·rw[e2,c7,c7]
    ·rw[c8 e2,c8 e2,af e1]
  ·rintro i d σ G' hd ⟨x10,rfl,rfl⟩
   rw[K8]at hd;cases hq:(aH x [])[i]? with
   | none=>rw[hq]at hd;cases hd
   | some q=>
    rw[hq]at hd;cases hd;have hi:=(List.getElem?_eq_some_iff.mp hq).1;simp only[gN,MW,MV];generalize hL:(((aH x []).take i).filter fun p=>(dW (dg []) p.1).isNone).map (fun p=>((dW (fX []) p.1).getD p.1,p.1))=L;have ll:L.length<=65000:=by
     rw[<- hL,KP];have:=List.length_filter_le (fun p:Sl×Str=>(dW (dg []) p.1).isNone) ((aH x []).take i);rw[M8]at this;omega
    have pl:=r9 L [];rw[Lx]at pl;have tk:(((aH x []).take (i+1)).filter fun p=>(dW (dg []) p.1).isNone).map (fun p=>((dW (fX []) p.1).getD p.1,p.1))=L ++ (if (dW (dg []) q.1).isNone=true then [((dW (fX []) q.1).getD q.1,q.1)]else []):=by
     rw[MN,hq,List.filter_append,LQ,hL];refine congrArg _ ?_
     by_cases e:(dW (dg []) q.1).isNone=true
     ·rw[if_pos e];try simp[e]
     ·rw[if_neg e];try simp[e]
    have gk:gset (d_ G7 pb) pq (.dT hw (bA Sl.d (bY [] L))) pk=some (.dT hw []):=by rw[af n2,c8 (Ne.symm ne1)];exact f2
    have gt:gset (d_ G7 pb) pq (.dT hw (bA Sl.d (bY [] L))) pt=some (.dT hw []):=by rw[af n3,c8 (Ne.symm ne2)];exact f3'
    refine eQ (dW (dg []) q.1).isNone (fun K hK=>?_) ?_
    ·show ∃ r,bR hw _ (.ref pk) q.1.d r/\K (!r.isSome) _;refine⟨_,jt (f:=fun _:Unit=>D.bl true) (l:=dg []) zF hw q.1 gk,?_⟩;rw[Option.isSome_map];cases e:dW (dg []) q.1<;>(rw[e]at hK;exact hK)
    ·by_cases e:(dW (dg []) q.1).isNone=true
     ·rw[if_pos e];show iz _ _/\∃ r,bR hw _ (.ref pt) q.1.d r/\eY hw (.ref pq) (val (r.getD q.1.d)) q.1.d _ _
      refine⟨?_,_,jt (f:=Sl.d) (l:=fX []) zF hw q.1 gt,?_⟩
      ·unfold iz;simp only[val,gt]
      ·have ek:val (((dW (fX []) q.1).map Sl.d).getD q.1.d)=((dW (fX []) q.1).getD q.1).d:=by cases dW (fX []) q.1<;>rfl
       rw[ek];refine Dt (f:=Sl.d) (w:=q.1) ai (by walk_at "o") ⟨_,rfl,?_⟩
       rw[d9,tk,if_pos e,wS]
     ·rw[if_neg e];refine⟨_,rfl,?_⟩;rw[tk,if_neg e,M5]
  ·rintro σ G' ⟨x10,rfl,rfl⟩
   rw[KP,Nn];dsimp only;have es:bY [] (((aH x []).filter fun p=>(dW (dg []) p.1).isNone).map fun p=>((dW (fX []) p.1).getD p.1,p.1))=bV x []:=rfl;rw[es];have g9:gset (gset (d_ G7 pb) pq (.dT hw (bA Sl.d (bV x [])))) pb (.dT hw (bA D.str (aH x []))) pq=some (.dT hw (bA Sl.d (bV x []))):=by rw[af n1.symm,ai]
   have g5:gset (gset (d_ G7 pb) pq (.dT hw (bA Sl.d (bV x [])))) pb (.dT hw (bA D.str (aH x []))) pb=some (.dT hw (bA D.str (aH x []))):=ai;have g8:gset (gset (d_ G7 pb) pq (.dT hw (bA Sl.d (bV x [])))) pb (.dT hw (bA D.str (aH x []))) pw=some (.dT hw []):=by rw[af ne4.symm,af n4,c8 ne4.symm];exact f4
   have gE:fW G (gset (gset (d_ G7 pb) pq (.dT hw (bA Sl.d (bV x [])))) pb (.dT hw (bA D.str (aH x [])))):=fun a o ha=>by
    have h7:=Sz a o ha
    by_cases e1:a=pb
    ·rw[e1]at h7 ⊢;rw[g5,<- h7,f1']
    ·rw[af e1];have e2:a≠pq:=fun z=>by rw[z,hpq]at h7;cases h7
     rw[af e2,c8 e1];exact h7
   generalize gset (gset (d_ G7 pb) pq (.dT hw (bA Sl.d (bV x [])))) pb (.dT hw (bA D.str (aH x [])))=G9 at *
   clear f1' f2 f3' f4 Sz hpq n1 n2 n3 n4 ne1 ne2 ne3 ne4 bl keys es;rw[az];unfold bj dS fH;simp only[ag,Mf,LY,dQ];refine nI (fun d=>(dW (bV x []) (Fw d)).isSome) (fun d=>.tup [d,((dW (bV x []) (Fw d)).getD default).d]) (by rw[KP];omega) (fun d hd P R hP hR=>?_) ?_
   ·obtain⟨s,hs',rfl⟩:=mem_map.mp hd;rw[A8]at hP hR;refine⟨⟨by simp,rfl⟩,?_⟩
    show ∃ r,bR hw G9 (.ref pq) s.d r/\(if r.isSome=true then _ else R G9)
    refine⟨_,jt zF hw s g9,?_⟩;rw[Option.isSome_map];cases e:dW (bV x []) s with
    | none=>
     rw[e]at hR;simp only[Option.isSome_none,Bool.false_eq_true,if_false];exact hR rfl
    | some n=>
     rw[e]at hP;simp only[Option.isSome_some,if_true];have lk:=jt zF hw s g9;rw[e]at lk;show ∃ d,bR hw G9 (.ref pq) s.d (some d)/\_
     exact⟨n.d,lk,by show 2<=KM;omega,hP rfl _ rfl⟩
   ·rw[zG];have eI:(row.filterMap fun s=>(dW (bV x []) s).map fun n=>(s,n))=jp x [] row:=rfl;rw[eI];dsimp only[val];have lI:(jp x [] row).length<=900000:=le_trans (List.length_filterMap_le _ _) Sb;have mem:∀ p∈jp x [] row,∃ z,dW (aH x []) p.2=some z:=fun p hp=>by
     unfold jp at hp;obtain⟨s,_,e⟩:=List.mem_filterMap.mp hp;cases e2:dW (bV x []) s with
     | none=>rw[e2]at e;cases e
     | some n=>
      rw[e2]at e;cases e;have m1:=ED e2;unfold bV at m1;rcases zP m1 with m2|m2
      ·simp at m2
      ·obtain⟨q,hq,e3⟩:=mem_map.mp m2;have hq':=(mem_filter.mp hq).1;obtain⟨z,hz⟩:=CQ hq';injection e3 with e4 e5
       exact⟨z,by show dW (aH x []) n=some z;rw[<- e5];exact hz⟩
    unfold bb;simp only[Mf,LY,MV,MW,dQ];refine eM (fun d=>match d with|.tup [a,b]=>.tup [a,b,.str ((dW (aH x []) (Fw b)).getD (KH "")),.str ((dW (rP []) (Fw b)).getD (KH ""))]|d=>d) (by rw[KP];omega) (fun d hd P hP=>?_) ?_
    ·obtain⟨p,hp,rfl⟩:=mem_map.mp hd;obtain⟨z,hz⟩:=mem p hp;refine⟨rfl,⟨by simp,rfl⟩,?_⟩
     have lk:=jt zF hw p.2 g5;rw[hz]at lk;show ∃ d,bR hw G9 (.ref pb) p.2.d (some d)/\iz G9 _/\∃ r,bR hw G9 (.ref pw) p.2.d r/\_
     refine⟨.str z,lk,?_,_,jt (f:=D.str) (l:=rP []) zF hw p.2 g8,by show 4<=KM;omega,hP _ ?_⟩
     ·unfold iz;simp only[val,g8]
     ·show D.tup [p.1.d,p.2.d,.str z,val (((dW (rP []) p.2).map D.str).getD (.str (KH "")))]=D.tup [p.1.d,p.2.d,.str ((dW (aH x []) p.2).getD (KH "")),.str ((dW (rP []) p.2).getD (KH ""))];rw[hz];cases dW (rP []) p.2<;>rfl
    ·have:=h' G9 gE;rw[LL]at this;rw[LL];exact this
 ·exact h.elim
theorem sK{hw0:List ar->Int}{to ti te:aL}{E:Ends3}{σ:cL}{G:Gp}{o i v:D}(hv:∀ Q:fK,Q v G->te σ G Q)(ho:∀ Q:fK,Q o G->to σ G Q)(hi:∀ Q:fK,Q i G->ti σ G Q)(h:eY hw0 (val o) (val i) (val v) G fun G4=>E.nx σ G4):gB hw0 to ti te E σ G:=hv _ (ho _ (hi _ h))
theorem li(zF:Zz)(hw:HW):∀ ds G Q,bG zF hw ds G Q->gH zF hw { nx:=fun _ G'=>Q .non G',rt:=Q } (aw AC0 ds) G:=by
 intro ds G Q h;unfold bG at h;split at h
 ·obtain⟨⟨h1,h2,h3,h4⟩,h⟩:=h;unfold gH;walk_at "st";rw[decide_eq_true True.intro];exact True.intro
 ·exact h.elim
theorem kA(zF:Zz)(hw:HW):∀ ds G Q,bd zF hw ds G Q->fO zF hw { nx:=fun _ G'=>Q .non G',rt:=Q } (aw ["self","old"] ds) G:=by
 intro ds G Q h;unfold bd at h;split at h
 ·rename_i p x;obtain⟨g1,h⟩:=h;have hs:=aq;unfold fO;rw[az];walk_at "s1";rw[az];walk_at "s1";refine⟨by walk_at "o",fun d hd=>?_⟩
  have npd:p≠d:=fun z=>by rw[<- z,ai]at hd;cases hd
  have hd0:G d=none:=by rwa[af npd.symm]at hd
  rw[af npd,ai];dsimp only;refine⟨⟨rfl,rfl⟩,?_⟩;rw[az];generalize hG1:gset (gset (gset G p _) d _) p _=G1;have a1:G1 p=some (.ins zF.C_Paper ["old","drawn"] [.str x,.ref d]):=by rw[<- hG1];exact ai
  have a2:G1 d=some (.lst []):=by rw[<- hG1,af npd.symm];exact ai
  have a0:∀ y o,y≠p->y≠d->G y=some o->G1 y=some o:=fun y o h1 h2 hG=>by rw[<- hG1,af h1,af h2,af h1];exact hG
  clear hG1;walk_at "s1";intro s hs1;have nps:p≠s:=fun z=>by rw[<- z,a1]at hs1;cases hs1
  have nds:d≠s:=fun z=>by rw[<- z,a2]at hs1;cases hs1
  rw[af nps,a1];dsimp only;refine⟨⟨rfl,rfl⟩,?_⟩;rw[az];generalize hG2:gset (gset G1 s _) p _=G2;have b1:G2 p=some (.ins zF.C_Paper AK0 [.str x,.ref d,.ref s]):=by rw[<- hG2];exact ai
  have b2:G2 d=some (.lst []):=by rw[<- hG2,af npd.symm,af nds];exact a2
  have b3:G2 s=some (.dT hw []):=by rw[<- hG2,af nps.symm];exact ai
  have b0:∀ y o,y≠p->y≠d->y≠s->G y=some o->G2 y=some o:=fun y o h1 h2 h3 hG=>by rw[<- hG2,af h1,af h3];exact a0 y o h1 h2 hG
  clear hG2 a1 a2 a0 hs1;walk_at "s1";intro g hg;have npg:p≠g:=fun z=>by rw[<- z,b1]at hg;cases hg
  have ndg:d≠g:=fun z=>by rw[<- z,b2]at hg;cases hg
  have nsg:s≠g:=fun z=>by rw[<- z,b3]at hg;cases hg
  rw[af npg,b1];dsimp only;refine⟨⟨rfl,rfl⟩,?_⟩;walk_at "st";refine h d s g _ (fun y o hy hG=>?_) ⟨ai,?_,?_,?_⟩
  ·simp only[Le,Lg,or_false,not_or]at hy;rw[af hy.1,af hy.2.2.2];exact b0 y o hy.1 hy.2.1 hy.2.2.1 hG
  ·rw[af npd.symm,af ndg];exact b2
  ·rw[af nps.symm,af nsg];exact b3
  ·rw[af npg.symm];exact ai
 ·exact h.elim
def ES:D->D
 | .tup (_::t)=>.tup t
 | d=>d
theorem zA(seats:List Seat):(seats.map Seat.d).map ES=seats.map Seat.d3:=by rw[LL];rfl
theorem u7(zF:Zz)(hw:HW):∀ ds G Q,d5 zF hw ds G Q->pF zF hw { nx:=fun _ G'=>Q .non G',rt:=Q } (aw Am0 ds) G:=by
 intro ds G Q h;unfold d5 at h;split at h
 ·rename_i x q;obtain⟨⟨hq,hx⟩,h⟩:=h;have hs:=aq;unfold pF;refine⟨⟨hq,hx⟩,fun G1 e1=>?_⟩;have ls:(e8 x [] []).length<=1000:=by
   unfold e8 jp;rw[KP];refine le_trans (List.length_filterMap_le _ _) ?_;rw[sP,show (gO x.length).length=x.length from dk _ _ _]
   exact hx
  show jo _ _ _ _ _ _ _ _
  refine eM ES (by rw[KP];omega) (fun d hd P hP=>?_) ?_
  ·obtain⟨s,_,rfl⟩:=mem_map.mp hd;have ed:s.d=.tup [s.slot.d,s.name.d,.str s.sign,.str s.word]:=rfl;rw[ed]at hP ⊢;refine⟨⟨LR rfl,rfl⟩,?_⟩;show _/\_
   refine⟨by unfold HT.sIx;simp,?_⟩
   exact hP _ rfl
  ·rw[zA];exact h G1 e1
 ·exact h.elim
theorem pC(zF:Zz)(hw:HW):∀ ds G Q,bt zF hw ds G Q->j6 zF hw { nx:=fun _ G'=>Q .non G',rt:=Q } (aw Aq0 ds) G:=by
 intro ds G Q h;unfold bt at h;split at h
 ·rename_i p;obtain⟨P,d,s,g,⟨⟨g1,g2,g3,g4⟩,lo⟩,h⟩:=h;have hs:=aq;unfold j6;walk_at "st"
  first|exact h|exact⟨P,d,s,g,⟨g1,g2,g3,g4⟩,h⟩|exact⟨P,d,s,g,⟨g1,g2,g3,g4⟩,⟨by first|rfl|exact g2,lo⟩,h⟩
 ·exact h.elim
theorem wC:∀ n,n<=20->(e8 (f7 (KH "a") n) [] []).length=n/\(f7 (KH "a") n).length=n:=by
 have h:∀ n:Fin 21,(e8 (f7 (KH "a") n.1) [] []).length=n.1/\(f7 (KH "a") n.1).length=n.1:=by decide +kernel
 exact fun n hn=>h ⟨n,by walk_at "o"⟩
theorem vt{M:Mg}{n:Nat}(h:M.ok n):M.vw.length=M.old.length/\M.old.length<=20:=by
 obtain⟨k,hk,e⟩:=h.old;obtain⟨a,b⟩:=wC k hk;unfold Mg.vw;rw[e,a,b];exact⟨rfl,hk⟩
theorem Mg.ok.le{M:Mg}{n m:Nat}(h:M.ok n)(l:n<=m):M.ok m:=⟨h.old,h.ls,h.sk,h.gg,h.nd,le_trans h.len l,h.tre,h.kl,h.lay,le_trans h.lly l,h.gi,le_trans h.gl l,h.nm⟩
theorem yC{m:Nat}(x:Nm):pl (m+1) x.d:=fun d hd=>by
 simp only[Le,Lg,or_false]at hd;rcases hd with rfl|rfl<;>cases m<;>exact trivial
theorem BF{ns:List Nd}:∀ n ks,∀ d∈kin ns n ks,pl (2*n+2) d
 | 0,_,d,hd=>nomatch hd
 | n+1,ks,d,hd=>by
  obtain⟨k,_,rfl⟩:=mem_map.mp hd;split
  ·rename_i y _;have e:2*(n+1)+2=(2*n+2+1)+1:=by walk_at "o"
   rw[e];intro d hd;simp only[Le,Lg,or_false]at hd;rcases hd with rfl|rfl|rfl
   ·exact yC _
   ·exact trivial
   ·exact BF n _
  ·exact trivial
theorem Cr{vs:List D}:∀ {n:Nat} {d:D},d∈c9 n vs->∃ i x,d=.tup [.int i,x]:=by
 induction vs with
 | nil=>intro n d h;nomatch h
 | cons v r ih=>
  intro n d h;rcases Le.mp h with rfl|h
  ·exact⟨_,_,rfl⟩
  ·exact ih h
theorem B2{vw:List Seat}{ss:List Sl}{d:D}(h:d∈numsOf vw ss):∃ i,d=.int i:=by
 obtain⟨e,he,rfl⟩:=mem_map.mp h;obtain⟨i,x,rfl⟩:=Cr (mem_filter.mp he).1;exact⟨i,rfl⟩
theorem yA(M:Mg):pl 40 (.lst M.told):=by
 intro d hd;obtain⟨k,_,rfl⟩:=mem_map.mp hd;split
 ·rename_i y _;intro d hd;simp only[Le,Lg,or_false]at hd;rcases hd with rfl|rfl|rfl|rfl
  ·exact yC _
  ·intro d hd;obtain⟨i,rfl⟩:=B2 hd;exact trivial
  ·exact trivial
  ·exact fun d hd=>sU (by decide) (BF 11 _ d hd)
 ·exact trivial
theorem uE{ns:List Nd}{k:Nat}{y:Nd}(h:ns[k]?=some y):oz ns k=y.a:=by unfold oz;rw[h];rfl
theorem zj{ns:List Nd}{k:Nat}{y z:Nd}(h:ns[k]?=some y):oz (ns ++ [z]) k=oz ns k:=by
 have l:k < ns.length:=(List.getElem?_eq_some_iff.mp h).1;unfold oz;rw[L5 l]
theorem sJ{ns:List Nd}{i k:Nat}{x x':Nd}(h:ns[i]?=some x):(ns.set i x')[k]?=if i=k then some x' else ns[k]?:=by
 rw[List.getElem?_set];have l:i < ns.length:=(List.getElem?_eq_some_iff.mp h).1
 by_cases e:i=k
 ·subst e;simp[l]
 ·simp[e]
theorem EF{ns:List Nd}{i k:Nat}{x x':Nd}(h:ns[i]?=some x)(ha:x'.a=x.a):oz (ns.set i x') k=oz ns k:=by
 unfold oz;rw[sJ h]
 by_cases e:i=k
 ·subst e;rw[if_pos rfl,h];simp[ha]
 ·rw[if_neg e]
theorem map_set{α:Type}{f:Nd->α}{ns:List Nd}{i:Nat}{x x':Nd}(h:ns[i]?=some x)(hf:f x'=f x):(ns.set i x').map f=ns.map f:=by
 rw[List.map_set];refine List.ext_getElem? fun k=>?_;rw[List.getElem?_set];split
 ·rename_i e;subst e;rw[K8,h];have l:i < ns.length:=(List.getElem?_eq_some_iff.mp h).1;simp[hf,l]
 ·rfl
theorem pU{a b:Nm}(h:a.key=b.key):a=b:=by
 obtain⟨a1,a2⟩:=a;obtain⟨b1,b2⟩:=b;simp only[Nm.key,List.cons.injEq,Sum.inr.injEq,Sum.inl.injEq,and_true]at h;rw[h.1,h.2]
theorem zf{f:Nd->D}{nm:Nm}:∀ {ns:List Nd},nm∉ns.map Nd.nm->cW (ns.map fun x=>(x.nm.key,f x)) nm.key=none
 | [],_=>rfl
 | x::r,h=>by
  rw[K3,Le,not_or]at h;have ih:=zf (f:=f) h.2;unfold cW at ih ⊢;rw[K3,List.find?_cons_of_neg (by
   have:¬ x.nm.key=nm.key:=fun z=>h.1 (pU z).symm
   simpa using this)]
  exact ih
theorem zh{f:Nd->D}{x:Nd}:∀ {ns:List Nd},(ns.map Nd.nm).Nodup->x∈ns->cW (ns.map fun x=>(x.nm.key,f x)) x.nm.key=some (f x)
 | y::r,nd,h=>by
  rw[K3,L7]at nd;unfold cW;rcases Le.mp h with rfl|h
  ·rw[K3,List.find?_cons_of_pos (by simp)]
   rfl
  ·rw[K3,List.find?_cons_of_neg (by
    have:¬ y.nm.key=x.nm.key:=fun z=>nd.1 (by rw[pU z];exact MJ h)
    simpa using this)]
   exact zh (f:=f) nd.2 h
theorem sS{f:Nd->D}{nm:Nm}{ns:List Nd}{v:D}(h:nm∉ns.map Nd.nm):aS (ns.map fun x=>(x.nm.key,f x)) nm.key v=ns.map (fun x=>(x.nm.key,f x)) ++ [(nm.key,v)]:=by
 unfold aS;rw[if_neg];rw[jB,zf h];exact Bool.false_ne_true
theorem jA{gs:List (ar×D)}{pen q:Str}{m:Int}:aF (aS gs (.inr pen) (.int m)) q=if q=pen then m else aF gs q:=by
 unfold aF;rw[l7]
 by_cases e:q=pen
 ·subst e;simp
 ·have:¬ (Sum.inr q:ar)=.inr pen:=fun z=>e (Sum.inr.inj z);rw[if_neg this,if_neg e]
theorem Cm{gs:List (ar×D)}{pen:Str}{m:Int}(h:∀ k v,cW gs k=some v->∃ m:Int,v=.int m/\0<=m)(hm:0<=m):∀ k v,cW (aS gs (.inr pen) (.int m)) k=some v->∃ m:Int,v=.int m/\0<=m:=fun k v e=>by
 rw[l7]at e;split at e
 ·cases e;exact⟨m,rfl,hm⟩
 ·exact h k v e
theorem yZ{M:Mg}{n:Nat}(h:M.ok n)(pen:Str):0<=aF M.gs pen:=by
 unfold aF;split
 ·rename_i m e;obtain⟨m',e',hm⟩:=h.gi _ _ e;cases e';exact hm
 ·exact Int.le_refl _
theorem mH{M:Mg}{n:Nat}(h:M.ok n)(pen:Str):((pen,aF M.gs pen+1):Nm)∉M.ns.map Nd.nm:=fun z=>by
 obtain⟨x,hx,e⟩:=mem_map.mp z;have:=h.nm x hx;have e1:x.pen=pen:=congrArg Prod.fst e;have e2:x.num=aF M.gs pen+1:=congrArg Prod.snd e;rw[e1]at this;omega
theorem xn{M:Mg}{n:Nat}(h:M.ok n)(pen:Str){x:Nd}(hx:x∈M.ns):x.num<=aF (aS M.gs (.inr pen) (.int (aF M.gs pen+1))) x.pen:=by
 rw[jA];have:=h.nm x hx;split
 ·rename_i e;rw[e]at this;omega
 ·exact this
theorem put_ok{M:Mg}{n:Nat}{pen w:Str}{a l:KE}{ss:List Sl}(h:M.ok n)(hn:n<=59)(hl:l∉[M.d,M.la] ++ M.ns.map Nd.l)(hs:ss.length<=1000):(M.put pen w a l ss).ok (n+1) where
 old:=h.old
 ls:=by
  show ([M.d,M.la] ++ (M.ns ++ [_]).map Nd.l).Nodup
  rw[LQ,<- List.append_assoc];exact nodup_append.mpr ⟨h.ls,L7.mpr ⟨(fun z=>nomatch z),M7⟩,fun x hx y hy e=>by
   have hy':y=l:=by simpa using hy
   exact hl (hy' ▸ e ▸ hx)⟩
 sk:=h.sk
 gg:=h.gg
 nd:=by
  show ((M.ns ++ [_]).map Nd.nm).Nodup
  rw[LQ];exact nodup_append.mpr ⟨h.nd,L7.mpr ⟨(fun z=>nomatch z),M7⟩,fun x hx y hy e=>by
   have hy':y=(pen,aF M.gs pen+1):=by simpa[Nd.nm]using hy
   exact mH h pen (hy' ▸ e ▸ hx)⟩
 len:=by have:=h.len;show (M.ns ++ [_]).length<=_;rw[Lc];simpa using this
 tre:=⟨fun x hx k hk=>by
   rcases mem_append.mp hx with hx|hx
   ·obtain⟨y,e,r⟩:=h.tre.kid x hx k hk;exact⟨y,by show (M.ns ++ [_])[k]?=_;rw[L5 (List.getElem?_eq_some_iff.mp e).1];exact e,r⟩
   ·cases mem_singleton.mp hx;exact (nomatch hk),fun x hx=>by
   rcases mem_append.mp hx with hx|hx
   ·exact h.tre.dep x hx
   ·cases mem_singleton.mp hx;exact⟨le_refl _,(by decide:(1:Nat)<=10)⟩,fun x hx=>by
   rcases mem_append.mp hx with hx|hx
   ·exact h.tre.few x hx
   ·cases mem_singleton.mp hx;exact LG _⟩
 kl:=fun x hx=>by
  show _<=(M.ns ++ [_]).length
  rw[Lc];rcases mem_append.mp hx with hx|hx
  ·exact Nat.le_succ_of_le (h.kl x hx)
  ·cases mem_singleton.mp hx;exact LG _
 lay:=fun k hk=>by
  rcases mem_append.mp hk with hk|hk
  ·obtain⟨y,e,r⟩:=h.lay k hk;exact⟨y,by show (M.ns ++ [_])[k]?=_;rw[L5 (List.getElem?_eq_some_iff.mp e).1];exact e,r⟩
  ·cases mem_singleton.mp hk;exact⟨_,by show (M.ns ++ [_])[M.ns.length]?=_;rw[LJ (le_refl _),Nat.sub_self];rfl,⟨ss,rfl,hs⟩,rfl⟩
 lly:=by have:=h.lly;show (M.lay ++ [_]).length<=_;rw[Lc];simpa using this
 gi:=Cm h.gi (by have:=yZ h pen;omega)
 gl:=le_trans (dC _ _ _) (MO h.gl)
 nm:=fun x hx=>by
  rcases mem_append.mp hx with hx|hx
  ·exact xn h pen hx
  ·cases mem_singleton.mp hx;show _<=aF (aS _ _ _) pen
   rw[jA,if_pos rfl];exact Int.le_refl _
theorem El{M:Mg}{n i:Nat}{x:Nd}{pen w:Str}{a l:KE}(h:M.ok n)(hn:n<=59)(hx:M.ns[i]?=some x)(hd:x.dep<=9)(hl:l∉[M.d,M.la] ++ M.ns.map Nd.l):(M.give i x pen w a l).ok (n+1):=by
 have mx:x∈M.ns:=K0 hx;have hf:x.ks.length<=59:=le_trans (h.kl x mx) (le_trans h.len hn);have mem:∀ y,y∈M.ns.set i { x with ks:=x.ks ++ [M.ns.length] }->y={ x with ks:=x.ks ++ [M.ns.length] }\/y∈M.ns:=fun y hy=>by
  obtain⟨k,e⟩:=List.mem_iff_getElem?.mp hy;rw[sJ hx]at e;split at e
  ·cases e;exact .inl rfl
  ·exact .inr (K0 e)
 have look:∀ (k:Nat) (y:Nd),M.ns[k]?=some y->∃ y':Nd,((M.ns.set i { x with ks:=x.ks ++ [M.ns.length] }) ++ [(⟨a,l,pen,aF M.gs pen+1,w,x.dep+1,[],none⟩:Nd)])[k]?=some y'/\y'.nt=y.nt/\y'.dep=y.dep:=fun k y e=>by
  have lk:k < (M.ns.set i { x with ks:=x.ks ++ [M.ns.length] }).length:=by rw[MK];exact (List.getElem?_eq_some_iff.mp e).1
  rw[L5 lk,sJ hx];split
  ·rename_i e';subst e';rw[hx]at e;cases e;exact⟨_,rfl,rfl,rfl⟩
  ·exact⟨y,e,rfl,rfl⟩
 have m1:(M.ns.set i { x with ks:=x.ks ++ [M.ns.length] }).map Nd.l=M.ns.map Nd.l:=map_set hx rfl
 have m2:(M.ns.set i { x with ks:=x.ks ++ [M.ns.length] }).map Nd.nm=M.ns.map Nd.nm:=map_set hx rfl
 refine⟨h.old,?_,h.sk,h.gg,?_,?_,⟨?_,?_,?_⟩,?_,?_,Nat.le_succ_of_le h.lly,Cm h.gi (by have:=yZ h pen;omega),le_trans (dC _ _ _) (MO h.gl),?_⟩
 ·show ([M.d,M.la] ++ ((M.ns.set i _) ++ [_]).map Nd.l).Nodup;rw[LQ,m1,<- List.append_assoc];exact nodup_append.mpr ⟨h.ls,L7.mpr ⟨(fun z=>nomatch z),M7⟩,fun x hx y hy e=>by
   have hy':y=l:=by simpa using hy
   exact hl (hy' ▸ e ▸ hx)⟩
 ·show (((M.ns.set i _) ++ [_]).map Nd.nm).Nodup;rw[LQ,m2];exact nodup_append.mpr ⟨h.nd,L7.mpr ⟨(fun z=>nomatch z),M7⟩,fun x hx y hy e=>by
   have hy':y=(pen,aF M.gs pen+1):=by simpa[Nd.nm]using hy
   exact mH h pen (hy' ▸ e ▸ hx)⟩
 ·show ((M.ns.set i _) ++ [_]).length<=_;rw[Lc,MK];have:=h.len
  simpa using this
 ·intro y hy k hk;rcases mem_append.mp hy with hy|hy
  ·rcases mem y hy with rfl|hy
   ·rcases mem_append.mp hk with hk|hk
    ·obtain⟨z,e,r1,r2⟩:=h.tre.kid x mx k hk;obtain⟨z',e',q1,q2⟩:=look k z e;exact⟨z',e',q1.trans r1,q2.trans r2⟩
    ·cases mem_singleton.mp hk;exact⟨_,by show (_ ++ [_])[M.ns.length]?=_;rw[LJ (by rw[MK];exact le_refl _),MK,Nat.sub_self];rfl,rfl,rfl⟩
   ·obtain⟨z,e,r1,r2⟩:=h.tre.kid y hy k hk;obtain⟨z',e',q1,q2⟩:=look k z e;exact⟨z',e',q1.trans r1,q2.trans r2⟩
  ·cases mem_singleton.mp hy;nomatch hk
 ·intro y hy;rcases mem_append.mp hy with hy|hy
  ·rcases mem y hy with rfl|hy
   ·exact h.tre.dep x mx
   ·exact h.tre.dep y hy
  ·cases mem_singleton.mp hy;exact⟨MO (LG _),MO hd⟩
 ·intro y hy;rcases mem_append.mp hy with hy|hy
  ·rcases mem y hy with rfl|hy
   ·show (x.ks ++ [_]).length<=60;rw[Lc];exact MO hf
   ·exact h.tre.few y hy
  ·cases mem_singleton.mp hy;exact LG _
 ·intro y hy;show _<=((M.ns.set i _) ++ [_]).length
  rw[Lc,MK];rcases mem_append.mp hy with hy|hy
  ·rcases mem y hy with rfl|hy
   ·show (x.ks ++ [_]).length<=_;rw[Lc];exact MO (h.kl x mx)
   ·exact Nat.le_succ_of_le (h.kl y hy)
  ·cases mem_singleton.mp hy;exact LG _
 ·intro k hk;obtain⟨y,e,⟨ss,r1,r2⟩,r3⟩:=h.lay k hk;obtain⟨y',e',q1,q2⟩:=look k y e;exact⟨y',e',⟨ss,q1.trans r1,r2⟩,q2.trans r3⟩
 ·intro y hy;rcases mem_append.mp hy with hy|hy
  ·rcases mem y hy with rfl|hy
   ·exact xn (x:=x) h pen mx
   ·exact xn h pen hy
  ·cases mem_singleton.mp hy;show _<=aF (aS _ _ _) pen
   rw[jA,if_pos rfl];exact Int.le_refl _
theorem Fn{t u:iJ}{σ:cL}{G:Gp}(b1 b2:Bool)(h1:∀ K:Bool->Gp->Prop,K b1 G->t σ G K)(h2:b1=false->∀ K:Bool->Gp->Prop,K b2 G->u σ G K):∀ K:Bool->Gp->Prop,K (b1 || b2) G->mh t u σ G K:=fun K hK=>by
 unfold mh;refine h1 _ ?_;cases b1 with
 | true=>rw[if_pos rfl];exact hK
 | false=>rw[if_neg (by decide)];exact h2 rfl K hK
theorem pB(zF:Zz)(hw:HW):∀ ds G Q,aQ zF hw ds G Q->j5 zF hw { nx:=fun _ G'=>Q .non G',rt:=Q } (aw AD0 ds) G:=by
 intro ds G Q h;unfold aQ at h;split at h
 ·rename_i c p;obtain⟨⟨h1,h2⟩,h3⟩:=h;have h4:=h3 ((c+7919*p+1)*48271 % 2147483647*((c+7919*p+1)*48271 % 2147483647 / 1009+69621) % 2147483647) (Int.emod_nonneg _ (by decide)) (Int.emod_lt_of_pos _ (by decide))
  clear h3;unfold j5;walk_at "st";have hn0:0<=(c+7919*p+1)*48271 % 2147483647:=Int.emod_nonneg _ (by decide)
  have hn1:(c+7919*p+1)*48271 % 2147483647 < 2147483647:=Int.emod_lt_of_pos _ (by decide)
  exact⟨.inl ⟨by decide,by decide⟩,.inr ⟨by decide,by decide⟩,by decide,⟨by decide,by decide⟩,.inl ⟨by walk_at "o",by walk_at "o"⟩,by decide⟩
 ·exact h.elim
theorem lu(zF:Zz)(hw:HW):∀ ds G Q,aR zF hw 0 ds G Q->cO { nx:=fun _ G'=>Q .non G',rt:=Q } (aw AE0 ds) G:=by
 intro ds G Q h;unfold aR at h;split at h
 ·obtain⟨ns,ks,⟨_,z,_⟩,_⟩:=h;exact absurd z (lt_irrefl 0)
 ·exact h.elim
theorem mw(zF:Zz)(hw:HW)(n:Nat):∀ ds G Q,aR zF hw (n+1) ds G Q->iw zF hw (aR zF hw n) { nx:=fun _ G'=>Q .non G',rt:=Q } (aw AE0 ds) G:=by
 intro ds G Q h;unfold aR at h;split at h
 ·rename_i es;obtain⟨ns,ks,⟨tr,_,lk,hk,rfl⟩,h⟩:=h;have hs:=aq;unfold iw;refine eM (fun d=>d) (by unfold kin;rw[KP];omega) (fun d hd P hP=>?_) (by rw[List.map_id'];exact h)
  obtain⟨k,hkm,rfl⟩:=mem_map.mp hd;obtain⟨y,ey,dy⟩:=hk k hkm;rw[ey]at hP ⊢;dsimp only at hP ⊢;have my:=K0 ey;have d10:=(tr.dep y my).2;refine⟨rfl,⟨LR rfl,rfl⟩,ns,y.ks,⟨tr,by walk_at "o",tr.few y my,fun k hk=>?_,rfl⟩,?_⟩
  ·obtain⟨z,ez,_,dz⟩:=tr.kid y my k hk;exact⟨z,ez,by walk_at "o"⟩
  ·exact⟨by show 3<=_;omega,hP _ rfl⟩
 ·exact h.elim
theorem fb_name(zF:Zz)(hw:HW){σ:cL}{G:Gp}{x:Nd}{a:KE}{i:Nat}{Q:fK}(hσ:σ[i]?=some (some (.ref a)))(hG:G a=some (x.go zF.C_Answer zF.C_Note))(h:Q x.nm.d G):ce [zF.C_Answer,zF.C_Note] "name" (ag i) σ G Q:=by
 unfold ce ag;rw[hσ];cases hn:x.nt<;>(unfold Nd.go at hG;rw[hn]at hG;simp only[hG];refine⟨by simp,?_⟩;first|exact h)
theorem fb_words(zF:Zz)(hw:HW){σ:cL}{G:Gp}{x:Nd}{a:KE}{i:Nat}{Q:fK}(hσ:σ[i]?=some (some (.ref a)))(hG:G a=some (x.go zF.C_Answer zF.C_Note))(h:Q (.str x.w) G):ce [zF.C_Answer,zF.C_Note] "words" (ag i) σ G Q:=by
 unfold ce ag;rw[hσ];cases hn:x.nt<;>(unfold Nd.go at hG;rw[hn]at hG;simp only[hG];refine⟨by simp,?_⟩;first|exact h)
theorem fb_depth(zF:Zz)(hw:HW){σ:cL}{G:Gp}{x:Nd}{a:KE}{i:Nat}{Q:fK}(hσ:σ[i]?=some (some (.ref a)))(hG:G a=some (x.go zF.C_Answer zF.C_Note))(h:Q (.int x.dep) G):ce [zF.C_Answer,zF.C_Note] "depth" (ag i) σ G Q:=by
 unfold ce ag;rw[hσ];cases hn:x.nt<;>(unfold Nd.go at hG;rw[hn]at hG;simp only[hG];refine⟨by simp,?_⟩;first|exact h)
theorem fb_answers(zF:Zz)(hw:HW){σ:cL}{G:Gp}{x:Nd}{a:KE}{i:Nat}{Q:fK}(hσ:σ[i]?=some (some (.ref a)))(hG:G a=some (x.go zF.C_Answer zF.C_Note))(h:Q (.ref x.l) G):ce [zF.C_Answer,zF.C_Note] "answers" (ag i) σ G Q:=by
 unfold ce ag;rw[hσ];cases hn:x.nt<;>(unfold Nd.go at hG;rw[hn]at hG;simp only[hG];refine⟨by simp,?_⟩;first|exact h)
theorem fb_names(zF:Zz)(hw:HW){σ:cL}{G:Gp}{x:Nd}{ss:List Sl}{a:KE}{i:Nat}{Q:fK}(hσ:σ[i]?=some (some (.ref a)))(hG:G a=some (x.go zF.C_Answer zF.C_Note))(hn:x.nt=some ss)(h:Q (.lst (ss.map Sl.d)) G):ce [zF.C_Answer,zF.C_Note] "names" (ag i) σ G Q:=by
 unfold ce ag;rw[hσ];unfold Nd.go at hG;rw[hn]at hG;simp only[hG];refine⟨by simp,?_⟩;exact h
theorem dP{σ:cL}{G:Gp}{C a:KE}{L:List Str}{fs ds:List D}{sp:de}{ta:iF}{i:Nat}{Q:fK}(hσ:σ[i]?=some (some (.ref a)))(hG:G a=some (.ins C L fs))(ha:∀ R:List L3.D->Gp->Prop,R ds G->ta σ G R)(h:sp (.ref a::ds) G Q):cU C L sp [] (ag i) ta σ G Q:=by
 unfold cU ag;rw[hσ];dsimp only;rw[hG];exact⟨⟨rfl,rfl⟩,ha _ (by rw[M5];exact h)⟩
theorem F6{ns:List Nd}{n i k:Nat}{ks:List Nat}{y:Nd}(h:ks[i]?=some k)(e:ns[k]?=some y):(kin ns (n+1) ks)[i]?=some (.tup [y.nm.d,.str y.w,.lst (kin ns n y.ks)]):=by
 show (ks.map _)[i]?=_
 rw[K8,h,Option.map_some,e]
theorem xk{hw0:List ar->Int}{G:Gp}{a:KE}{kvs:List (List ar×D)}{i:D}{ks:List ar}(h:G a=some (.dT hw0 kvs))(hk:lR i=some ks):bR hw0 G (.ref a) i (cW kvs ks):=by
 unfold bR;dsimp only;rw[h];exact⟨rfl,ks,hk,rfl⟩
theorem F3{hw0:List ar->Int}{G:Gp}{a:KE}{kvs:List (ar×D)}{i:D}{k:ar}(h:G a=some (.dK kvs))(hk:C6 i=some k):bR hw0 G (.ref a) i (cW kvs k):=by
 unfold bR;dsimp only;rw[h];exact⟨k,hk,rfl⟩
theorem f6(zF:Zz)(hw:HW):∀ ds G Q,aE zF hw 0 ds G Q->cO { nx:=fun _ G'=>Q .non G',rt:=Q } (aw Aq0 ds) G:=by
 intro ds G Q h;unfold aE at h;split at h
 ·obtain⟨ns,x,⟨_,tr,mx,_,e⟩,_⟩:=h;have:=(tr.dep x mx).2;omega
 ·exact h.elim
theorem dB(zF:Zz)(hw:HW)(n:Nat):∀ ds G Q,aE zF hw (n+1) ds G Q->dJ zF hw (aE zF hw n) { nx:=fun _ G'=>Q .non G',rt:=Q } (aw Aq0 ds) G:=by
 intro ds G Q h;unfold aE at h;split at h
 ·obtain⟨ns,x,⟨nd,tr,mx,rfl,e⟩,h⟩:=h;have hs:=aq;have fx:=tr.few x mx;unfold dJ bb jd;refine fb_answers zF hw (x:=x) (i:=0) rfl (nd x mx).1 ?_;refine⟨_,(nd x mx).2,by rw[KP];omega,fun i acc G'=>acc=(kin ns (n+1) x.ks).take i/\G'=G,⟨rfl,rfl⟩,fun i acc G' hp=>by rw[hp.2];exact (nd x mx).2,?_,?_⟩
  ·rintro i dd acc G' hd ⟨rfl,rfl⟩
   rw[K8]at hd;cases hq:x.ks[i]? with
   | none=>rw[hq]at hd;cases hd
   | some k=>
    rw[hq]at hd;cases hd;obtain⟨y,ey,ny,dy⟩:=tr.kid x mx k (K0 hq);have my:=K0 ey;dsimp only;rw[uE ey];obtain⟨gy,_⟩:=nd y my;have gy':G' y.a=some (.ins zF.C_Answer gW [y.nm.d,.str y.w,.int y.dep,.ref y.l]):=by rw[gy];unfold Nd.go;rw[ny]
    unfold gN fk eg ae;refine⟨⟨LR rfl,rfl⟩,?_⟩;refine iteT ?_;refine fb_name zF hw (x:=y) (i:=0) rfl gy (fb_words zF hw (x:=y) (i:=0) rfl gy (dP (i:=0) (ds:=[]) rfl gy' (fun _ h=>h) ⟨ns,y,⟨nd,tr,my,rfl,by walk_at "o"⟩,?_⟩))
    refine⟨by show 3<=_;omega,?_,rfl⟩
    rw[MN,F6 hq ey];rfl
  ·rintro acc G' ⟨rfl,rfl⟩
   rw[KP,List.take_of_length_le (by unfold kin;rw[KP];exact le_refl _)]
   exact h
 ·exact h.elim
theorem v6{α:Type}{f:α->D}:∀ {vw:List α} {n:Nat} {d:D},d∈c9 n (vw.map f)->∃ (i:Int) (s:α),s∈vw/\d=.tup [.int i,f s]
 | v::r,n,d,h=>by
  rcases Le.mp h with rfl|h
  ·exact⟨_,v,KU,rfl⟩
  ·obtain⟨i,s,hs,e⟩:=v6 h;exact⟨i,s,KZ _ hs,e⟩
theorem GB{ss:List Sl}{x:Sl}:(ss.map Sl.d).any (dE x.d)=decide (x∈ss):=by
 rw[Bool.eq_iff_iff,List.any_eq_true,decide_eq_true_iff];constructor
 ·rintro⟨d,hd,e⟩
  obtain⟨s,hs,rfl⟩:=mem_map.mp hd;have e':=jz.mp e;unfold Sl.d at e';obtain⟨a1,a2,a3⟩:=x;obtain⟨b1,b2,b3⟩:=s;simp only[D.tup.injEq,List.cons.injEq,D.str.injEq,D.int.injEq,and_true]at e';obtain⟨rfl,rfl,rfl⟩:=e';exact hs
 ·exact fun h=>⟨x.d,MJ h,bg _⟩
theorem ul{G:Gp}{p:KE}{o:GO}(h:G p=none):fW G (gset G p o):=fun a u e=>(af fun z=>by rw[z,h]at e;cases e).trans e
theorem jE(zF:Zz)(hw:HW):∀ ds G Q,bq zF hw ds G Q->fw zF hw { nx:=fun _ G'=>Q .non G',rt:=Q } (aw AA0 ds) G:=by
 intro ds G Q h;unfold bq at h;split at h
 ·rename_i a vs;obtain⟨x,ss,vw,⟨hx,hn,ls,rfl,lv⟩,h⟩:=h;have hs:=aq;unfold fw;refine aT ?_;unfold aM ae;refine fb_names zF hw (x:=x) (i:=0) rfl hx hn ?_;refine .inl ⟨ss,⟨rfl,by walk_at "o"⟩,fun p hp=>?_⟩
  show jo _ _ _ _ _ _ _ _
  refine nI (JD ss) En (by rw[ef,KP];omega) (fun d hd P R hP hR=>?_) (h _ (ul hp))
  obtain⟨i,s,_,rfl⟩:=v6 hd;have e:JD ss (.tup [.int i,s.d3])=decide (s.name∈ss):=GB;rw[e]at hP hR;refine⟨rfl,⟨LR rfl,rfl⟩,?_⟩;have hg:gset G p (.dT hw (bA (fun _=>.bl true) (bY [] (ss.map fun s=>(s,()))))) p=some (.dT hw (bA (fun _=>.bl true) (bY [] (ss.map fun s=>(s,()))))):=ai;refine⟨_,xk (hw0:=hw) (i:=s.name.d) (ks:=s.name.key) hg rfl,?_⟩;rw[uC];show if ((dW _ _).map _).isSome=true then _ else _
  rw[Option.isSome_map,D_];exact ite2 (fun z=>hP z _ rfl) hR
 ·exact h.elim
theorem IG.ext{CA CN:KE}{G G':Gp}{ns:List Nd}(h:IG CA CN G ns)(e:fW G G'):IG CA CN G' ns:=fun x hx=>⟨e _ _ (h x hx).1,e _ _ (h x hx).2⟩
theorem MAt.ext{CA CN CM CP:KE}{hw0:List ar->Int}{G G':Gp}{m:KE}{M:Mg}(h:MAt CA CN CM CP hw0 G m M)(e:fW G G'):MAt CA CN CM CP hw0 G' m M:=⟨⟨e _ _ h.pap.1,e _ _ h.pap.2.1,e _ _ h.pap.2.2.1,e _ _ h.pap.2.2.2⟩,e _ _ h.ins,e _ _ h.lay,e _ _ h.kn,e _ _ h.gr,h.nds.ext e⟩
theorem eA{CM:KE}{L:List Str}{σ:cL}{G:Gp}{m:KE}{i j:Nat}{vs:List D}{v:D}{Q:fK}(hσ:σ[i]?=some (some (.ref m)))(hG:G m=some (.ins CM L vs))(hv:vs[j]?=some v)(h:Q v G):gT CM L j (ag i) σ G Q:=by
 unfold gT ag;rw[hσ];dsimp only;rw[hG];dsimp only
 first
 | (rw[hv];exact⟨⟨rfl,rfl⟩,h⟩)
 | (refine⟨⟨rfl,rfl⟩,?_⟩;rw[hv];exact h)
 | exact⟨⟨rfl,rfl⟩,v,hv,h⟩
theorem oV(zF:Zz)(hw:HW){σ:cL}{G:Gp}{m:KE}{M:Mg}{i n:Nat}{Q:fK}(hσ:σ[i]?=some (some (.ref m)))(h:MAt zF.C_Answer zF.C_Note zF.C_Margin zF.C_Paper hw G m M)(ok:M.ok n)(q:∀ G',fW G G'->Q (.fl (M.vw.map Seat.d3)) G'):cU zF.C_Paper c_ (bt zF hw) [] (gT zF.C_Margin aB 0 (ag i)) av σ G Q:=by
 unfold cU;refine eA (v:=.ref M.p) hσ h.ins rfl ?_;dsimp only;rw[h.pap.1];exact⟨⟨rfl,rfl⟩,M.pp,M.d,M.s,M.g,⟨h.pap,by have:=(vt ok).2;show M.old.length<=1000;omega⟩,q⟩
theorem Dl{M:Mg}{i k:Nat}{y:Nd}(h:M.lay[i]?=some k)(e:M.ns[k]?=some y):M.told[i]?=some (.tup [y.nm.d,.lst (numsOf M.vw (y.nt.getD [])),.str y.w,.lst (kin M.ns 11 y.ks)]):=by
 unfold Mg.told;rw[K8,h,Option.map_some,e]
theorem uV{M:Mg}:M.told.length=M.lay.length:=KP ..
theorem nQ(zF:Zz)(hw:HW):∀ ds G Q,b8 zF hw ds G Q->iY zF hw { nx:=fun _ G'=>Q .non G',rt:=Q } (aw AG0 ds) G:=by
 intro ds G Q h;unfold b8 at h;split at h
 ·rename_i m;obtain⟨M,⟨hm,ok⟩,h⟩:=h;have hs:=aq;have l1:=ok.lly;have l2:=(vt ok);unfold iY;refine aT (oV zF hw (i:=0) rfl hm ok fun G1 e1=>?_);have hm1:=hm.ext e1;unfold bb jd;refine eA (i:=0) (v:=.ref M.la) rfl hm1.ins rfl ?_;refine⟨_,hm1.lay,by rw[KP];omega,fun i acc G'=>acc=M.told.take i/\fW G1 G',⟨rfl,fW.refl⟩,fun i acc G' hp=>hp.2 _ _ hm1.lay,?_,?_⟩
  ·rintro i dd acc G' hd ⟨rfl,e2⟩
   rw[K8]at hd;cases hq:M.lay[i]? with
   | none=>rw[hq]at hd;cases hd
   | some k=>
    rw[hq]at hd;cases hd;obtain⟨y,ey,⟨ss,ny,lss⟩,dy⟩:=ok.lay k (K0 hq);have my:=K0 ey;have hm2:=hm1.ext e2;dsimp only;rw[uE ey];have gy:=(hm2.nds y my).1;have fin:∀ {G':Gp},MAt zF.C_Answer zF.C_Note zF.C_Margin zF.C_Paper hw G' m M->G' y.a=some (.ins zF.C_Note jm [y.nm.d,.str y.w,.int y.dep,.ref y.l,.lst (ss.map Sl.d)]):=fun h=>by rw[(h.nds y my).1];unfold Nd.go;rw[ny]
    unfold gN fk eg ae;refine⟨⟨LR rfl,rfl⟩,?_⟩;refine iteT ?_;refine fb_name zF hw (x:=y) (i:=0) rfl gy ?_;refine dP (i:=0) (ds:=[.lst (M.vw.map Seat.d3)]) rfl (fin hm2) (fun _ h=>h) ⟨y,ss,M.vw,⟨gy,ny,lss,rfl,by walk_at "o"⟩,fun G3 e3=>?_⟩
    have hm3:=hm2.ext e3;refine fb_words zF hw (x:=y) (i:=0) rfl (hm3.nds y my).1 (dP (i:=0) (ds:=[]) rfl (fin hm3) (fun _ h=>h) ⟨M.ns,y,⟨hm3.nds,ok.tre,my,rfl,by walk_at "o"⟩,?_⟩)
    refine⟨by show 4<=_;omega,?_,e2.trans e3⟩
    rw[MN,Dl hq ey,ny];rfl
  ·rintro acc G' ⟨rfl,e2⟩
   rw[KP,List.take_of_length_le (by rw[uV];exact le_refl _)]
   exact h G' (e1.trans e2)
 ·exact h.elim
theorem nO(zF:Zz)(hw:HW):∀ ds G Q,bL zF hw ds G Q->iW zF hw { nx:=fun _ G'=>Q .non G',rt:=Q } (aw AF0 ds) G:=by
 intro ds G Q h;unfold bL at h;split at h
 ·rename_i m;obtain⟨M,⟨hm,ok⟩,h⟩:=h;have hs:=aq;have l1:=ok.lly;unfold iW bb dS fH;refine dP (i:=0) (ds:=[]) rfl hm.ins (fun _ h=>h) ⟨M,⟨hm,ok⟩,fun G1 e1=>?_⟩;show jo _ _ _ _ _ _ _ _
  refine eM (fun d=>d) (by rw[uV];omega) (fun d hd P hP=>?_) (by rw[List.map_id'];exact h G1 e1)
  obtain⟨k,hk,rfl⟩:=mem_map.mp hd;obtain⟨y,ey,_,dy⟩:=ok.lay k hk;have my:=K0 ey;rw[ey]at hP ⊢;dsimp only at hP ⊢;refine⟨rfl,⟨LR rfl,rfl⟩,?_⟩;refine⟨M.ns,y.ks,⟨ok.tre,by decide,ok.tre.few y my,fun k hk=>?_,rfl⟩,⟨by show 4<=_;omega,hP _ rfl⟩⟩
  obtain⟨z,ez,_,dz⟩:=ok.tre.kid y my k hk;exact⟨z,ez,by walk_at "o"⟩
 ·exact h.elim
theorem hZ(zF:Zz)(hw:HW):∀ ds G Q,aN zF hw ds G Q->dY zF hw { nx:=fun _ G'=>Q .non G',rt:=Q } (aw ["self","pen"] ds) G:=by
 intro ds G Q h;unfold aN at h;split at h
 ·rename_i m pen;obtain⟨M,⟨hm,ok⟩,h⟩:=h;have hs:=aq;have g1:=hm.ins;have g2:=hm.gr;have gi:=ok.gi;clear hm ok;unfold dY;unfold aF at h;cases e:cW M.gs (.inr pen) with
  | none=>
   rw[e]at h;walk_at "st";exact⟨by walk_at "o",h⟩
  | some v=>
   obtain⟨k,rfl,_⟩:=gi _ _ e;rw[e]at h;walk_at "st";exact⟨by walk_at "o",h⟩
 ·exact h.elim
theorem nT(zF:Zz)(hw:HW):∀ ds G Q,bN zF hw ds G Q->i0 zF hw { nx:=fun _ G'=>Q .non G',rt:=Q } (aw ["self","answer"] ds) G:=by
 intro ds G Q h;unfold bN at h;split at h
 ·rename_i m a;obtain⟨x,p,la,kn,gr,kvs,gs,⟨hm,hk,hg,ha,lk,lg⟩,h⟩:=h;have hs:=aq;unfold i0;have n1:m≠kn:=fun z=>by rw[z,hk]at hm;cases hm
  have n2:a≠kn:=fun z=>by rw[z,hk]at ha;unfold Nd.go at ha;split at ha<;>cases ha
  have n3:gr≠kn:=fun z=>by rw[z,hk]at hg;cases hg
  have n4:m≠gr:=fun z=>by rw[z,hg]at hm;cases hm
  have n5:a≠gr:=fun z=>by rw[z,hg]at ha;unfold Nd.go at ha;split at ha<;>cases ha
  rw[az];refine sK (o:=.ref kn) (i:=x.nm.d) (v:=.ref a) (fun Q q=>q) (fun Q q=>eA (i:=0) rfl hm rfl q) (fun Q q=>fb_name zF hw (x:=x) (i:=1) rfl ha q) ?_;unfold eY;dsimp only;show match G kn with|some (.dT hw' kvs)=>_|some (.dK kvs)=>_|some (.lst ds)=>_|_=>_
  rw[hk];refine⟨rfl,x.nm.key,rfl,by walk_at "o",?_⟩
  have hm1:gset G kn (.dT hw (aS kvs x.nm.key (.ref a))) m=some (.ins zF.C_Margin aB ([p,la,kn,gr].map D.ref)):=(af n1).trans hm;have ha1:gset G kn (.dT hw (aS kvs x.nm.key (.ref a))) a=some (x.go zF.C_Answer zF.C_Note):=(af n2).trans ha;have hg1:gset G kn (.dT hw (aS kvs x.nm.key (.ref a))) gr=some (.dK gs):=(af n3).trans hg;rw[az];refine sK (o:=.ref gr) (i:=.str x.pen) (v:=.int x.num) (fun Q q=>fb_name zF hw (x:=x) (i:=1) rfl ha1 q) (fun Q q=>eA (i:=0) rfl hm1 rfl q) (fun Q q=>fb_name zF hw (x:=x) (i:=1) rfl ha1 q) ?_;unfold eY;dsimp only;show match gset G kn (.dT hw (aS kvs x.nm.key (.ref a))) gr with|some (.dT hw' kvs)=>_|some (.dK kvs)=>_|some (.lst ds)=>_|_=>_
  rw[hg1];refine⟨.inr x.pen,rfl,by walk_at "o",?_⟩
  exact fb_name zF hw (x:=x) (i:=1) rfl ((af n5).trans ha1) h
 ·exact h.elim
theorem lJ{G:Gp}{l:List KE}{p:KE}{o:GO}(h:p∈l\/G p=none):wx l G (gset G p o):=fun a u ha e=>by
 rcases h with h|h
 ·exact (af fun z=>ha (by rw[z];exact h)).trans e
 ·exact (af fun z=>by rw[z,h]at e;cases e).trans e
theorem wx.tr{G G1 G2:Gp}{l:List KE}(h:wx l G G1)(h2:wx l G1 G2):wx l G G2:=fun a u ha e=>h2 a u ha (h a u ha e)
theorem eX(zF:Zz)(hw:HW):∀ ds G Q,aY zF hw ds G Q->fA zF hw { nx:=fun _ G'=>Q .non G',rt:=Q } (aw Ax0 ds) G:=by
 intro ds G Q h;unfold aY at h;split at h
 ·rename_i a b k w dep;obtain⟨C,⟨hC,ha⟩,h⟩:=h;have hs:=aq;have mC:C∈[zF.C_Answer,zF.C_Note]:=by rcases hC with rfl|rfl<;>simp
  unfold fA;walk_at "st";refine⟨by decide,by decide,by decide,by walk_at "o",fun p hp=>?_⟩
  have pa:p≠a:=fun z=>by rw[z,ai]at hp;cases hp
  have gp:G p=none:=(af pa).symm.trans hp;rw[af (Ne.symm pa),ai];dsimp only;rw[lE,lF];exact⟨⟨mC,by decide⟩,h p _ ((lJ (.inl KU)).tr ((lJ (.inr hp)).tr (lJ (.inl KU)))) gp pa ai ((af pa).trans ai)⟩
 ·exact h.elim
theorem lq(zF:Zz)(hw:HW):∀ ds G Q,bI zF hw ds G Q->gJ zF hw { nx:=fun _ G'=>Q .non G',rt:=Q } (aw Ay0 ds) G:=by
 intro ds G Q h;unfold bI at h;split at h
 ·rename_i a b k w ss;obtain⟨ha,h⟩:=h;have hs:=aq;unfold gJ;rw[az];refine⟨zF.C_Note,⟨.inr rfl,ha⟩,fun l G' off gl la ga gl'=>?_⟩;show match G' a with|some (.ins C L ds)=>_|_=>_
  rw[ga];dsimp only;show (_/\_)/\Q .non (gset G' a (.ins zF.C_Note (da _ _) (cI _ _ _ _)))
  refine⟨⟨by simp,by decide⟩,?_⟩
  refine h l _ (off.tr (lJ (.inl KU))) gl la ?_ ((af la).trans gl');rw[ai];rw[pO,pP];rfl
 ·exact h.elim
theorem jF(zF:Zz)(hw:HW):∀ ds G Q,aX zF hw ds G Q->fy zF hw { nx:=fun _ G'=>Q .non G',rt:=Q } (aw ["self","paper"] ds) G:=by
 intro ds G Q h;unfold aX at h;split at h
 ·rename_i m p;obtain⟨hm,h⟩:=h;have hs:=aq;unfold fy;walk_at "st";refine⟨by walk_at "o",fun la h1=>?_⟩
  have n1:la≠m:=fun z=>by rw[z,ai]at h1;cases h1
  have e1:G la=none:=(af n1).symm.trans h1;rw[af (Ne.symm n1),ai];dsimp only;refine⟨⟨rfl,rfl⟩,fun kn h2=>?_⟩;have n2:kn≠m:=fun z=>by rw[z,ai]at h2;cases h2
  have h2':=(af n2).symm.trans h2;have n3:kn≠la:=fun z=>by rw[z,ai]at h2';cases h2'
  have e2:G kn=none:=(af n2).symm.trans ((af n3).symm.trans h2');rw[af (Ne.symm n2),ai];dsimp only;refine⟨⟨rfl,rfl⟩,fun gr h3=>?_⟩;have n4:gr≠m:=fun z=>by rw[z,ai]at h3;cases h3
  have h3':=(af n4).symm.trans h3;have n5:gr≠kn:=fun z=>by rw[z,ai]at h3';cases h3'
  have Sm:=(af n4).symm.trans ((af n5).symm.trans h3');have n6:gr≠la:=fun z=>by rw[z,ai]at Sm;cases Sm
  have e3:G gr=none:=(af n4).symm.trans ((af n6).symm.trans Sm);rw[af (Ne.symm n4),ai];dsimp only;refine⟨⟨rfl,rfl⟩,h la kn gr _ (fun y u hy e=>?_) e1 e2 e3 n1 n2 n4 (Ne.symm n3) (Ne.symm n6) (Ne.symm n5) ai ?_ ?_ ?_⟩
  ·have y1:y≠m:=fun z=>hy (by rw[z];exact KU)
   have y2:y≠la:=fun z=>by rw[z,e1]at e;cases e
   have y3:y≠kn:=fun z=>by rw[z,e2]at e;cases e
   have y4:y≠gr:=fun z=>by rw[z,e3]at e;cases e
   rw[af y1,af y4,af y1,af y3,af y1,af y2,af y1];exact e
  ·rw[af n1,af (Ne.symm n6),af n1,af (Ne.symm n3),af n1];exact ai
  ·rw[af n2,af (Ne.symm n5),af n2];exact ai
  ·rw[af n4];exact ai
 ·exact h.elim
theorem aD{σ:cL}{G:Gp}{i:Nat}{d:D}{Q:fK}(h:σ[i]?=some (some d))(q:Q d G):ag i σ G Q:=by
 unfold ag;rw[h];exact q
theorem gZ{c:iJ}{t u:bh}{E:Ends3}{σ:cL}{G:Gp}(hc:∀ K:Bool->Gp->Prop,K false G->c σ G K)(h:u E σ G):sSeq (iR c t dG) u E σ G:=eQ false hc (iteF h)
abbrev Nt(a:Str)(b:Int):D:=.tup [.str a,.int b]
theorem gq{hw0:List ar->Int}{G:Gp}{a:KE}{kvs:List (List ar×D)}{nm:Nm}{ti to:aL}{σ:cL}{K:Bool->Gp->Prop}(hi:∀ Q:fK,Q nm.d G->ti σ G Q)(ho:∀ Q:fK,Q (.ref a) G->to σ G Q)(hG:G a=some (.dT hw0 kvs))(h:K (!(cW kvs nm.key).isSome) G):cK (fc hw0 ti to) σ G K:=hi _ (ho _ ⟨_,xk hG rfl,h⟩)
theorem ur{hw0:List ar->Int}{G:Gp}{a:KE}{kvs:List (List ar×D)}{nm:Nm}{d:D}{ti to:aL}{σ:cL}{Q:fK}(ho:∀ Q:fK,Q (.ref a) G->to σ G Q)(hi:∀ Q:fK,Q nm.d G->ti σ G Q)(hG:G a=some (.dT hw0 kvs))(hd:cW kvs nm.key=some d)(h:Q d G):iE hw0 to ti σ G Q:=ho _ (hi _ ⟨d,by rw[<- hd];exact xk hG rfl,h⟩)
theorem lY{hw0:List ar->Int}{G:Gp}{a:KE}{kvs:List (ar×D)}{pen:Str}{d:D}{ti to:aL}{σ:cL}{Q:fK}(ho:∀ Q:fK,Q (.ref a) G->to σ G Q)(hi:∀ Q:fK,Q (.str pen) G->ti σ G Q)(hG:G a=some (.dK kvs))(hd:cW kvs (.inr pen)=some d)(h:Q d G):iE hw0 to ti σ G Q:=ho _ (hi _ ⟨d,by rw[<- hd];exact F3 hG rfl,h⟩)
theorem sd{α β:Type}{f:α->β}:∀ {ns:List α} {i k:Nat} {x y:α},(ns.map f).Nodup->ns[i]?=some x->ns[k]?=some y->f x=f y->i=k
 | z::r,0,0,x,y,_,_,_,_=>rfl
 | z::r,0,k+1,x,y,nd,hx,hy,e=>by
  rw[K3,L7]at nd;simp at hx hy;subst hx;exact absurd (e ▸ MJ (K0 hy)) nd.1
 | z::r,i+1,0,x,y,nd,hx,hy,e=>by
  rw[K3,L7]at nd;simp at hx hy;subst hy;exact absurd (e ▸ MJ (K0 hx)) nd.1
 | z::r,i+1,k+1,x,y,nd,hx,hy,e=>by
  rw[K3,L7]at nd;simp at hx hy;rw[sd nd.2 hx hy e]
theorem vJ{M:Mg}{n:Nat}(h:M.ok n):M.d≠M.la/\(∀ x∈M.ns,x.l≠M.d/\x.l≠M.la)/\(M.ns.map Nd.l).Nodup:=by
 have:=h.ls;simp only[ML,M3,L7,Le,not_or]at this;obtain⟨⟨a,b⟩,c,d⟩:=this;exact⟨a,fun x hx=>⟨fun z=>b (z ▸ MJ hx),fun z=>c (z ▸ MJ hx)⟩,d⟩
theorem ud{CA CN:KE}(x:Nd):∃ C L ds,x.go CA CN=.ins C L ds:=by
 unfold Nd.go;split
 ·exact⟨_,_,_,rfl⟩
 ·exact⟨_,_,_,rfl⟩
theorem MAt.give{CA CN CM CP:KE}{hw0:List ar->Int}{G G3:Gp}{m:KE}{M:Mg}{n i:Nat}{x:Nd}{pen w:Str}{a l:KE}(h:MAt CA CN CM CP hw0 G m M)(ok:M.ok n)(hx:M.ns[i]?=some x)(off:wx [M.kn,M.gr,x.l] G G3)
  (h1:G3 x.l=some (.lst ((x.ks.map fun k=>.ref (oz M.ns k)) ++ [.ref a]))) (h2:G3 M.kn=some (.dT hw0 (aS M.kns (Nm.key (pen,aF M.gs pen+1)) (.ref a)))) (h3:G3 M.gr=some (.dK (aS M.gs (.inr pen) (.int (aF M.gs pen+1)))))
  (h4:G3 a=some (.ins CA gW [Nt pen (aF M.gs pen+1),.str w,.int (x.dep+1:Nat),.ref l])) (h5:G3 l=some (.lst [])):MAt CA CN CM CP hw0 G3 m (M.give i x pen w a l):=by
 have mx:=K0 hx;obtain⟨l1,l2,l3⟩:=vJ ok;have hxl:=(h.nds x mx).2;have ins:∀ {b:KE} {C:KE} {L:List Str} {ds:List D},G b=some (.ins C L ds)->G3 b=some (.ins C L ds):=fun {b C L ds} e=>off b _ (by
  simp only[Le,Lg,or_false,not_or];exact⟨(fun z=>by rw[z,h.kn]at e;cases e),(fun z=>by rw[z,h.gr]at e;cases e),(fun z=>by rw[z,hxl]at e;cases e)⟩) e
 have lst:∀ {b:KE} {ds:List D},b≠x.l->G b=some (.lst ds)->G3 b=some (.lst ds):=fun {b ds} nb e=>off b _ (by
  simp only[Le,Lg,or_false,not_or];exact⟨(fun z=>by rw[z,h.kn]at e;cases e),(fun z=>by rw[z,h.gr]at e;cases e),nb⟩) e
 have ad:∀ k y,M.ns[k]?=some y->oz (M.give i x pen w a l).ns k=oz M.ns k:=fun k y e=>by
  show oz (M.ns.set i _ ++ [_]) k=_
  have lk:(M.ns.set i { x with ks:=x.ks ++ [M.ns.length] })[k]?=some ((M.ns.set i { x with ks:=x.ks ++ [M.ns.length] })[k]'(by rw[MK];exact (List.getElem?_eq_some_iff.mp e).1)):=KW _
  rw[zj lk,EF (x':={ x with ks:=x.ks ++ [M.ns.length] }) hx rfl]
 have an:oz (M.give i x pen w a l).ns M.ns.length=a:=by
  refine uE (y:=⟨a,l,pen,aF M.gs pen+1,w,x.dep+1,[],none⟩) ?_;show (M.ns.set i _ ++ [_])[M.ns.length]?=_
  rw[LJ (by rw[MK];exact le_refl _),MK,Nat.sub_self]
  rfl
 have mp:∀ ks:List Nat,(∀ k∈ks,∃ y,M.ns[k]?=some y)->(ks.map fun k=>D.ref (oz (M.give i x pen w a l).ns k))=ks.map fun k=>D.ref (oz M.ns k):=fun ks hk=>Mq fun k hk'=>by
  obtain⟨y,e⟩:=hk k hk';rw[ad k y e]
 refine⟨⟨ins h.pap.1,lst (Ne.symm (l2 x mx).1) h.pap.2.1,off _ _ ?_ h.pap.2.2.1,off _ _ ?_ h.pap.2.2.2⟩,ins h.ins,?_,?_,h3,?_⟩
 ·show M.s∉[M.kn,M.gr,x.l];simp only[Le,Lg,or_false,not_or];exact⟨ok.sk,(fun z=>by have e:=h.pap.2.2.1;rw[z,h.gr]at e;cases e),(fun z=>by have e:=h.pap.2.2.1;rw[z,hxl]at e;cases e)⟩
 ·show M.g∉[M.kn,M.gr,x.l];simp only[Le,Lg,or_false,not_or];exact⟨(fun z=>by have e:=h.pap.2.2.2;rw[z,h.kn]at e;cases e),ok.gg,(fun z=>by have e:=h.pap.2.2.2;rw[z,hxl]at e;cases e)⟩
 ·show G3 M.la=some (.lst (M.lay.map _));rw[mp M.lay fun k hk=>let ⟨y,e,_⟩:=ok.lay k hk;⟨y,e⟩];exact lst (Ne.symm (l2 x mx).2) h.lay
 ·show G3 M.kn=_;rw[h2];unfold Mg.kns;rw[sS (mH ok pen)];show _=some (GO.dT hw0 ((M.ns.set i _ ++ [_]).map _))
  rw[LQ,map_set (f:=fun x:Nd=>(x.nm.key,D.ref x.a)) (x':={ x with ks:=x.ks ++ [M.ns.length] }) hx rfl]
  rfl
 ·intro y hy;rcases mem_append.mp hy with hy|hy
  ·obtain⟨k,e⟩:=List.mem_iff_getElem?.mp hy;rw[sJ hx]at e;split at e
   ·cases e;refine⟨?_,?_⟩
    ·obtain⟨C,L,ds,e⟩:=ud (CA:=CA) (CN:=CN) x;have q:=(h.nds x mx).1;rw[e]at q;have q':=ins q;rw[<- e]at q';exact q'
    ·show G3 x.l=some (.lst ((x.ks ++ [M.ns.length]).map _));rw[LQ,mp x.ks fun k hk=>let ⟨y,e,_⟩:=ok.tre.kid x mx k hk;⟨y,e⟩,h1];simp only[K3,NS,an]
   ·rename_i hik;have my:=K0 e;refine⟨?_,?_⟩
    ·obtain⟨C,L,ds,e'⟩:=ud (CA:=CA) (CN:=CN) y;have q:=(h.nds y my).1;rw[e']at q;have q':=ins q;rw[<- e']at q';exact q'
    ·rw[mp y.ks fun k hk=>let ⟨z,e,_⟩:=ok.tre.kid y my k hk;⟨z,e⟩];exact lst (fun z=>hik (sd l3 hx e z.symm)) (h.nds y my).2
  ·cases mem_singleton.mp hy;exact⟨h4,h5⟩
theorem MAt.put{CA CN CM CP:KE}{hw0:List ar->Int}{G G3:Gp}{m:KE}{M:Mg}{n:Nat}{pen w:Str}{a l:KE}{ss:List Sl}(h:MAt CA CN CM CP hw0 G m M)(ok:M.ok n)(off:wx [M.kn,M.gr,M.la] G G3)
  (h1:G3 M.la=some (.lst ((M.lay.map fun k=>.ref (oz M.ns k)) ++ [.ref a]))) (h2:G3 M.kn=some (.dT hw0 (aS M.kns (Nm.key (pen,aF M.gs pen+1)) (.ref a)))) (h3:G3 M.gr=some (.dK (aS M.gs (.inr pen) (.int (aF M.gs pen+1)))))
  (h4:G3 a=some (.ins CN jm [Nt pen (aF M.gs pen+1),.str w,.int (1:Nat),.ref l,.lst (ss.map Sl.d)])) (h5:G3 l=some (.lst [])):MAt CA CN CM CP hw0 G3 m (M.put pen w a l ss):=by
 obtain⟨l1,l2,l3⟩:=vJ ok;have hxl:=h.lay;have ins:∀ {b:KE} {C:KE} {L:List Str} {ds:List D},G b=some (.ins C L ds)->G3 b=some (.ins C L ds):=fun {b C L ds} e=>off b _ (by
  simp only[Le,Lg,or_false,not_or];exact⟨(fun z=>by rw[z,h.kn]at e;cases e),(fun z=>by rw[z,h.gr]at e;cases e),(fun z=>by rw[z,hxl]at e;cases e)⟩) e
 have lst:∀ {b:KE} {ds:List D},b≠M.la->G b=some (.lst ds)->G3 b=some (.lst ds):=fun {b ds} nb e=>off b _ (by
  simp only[Le,Lg,or_false,not_or];exact⟨(fun z=>by rw[z,h.kn]at e;cases e),(fun z=>by rw[z,h.gr]at e;cases e),nb⟩) e
 have ad:∀ k y,M.ns[k]?=some y->oz (M.put pen w a l ss).ns k=oz M.ns k:=fun k y e=>zj e;have an:oz (M.put pen w a l ss).ns M.ns.length=a:=by
  refine uE (y:=⟨a,l,pen,aF M.gs pen+1,w,1,[],some ss⟩) ?_;show (M.ns ++ [_])[M.ns.length]?=_
  rw[LJ (le_refl _),Nat.sub_self];rfl
 have mp:∀ ks:List Nat,(∀ k∈ks,∃ y,M.ns[k]?=some y)->(ks.map fun k=>D.ref (oz (M.put pen w a l ss).ns k))=ks.map fun k=>D.ref (oz M.ns k):=fun ks hk=>Mq fun k hk'=>by
  obtain⟨y,e⟩:=hk k hk';rw[ad k y e]
 refine⟨⟨ins h.pap.1,lst l1 h.pap.2.1,off _ _ ?_ h.pap.2.2.1,off _ _ ?_ h.pap.2.2.2⟩,ins h.ins,?_,?_,h3,?_⟩
 ·show M.s∉[M.kn,M.gr,M.la];simp only[Le,Lg,or_false,not_or];exact⟨ok.sk,(fun z=>by have e:=h.pap.2.2.1;rw[z,h.gr]at e;cases e),(fun z=>by have e:=h.pap.2.2.1;rw[z,hxl]at e;cases e)⟩
 ·show M.g∉[M.kn,M.gr,M.la];simp only[Le,Lg,or_false,not_or];exact⟨(fun z=>by have e:=h.pap.2.2.2;rw[z,h.kn]at e;cases e),ok.gg,(fun z=>by have e:=h.pap.2.2.2;rw[z,hxl]at e;cases e)⟩
 ·show G3 M.la=some (.lst ((M.lay ++ [M.ns.length]).map _));rw[LQ,mp M.lay fun k hk=>let ⟨y,e,_⟩:=ok.lay k hk;⟨y,e⟩,h1];simp only[K3,NS,an]
 ·show G3 M.kn=_;rw[h2];unfold Mg.kns;rw[sS (mH ok pen)];show _=some (GO.dT hw0 ((M.ns ++ [_]).map _))
  rw[LQ];rfl
 ·intro y hy;rcases mem_append.mp hy with my|hy
  ·refine⟨?_,?_⟩
   ·obtain⟨C,L,ds,e'⟩:=ud (CA:=CA) (CN:=CN) y;have q:=(h.nds y my).1;rw[e']at q;have q':=ins q;rw[<- e']at q';exact q'
   ·rw[mp y.ks fun k hk=>let ⟨z,e,_⟩:=ok.tre.kid y my k hk;⟨z,e⟩];exact lst (l2 y my).2 (h.nds y my).2
  ·cases mem_singleton.mp hy;exact⟨h4,h5⟩
theorem Ij{M:Mg}{n i:Nat}{x:Nd}(ok:M.ok n)(hx:M.ns[i]?=some x):cW M.kns x.nm.key=some (.ref x.a):=zh (f:=fun x=>.ref x.a) ok.nd (K0 hx)
theorem lr(zF:Zz)(hw:HW):∀ ds G Q,bJ zF hw ds G Q->gK zF hw { nx:=fun _ G'=>Q .non G',rt:=Q } (aw Ao0 ds) G:=by
 intro ds G Q h;unfold bJ at h;split at h
 ·rename_i m pen a b w;obtain⟨M,i,x,⟨hm,ok,hx,e,hd⟩,h⟩:=h;have hs:=aq;have mx:=K0 hx;have hk:cW M.kns (Nm.key (a,b))=some (.ref x.a):=e ▸ Ij ok hx;obtain⟨gx,gl⟩:=hm.nds x mx;have fx:=ok.tre.few x mx;have lk:M.kns.length<=59:=by unfold Mg.kns;rw[KP];exact ok.len
  have lg:=ok.gl;unfold gK;refine gZ (fun K hK=>gq (nm:=(a,b)) (a:=M.kn) (kvs:=M.kns) (fun Q q=>aD (i:=2) (by rfl) q) (fun Q q=>eA (i:=0) (by rfl) hm.ins (by rfl) q) hm.kn (by rw[hk];exact hK)) ?_
  refine aT (ur (nm:=(a,b)) (a:=M.kn) (kvs:=M.kns) (fun Q q=>eA (i:=0) (by rfl) hm.ins (by rfl) q) (fun Q q=>aD (i:=2) (by rfl) q) hm.kn hk ?_)
  refine gZ (fun K hK=>?_) ?_
  ·unfold cK eL;refine fb_depth zF hw (x:=x) (i:=4) rfl gx ⟨True.intro,True.intro,?_⟩;have e:dE (.int x.dep) (.int 10)=false:=bD fun z=>by have:=D.int.inj z;omega
   show K (dE (.int x.dep) (.int 10)) G
   rw[e];exact hK
  refine aT ?_;unfold iA ae;refine dP (i:=0) (ds:=[.str pen]) rfl hm.ins (fun _ h=>h) ⟨M,⟨hm,ok.le (by decide)⟩,?_⟩
  refine aD (i:=3) rfl ?_;refine fb_depth zF hw (x:=x) (i:=4) rfl gx ?_;intro a' ha';refine⟨zF.C_Answer,⟨.inl rfl,ai⟩,fun l G1 off gl' la g1 gl1=>⟨rfl,?_⟩⟩;have gl0:G l=none:=(af la).symm.trans gl';have old:∀ b o,G b=some o->G1 b=some o:=fun b o e=>by
   have hb:b≠a':=fun z=>by rw[z,ha']at e;cases e
   exact off b o (by simpa using hb) ((af hb).trans e)
  have n1:x.l≠M.kn:=fun z=>by rw[z,hm.kn]at gl;cases gl
  have n2:x.l≠M.gr:=fun z=>by rw[z,hm.gr]at gl;cases gl
  have n3:M.kn≠M.gr:=fun z=>by have e:=hm.kn;rw[z,hm.gr]at e;cases e
  have n4:m≠x.l:=fun z=>by have e:=hm.ins;rw[z,gl]at e;cases e
  have a1:a'≠x.l:=fun z=>by rw[z,gl]at ha';cases ha'
  have a2:a'≠M.kn:=fun z=>by rw[z,hm.kn]at ha';cases ha'
  have a3:a'≠M.gr:=fun z=>by rw[z,hm.gr]at ha';cases ha'
  have b1:l≠x.l:=fun z=>by rw[z,gl]at gl0;cases gl0
  have b2:l≠M.kn:=fun z=>by rw[z,hm.kn]at gl0;cases gl0
  have b3:l≠M.gr:=fun z=>by rw[z,hm.gr]at gl0;cases gl0
  show sSeq _ _ _ _ _
  rw[az];unfold iT fT;refine fb_answers zF hw (x:=x) (i:=4) rfl (old _ _ gx) ⟨⟨_,old _ _ gl⟩,?_⟩;refine aD (i:=5) rfl ?_;show match G1 x.l with|some (.lst ds)=>_|_=>_
  rw[old _ _ gl];refine⟨by rw[KP];omega,?_⟩
  unfold bb;dsimp only;refine dP (i:=0) (ds:=[.ref a']) rfl ((af n4).trans (old _ _ hm.ins)) (fun _ h=>h) ⟨⟨a',l,pen,aF M.gs pen+1,w,x.dep+1,[],none⟩,M.p,M.la,M.kn,M.gr,M.kns,M.gs,⟨(af n4).trans (old _ _ hm.ins),(af (Ne.symm n1)).trans (old _ _ hm.kn),(af (Ne.symm n2)).trans (old _ _ hm.gr),(af a1).trans g1,by walk_at "o",by walk_at "o"⟩,?_⟩
  have QT:wx [M.kn,M.gr,x.l] G (gset (gset (gset G1 x.l (.lst ((x.ks.map fun k=>.ref (oz M.ns k)) ++ [.ref a']))) M.kn (.dT hw (aS M.kns (Nm.key (pen,aF M.gs pen+1)) (.ref a')))) M.gr (.dK (aS M.gs (.inr pen) (.int (aF M.gs pen+1))))):=fun b o hb e=>by
   simp only[Le,Lg,or_false,not_or]at hb;rw[af hb.2.1,af hb.1,af hb.2.2];exact old b o e
  refine h a' l _ (hm.give ok hx QT ?_ ?_ ai ?_ ?_) (Ne.symm la) ha' gl0 QT
  ·rw[af n2,af n1];exact ai
  ·rw[af n3];exact ai
  ·rw[af a3,af a2,af a1];exact g1
  ·rw[af b3,af b2,af b1];exact gl1
 ·exact h.elim
theorem kz(zF:Zz)(hw:HW)(C0 C1 C2:KE):∀ EQ ds G Q,bU zF hw C0 C1 C2 ds G Q EQ->gF zF hw C0 C1 C2 EQ { nx:=fun _ G'=>Q .non G',rt:=Q } (aw Ao0 ds) G:=by
 intro EQ ds G Q h;unfold bU at h;split at h
 ·rename_i m pen a b w;obtain⟨M,⟨hm,ok⟩,h⟩:=h;have hs:=aq;unfold gF;rcases h with ⟨hn,h⟩|⟨x,mx,e,hd,h⟩
  ·have hk:cW M.kns (Nm.key (a,b))=none:=zf hn;rw[az];refine eQ true (fun K hK=>gq (nm:=(a,b)) (a:=M.kn) (kvs:=M.kns) (fun Q q=>aD (i:=2) (by rfl) q) (fun Q q=>eA (i:=0) (by rfl) hm.ins (by rfl) q) hm.kn (by rw[hk];exact hK)) (iteT ?_)
   exact⟨_,rfl,h⟩
  ·have hk:cW M.kns (Nm.key (a,b))=some (.ref x.a):=e ▸ zh (f:=fun x=>.ref x.a) ok.nd mx;obtain⟨gx,gl⟩:=hm.nds x mx;refine gZ (fun K hK=>gq (nm:=(a,b)) (a:=M.kn) (kvs:=M.kns) (fun Q q=>aD (i:=2) (by rfl) q) (fun Q q=>eA (i:=0) (by rfl) hm.ins (by rfl) q) hm.kn (by rw[hk];exact hK)) ?_
   refine aT (ur (nm:=(a,b)) (a:=M.kn) (kvs:=M.kns) (fun Q q=>eA (i:=0) (by rfl) hm.ins (by rfl) q) (fun Q q=>aD (i:=2) (by rfl) q) hm.kn hk ?_)
   rw[az];refine eQ true (fun K hK=>?_) (iteT ?_)
   ·unfold cK eL;refine fb_depth zF hw (x:=x) (i:=4) rfl gx ⟨True.intro,True.intro,?_⟩;have e:dE (.int x.dep) (.int 10)=true:=Cq (by rw[hd];rfl)
    show K (dE (.int x.dep) (.int 10)) G
    rw[e];exact hK
   ·exact⟨_,rfl,h⟩
 ·exact h.elim
theorem xU{i:Nat}{tab:List (KE×Str×(D->KE->bh))}{rb:XQ->bh}{u:bh}{E:Ends3}{σ:cL}{G:Gp}(h:rb (fun C a d G2=>∃ t,(C,a,t)∈tab/\∀ x,G2 x=none->t d x (Ends3.un i { E with nx:=u E }) (σ.set i (some (.ref x))) G2) { E with nx:=u E } σ G):sSeq (xV tab i rb) u E σ G:=h
theorem vH{σ:cL}{G:Gp}{C p:KE}{L:List Str}{fs ds:List D}{sp:wu}{ta:iF}{i:Nat}{D:Ends3}{EQ:XQ}(hσ:σ[i]?=some (some (.ref p)))(hg:G p=some (.ins C L fs))(ha:∀ Q:List L3.D->Gp->Prop,Q ds G->ta σ G Q)(h:sp (.ref p::ds) G (fun _ G'=>D.nx σ G') EQ):pd C L sp (ag i) ta EQ D σ G:=by
 unfold pd ag;rw[hσ];dsimp only;rw[hg];exact⟨⟨rfl,rfl⟩,ha _ h⟩
theorem fG{x:KE}{c:D}{b:Bool}{σ:cL}{G:Gp}{K:Bool->Gp->Prop}{i:Nat}(hσ:σ[i]?=some (some (.ref x)))(h:K b G)(hv:val c=c:=by rfl):gu (eB (jf x c b) (ae (ag i) (ae (eC c) av))) σ G K:=by
 unfold gu eB ae;refine aD hσ ⟨?_,True.intro,h⟩;show [_,val c]=_
 rw[hv];rfl
theorem pA(zF:Zz)(hw:HW)(C0 C1 C2 C3 C4:KE):∀ ds G Q,cE zF hw ds G Q->j0 zF hw C0 C1 C2 C3 C4 { nx:=fun _ G'=>Q .non G',rt:=Q } (aw Ar0 ds) G:=by
 intro ds G Q h;unfold cE at h;split at h
 ·rename_i m pen a b w;obtain⟨M,⟨hm,ok⟩,h⟩:=h;have hs:=aq;unfold j0;refine xU (vH (i:=0) (ds:=[.str pen,Nt a b,.str w]) rfl hm.ins (fun _ h=>h) ⟨M,⟨hm,ok⟩,?_⟩);rcases h with ⟨hn,h⟩|⟨x,mx,e,hd,h⟩
  ·refine .inl ⟨hn,⟨_,KU,fun x hx=>?_⟩⟩;refine gZ (fun K hK=>?_) ?_
   ·unfold mh dX;exact fG (i:=4) rfl (iteF (fG (i:=4) rfl (iteF (fG (i:=4) rfl hK))))
   refine gZ (fun K hK=>?_) ?_
   ·unfold kS;exact fG (i:=4) rfl (iteF hK)
   rw[az];refine eQ true (fun K hK=>?_) (iteT ⟨⟨_,rfl⟩,rfl,h⟩);unfold kS dX;exact fG (i:=4) rfl (iteT (fG (i:=4) rfl hK))
  ·refine .inr ⟨x,mx,e,hd,⟨_,KZ _ KU,fun x hx=>?_⟩⟩;refine gZ (fun K hK=>?_) ?_
   ·unfold mh dX;exact fG (i:=4) rfl (iteF (fG (i:=4) rfl (iteF (fG (i:=4) rfl hK))))
   rw[az];refine eQ true (fun K hK=>?_) (iteT ⟨⟨_,rfl⟩,rfl,h⟩);unfold kS dX;exact fG (i:=4) rfl (iteT (fG (i:=4) rfl hK))
 ·exact h.elim
theorem kt(zF:Zz)(hw:HW)(C0 C1 C2:KE):∀ EQ ds G Q,bT zF hw C0 C1 C2 ds G Q EQ->gC zF hw C0 C1 C2 EQ { nx:=fun _ G'=>Q .non G',rt:=Q } (aw AC0 ds) G:=by
 intro EQ ds G Q h;unfold bT at h;split at h
 ·rename_i i j n;unfold gC;rcases h with ⟨h1,h⟩|⟨h1,h2,h⟩
  ·rw[az];refine eQ true (fun K hK=>?_) (iteT ⟨_,rfl,h⟩);clear h;walk_at "st"
   by_cases z:0<=i
   ·rw[if_pos z,decide_eq_false fun z'=>h1 ⟨z,z'⟩];exact hK
   ·rw[if_neg z];exact True.intro
  ·refine gZ (fun K hK=>?_) ?_
   ·clear h;walk_at "st";rw[decide_eq_true True.intro];exact hK
   ·refine eQ true (fun K hK=>?_) (iteT ⟨_,rfl,h⟩);clear h;walk_at "st"
    by_cases z:i < j
    ·rw[if_pos z,decide_eq_false fun z'=>h2 ⟨z,z'⟩];exact hK
    ·rw[if_neg z];exact True.intro
 ·exact h.elim
theorem mr(zF:Zz)(hw:HW)(C0 C1 C2:KE):∀ EQ ds G Q,cy zF hw C0 C1 C2 ds G Q EQ->iU zF hw C0 C1 C2 EQ { nx:=fun _ G'=>Q .non G',rt:=Q } (aw Aj0 ds) G:=by
 intro EQ ds G Q h;unfold cy at h;split at h
 ·rename_i m pen i j w;obtain⟨M,⟨hm,ok⟩,h⟩:=h;have hs:=aq;have lv:=vt ok;unfold iU;refine aT (oV zF hw (i:=0) rfl hm ok fun G1 e1=>?_);rw[az];have q:=h G1 e1;have el:((M.vw.map Seat.d3).length:Int)=M.old.length:=by rw[KP,lv.1]
  rw[<- el]at q;exact q
 ·exact h.elim
theorem nP(zF:Zz)(hw:HW)(C0 C1 C2 C3 C4:KE):∀ ds G Q,bc zF hw ds G Q->iX zF hw C0 C1 C2 C3 C4 { nx:=fun _ G'=>Q .non G',rt:=Q } (aw Av0 ds) G:=by
 intro ds G Q h;unfold bc at h;split at h
 ·rename_i m pen i j;obtain⟨M,⟨hm,ok⟩,h⟩:=h;unfold iX;refine xU (vH (i:=0) (ds:=[.str pen,.int i,.int j,.str "x"]) rfl hm.ins (fun _ h=>h) ⟨M,⟨hm,ok⟩,fun G' e=>?_⟩);rcases h G' e with ⟨h1,h⟩|⟨h1,h2,h⟩
  ·exact .inl ⟨h1,_,KU,fun x hx=>⟨⟨_,rfl⟩,rfl,h⟩⟩
  ·exact .inr ⟨h1,h2,_,KU,fun x hx=>⟨⟨_,rfl⟩,rfl,h⟩⟩
 ·exact h.elim
theorem u0{te:aL}{u:bh}{E:Ends3}{σ:cL}{G:Gp}(h:te σ G fun _ G'=>u E σ G'):sSeq (iT te) u E σ G:=h
theorem nR(zF:Zz)(hw:HW):∀ ds G Q,bM zF hw ds G Q->iZ zF hw { nx:=fun _ G'=>Q .non G',rt:=Q } (aw Aj0 ds) G:=by
 intro ds G Q h;unfold bM at h;split at h
 ·rename_i m pen i j w;obtain⟨M,⟨hm0,ok,h0,h1,h2⟩,h⟩:=h;have hs:=aq;have lv:=vt ok;have lk:M.kns.length<=59:=by unfold Mg.kns;rw[KP];exact ok.len
  have lg:=ok.gl;have ll:=ok.lly;unfold iZ;refine aT (oV zF hw (i:=0) rfl hm0 ok fun G0 e0=>?_);have hm:=hm0.ext e0;have el:((M.vw.map Seat.d3).length:Int)=M.old.length:=by rw[KP,lv.1]
  refine u0 ?_;unfold aM ae;refine⟨⟨h0,?_,h1,?_⟩,?_⟩
  ·show i < ((M.vw.map Seat.d3).length:Int);omega
  ·show j<=((M.vw.map Seat.d3).length:Int);omega
  show sSeq _ _ _ _ _
  refine aT ?_;unfold iA;refine dP (i:=0) (ds:=[.str pen]) rfl hm.ins (fun _ h=>h) ⟨M,⟨hm,ok.le (by decide)⟩,?_⟩
  refine aD (i:=4) rfl ?_;unfold dS fH C7 ix;refine aD (i:=5) rfl ?_;refine aD (i:=2) rfl ?_;refine aD (i:=3) rfl ?_;have ec:L3.cutD (M.vw.map Seat.d3) (some i) (some j)=((M.vw.drop i.toNat).take (j - i).toNat).map Seat.d3:=by
   rw[we h0 (by walk_at "o"),List.map_take,List.map_drop]
   congr 1;omega
  simp only[A9,val,sB,dQ];rw[ec];have lss:((M.vw.drop i.toNat).take (j - i).toNat).length<=20:=le_trans (List.length_take_le' _ _) (by rw[ND];omega)
  generalize (M.vw.drop i.toNat).take (j - i).toNat=vs at lss;refine eM En (by rw[KP];omega) (fun d hd P hP=>?_) ?_
  ·obtain⟨s,_,rfl⟩:=mem_map.mp hd;exact⟨⟨LR rfl,rfl⟩,hP _ rfl⟩
  have en:(vs.map Seat.d3).map En=(vs.map Seat.name).map Sl.d:=by rw[LL,LL];rfl
  rw[en];intro a' ha';refine⟨ai,fun l G1 off gl' la g1 gl1=>⟨rfl,?_⟩⟩;have gl0:G0 l=none:=(af la).symm.trans gl';have old:∀ b o,G0 b=some o->G1 b=some o:=fun b o e=>by
   have hb:b≠a':=fun z=>by rw[z,ha']at e;cases e
   exact off b o (by simpa using hb) ((af hb).trans e)
  have R_:∀ b,G0 b=none->G b=none:=fun b e=>by
   cases z:G b with
   | none=>rfl
   | some o=>rw[e0 b o z]at e;cases e
  have gl:=hm.lay;have n1:M.la≠M.kn:=fun z=>by rw[z,hm.kn]at gl;cases gl
  have n2:M.la≠M.gr:=fun z=>by rw[z,hm.gr]at gl;cases gl
  have n3:M.kn≠M.gr:=fun z=>by have e:=hm.kn;rw[z,hm.gr]at e;cases e
  have n4:m≠M.la:=fun z=>by have e:=hm.ins;rw[z,gl]at e;cases e
  have a1:a'≠M.la:=fun z=>by rw[z,gl]at ha';cases ha'
  have a2:a'≠M.kn:=fun z=>by rw[z,hm.kn]at ha';cases ha'
  have a3:a'≠M.gr:=fun z=>by rw[z,hm.gr]at ha';cases ha'
  have b1:l≠M.la:=fun z=>by rw[z,gl]at gl0;cases gl0
  have b2:l≠M.kn:=fun z=>by rw[z,hm.kn]at gl0;cases gl0
  have b3:l≠M.gr:=fun z=>by rw[z,hm.gr]at gl0;cases gl0
  show sSeq _ _ _ _ _
  refine u0 ?_;unfold fT;refine eA (i:=0) (v:=.ref M.la) rfl (old _ _ hm.ins) rfl ⟨⟨_,old _ _ gl⟩,?_⟩;refine aD (i:=6) rfl ?_;show match G1 M.la with|some (.lst ds)=>_|_=>_
  rw[old _ _ gl];refine⟨by rw[KP];omega,?_⟩
  unfold bb;dsimp only;refine dP (i:=0) (ds:=[.ref a']) rfl ((af n4).trans (old _ _ hm.ins)) (fun _ h=>h) ⟨⟨a',l,pen,aF M.gs pen+1,w,1,[],some (vs.map Seat.name)⟩,M.p,M.la,M.kn,M.gr,M.kns,M.gs,⟨(af n4).trans (old _ _ hm.ins),(af (Ne.symm n1)).trans (old _ _ hm.kn),(af (Ne.symm n2)).trans (old _ _ hm.gr),(af a1).trans g1,by walk_at "o",by walk_at "o"⟩,?_⟩
  have QT:wx [M.kn,M.gr,M.la] G0 (gset (gset (gset G1 M.la (.lst ((M.lay.map fun k=>.ref (oz M.ns k)) ++ [.ref a']))) M.kn (.dT hw (aS M.kns (Nm.key (pen,aF M.gs pen+1)) (.ref a')))) M.gr (.dK (aS M.gs (.inr pen) (.int (aF M.gs pen+1))))):=fun b o hb e=>by
   simp only[Le,Lg,or_false,not_or]at hb;rw[af hb.2.1,af hb.1,af hb.2.2];exact old b o e
  refine h a' l (vs.map Seat.name) _ (hm.put ok QT ?_ ?_ ai ?_ ?_) (Ne.symm la) (R_ _ ha') (R_ _ gl0) (by rw[KP];omega) (fun b o hb e=>QT b o hb (e0 b o e))
  ·rw[af n2,af n1];exact ai
  ·rw[af n3];exact ai
  ·rw[af a3,af a2,af a1];exact g1
  ·rw[af b3,af b2,af b1];exact gl1
 ·exact h.elim
theorem mv(zF:Zz)(hw:HW):∀ ds G Q,bz zF hw ds G Q->iu zF hw { nx:=fun _ G'=>Q .non G',rt:=Q } (aw Ak0 ds) G:=by
 intro ds G Q h;unfold bz at h;split at h
 ·rename_i z k;obtain⟨M,⟨gz,ne,ln,hk⟩,h⟩:=h;have hs:=aq;unfold iu;refine aT (aD (i:=0) rfl ⟨hw,M.deps,gz,M.ns.map fun x=>(x.dep:Int),by unfold Mg.deps;rw[LL,LL];rfl,by simpa using ne,fun m hm=>?_⟩)
  obtain⟨x0,hx0,rfl⟩:=mem_map.mp hm;refine aT ?_;unfold uq;refine aD (i:=0) rfl ⟨hw,M.deps,gz,fun ob xs=>?_⟩;refine⟨fun i acc G'=>G'=gset G z (.dF ob hw xs M.deps)/\(∀ d∈acc,∃ a b,d=Nt a b)/\acc.length<=i/\∀ k0,M.ns[k0]?=some x0->k0 < i->acc≠[],⟨rfl,(fun d hd=>nomatch hd),le_refl _,fun k0 _ z=>absurd z (Nat.not_lt_zero _)⟩,(fun i acc G' hp=>by rw[hp.1];exact ai),?_,?_⟩
  ·rintro i d acc G' hd ⟨rfl,p1,p2,p3⟩
   unfold Mg.deps at hd;rw[K8,K8]at hd;cases hy:M.ns[i]? with
   | none=>rw[hy]at hd;cases hd
   | some y=>
    rw[hy]at hd;cases hd;refine⟨rfl,⟨LR rfl,rfl⟩,?_⟩;refine Fn (dE (.int y.dep) (.int x0.dep)) (dE (.int y.dep) (.int 10)) (fun K hK=>⟨True.intro,True.intro,hK⟩) (fun _ K hK=>⟨True.intro,True.intro,hK⟩) _ ?_;refine ite2 (fun _=>⟨rfl,?_,?_,fun k0 e0 l0 z=>?_⟩) fun z=>⟨rfl,p1,by walk_at "o",fun k0 e0 l0=>p3 k0 e0 ?_⟩
    ·intro d hd;rcases mem_append.mp hd with hd|hd
     ·exact p1 d hd
     ·exact⟨y.pen,y.num,mem_singleton.mp hd⟩
    ·rw[Lc];exact MO p2
    ·exact absurd z (by simp)
    ·rcases MC k0 i with l|l
     ·exact l
     ·have:k0=i:=by walk_at "o"
      subst this;rw[hy]at e0;cases e0;rw[bg]at z;cases z
  ·rintro acc G' ⟨rfl,p1,p2,p3⟩
   rw[d9,Aq gz];obtain⟨k0,e0⟩:=List.mem_iff_getElem?.mp hx0;have l0:k0 < (M.deps.map IT).length:=by unfold Mg.deps;rw[KP,KP];exact (List.getElem?_eq_some_iff.mp e0).1
   have hne:=p3 k0 e0 l0;have lp:0 < acc.length:=List.length_pos_iff.mpr hne;have la:acc.length<=60:=by unfold Mg.deps at p2;rw[KP,KP]at p2;omega
   clear p3 p2;have hb:=eK (a:=k) (b:=(acc.length:Int)) (by walk_at "o")
   have hat:=wn (ds:=acc) (i:=k % (acc.length:Int)) hb.1 hb.2;obtain⟨a,b,e⟩:=p1 _ (List.getElem_mem (l:=acc) (n:=(k % (acc.length:Int)).toNat) (by walk_at "o"))
   unfold bb cV eB ae;refine aD (i:=3) rfl (aD (i:=1) rfl (aD (i:=3) rfl ⟨by show (0:Int) < (acc.length:Int);omega,?_⟩))
   show match l6 acc (k % (acc.length:Int)) with|some d=>_|none=>_
   rw[hat,e];exact h a b
 ·exact h.elim
theorem sL{c:iJ}{t u:bh}{E:Ends3}{σ:cL}{G:Gp}(b:Bool)(hc:∀ K:Bool->Gp->Prop,K b G->c σ G K)(h1:b=true->t { E with nx:=u E } σ G)(h2:b=false->u E σ G):sSeq (iR c t dG) u E σ G:=eQ b hc (ite2 h1 h2)
theorem qZ(zF:Zz)(hw:HW):∀ ds G Q,cY zF hw ds G Q->lB zF hw { nx:=fun _ G'=>Q .non G',rt:=Q } (aw Ap0 ds) G:=by
 intro ds G Q h;unfold cY at h;split at h
 ·rename_i z c cell;obtain⟨M,⟨gz,gc,ne,ln⟩,h⟩:=h;have hs:=aq;unfold lB;refine aT ?_;unfold cV;refine⟨⟨by decide,by decide⟩,fun r r0 r1=>⟨(by decide:(0:Int) < 8),?_⟩⟩
  show sSeq _ _ _ _ _
  refine sL (decide (r % 8 < 4)) (fun K hK=>hK) (fun _=>?_) fun _=>?_
  ·unfold bb aM ae;refine aD (i:=0) rfl ⟨⟨by decide,by decide⟩,fun r r0 r1=>⟨M,⟨gz,ne,ln,r0⟩,h⟩⟩
  refine sL (dE (.int (r % 8)) (.int 4)) (fun K hK=>⟨True.intro,True.intro,hK⟩) (fun _=>?_) fun _=>?_
  ·unfold bb eg ae;refine lY (a:=c) (kvs:=M.cts) (pen:=KH "ann") (d:=.int (aF M.gs (KH "ann"))) (fun Q q=>aD (i:=1) (by rfl) q) (fun Q q=>q) gc (by rfl) ?_
   refine⟨⟨by decide,by decide⟩,fun r r0 r1=>⟨(by decide:(0:Int) < 9),by show 2<=_;omega,h _ _⟩⟩
  refine sL (dE (.int (r % 8)) (.int 5)) (fun K hK=>⟨True.intro,True.intro,hK⟩) (fun _=>?_) fun _=>?_
  ·unfold bb eg ae;refine⟨by show 3<=_;omega,⟨by decide,by decide⟩,fun r r0 r1=>⟨(by decide:(0:Int) < 3),?_⟩⟩
   have hb:=eK (a:=r) (b:=3) (by decide)
   have cs:r % 3=0\/r % 3=1\/r % 3=2:=by walk_at "o"
   have fin:∀ x:Str,(2<=KM/\Q (.tup [.str x,.int 1]) G):=fun x=>⟨by walk_at "o",h _ _⟩
   rcases cs with e|e|e
   ·show wt (.lst [.str (KH "cyd"),.str (KH "an"),.str (KH "annn")]) (.int (r % 3)) G _;rw[e];exact fin _
   ·show wt (.lst [.str (KH "cyd"),.str (KH "an"),.str (KH "annn")]) (.int (r % 3)) G _;rw[e];exact fin _
   ·show wt (.lst [.str (KH "cyd"),.str (KH "an"),.str (KH "annn")]) (.int (r % 3)) G _;rw[e];exact fin _
  refine aT (aD (i:=0) rfl ⟨hw,M.deps,gz,?_⟩);have kn:M.deps.map qe=M.ns.map fun x=>x.nm.d:=by unfold Mg.deps;rw[LL];rfl
  rw[kn];have lp:0 < (M.ns.map fun x=>x.nm.d).length:=by rw[KP];exact List.length_pos_iff.mpr ne
  unfold bb eB ae;refine aD (i:=4) rfl ⟨⟨by decide,by decide⟩,fun r r0 r1=>aD (i:=4) rfl ⟨by show (0:Int) < ((M.ns.map fun x=>x.nm.d).length:Int);omega,?_⟩⟩
  have hb:=eK (a:=r) (b:=((M.ns.map fun x=>x.nm.d).length:Int)) (by walk_at "o")
  have hat:=wn (ds:=M.ns.map fun x=>x.nm.d) (i:=r % ((M.ns.map fun x=>x.nm.d).length:Int)) hb.1 hb.2;show match l6 (M.ns.map fun x=>x.nm.d) (r % ((M.ns.map fun x=>x.nm.d).length:Int)) with|some d=>_|none=>_
  rw[hat,List.getElem_map];exact h _ _
 ·exact h.elim
theorem MAt.other{CA CN CM CP:KE}{hw0:List ar->Int}{G:Gp}{m q:KE}{M:Mg}{o o':GO}(h:MAt CA CN CM CP hw0 G m M)(hq:G q=some o)(kind:(∃ kvs,o=.dK kvs)\/∃ hw' kvs,o=.dT hw' kvs)(n1:q≠M.kn)(n2:q≠M.gr)(n3:q≠M.s)(n4:q≠M.g):MAt CA CN CM CP hw0 (gset G q o') m M:=by
 have ins:∀ {b:KE} {C:KE} {L:List Str} {ds:List D},G b=some (.ins C L ds)->gset G q o' b=some (.ins C L ds):=fun {b C L ds} e=>(af fun z=>by rw[z,hq]at e;cases e;rcases kind with ⟨_,e⟩|⟨_,_,e⟩<;>cases e).trans e
 have lst:∀ {b:KE} {ds:List D},G b=some (.lst ds)->gset G q o' b=some (.lst ds):=fun {b ds} e=>(af fun z=>by rw[z,hq]at e;cases e;rcases kind with ⟨_,e⟩|⟨_,_,e⟩<;>cases e).trans e
 refine⟨⟨ins h.pap.1,lst h.pap.2.1,(af (Ne.symm n3)).trans h.pap.2.2.1,(af (Ne.symm n4)).trans h.pap.2.2.2⟩,ins h.ins,lst h.lay,(af (Ne.symm n1)).trans h.kn,(af (Ne.symm n2)).trans h.gr,fun x hx=>⟨?_,lst (h.nds x hx).2⟩⟩;obtain⟨C,L,ds,e⟩:=ud (CA:=CA) (CN:=CN) x;have:=(h.nds x hx).1;rw[e]at this ⊢;exact ins this
theorem LAt.ext{CA CN CM CP:KE}{hw0:List ar->Int}{G G':Gp}{m z c:KE}{M:Mg}(h:LAt CA CN CM CP hw0 G m z c M)(e:fW G G'):LAt CA CN CM CP hw0 G' m z c M:=⟨h.mar.ext e,e _ _ h.hz,e _ _ h.hc,h.zk,h.cg,h.zs,h.cp⟩
theorem uv{M:Mg}{pen:Str}(h:IE pen):cW M.cts (.inr pen)=some (.int (aF M.gs pen)):=by
 rcases h with rfl|rfl
 ·rfl
 ·rfl
theorem Ey{M M':Mg}{pen:Str}(h:IE pen)(e:M'.gs=aS M.gs (.inr pen) (.int (aF M.gs pen+1))):M'.cts=aS M.cts (.inr pen) (.int (aF M.gs pen+1)):=by
 have ne:¬ KH "ann"=KH "bob":=by decide +kernel
 have ne':¬ KH "bob"=KH "ann":=by decide +kernel
 unfold Mg.cts;rw[e,jA,jA];rcases h with rfl|rfl
 ·rw[if_pos rfl,if_neg ne'];rfl
 ·rw[if_neg ne,if_pos rfl];rfl
theorem Av{M:Mg}{n i:Nat}{x:Nd}{pen w:Str}{a l:KE}(ok:M.ok n)(hx:M.ns[i]?=some x):(M.give i x pen w a l).deps=aS M.deps (Nm.key (pen,aF M.gs pen+1)) (.int (x.dep+1:Nat)):=by
 unfold Mg.deps;rw[sS (mH ok pen)];show (M.ns.set i _ ++ [_]).map _=_
 rw[LQ,map_set (f:=fun x:Nd=>(x.nm.key,D.int x.dep)) (x':={ x with ks:=x.ks ++ [M.ns.length] }) hx rfl]
 rfl
theorem wb{M:Mg}{n:Nat}{pen w:Str}{a l:KE}{ss:List Sl}(ok:M.ok n):(M.put pen w a l ss).deps=aS M.deps (Nm.key (pen,aF M.gs pen+1)) (.int (1:Nat)):=by
 unfold Mg.deps;rw[sS (mH ok pen)];show (M.ns ++ [_]).map _=_
 rw[LQ];rfl
theorem LAt.next{CA CN CM CP:KE}{hw0:List ar->Int}{G G1:Gp}{m z c p:KE}{M M':Mg}{pen:Str}{dep:Nat}{ds:List D}(h:LAt CA CN CM CP hw0 G m z c M)(hm:MAt CA CN CM CP hw0 G1 m M')(off:wx [M.kn,M.gr,p] G G1)(hp:G p=some (.lst ds))(same:M'.kn=M.kn/\M'.gr=M.gr/\M'.s=M.s/\M'.g=M.g)(Sd:IE pen)
  (e1:M'.gs=aS M.gs (.inr pen) (.int (aF M.gs pen+1))) (e2:M'.deps=aS M.deps (Nm.key (pen,aF M.gs pen+1)) (.int dep)):
  G1 c=some (.dK M.cts)/\gset G1 c (.dK (aS M.cts (.inr pen) (.int (aF M.gs pen+1)))) z=some (.dT hw0 M.deps)/\LAt CA CN CM CP hw0 (gset (gset G1 c (.dK (aS M.cts (.inr pen) (.int (aF M.gs pen+1))))) z (.dT hw0 (aS M.deps (Nm.key (pen,aF M.gs pen+1)) (.int dep)))) m z c M':=by
 obtain⟨s1,s2,s3,s4⟩:=same;have hz:=h.hz;have hc:=h.hc;have zc:z≠c:=fun e=>by rw[e,hc]at hz;cases hz
 have gz:G1 z=some (.dT hw0 M.deps):=off z _ (by
  simp only[Le,Lg,or_false,not_or];exact⟨h.zk,(fun e=>by rw[e,h.mar.gr]at hz;cases hz),(fun e=>by rw[e,hp]at hz;cases hz)⟩) hz
 have gc:G1 c=some (.dK M.cts):=off c _ (by
  simp only[Le,Lg,or_false,not_or];exact⟨(fun e=>by rw[e,h.mar.kn]at hc;cases hc),h.cg,(fun e=>by rw[e,hp]at hc;cases hc)⟩) hc
 have ck:c≠M'.kn:=fun e=>by rw[e,hm.kn]at gc;cases gc
 have cs:c≠M'.s:=fun e=>by rw[e,hm.pap.2.2.1]at gc;cases gc
 have zg:z≠M'.gr:=fun e=>by rw[e,hm.gr]at gz;cases gz
 have zq:z≠M'.g:=fun e=>by rw[e,hm.pap.2.2.2]at gz;cases gz
 have gz2:gset G1 c (.dK (aS M.cts (.inr pen) (.int (aF M.gs pen+1)))) z=some (.dT hw0 M.deps):=(af zc).trans gz;have hm2:MAt CA CN CM CP hw0 (gset G1 c (.dK (aS M.cts (.inr pen) (.int (aF M.gs pen+1))))) m M':=hm.other gc (.inl ⟨_,rfl⟩) ck (by rw[s2];exact h.cg) cs (by rw[s4];exact h.cp)
 refine⟨gc,gz2,hm2.other gz2 (.inr ⟨_,_,rfl⟩) (by rw[s1];exact h.zk) zg (by rw[s3];exact h.zs) zq,?_,?_,by rw[s1];exact h.zk,by rw[s2];exact h.cg,by rw[s3];exact h.zs,by rw[s4];exact h.cp⟩
 ·rw[e2];exact ai
 ·rw[af (Ne.symm zc),Ey Sd e1];exact ai
theorem Bb{hw0:List ar->Int}{G:Gp}{c:KE}{kvs:List (ar×D)}{pen:Str}{v:D}{Q:Gp->Prop}(h:G c=some (.dK kvs))(l:kvs.length < KM)(q:Q (gset G c (.dK (aS kvs (.inr pen) v)))):eY hw0 (.ref c) (.str pen) v G Q:=by
 unfold eY;dsimp only;rw[h];exact⟨_,rfl,l,q⟩
theorem Ba{hw0:List ar->Int}{G:Gp}{c:KE}{kvs:List (List ar×D)}{nm:Nm}{v:D}{Q:Gp->Prop}(h:G c=some (.dT hw0 kvs))(l:kvs.length < KM)(q:Q (gset G c (.dT hw0 (aS kvs nm.key v)))):eY hw0 (.ref c) nm.d v G Q:=by
 unfold eY;dsimp only;rw[h];exact⟨rfl,_,rfl,l,q⟩
theorem xR{σ:cL}{G:Gp}{M:Mg}{Q:fK}(h:Q (.bl true) G):D8 40 (val (.fl M.told)) (val (val (.fl M.told))) G Q:=⟨yA M,yA M,by show Q (.bl (dE (.lst M.told) (.lst M.told))) G;rw[bg];exact h⟩
theorem sM{hw0:List ar->Int}{to ti te:aL}{u:bh}{E:Ends3}{σ:cL}{G:Gp}{o i v:D}(hv:∀ Q:fK,Q v G->te σ G Q)(ho:∀ Q:fK,Q o G->to σ G Q)(hi:∀ Q:fK,Q i G->ti σ G Q)(h:eY hw0 (val o) (val i) (val v) G fun G4=>u E σ G4):sSeq (gB hw0 to ti te) u E σ G:=hv _ (ho _ (hi _ h))
theorem yB{a:Str}{b:Int}:pl 8 (Nt a b):=yC (m:=7) (a,b)
theorem x_{w a:Str}{b:Int}:pl 8 (.tup [.str w,Nt a b]):=fun d hd=>by
 simp only[Le,Lg,or_false]at hd;rcases hd with rfl|rfl
 ·exact trivial
 ·exact yC (m:=6) (a,b)
theorem B5{CA CN CM CP:KE}{hw0:List ar->Int}{G:Gp}{m l:KE}{M:Mg}(h:MAt CA CN CM CP hw0 G m M)(hl:G l=none):l∉[M.d,M.la] ++ M.ns.map Nd.l:=fun z=>by
 simp only[ML,M3,Le]at z;rcases z with rfl|rfl|z
 ·rw[h.pap.2.1]at hl;cases hl
 ·rw[h.lay]at hl;cases hl
 ·obtain⟨x,hx,rfl⟩:=mem_map.mp z;rw[(h.nds x hx).2]at hl;cases hl
theorem H_{c c2:iJ}{j:Nat}{v1 v2:D}{u:bh}{E:Ends3}{σ:cL}{G:Gp}(b1 b2:Bool)(hc:∀ K:Bool->Gp->Prop,K b1 G->c σ G K)(hc2:b1=false->∀ K:Bool->Gp->Prop,K b2 G->c2 σ G K)(h1:b1=true->u E (σ.set j (some (val v1))) G)(h2:b1=false->b2=true->u E (σ.set j (some (val v2))) G)(h3:b1=false->b2=false->u E σ G):
  sSeq (iR c (bj j (eC v1)) (iR c2 (bj j (eC v2)) dG)) u E σ G:=eQ b1 hc (ite2 h1 fun e=>eQ b2 (hc2 e) (ite2 (h2 e) (h3 e)))
theorem q_(zF:Zz)(hw:HW):∀ ds G Q,cm zF hw ds G Q->lC zF hw { nx:=fun _ G'=>Q .non G',rt:=Q } (aw Ai0 ds) G:=by
 intro ds G Q h;unfold cm at h;split at h
 ·rename_i m z c pen a b w;obtain⟨M,n,⟨L,ok,ln,hp⟩,h⟩:=h;have hs:=aq;have QB:M.ok 60:=ok.le (by walk_at "o")
  have nl:=ok.len;have hm:=L.mar;have ld:M.deps.length<=60:=by unfold Mg.deps;rw[KP];omega
  unfold lC;refine aT ?_
  by_cases hin:((a,b):Nm)∈M.ns.map Nd.nm
  ·obtain⟨x,mx,e⟩:=mem_map.mp hin;have hk:cW M.deps (Nm.key (a,b))=some (.int x.dep):=e ▸ zh (f:=fun x=>.int x.dep) ok.nd mx;refine H_ false (decide ((9:Int) < x.dep)) (fun K hK=>gq (nm:=(a,b)) (a:=z) (kvs:=M.deps) (fun Q q=>aD (i:=4) (by rfl) q) (fun Q q=>aD (i:=1) (by rfl) q) L.hz (by rw[hk];exact hK))
    (fun _ K hK=>ur (nm:=(a,b)) (a:=z) (kvs:=M.deps) (fun Q q=>aD (i:=1) (by rfl) q) (fun Q q=>aD (i:=4) (by rfl) q) L.hz hk hK) (fun z=>nomatch z) (fun _ dz=>?_) fun _ dz=>?_
   ·have z':x.dep=10:=by have:=of_decide_eq_true dz;have:=(ok.tre.dep x mx).2;omega
    refine gZ (fun K hK=>⟨True.intro,True.intro,?_⟩) ?_
    ·show K (dE (.str (KH "deep")) (.str (KH "done"))) G;rw[A7 (by decide +kernel)];exact hK
    refine aT ?_;unfold aM ae;refine aD (i:=0) rfl ⟨M,⟨hm,QB⟩,fun G1 e1=>?_⟩;unfold bb Cy eL;refine⟨M,⟨hm.ext e1,QB⟩,.inr ⟨x,mx,e,z',?_⟩⟩;refine⟨by show 2<=_;omega,x_,x_,?_⟩
    show if dE (.tup [.str (KH "deep"),Nt a b]) (.tup [.str (KH "deep"),Nt a b])=true then _ else _
    rw[bg];refine iteT (aD (i:=0) rfl ⟨M,⟨hm.ext e1,QB⟩,fun G2 e2=>aD (i:=8) rfl (xR (σ:=[]) (h M G2 (L.ext (e1.trans e2)) (ok.le (NE _)) rfl fun z=>z))⟩)
   ·have z':x.dep<=9:=by have:=of_decide_eq_false dz;omega
    obtain⟨i,hx⟩:=List.mem_iff_getElem?.mp mx;refine sL true (fun K hK=>⟨True.intro,True.intro,?_⟩) (fun _=>?_) (fun z=>nomatch z)
    ·show K (dE (.str (KH "done")) (.str (KH "done"))) G;rw[bg];exact hK
    refine aT (dP (i:=0) (ds:=[.str pen,Nt a b,.str w]) rfl hm.ins (fun _ h=>h) ⟨M,i,x,⟨hm,ok.le ln,hx,e,z'⟩,fun a' l' G1 hm1 al ga gl off=>?_⟩);obtain⟨gc,gz,L'⟩:=L.next (M':=M.give i x pen w a' l') (pen:=pen) (dep:=x.dep+1) hm1 off (hm.nds x mx).2 ⟨rfl,rfl,rfl,rfl⟩ hp rfl (Av ok hx);have fin:Q (.bl true) _:=h _ _ L' (El ok ln hx z' (B5 hm gl)) rfl (fun _ z=>absurd z (List.append_ne_nil_of_right_ne_nil _ (List.cons_ne_nil _ _)));refine sM (o:=.ref c) (i:=.str pen) (v:=.int (aF M.gs pen+1)) (fun Q q=>lY (a:=c) (kvs:=M.cts) (pen:=pen) (d:=.int (aF M.gs pen)) (fun Q q=>aD (i:=2) (by rfl) q) (fun Q q=>aD (i:=3) (by rfl) q) gc (uv hp) q) (fun Q q=>aD (i:=2) (by rfl) q) (fun Q q=>aD (i:=3) (by rfl) q) (Bb gc (by show 2 < _;omega) ?_)
    refine sM (o:=.ref z) (i:=Nt pen (aF M.gs pen+1)) (v:=.int (x.dep+1:Nat)) (fun Q q=>ur (nm:=(a,b)) (a:=z) (kvs:=M.deps) (fun Q q=>aD (i:=1) (by rfl) q) (fun Q q=>aD (i:=4) (by rfl) q) gz hk q) (fun Q q=>aD (i:=1) (by rfl) q) (fun Q q=>aD (i:=7) (by rfl) q) (Ba (nm:=(pen,aF M.gs pen+1)) gz (by walk_at "o") ?_)
    have hat:cW (M.give i x pen w a' l').cts (.inr pen)=some (.int (aF M.gs pen+1)):=by
     rw[uv hp];show some (D.int (aF (aS M.gs (.inr pen) (.int (aF M.gs pen+1))) pen))=_
     rw[jA,if_pos rfl]
    unfold bb eL eg ae;refine aD (i:=7) rfl (aD (i:=3) rfl (lY (a:=c) (kvs:=(M.give i x pen w a' l').cts) (pen:=pen) (fun Q q=>aD (i:=2) (by rfl) q) (fun Q q=>aD (i:=3) (by rfl) q) L'.hc hat ⟨by show 2<=_;omega,yB,yB,?_⟩))
    show Q (.bl (dE (Nt pen (aF M.gs pen+1)) (Nt pen (aF M.gs pen+1)))) _
    rw[bg];exact fin
  ·have hk:cW M.deps (Nm.key (a,b))=none:=zf hin;refine H_ true false (fun K hK=>gq (nm:=(a,b)) (a:=z) (kvs:=M.deps) (fun Q q=>aD (i:=4) (by rfl) q) (fun Q q=>aD (i:=1) (by rfl) q) L.hz (by rw[hk];exact hK)) (fun z=>nomatch z) (fun _=>?_) (fun z=>nomatch z) (fun z=>nomatch z)
   refine gZ (fun K hK=>⟨True.intro,True.intro,?_⟩) ?_
   ·show K (dE (.str (KH "no")) (.str (KH "done"))) G;rw[A7 (by decide +kernel)];exact hK
   refine aT ?_;unfold aM ae;refine aD (i:=0) rfl ⟨M,⟨hm,QB⟩,fun G1 e1=>?_⟩;unfold bb Cy eL;refine⟨M,⟨hm.ext e1,QB⟩,.inl ⟨hin,?_⟩⟩;refine⟨by show 2<=_;omega,x_,x_,?_⟩
   show if dE (.tup [.str (KH "no"),Nt a b]) (.tup [.str (KH "no"),Nt a b])=true then _ else _
   rw[bg];refine iteT (aD (i:=0) rfl ⟨M,⟨hm.ext e1,QB⟩,fun G2 e2=>aD (i:=8) rfl (xR (σ:=[]) (h M G2 (L.ext (e1.trans e2)) (ok.le (NE _)) rfl fun z=>z))⟩)
 ·exact h.elim
theorem B7(zF:Zz)(hw:HW){σ:cL}{G:Gp}{Q:fK}{k:Nat}(k2:k<=20)(hσ:σ[2]?=some (some (.int k)))(h:∀ m M G',MAt zF.C_Answer zF.C_Note zF.C_Margin zF.C_Paper hw G' m M->M.ok 0->M.old=f7 (KH "a") k->M.ns=[]->M.gs=[]->Q (.ref m) G'):
  iA zF.C_Margin (aX zF hw) [] (ae (iA zF.C_Paper (bd zF hw) [] (ae (cV vz (eC (.str "a")) (ag 2)) (av))) (av)) σ G Q:=by
 have hs:=aq;unfold iA ae cV eC;refine aD (i:=2) hσ ⟨⟨by walk_at "o",by walk_at "o",?_⟩,?_⟩
 ·show 1*((k:Int).toNat)<=KM;omega
 intro p hp;refine⟨ai,fun d s g G1 off pa=>⟨rfl,?_⟩⟩;intro m gm;refine⟨ai,fun la kn gr G2 SC e1 e2 e3 n1 n2 n3 n4 n5 n6 gm2 gla gkn ggr=>⟨rfl,?_⟩⟩;have up:∀ b o,G1 b=some o->G2 b=some o:=fun b o e=>by
  have hb:b≠m:=fun z=>by rw[z,gm]at e;cases e
  exact SC b o (by simpa using hb) ((af hb).trans e)
 have ne:∀ {b q:KE} {o:GO},G1 b=some o->gset G1 m (.ins zF.C_Margin [] []) q=none->b≠q:=fun {b q o} e eq z=>by
  have hb:b≠m:=fun z=>by rw[z,gm]at e;cases e
  rw[<- z,af hb,e]at eq;cases eq
 refine h m ⟨p,d,s,g,f7 (KH "a") k,la,kn,gr,[],[],[]⟩ G2 ⟨⟨up _ _ pa.1,up _ _ pa.2.1,up _ _ pa.2.2.1,up _ _ pa.2.2.2⟩,gm2,gla,gkn,ggr,fun x hx=>nomatch hx⟩ ⟨⟨k,k2,rfl⟩,by
   show [d,la].Nodup
   simpa using ne pa.2.1 e1,ne pa.2.2.1 e2,ne pa.2.2.2 e3,M7,le_refl _,⟨(fun x hx=>nomatch hx),(fun x hx=>nomatch hx),(fun x hx=>nomatch hx)⟩,(fun x hx=>nomatch hx),(fun x hx=>nomatch hx),le_refl _,(fun k v e=>nomatch e),le_refl _,fun x hx=>nomatch hx⟩ rfl rfl rfl
theorem zB(i:Nat)(h:i < 3):(ToString.toString (i:Int):Str).length<=1000/\((i:Int)).natAbs.log2 < 1920:=by
 have cs:i=0\/i=1\/i=2:=by walk_at "o"
 rcases cs with rfl|rfl|rfl<;>decide +kernel
def Sg(s0 s1 s2 s3 s4 s5:Option D)(σ:cL):Prop:=∃ x6 x7 x8 x9 x10 x11 x12:Option D,σ=[s0,s1,s2,s3,s4,s5,x6,x7,x8,x9,x10,x11,x12]
def Mw(CA CN CM CP:KE)(hw0:List ar->Int)(k:Nat)(m z c:KE)(n:Nat)(G:Gp):Prop:=∃ M:Mg,LAt CA CN CM CP hw0 G m z c M/\M.ok n/\M.old=f7 (KH "a") k/\(n=0\/M.ns≠[])
theorem Hr{G:Gp}{Q:fK}{r:Int}(h:∀ pen,IE pen->Q (.str pen) G):wt (.lst [.str (KH "ann"),.str (KH "bob")]) (.int (r % 2)) G Q:=by
 have cs:r % 2=0\/r % 2=1:=by walk_at "o"
 rcases cs with e|e
 ·rw[e];exact h _ (.inl rfl)
 ·rw[e];exact h _ (.inr rfl)
theorem Dw(zF:Zz)(hw:HW):∀ ds G Q,sF zF hw ds G Q->Bk zF hw { nx:=fun _ G'=>Q .non G',rt:=Q } (aw Ac0 ds) G:=by
 intro ds G Q h;unfold sF at h;split at h
 ·obtain⟨ns,rfl,hn,hq⟩:=h;have hs:=aq;unfold Bk;rw[az];walk_at "s1";refine⟨ns.take 1,by rw[yX (by decide),<- List.map_take];rfl,?_⟩
  generalize (ns.take 1).sum=c;rw[az];walk_at "s1";walk_at "conds";obtain⟨k,hk,k1,k2⟩:∃ k:Nat,1+c % 20=(k:Int)/\1<=k/\k<=20:=⟨(1+c % 20).toNat,by walk_at "o",by walk_at "o",by walk_at "o"⟩
  rw[hk];refine aT (B7 zF hw k2 rfl fun m M G1 hm ok ho hns hgs=>?_);refine aT (fun cc hcc=>?_);refine aT (fun z hz=>?_);have ncz:z≠cc:=fun e=>by rw[e,ai]at hz;cases hz
  have hz0:G1 z=none:=(af ncz).symm.trans hz;have ext:fW G1 (gset (gset G1 cc (.dK [(.inr "ann",.int 0),(.inr "bob",.int 0)])) z (.dT hw [])):=(ul hcc).trans (ul hz);have nn:∀ {b q:KE} {o:GO},G1 b=some o->G1 q=none->q≠b:=fun e eq w=>by rw[w,e]at eq;cases eq
  have L:LAt zF.C_Answer zF.C_Note zF.C_Margin zF.C_Paper hw (gset (gset G1 cc (.dK [(.inr "ann",.int 0),(.inr "bob",.int 0)])) z (.dT hw [])) m z cc M:=⟨hm.ext ext,by rw[ai];unfold Mg.deps;rw[hns];rfl,by rw[af (Ne.symm ncz),ai];unfold Mg.cts;rw[hgs];rfl,nn hm.kn hz0,nn hm.gr hcc,nn hm.pap.2.2.1 hz0,nn hm.pap.2.2.2 hcc⟩
  have W0:Mw zF.C_Answer zF.C_Note zF.C_Margin zF.C_Paper hw k m z cc 0 (gset (gset G1 cc (.dK [(.inr "ann",.int 0),(.inr "bob",.int 0)])) z (.dT hw [])):=⟨M,L,ok,ho,.inl rfl⟩;generalize gset (gset G1 cc (.dK [(.inr "ann",.int 0),(.inr "bob",.int 0)])) z (.dT hw [])=G2 at W0;clear L ext hz hcc hm ok ho hns hgs;show sSeq (mn _ _ _) _ _ [some (.lst (ns.map D.int)),some (.int c),some (.int k),some (.ref m),some (.ref cc),some (.ref z),none,none,none,none,none,none,none] G2
  obtain⟨t,ht,t1,t2⟩:∃ t:Nat,1+c / 20 % 3=(t:Int)/\1<=t/\t<=3:=⟨(1+c / 20 % 3).toNat,by walk_at "o",by walk_at "o",by walk_at "o"⟩
  have tN:(1+c / 20 % 3).toNat=t:=by walk_at "o"
  generalize hs0:some (D.lst (ns.map D.int))=s0;refine o6 (NX:=fun σ' G'=>Sg s0 (some (.int c)) (some (.int k)) (some (.ref m)) (some (.ref cc)) (some (.ref z)) σ'/\∃ M,LAt zF.C_Answer zF.C_Note zF.C_Margin zF.C_Paper hw G' m z cc M/\M.ok 3/\M.old=f7 (KH "a") k/\M.ns≠[]) (fun σ' G' hM=>?_) (fun NX hNX=>?_)
  ·clear W0;obtain⟨⟨x6,x7,x8,x9,x10,x11,x12,rfl⟩,W1⟩:=hM;subst hs0;refine o6 (NX:=fun σ' G'=>Sg (some (.lst (ns.map D.int))) (some (.int c)) (some (.int k)) (some (.ref m)) (some (.ref cc)) (some (.ref z)) σ'/\∃ M,LAt zF.C_Answer zF.C_Note zF.C_Margin zF.C_Paper hw G' m z cc M/\M.ok 12/\M.old=f7 (KH "a") k/\M.ns≠[]) (fun σ' G' hM=>?_) (fun NX hNX=>?_)
   ·clear W1;obtain⟨⟨x6,x7,x8,x9,x10,x11,x12,rfl⟩,W1⟩:=hM;refine o6 (NX:=fun σ' G'=>Sg (some (.lst (ns.map D.int))) (some (.int c)) (some (.int k)) (some (.ref m)) (some (.ref cc)) (some (.ref z)) σ'/\∃ M,LAt zF.C_Answer zF.C_Note zF.C_Margin zF.C_Paper hw G' m z cc M/\M.ok 42/\M.old=f7 (KH "a") k/\M.ns≠[]) (fun σ' G' hM=>?_) (fun NX hNX=>?_)
    ·clear W1;obtain⟨⟨x6,x7,x8,x9,x10,x11,x12,rfl⟩,M,L,ok,ho,hne⟩:=hM;have lo:(M.old.length:Int)=k:=by rw[ho,(wC k k2).2]
     have QB:M.ok 60:=ok.le (by decide)
     refine aT ⟨by unfold GJ;decide,(by decide:(0:Int) < 10 ^ (12:Int).toNat),?_⟩
     have hf:=eK (a:=c) (b:=10 ^ (12:Int).toNat) (by decide)
     show sSeq _ _ _ [some (.lst (ns.map D.int)),some (.int c),some (.int k),some (.ref m),some (.ref cc),some (.ref z),x6,x7,x8,x9,x10,x11,some (.int (c % 10 ^ (12:Int).toNat))] G'
     generalize c % 10 ^ (12:Int).toNat=f at hf;refine o6 (NX:=fun σ' G1=>σ'=[some (.lst (ns.map D.int)),some (.int c),some (.int k),some (.ref m),some (.ref cc),some (.ref z),x6,x7,x8,x9,x10,x11,some (.int f)]/\LAt zF.C_Answer zF.C_Note zF.C_Margin zF.C_Paper hw G1 m z cc M) (fun σ' G1 hM=>?_) (fun NX hNX=>?_)
     ·clear L;obtain⟨rfl,L⟩:=hM;refine o6 (NX:=fun σ' G1=>σ'=[some (.lst (ns.map D.int)),some (.int c),some (.int k),some (.ref m),some (.ref cc),some (.ref z),x6,x7,x8,x9,x10,x11,some (.int f)]/\LAt zF.C_Answer zF.C_Note zF.C_Margin zF.C_Paper hw G1 m z cc M) (fun σ' G1 hM=>?_) (fun NX hNX=>?_)
      ·clear L;obtain⟨rfl,L⟩:=hM;unfold bb eL;refine dP (i:=3) (ds:=[.str (KH "bob"),.int 0,.int 1,.str (KH "last")]) rfl L.mar.ins (fun _ h=>h) ⟨M,⟨L.mar,ok.le (by decide),by decide,by decide,by walk_at "o"⟩,fun a' l' ss G5 hm5 al ga gl ls off=>?_⟩
       obtain⟨gc,_,_⟩:=L.next (M':=M.put (KH "bob") (KH "last") a' l' ss) (pen:=KH "bob") (dep:=1) hm5 off L.mar.lay ⟨rfl,rfl,rfl,rfl⟩ (.inr rfl) rfl (wb ok);unfold eg ae cV;refine lY (a:=cc) (kvs:=M.cts) (pen:=KH "bob") (d:=.int (aF M.gs (KH "bob"))) (fun Q q=>aD (i:=4) (by rfl) q) (fun Q q=>q) gc (uv (.inr rfl)) ⟨by show 2<=_;omega,yB,yB,?_⟩
       show Q (.bl (dE (Nt (KH "bob") (aF M.gs (KH "bob")+1)) (Nt (KH "bob") (aF M.gs (KH "bob")+1)))) _
       rw[bg];exact hq _
      ·refine⟨M,⟨L.mar,QB⟩,fun G2 e2=>.inr ⟨⟨Int.le_refl _,by rw[lo];omega⟩,fun z=>?_,True.intro,True.intro,?_⟩⟩
       ·have:(k:Int)+1+f<=M.old.length:=z.2;omega
       show if (!dE (.int ((k:Int)+1+f)) (.int ((k:Int)+1+f)))=true then _ else _
       rw[bg];refine iteF ⟨M,⟨L.mar.ext e2,QB⟩,fun G3 e3=>.inr ⟨⟨Int.le_refl _,by rw[lo];omega⟩,(fun z=>Int.lt_irrefl _ z.1),True.intro,True.intro,?_⟩⟩
       show if (!dE (.int 0) (.int 0))=true then _ else _
       rw[bg];exact iteF (hNX _ _ ⟨rfl,L.ext (e2.trans e3)⟩)
     ·refine⟨M,⟨L.mar,QB⟩,fun G2 e2=>.inl ⟨fun z=>?_,True.intro,True.intro,?_⟩⟩
      ·have:(k:Int)+f < M.old.length:=z.2;omega
      show if (!dE (.int ((k:Int)+f)) (.int ((k:Int)+f)))=true then _ else _
      rw[bg];refine iteF ⟨M,⟨L.mar.ext e2,QB⟩,fun G3 e3=>.inl ⟨fun z=>?_,True.intro,True.intro,?_⟩⟩
      ·have:(0:Int)<=-1:=z.1;omega
      show if (!dE (.int (-1)) (.int (-1)))=true then _ else _
      rw[bg];exact iteF (hNX _ _ ⟨rfl,L.ext (e2.trans e3)⟩)
    ·obtain⟨M,L,ok,ho,hne⟩:=W1;have ec:L3.cutD (ns.map D.int) (some 1) (some 31)=((ns.drop 1).take 30).map D.int:=by
      rw[we (by decide) (by decide),List.map_take,List.map_drop]
      rfl
     have l30:((ns.drop 1).take 30).length<=30:=List.length_take_le _ _;unfold mn fH C7 ix;refine aD (i:=0) rfl ?_;unfold eC;simp only[A9,val,sB,dQ];rw[ec];refine⟨fun i σ' G'=>Sg (some (.lst (ns.map D.int))) (some (.int c)) (some (.int k)) (some (.ref m)) (some (.ref cc)) (some (.ref z)) σ'/\∃ M,LAt zF.C_Answer zF.C_Note zF.C_Margin zF.C_Paper hw G' m z cc M/\M.ok (12+i)/\M.old=f7 (KH "a") k/\M.ns≠[],⟨⟨_,_,_,_,_,_,_,rfl⟩,M,L,ok,ho,hne⟩,?_,?_⟩
     ·clear L ok ho hne
      rintro i d σ' G' hd ⟨⟨x6,x7,x8,x9,x10,x11,x12,rfl⟩,M,L,ok,ho,hne⟩
      rw[K8]at hd;cases hv:((ns.drop 1).take 30)[i]? with
      | none=>rw[hv]at hd;cases hd
      | some v=>
       rw[hv]at hd;cases hd;have hi:i < 30:=K7 (List.getElem?_eq_some_iff.mp hv).1 l30;have lm:=ok.len;refine aT ⟨by show 2<=_;omega,⟨by decide,by decide⟩,fun r r0 r1=>⟨(by decide:(0:Int) < 2),Hr fun pen Sd=>?_⟩⟩
       refine aT ⟨M,⟨L.hz,L.hc,hne,by walk_at "o"⟩,fun a b=>?_⟩
       refine⟨(by decide:(0:Int) < 3),?_,M,12+i,⟨L,ok,by walk_at "o",Sd⟩,fun M' G3 L' ok' ho' ne'=>⟨True.intro,iteF ⟨⟨_,_,_,_,_,_,_,rfl⟩,M',L',ok',ho'.trans ho,ne' hne⟩⟩⟩
       have:(KH "why").length<=10:=by decide +kernel
       show (KH "why").length<=KM
       omega
     ·rintro σ' G' ⟨sg,M,L,ok,ho,hne⟩
      exact hNX _ _ ⟨sg,M,L,ok.le (by rw[KP];omega),ho,hne⟩
   ·obtain⟨M,L,ok,ho,hne⟩:=W1;refine eQ (dE (.int (c / 60 % 4)) (.int 1)) (fun K hK=>⟨⟨by decide,by decide⟩,(by decide:(0:Int) < 4),True.intro,True.intro,hK⟩) (ite2 (fun _=>?_) fun _=>hNX _ _ ⟨⟨_,_,_,_,_,_,_,rfl⟩,M,L,ok.le (by decide),ho,hne⟩)
    refine⟨⟨by decide,by decide⟩,fun i σ' G'=>Sg (some (.lst (ns.map D.int))) (some (.int c)) (some (.int k)) (some (.ref m)) (some (.ref cc)) (some (.ref z)) σ'/\∃ M,LAt zF.C_Answer zF.C_Note zF.C_Margin zF.C_Paper hw G' m z cc M/\M.ok (3+i)/\M.old=f7 (KH "a") k/\M.ns≠[],⟨⟨_,_,_,_,_,_,_,rfl⟩,M,L,ok,ho,hne⟩,?_,?_⟩
    ·clear L ok ho hne
     rintro i d σ' G' hd ⟨⟨x6,x7,x8,x9,x10,x11,x12,rfl⟩,M,L,ok,ho,hne⟩
     obtain⟨hi,rfl⟩:=pJ hd;have hi9:i < 9:=hi;have lm:=ok.len;refine⟨M,⟨L.hz,hne,by walk_at "o",by decide⟩,fun a b=>⟨M,3+i,⟨L,ok,by walk_at "o",.inr rfl⟩,fun M' G3 L' ok' ho' ne'=>⟨True.intro,?_⟩⟩⟩
     exact iteF ⟨⟨_,_,_,_,_,_,_,rfl⟩,M',L',ok',ho'.trans ho,ne' hne⟩
    ·rintro σ' G' ⟨sg,M,L,ok,ho,hne⟩
     exact hNX _ _ ⟨sg,M,L,ok,ho,hne⟩
  ·refine⟨⟨by decide,by decide⟩,(by decide:(0:Int) < 3),⟨?_,?_⟩,fun i σ' G'=>Sg s0 (some (.int c)) (some (.int k)) (some (.ref m)) (some (.ref cc)) (some (.ref z)) σ'/\Mw zF.C_Answer zF.C_Note zF.C_Margin zF.C_Paper hw k m z cc i G',⟨⟨_,_,_,_,_,_,_,rfl⟩,W0⟩,?_,?_⟩
   ·show _<=1+c / 20 % 3;omega
   ·show 1+c / 20 % 3 < _;omega
   ·rintro i d σ' G' hd ⟨⟨x6,x7,x8,x9,x10,x11,x12,rfl⟩,M,L,ok,ho,_⟩
    obtain⟨hi,rfl⟩:=pJ hd;have hi3:i < 3:=by have:i < (1+c / 20 % 3).toNat:=hi;omega
    have lo:=vt ok;have lo':M.old.length=k:=by rw[ho];exact (wC k k2).2
    refine aT ⟨⟨by show (0:Int)<=10+(0+(i:Int));omega,by show 10+(0+(i:Int))<=1000;omega⟩,fun r r0 r1=>⟨by show (0:Int) < k;omega,?_⟩⟩
    have hb:=eK (a:=r) (b:=(k:Int)) (by walk_at "o")
    obtain⟨st1,st2⟩:=zB i hi3;refine aT (dP (i:=3) (ds:=[.str (KH "ann"),.int (r % k),.int k,.str (KH "note " ++ ToString.toString (0+(i:Int)))]) rfl L.mar.ins (fun R q=>?_) ⟨M,⟨L.mar,ok.le (by walk_at "o"),hb.1,hb.2,by walk_at "o"⟩,fun a' l' ss G3 hm3 al ga gl ls off=>?_⟩)
    ·have z0:(0+(i:Int))=i:=Int.zero_add _;have l5:(KH "note ").length<=10:=by decide +kernel
     refine⟨by show (0+(i:Int)).natAbs.log2 < 1920;rw[z0];exact st2,?_,q⟩
     show (KH "note ").length+(KH (ToString.toString (0+(i:Int)))).length<=KM
     rw[z0];omega
    obtain⟨gc,gz,L'⟩:=L.next (M':=M.put (KH "ann") (KH "note " ++ ToString.toString (0+(i:Int))) a' l' ss) (pen:=KH "ann") (dep:=1) hm3 off L.mar.lay ⟨rfl,rfl,rfl,rfl⟩ (.inl rfl) rfl (wb ok);have ld:M.deps.length<=60:=by unfold Mg.deps;rw[KP];have:=ok.len;omega
    refine sM (o:=.ref cc) (i:=.str (KH "ann")) (v:=.int (aF M.gs (KH "ann")+1)) (fun Q q=>lY (a:=cc) (kvs:=M.cts) (pen:=KH "ann") (d:=.int (aF M.gs (KH "ann"))) (fun Q q=>aD (i:=4) (by rfl) q) (fun Q q=>q) gc (uv (.inl rfl)) q) (fun Q q=>aD (i:=4) (by rfl) q) (fun Q q=>q) (Bb gc (by show 2 < _;omega) ?_)
    refine sK (o:=.ref z) (i:=Nt (KH "ann") (aF M.gs (KH "ann")+1)) (v:=.int (1:Nat)) (fun Q q=>q) (fun Q q=>aD (i:=5) (by rfl) q) (fun Q q=>aD (i:=8) (by rfl) q) (Ba (nm:=(KH "ann",aF M.gs (KH "ann")+1)) gz (by walk_at "o") ?_)
    exact⟨⟨_,_,_,_,_,_,_,rfl⟩,_,L',put_ok ok (by walk_at "o") (B5 L.mar gl) ls,ho,.inr (List.append_ne_nil_of_right_ne_nil _ (List.cons_ne_nil _ _))⟩
   ·rintro σ' G' ⟨sg,M,L,ok,ho,hne⟩
    exact hNX _ _ ⟨sg,M,L,ok.le (by show (dm 0 (1+c / 20 % 3).toNat).length<=3;rw[em];omega),ho,hne.resolve_left (by show (dm 0 (1+c / 20 % 3).toNat).length≠0;rw[em];omega)⟩
 ·exact h.elim
structure Tx(K:Nq)(mg:Str->Option KC)(zF:Zz)(Qv:KE)(Qs:KE)(Qw:KE)(Qu:KE)(Qt:KE):Prop where
 fb_answers:∀ C∈[zF.C_Answer,zF.C_Note],Cls K C/\bE K C "answers"
 fb_depth:∀ C∈[zF.C_Answer,zF.C_Note],Cls K C/\bE K C "depth"
 fb_name:∀ C∈[zF.C_Answer,zF.C_Note],Cls K C/\bE K C "name"
 fb_names:∀ C∈[zF.C_Answer,zF.C_Note],Cls K C/\bE K C "names"
 fb_words:∀ C∈[zF.C_Answer,zF.C_Note],Cls K C/\bE K C "words"
 cl_Stroke:Cls K zF.Z1
 cl_Put:Cls K zF.Z2
 cl_Strike:Cls K zF.Z3
 cl_Dress:Cls K zF.Z4
 cl_Move:Cls K zF.Z5
 cl_Answer:Cls K zF.C_Answer
 cl_Note:Cls K zF.C_Note
 cl_Margin:Cls K zF.C_Margin
 na_Margin_paper:bE K zF.C_Margin "paper"
 na_Margin_laid:bE K zF.C_Margin "laid"
 na_Margin_known:bE K zF.C_Margin "known"
 na_Margin_greatest:bE K zF.C_Margin "greatest"
 cl_Paper:Cls K zF.C_Paper
 na_Paper_old:bE K zF.C_Paper "old"
 na_Paper_drawn:bE K zF.C_Paper "drawn"
 na_Paper_states:bE K zF.C_Paper "states"
 na_Paper_greatest:bE K zF.C_Paper "greatest"
 na_Paper_time:bE K zF.C_Paper "time"
 b_ValueError:mg "ValueError"=none
 b_all:mg "all"=none
 b_dict:mg "dict"=none
 b_enumerate:mg "enumerate"=none
 b_isinstance:mg "isinstance"=none
 b_len:mg "len"=none
 b_list:mg "list"=none
 b_max:mg "max"=none
 b_range:mg "range"=none
 b_sorted:mg "sorted"=none
 b_str:mg "str"=none
 b_sum:mg "sum"=none
 b_tuple:mg "tuple"=none
 b_zip:mg "zip"=none
 k_DEEPEST:l9 K mg "DEEPEST" k_DEEPEST
 k_START:l9 K mg "START" k_START
 xm_QuillError:mg "QuillError"=some (.ref Qv)
 xm_OutOfPlace:mg "OutOfPlace"=some (.ref Qs)
 xm_NoStroke:mg "NoStroke"=some (.ref Qw)
 xm_NoNote:mg "NoNote"=some (.ref Qu)
 xm_TooDeep:mg "TooDeep"=some (.ref Qt)
 xa_OutOfPlace:XAsk K Qs "at"
 xe_OutOfPlace_OutOfPlace:SS K (.ref Qs) (.ref Qs)=some true
 xe_OutOfPlace_QuillError:SS K (.ref Qs) (.ref Qv)=some true
 xa_NoNote:XAsk K Qu "name"
 xe_NoNote_OutOfPlace:SS K (.ref Qu) (.ref Qs)=some false
 xe_NoNote_QuillError:SS K (.ref Qu) (.ref Qv)=some true
 xa_TooDeep:XAsk K Qt "name"
 xe_TooDeep_OutOfPlace:SS K (.ref Qt) (.ref Qs)=some false
 xe_TooDeep_QuillError:SS K (.ref Qt) (.ref Qv)=some true
 xk_OutOfPlace_NoNote:SQ K (.ref Qs) (.ref Qu)=some false
 xk_OutOfPlace_NoStroke:SQ K (.ref Qs) (.ref Qw)=some false
 xk_OutOfPlace_OutOfPlace:SQ K (.ref Qs) (.ref Qs)=some true
 xk_OutOfPlace_TooDeep:SQ K (.ref Qs) (.ref Qt)=some false
 xk_OutOfPlace_ValueError:SQ K (.ref Qs) (.type "ValueError")=some true
 xk_NoNote_NoNote:SQ K (.ref Qu) (.ref Qu)=some true
 xk_NoNote_NoStroke:SQ K (.ref Qu) (.ref Qw)=some false
 xk_NoNote_OutOfPlace:SQ K (.ref Qu) (.ref Qs)=some false
 xk_NoNote_TooDeep:SQ K (.ref Qu) (.ref Qt)=some false
 xk_NoNote_ValueError:SQ K (.ref Qu) (.type "ValueError")=some true
 xk_TooDeep_NoNote:SQ K (.ref Qt) (.ref Qu)=some false
 xk_TooDeep_NoStroke:SQ K (.ref Qt) (.ref Qw)=some false
 xk_TooDeep_OutOfPlace:SQ K (.ref Qt) (.ref Qs)=some false
 xk_TooDeep_TooDeep:SQ K (.ref Qt) (.ref Qt)=some true
 xk_TooDeep_ValueError:SQ K (.ref Qt) (.type "ValueError")=some true
theorem Jd{α:Type}:∀ {us:List α},us.length=1->∃ a0,us=[a0]
 | [a0],_=>⟨a0,rfl⟩
theorem Dj{α:Type}:∀ {us:List α},us.length=2->∃ a0 a1,us=[a0,a1]
 | [a0,a1],_=>⟨a0,a1,rfl⟩
theorem Jc{α:Type}:∀ {us:List α},us.length=3->∃ a0 a1 a2,us=[a0,a1,a2]
 | [a0,a1,a2],_=>⟨a0,a1,a2,rfl⟩
theorem Jb{α:Type}:∀ {us:List α},us.length=4->∃ a0 a1 a2 a3,us=[a0,a1,a2,a3]
 | [a0,a1,a2,a3],_=>⟨a0,a1,a2,a3,rfl⟩
theorem Ja{α:Type}:∀ {us:List α},us.length=5->∃ a0 a1 a2 a3 a4,us=[a0,a1,a2,a3,a4]
 | [a0,a1,a2,a3,a4],_=>⟨a0,a1,a2,a3,a4,rfl⟩
theorem I_{α:Type}:∀ {us:List α},us.length=6->∃ a0 a1 a2 a3 a4 a5,us=[a0,a1,a2,a3,a4,a5]
 | [a0,a1,a2,a3,a4,a5],_=>⟨a0,a1,a2,a3,a4,a5,rfl⟩
theorem kI(zF:Zz)(hw:List ar->Int)(Qs:KE)(Qu:KE)(Qt:KE):∀ ds G Q EQ,bU zF hw Qs Qu Qt ds G Q EQ->ds.length=4:=by
 intro ds G Q EQ h;unfold bU at h;split at h
 all_goals first|rfl|exact h.elim
theorem kH(zF:Zz)(hw:List ar->Int)(Qs:KE)(Qu:KE)(Qt:KE):∀ ds G Q EQ,bT zF hw Qs Qu Qt ds G Q EQ->ds.length=3:=by
 intro ds G Q EQ h;unfold bT at h;split at h
 all_goals first|rfl|exact h.elim
theorem mL(zF:Zz)(hw:List ar->Int)(Qs:KE)(Qu:KE)(Qt:KE):∀ ds G Q EQ,cy zF hw Qs Qu Qt ds G Q EQ->ds.length=5:=by
 intro ds G Q EQ h;unfold cy at h;split at h
 all_goals first|rfl|exact h.elim
theorem qc(zF:Zz)(hw:List ar->Int):∀ ds G Q,aQ zF hw ds G Q->ds.length=2:=by
 intro ds G Q h;unfold aQ at h;split at h
 all_goals first|rfl|exact h.elim
theorem gQ(zF:Zz)(hw:List ar->Int)(n:Nat):∀ ds G Q,aR zF hw n ds G Q->ds.length=1:=by
 intro ds G Q h;unfold aR at h;split at h
 all_goals first|rfl|exact h.elim
theorem p_(zF:Zz)(hw:List ar->Int):∀ ds G Q,cD zF hw ds G Q->ds.length=3:=by
 intro ds G Q h;unfold cD at h;split at h
 all_goals first|rfl|exact h.elim
theorem p9(zF:Zz)(hw:List ar->Int):∀ ds G Q,cC zF hw ds G Q->ds.length=2:=by
 intro ds G Q h;unfold cC at h;split at h
 all_goals first|rfl|exact h.elim
theorem rp(zF:Zz)(hw:List ar->Int):∀ ds G Q,cf zF hw ds G Q->ds.length=1:=by
 intro ds G Q h;unfold cf at h;split at h
 all_goals first|rfl|exact h.elim
theorem tY(zF:Zz)(hw:List ar->Int):∀ ds G Q,cM zF hw ds G Q->ds.length=1:=by
 intro ds G Q h;unfold cM at h;split at h
 all_goals first|rfl|exact h.elim
theorem vO(zF:Zz)(hw:List ar->Int):∀ ds G Q,d6 zF hw ds G Q->ds.length=1:=by
 intro ds G Q h;unfold d6 at h;split at h
 all_goals first|rfl|exact h.elim
theorem tX(zF:Zz)(hw:List ar->Int):∀ ds G Q,dw zF hw ds G Q->ds.length=2:=by
 intro ds G Q h;unfold dw at h;split at h
 all_goals first|rfl|exact h.elim
theorem xm(zF:Zz)(hw:List ar->Int):∀ ds G Q,dA zF hw ds G Q->ds.length=1:=by
 intro ds G Q h;unfold dA at h;split at h
 all_goals first|rfl|exact h.elim
theorem rq(zF:Zz)(hw:List ar->Int):∀ ds G Q,cX zF hw ds G Q->ds.length=3:=by
 intro ds G Q h;unfold cX at h;split at h
 all_goals first|rfl|exact h.elim
theorem lL(zF:Zz)(hw:List ar->Int):∀ ds G Q,bF zF hw ds G Q->ds.length=2:=by
 intro ds G Q h;unfold bF at h;split at h
 all_goals first|rfl|exact h.elim
theorem mM(zF:Zz)(hw:List ar->Int):∀ ds G Q,bS zF hw ds G Q->ds.length=1:=by
 intro ds G Q h;unfold bS at h;split at h
 all_goals first|rfl|exact h.elim
theorem nY(zF:Zz)(hw:List ar->Int):∀ ds G Q,b7 zF hw ds G Q->ds.length=1:=by
 intro ds G Q h;unfold b7 at h;split at h
 all_goals first|rfl|exact h.elim
theorem p8(zF:Zz)(hw:List ar->Int):∀ ds G Q,cB zF hw ds G Q->ds.length=1:=by
 intro ds G Q h;unfold cB at h;split at h
 all_goals first|rfl|exact h.elim
theorem xl(zF:Zz)(hw:List ar->Int):∀ ds G Q,ff zF hw ds G Q->ds.length=3:=by
 intro ds G Q h;unfold ff at h;split at h
 all_goals first|rfl|exact h.elim
theorem vN(zF:Zz)(hw:List ar->Int):∀ ds G Q,d5 zF hw ds G Q->ds.length=3:=by
 intro ds G Q h;unfold d5 at h;split at h
 all_goals first|rfl|exact h.elim
theorem lN(zF:Zz)(hw:List ar->Int):∀ ds G Q,bH zF hw ds G Q->ds.length=1:=by
 intro ds G Q h;unfold bH at h;split at h
 all_goals first|rfl|exact h.elim
theorem qd(zF:Zz)(hw:List ar->Int):∀ ds G Q,bt zF hw ds G Q->ds.length=1:=by
 intro ds G Q h;unfold bt at h;split at h
 all_goals first|rfl|exact h.elim
theorem jJ(zF:Zz)(hw:List ar->Int):∀ ds G Q,bq zF hw ds G Q->ds.length=2:=by
 intro ds G Q h;unfold bq at h;split at h
 all_goals first|rfl|exact h.elim
theorem b_(zF:Zz)(hw:List ar->Int)(n:Nat):∀ ds G Q,aE zF hw n ds G Q->ds.length=1:=by
 intro ds G Q h;unfold aE at h;split at h
 all_goals first|rfl|exact h.elim
theorem n_(zF:Zz)(hw:List ar->Int):∀ ds G Q,b8 zF hw ds G Q->ds.length=1:=by
 intro ds G Q h;unfold b8 at h;split at h
 all_goals first|rfl|exact h.elim
theorem nZ(zF:Zz)(hw:List ar->Int):∀ ds G Q,bL zF hw ds G Q->ds.length=1:=by
 intro ds G Q h;unfold bL at h;split at h
 all_goals first|rfl|exact h.elim
theorem ic(zF:Zz)(hw:List ar->Int):∀ ds G Q,aN zF hw ds G Q->ds.length=2:=by
 intro ds G Q h;unfold aN at h;split at h
 all_goals first|rfl|exact h.elim
theorem og(zF:Zz)(hw:List ar->Int):∀ ds G Q,bN zF hw ds G Q->ds.length=2:=by
 intro ds G Q h;unfold bN at h;split at h
 all_goals first|rfl|exact h.elim
theorem e7(zF:Zz)(hw:List ar->Int):∀ ds G Q,aY zF hw ds G Q->ds.length=4:=by
 intro ds G Q h;unfold aY at h;split at h
 all_goals first|rfl|exact h.elim
theorem lP(zF:Zz)(hw:List ar->Int):∀ ds G Q,bJ zF hw ds G Q->ds.length=4:=by
 intro ds G Q h;unfold bJ at h;split at h
 all_goals first|rfl|exact h.elim
theorem qa(zF:Zz)(hw:List ar->Int):∀ ds G Q,cE zF hw ds G Q->ds.length=4:=by
 intro ds G Q h;unfold cE at h;split at h
 all_goals first|rfl|exact h.elim
theorem rB(zF:Zz)(hw:List ar->Int):∀ ds G Q,cm zF hw ds G Q->ds.length=6:=by
 intro ds G Q h;unfold cm at h;split at h
 all_goals first|rfl|exact h.elim
theorem mN(zF:Zz)(hw:List ar->Int):∀ ds G Q,bz zF hw ds G Q->ds.length=2:=by
 intro ds G Q h;unfold bz at h;split at h
 all_goals first|rfl|exact h.elim
theorem rA(zF:Zz)(hw:List ar->Int):∀ ds G Q,cY zF hw ds G Q->ds.length=3:=by
 intro ds G Q h;unfold cY at h;split at h
 all_goals first|rfl|exact h.elim
theorem lM(zF:Zz)(hw:List ar->Int):∀ ds G Q,bG zF hw ds G Q->ds.length=3:=by
 intro ds G Q h;unfold bG at h;split at h
 all_goals first|rfl|exact h.elim
theorem lO(zF:Zz)(hw:List ar->Int):∀ ds G Q,bI zF hw ds G Q->ds.length=4:=by
 intro ds G Q h;unfold bI at h;split at h
 all_goals first|rfl|exact h.elim
theorem oa(zF:Zz)(hw:List ar->Int):∀ ds G Q,bM zF hw ds G Q->ds.length=5:=by
 intro ds G Q h;unfold bM at h;split at h
 all_goals first|rfl|exact h.elim
theorem n8(zF:Zz)(hw:List ar->Int):∀ ds G Q,bc zF hw ds G Q->ds.length=4:=by
 intro ds G Q h;unfold bc at h;split at h
 all_goals first|rfl|exact h.elim
theorem jK(zF:Zz)(hw:List ar->Int):∀ ds G Q,aX zF hw ds G Q->ds.length=2:=by
 intro ds G Q h;unfold aX at h;split at h
 all_goals first|rfl|exact h.elim
theorem kJ(zF:Zz)(hw:List ar->Int):∀ ds G Q,bd zF hw ds G Q->ds.length=2:=by
 intro ds G Q h;unfold bd at h;split at h
 all_goals first|rfl|exact h.elim
theorem Ed(zF:Zz)(hw:List ar->Int):∀ ds G Q,sF zF hw ds G Q->ds.length=1:=by
 intro ds G Q h;unfold sF at h;split at h
 all_goals first|rfl|exact h.elim
local macro_rules | `(tactic| walk_at "b") => `(tactic| (intro _ _ _ _ _ _ us hl; first | (obtain ⟨_, e⟩ := Jd hl; subst e; rfl) | (obtain ⟨_, _, e⟩ := Dj hl; subst e; rfl) | (obtain ⟨_, _, _, e⟩ := Jc hl; subst e; rfl) | (obtain ⟨_, _, _, _, e⟩ := Jb hl; subst e; rfl) | (obtain ⟨_, _, _, _, _, e⟩ := Ja hl; subst e; rfl) | (obtain ⟨_, _, _, _, _, _, e⟩ := I_ hl; subst e; rfl)))
structure Ev(K:Nq)(h:K1)(mg:Str->Option KC)(Z1 Z2 Z3 Z4 Z5 C_Answer C_Note C_Margin C_Paper Qv Qs Qw Qu Qt e0f e0N e1f e1N e2f e2N ka1:KE)(ks1:Array (Option KC))(RU e0q:Str)(R7 e0bm QQ:List KC)(R1 R9:Bool)(RL:List Str)(QR:Option Bool)(R0 RZ RY RX RW:Option KC)(e0cls:NO)(Rt e1q:Str)(RI e1bm QO:List KC)(RB RK:Bool)(Ro:List Str)(QP:Option Bool)(RA Rz Ry Rx Rv:Option KC)(e1cls:NO)(Q_ e2q:Str)(Rl e2bm QM:List KC)(Rh Rn:Bool)(Q5:List Str)(QN:Option Bool)(Rg Rf Re Rc Rb:Option KC)(e2cls:NO)(RT RV R5 RN Q0 R6:KC)(RP R8 R4:Option KE)(RM:Array (Option KC))(Rs Ru RF Rq QZ RH:KC)(Rr RJ RC:Option KE)(Rp:Array (Option KC))(Q9 Ra Rj Q7 QY Rk:KC)(Q8 Rm Ri:Option KE)(Q6:Array (Option KC))(kt0:Tok)(QK:Tok)(QJ:Tok)(QI:Tok)(kz1:Nat):Prop where
 X:K.In h
 G:h.Ns KR mg
 y0:SR K KR "Stroke"=some (some (.ref Z1))
 y1:SR K KR "Put"=some (some (.ref Z2))
 y2:SR K KR "Strike"=some (some (.ref Z3))
 y3:SR K KR "Dress"=some (some (.ref Z4))
 y4:SR K KR "Move"=some (some (.ref Z5))
 y5:SR K KR "Answer"=some (some (.ref C_Answer))
 y6:SR K KR "Note"=some (some (.ref C_Note))
 y7:SR K KR "Margin"=some (some (.ref C_Margin))
 y8:SR K KR "Paper"=some (some (.ref C_Paper))
 y9:SR K KR "QuillError"=some (some (.ref Qv))
 ya:SR K KR "OutOfPlace"=some (some (.ref Qs))
 yb:SR K KR "NoStroke"=some (some (.ref Qw))
 yc:SR K KR "NoNote"=some (some (.ref Qu))
 yd:SR K KR "TooDeep"=some (some (.ref Qt))
 ye:K.lookup Qs=some (PF RU e0q Qs e0N R7 e0bm R1 RL QQ R9 QR R4 R0 RZ RY RX RW "ValueError.__new__")
 yf:P7 K L2.veMro e0bm=true
 yg:e0bm.contains (.type "BaseException")=true
 yh:Oc K (.ref Qs) "__init__"=some (some (.ref e0f))
 yi:SZ K (.ref e0f)=some (.type "function")
 yj:OK K (.ref Qs)=true
 yk:Oc K (.ref Qs) "__setattr__"=some (some (.builtin "object.__setattr__"))
 yl:S2 K Qs=some e0cls
 ym:e0cls.hasDict=true
 yn:∀ x,PySem.refuseLoop (.ref x) "__setattr__" e0cls.mro=pure ()
 yo:e0cls.mro.contains (.type "object")=true
 yp:e0cls.mro.isEmpty=false
 yq:SX K Qs "at"=some none
 yr:K.lookup e0f=some ⟨RT,RP,.func (SV "__init__" "OutOfPlace.__init__" (cw bo) (bn bo) (ah bo) .none RV R5 RN R8 Q0 R6),RM⟩
 ys:Pn K Q0 "OutOfPlace.__init__"=true
 yt:Oc K (.ref Qs) "__getattribute__"=some (some (.builtin "BaseException.__getattribute__"))
 yu:Oc K (.ref Qs) "__getattr__"=some none
 yv:SW K Qs (.type "BaseException")=some true
 yw:SY K Qs=true
 yx:Oc K (.ref Qs) "__class__"=some (some (.builtin "object.__class__"))
 yy:OI K (.builtin "object.__class__") "__get__"=some (some (.builtin "getset_descriptor.__get__"))
 yz:S0 K (.builtin "object.__class__")=some true
 y00:SW K Qs (.type "object")=some true
 y01:Oc K (.ref Qs) "at"=some none
 y02:SS K (.ref Qs) (.ref Qs)=some true
 y03:SS K (.ref Qs) (.ref Qv)=some true
 y04:K.lookup Qu=some (PF Rt e1q Qu e1N RI e1bm RB Ro QO RK QP RC RA Rz Ry Rx Rv "ValueError.__new__")
 y05:P7 K L2.veMro e1bm=true
 y06:e1bm.contains (.type "BaseException")=true
 y07:Oc K (.ref Qu) "__init__"=some (some (.ref e1f))
 y08:SZ K (.ref e1f)=some (.type "function")
 y09:OK K (.ref Qu)=true
 y0a:Oc K (.ref Qu) "__setattr__"=some (some (.builtin "object.__setattr__"))
 y0b:S2 K Qu=some e1cls
 y0c:e1cls.hasDict=true
 y0d:∀ x,PySem.refuseLoop (.ref x) "__setattr__" e1cls.mro=pure ()
 y0e:e1cls.mro.contains (.type "object")=true
 y0f:e1cls.mro.isEmpty=false
 y0g:SX K Qu "name"=some none
 y0h:K.lookup e1f=some ⟨Rs,Rr,.func (SV "__init__" "NoNote.__init__" (cw bW) (bn bW) (ah bW) .none Ru RF Rq RJ QZ RH),Rp⟩
 y0i:Pn K QZ "NoNote.__init__"=true
 y0j:Oc K (.ref Qu) "__getattribute__"=some (some (.builtin "BaseException.__getattribute__"))
 y0k:Oc K (.ref Qu) "__getattr__"=some none
 y0l:SW K Qu (.type "BaseException")=some true
 y0m:SY K Qu=true
 y0n:Oc K (.ref Qu) "__class__"=some (some (.builtin "object.__class__"))
 y0o:OI K (.builtin "object.__class__") "__get__"=some (some (.builtin "getset_descriptor.__get__"))
 y0p:S0 K (.builtin "object.__class__")=some true
 y0q:SW K Qu (.type "object")=some true
 y0r:Oc K (.ref Qu) "name"=some none
 y0s:SS K (.ref Qu) (.ref Qs)=some false
 y0t:SS K (.ref Qu) (.ref Qv)=some true
 y0u:K.lookup Qt=some (PF Q_ e2q Qt e2N Rl e2bm Rh Q5 QM Rn QN Ri Rg Rf Re Rc Rb "ValueError.__new__")
 y0v:P7 K L2.veMro e2bm=true
 y0w:e2bm.contains (.type "BaseException")=true
 y0x:Oc K (.ref Qt) "__init__"=some (some (.ref e2f))
 y0y:SZ K (.ref e2f)=some (.type "function")
 y0z:OK K (.ref Qt)=true
 y10:Oc K (.ref Qt) "__setattr__"=some (some (.builtin "object.__setattr__"))
 y11:S2 K Qt=some e2cls
 y12:e2cls.hasDict=true
 y13:∀ x,PySem.refuseLoop (.ref x) "__setattr__" e2cls.mro=pure ()
 y14:e2cls.mro.contains (.type "object")=true
 y15:e2cls.mro.isEmpty=false
 y16:SX K Qt "name"=some none
 y17:K.lookup e2f=some ⟨Q9,Q8,.func (SV "__init__" "TooDeep.__init__" (cw bO) (bn bO) (ah bO) .none Ra Rj Q7 Rm QY Rk),Q6⟩
 y18:Pn K QY "TooDeep.__init__"=true
 y19:Oc K (.ref Qt) "__getattribute__"=some (some (.builtin "BaseException.__getattribute__"))
 y1a:Oc K (.ref Qt) "__getattr__"=some none
 y1b:SW K Qt (.type "BaseException")=some true
 y1c:SY K Qt=true
 y1d:Oc K (.ref Qt) "__class__"=some (some (.builtin "object.__class__"))
 y1e:OI K (.builtin "object.__class__") "__get__"=some (some (.builtin "getset_descriptor.__get__"))
 y1f:S0 K (.builtin "object.__class__")=some true
 y1g:SW K Qt (.type "object")=some true
 y1h:Oc K (.ref Qt) "name"=some none
 y1i:SS K (.ref Qt) (.ref Qs)=some false
 y1j:SS K (.ref Qt) (.ref Qv)=some true
 y1k:SQ K (.ref Qs) (.ref Qu)=some false
 y1l:SQ K (.ref Qs) (.ref Qw)=some false
 y1m:SQ K (.ref Qs) (.ref Qs)=some true
 y1n:SQ K (.ref Qs) (.ref Qt)=some false
 y1o:SQ K (.ref Qs) (.type "ValueError")=some true
 y1p:SQ K (.ref Qu) (.ref Qu)=some true
 y1q:SQ K (.ref Qu) (.ref Qw)=some false
 y1r:SQ K (.ref Qu) (.ref Qs)=some false
 y1s:SQ K (.ref Qu) (.ref Qt)=some false
 y1t:SQ K (.ref Qu) (.type "ValueError")=some true
 y1u:SQ K (.ref Qt) (.ref Qu)=some false
 y1v:SQ K (.ref Qt) (.ref Qw)=some false
 y1w:SQ K (.ref Qt) (.ref Qs)=some false
 y1x:SQ K (.ref Qt) (.ref Qt)=some true
 y1y:SQ K (.ref Qt) (.type "ValueError")=some true
 y1z:Cls K Z1
 y20:ST K Z1=true
 y21:OK K (.ref Z1)=true
 y22:Cls K Z2
 y23:ST K Z2=true
 y24:OK K (.ref Z2)=true
 y25:Cls K Z3
 y26:ST K Z3=true
 y27:OK K (.ref Z3)=true
 y28:Cls K Z4
 y29:ST K Z4=true
 y2a:OK K (.ref Z4)=true
 y2b:Cls K Z5
 y2c:ST K Z5=true
 y2d:OK K (.ref Z5)=true
 y2e:Cls K C_Answer
 y2f:ST K C_Answer=true
 y2g:OK K (.ref C_Answer)=true
 y2h:Oc K (.ref C_Answer) "answers"=some none
 y2i:Oc K (.ref C_Answer) "depth"=some none
 y2j:Oc K (.ref C_Answer) "name"=some none
 y2k:Oc K (.ref C_Answer) "names"=some none
 y2l:Oc K (.ref C_Answer) "words"=some none
 y2m:Cls K C_Note
 y2n:ST K C_Note=true
 y2o:OK K (.ref C_Note)=true
 y2p:Oc K (.ref C_Note) "answers"=some none
 y2q:Oc K (.ref C_Note) "depth"=some none
 y2r:Oc K (.ref C_Note) "name"=some none
 y2s:Oc K (.ref C_Note) "names"=some none
 y2t:Oc K (.ref C_Note) "words"=some none
 y2u:Cls K C_Margin
 y2v:ST K C_Margin=true
 y2w:OK K (.ref C_Margin)=true
 y2x:Oc K (.ref C_Margin) "paper"=some none
 y2y:Oc K (.ref C_Margin) "laid"=some none
 y2z:Oc K (.ref C_Margin) "known"=some none
 y30:Oc K (.ref C_Margin) "greatest"=some none
 y31:Cls K C_Paper
 y32:ST K C_Paper=true
 y33:OK K (.ref C_Paper)=true
 y34:Oc K (.ref C_Paper) "old"=some none
 y35:Oc K (.ref C_Paper) "drawn"=some none
 y36:Oc K (.ref C_Paper) "states"=some none
 y37:Oc K (.ref C_Paper) "greatest"=some none
 y38:Oc K (.ref C_Paper) "time"=some none
 y39:SR K KR "ValueError"=some none
 y3a:SR K KR "all"=some none
 y3b:SR K KR "dict"=some none
 y3c:SR K KR "enumerate"=some none
 y3d:SR K KR "isinstance"=some none
 y3e:SR K KR "len"=some none
 y3f:SR K KR "list"=some none
 y3g:SR K KR "max"=some none
 y3h:SR K KR "range"=some none
 y3i:SR K KR "sorted"=some none
 y3j:SR K KR "str"=some none
 y3k:SR K KR "sum"=some none
 y3l:SR K KR "tuple"=some none
 y3m:SR K KR "zip"=some none
 y3n:SR K KR "DEEPEST"=some (some (.int 10 kt0))
 y3o:SR K KR "START"=some (some (.ref ka1))
 y3p:K.lookup ka1=some ⟨.type "tuple",none,.seq #[.str "" QK,.int 0 QJ,.int 0 QI] kz1,ks1⟩
 y3q:FnG K "_law_drawn" lb
 y3r:FnG K "_law_answers" iQ
 y3s:FnG K "lay_behind" k9
 y3t:FnG K "slots_made" kZ
 y3u:FnG K "old_slots" nk
 y3v:FnG K "place_in_order" gw
 y3w:FnG K "in_order" o_
 y3x:FnG K "chained" rY
 y3y:FnG K "slots_of" o9
 y3z:FnG K "marked" u5
 y40:FnG K "effective" no
 y41:FnG K "signs_brought" im
 y42:FnG K "signs_struck" iO
 y43:FnG K "slots_taken" jR
 y44:FnG K "words_worn" kY
 y45:FnG K "seated" u4
 y46:FnG K "reading" rW
 y47:MtG K C_Paper "unwiped" "Paper.unwiped" ip
 y48:MtG K C_Paper "view" "Paper.view" lf
 y49:MtG K C_Note "numbers_in" "Note.numbers_in" fM
 y4a:MtG K C_Answer "answers_told" "Answer.answers_told" cG
 y4b:MtG K C_Note "answers_told" "Answer.answers_told" cG
 y4c:MtG K C_Margin "told" "Margin.told" jU
 y4d:FnG K "_law_copied" jS
 y4e:MtG K C_Margin "coming_name" "Margin.coming_name" eF
 y4f:MtG K C_Margin "keep" "Margin.keep" jW
 y4g:MtG K C_Answer "__init__" "Answer.__init__" dI
 y4h:CfG K C_Answer "__init__" "Answer.__init__" dI
 y4i:MtG K C_Margin "answer" "Margin.answer" ir
 y4j:FnG K "_law_fault" k_
 y4k:FnG K "_law_give" nr
 y4l:FnG K "_law_deepest" iP
 y4m:FnG K "_law_name" nq
 y4n:FnG K "check_stretch" io
 y4o:MtG K C_Note "__init__" "Note.__init__" iq
 y4p:MtG K C_Margin "note" "Margin.note" jV
 y4q:FnG K "_law_beyond" jT
 y4r:MtG K C_Margin "__init__" "Margin.__init__" fN
 y4s:MtG K C_Paper "__init__" "Paper.__init__" gA
 y4t:FnG K "law" rX
section
variable{P:KQ}{w:K2}{base:K1}{K:Nq}{h:K1}{mg:Str->Option KC}{Z1 Z2 Z3 Z4 Z5 C_Answer C_Note C_Margin C_Paper Qv Qs Qw Qu Qt e0f e0N e1f e1N e2f e2N ka1:KE}{ks1:Array (Option KC)}{RU e0q:Str}{R7 e0bm QQ:List KC}{R1 R9:Bool}{RL:List Str}{QR:Option Bool}{R0 RZ RY RX RW:Option KC}{e0cls:NO}{Rt e1q:Str}{RI e1bm QO:List KC}{RB RK:Bool}{Ro:List Str}{QP:Option Bool}{RA Rz Ry Rx Rv:Option KC}{e1cls:NO}{Q_ e2q:Str}{Rl e2bm QM:List KC}{Rh Rn:Bool}{Q5:List Str}{QN:Option Bool}{Rg Rf Re Rc Rb:Option KC}{e2cls:NO}{RT RV R5 RN Q0 R6:KC}{RP R8 R4:Option KE}{RM:Array (Option KC)}{Rs Ru RF Rq QZ RH:KC}{Rr RJ RC:Option KE}{Rp:Array (Option KC)}{Q9 Ra Rj Q7 QY Rk:KC}{Q8 Rm Ri:Option KE}{Q6:Array (Option KC)}{kt0:Tok}{QK:Tok}{QJ:Tok}{QI:Tok}{kz1:Nat}(E:Ev K h mg Z1 Z2 Z3 Z4 Z5 C_Answer C_Note C_Margin C_Paper Qv Qs Qw Qu Qt e0f e0N e1f e1N e2f e2N ka1 ks1 RU e0q R7 e0bm QQ R1 R9 RL QR R0 RZ RY RX RW e0cls Rt e1q RI e1bm QO RB RK Ro QP RA Rz Ry Rx Rv e1cls Q_ e2q Rl e2bm QM Rh Rn Q5 QN Rg Rf Re Rc Rb e2cls RT RV R5 RN Q0 R6 RP R8 R4 RM Rs Ru RF Rq QZ RH Rr RJ RC Rp Q9 Ra Rj Q7 QY Rk Q8 Rm Ri Q6 kt0 QK QJ QI kz1)
def Ev.z(_:Ev K h mg Z1 Z2 Z3 Z4 Z5 C_Answer C_Note C_Margin C_Paper Qv Qs Qw Qu Qt e0f e0N e1f e1N e2f e2N ka1 ks1 RU e0q R7 e0bm QQ R1 R9 RL QR R0 RZ RY RX RW e0cls Rt e1q RI e1bm QO RB RK Ro QP RA Rz Ry Rx Rv e1cls Q_ e2q Rl e2bm QM Rh Rn Q5 QN Rg Rf Re Rc Rb e2cls RT RV R5 RN Q0 R6 RP R8 R4 RM Rs Ru RF Rq QZ RH Rr RJ RC Rp Q9 Ra Rj Q7 QY Rk Q8 Rm Ri Q6 kt0 QK QJ QI kz1):Zz:=⟨Z1,Z2,Z3,Z4,Z5,C_Answer,C_Note,C_Margin,C_Paper⟩
include E
theorem Km:Tx K mg E.z Qv Qs Qw Qu Qt:=⟨(all_cons ⟨E.y2e,E.y2h⟩ (all_cons ⟨E.y2m,E.y2p⟩ (fun _ h=>nomatch h))),(all_cons ⟨E.y2e,E.y2i⟩ (all_cons ⟨E.y2m,E.y2q⟩ (fun _ h=>nomatch h))),(all_cons ⟨E.y2e,E.y2j⟩ (all_cons ⟨E.y2m,E.y2r⟩ (fun _ h=>nomatch h))),(all_cons ⟨E.y2e,E.y2k⟩ (all_cons ⟨E.y2m,E.y2s⟩ (fun _ h=>nomatch h))),(all_cons ⟨E.y2e,E.y2l⟩ (all_cons ⟨E.y2m,E.y2t⟩ (fun _ h=>nomatch h))),E.y1z,E.y22,E.y25,E.y28,E.y2b,E.y2e,E.y2m,E.y2u,E.y2x,E.y2y,E.y2z,E.y30,E.y31,E.y34,E.y35,E.y36,E.y37,E.y38,LX E.X E.G E.y39,LX E.X E.G E.y3a,LX E.X E.G E.y3b,LX E.X E.G E.y3c,LX E.X E.G E.y3d,LX E.X E.G E.y3e,LX E.X E.G E.y3f,LX E.X E.G E.y3g,LX E.X E.G E.y3h,LX E.X E.G E.y3i,LX E.X E.G E.y3j,LX E.X E.G E.y3k,LX E.X E.G E.y3l,LX E.X E.G E.y3m,AA (SU E.X E.G E.y3n),Az (vs:=[.str "",.int 0,.int 0]) (SU E.X E.G E.y3o) E.y3p (by show 3<=KM;decide) (.cons ⟨_,rfl⟩ (.cons ⟨_,rfl⟩ (.cons ⟨_,rfl⟩ .nil))) fun _=>(RDs.cons h8 (RDs.cons bQ (RDs.cons bQ RDs.nil))),SU E.X E.G E.y9,SU E.X E.G E.ya,SU E.X E.G E.yb,SU E.X E.G E.yc,SU E.X E.G E.yd,⟨⟨E.yt,E.yu,E.yv,E.yw⟩,E.yx,E.yy,E.yz,E.y00,E.y01⟩,E.y02,E.y03,⟨⟨E.y0j,E.y0k,E.y0l,E.y0m⟩,E.y0n,E.y0o,E.y0p,E.y0q,E.y0r⟩,E.y0s,E.y0t,⟨⟨E.y19,E.y1a,E.y1b,E.y1c⟩,E.y1d,E.y1e,E.y1f,E.y1g,E.y1h⟩,E.y1i,E.y1j,E.y1k,E.y1l,E.y1m,E.y1n,E.y1o,E.y1p,E.y1q,E.y1r,E.y1s,E.y1t,E.y1u,E.y1v,E.y1w,E.y1x,E.y1y⟩
variable(T:Tx K mg E.z Qv Qs Qw Qu Qt)
include T
def cx:=ou P w base E.X E.G E.y3q 0 jQ (qc E.z (ax P w)) (pB E.z (ax P w)) fun hr u v=>(ak (aU (i:=2) jQ.nd rfl (by walk_at "i") (bK fL (bK xO (bK cb (bK cb (ao 0) (bK xO aA (ao 1))) aA) aA) aA))
   (aG (aW (bK fL (bK xO (ao 2) (bK cb (bK AW (ao 2) aA) aA)) aA))))
theorem iB:∀ n:Nat,Fn3 P w K mg base (n+1) "_law_answers" [] (aR E.z (ax P w) n)
 | 0=>ou P w base E.X E.G E.y3r 0 ik (gQ E.z (ax P w) 0) (lu E.z (ax P w)) fun hr u v=>cP
 | n+1=>ou P w base E.X E.G E.y3r (n+1) ik (gQ E.z (ax P w) (n+1)) (mw E.z (ax P w) n) fun hr u v=>(aG (aW (f8 (T:=At0) (M:=AE0) (a_ rfl (by kernel_rfl)) (fun cl C s₀ H₀ fp=>⟨(vZ (n:=3) rfl (ee (aP (i:=0) dO rfl (by walk_at "i")) (ee (aP (i:=1) dO rfl (by walk_at "i")) (ee (aP (i:=2) dO rfl (by walk_at "i")) v0)))),fj,(dD (aa (ao 0) (aa (ao 1) (aa (aJ (iB n) hr (by rfl) (aa (ao 2) am)) am))))⟩) (eJ (ao 0)))))
def qR:=iB (P:=P) (w:=w) (base:=base) E T 11
def uK:=ou P w base E.X E.G E.y3s 0 eh (p_ E.z (ax P w)) (pz E.z (ax P w)) fun hr u v=>(ak (aU (i:=3) eh.nd rfl (by walk_at "i") (ao 1))
   (aG (lD LF rfl (eJ (ao 2)) (aP (i:=4) eh.nd rfl (by walk_at "i")) (ak (h9 u (ao 0) (ao 4) (fQ u (ao 0) (ao 3)))
   (ak (h9 u (ao 0) (ao 3) (ao 4))
   (aG (aU (i:=3) eh.nd rfl (by walk_at "i") (ao 4))))))))
def uJ:=ou P w base E.X E.G E.y3t 0 qV (p9 E.z (ax P w)) (pr E.z (ax P w)) fun hr u v=>(aG (aW (f8 (T:=["k"]) (M:=Aw0) (a_ rfl (by kernel_rfl)) (fun cl C s₀ H₀ fp=>⟨(aP (i:=0) nX rfl (by walk_at "i")),fj,(bK cb (ao 1) (dD (aa (ao 0) am)))⟩) (Ch (by rfl) T.b_range (aa aA (aa (bK cb (ao 1) aA) am))))))
def nJ:=ou P w base E.X E.G E.y3u 1 sN (rp E.z (ax P w)) (qX E.z (ax P w)) fun hr u v=>(aG (aW (aJ (uJ E T) hr.m (by rfl) (aa (js zt (gM (by rfl) T.k_START) tO (i5 aA)) (aa (bw b_len (by rfl) T.b_len PySem.boot_len (aa (ao 0) am)) am)))))
def nh:=ou (sp:=sG) P w base E.X E.G E.y3v 0 kW (fun _ _ _ h=>h.elim) (fun _ _ _ h=>h.elim) fun hr u v=>cP
def qQ:=ou P w base E.X E.G E.y3w 3 iL (tY E.z (ax P w)) (sR E.z (ax P w)) fun hr u v=>(ak (aU (i:=1) iL.nd rfl (by walk_at "i") i4)
   (ak (FB LF rfl (ao 0) (aP (i:=2) iL.nd rfl (by walk_at "i")) cP)
   (aG (aW (DU (nh E) hr.m rfl (by rfl) (by rfl) T.b_sorted (ao 1))))))
def AL:=ou P w base E.X E.G E.y3x 0 hJ (vO E.z (ax P w)) (u8 E.z (ax P w)) fun hr u v=>(ak (Hn (i:=1) hJ.nd rfl (by walk_at "i") (pQ am))
   (ak (aU (i:=2) hJ.nd rfl (by walk_at "i") (fQ u (ao 0) (gM (by rfl) T.k_START)))
   (ak (DB LF (w_ Ff (ao 2) BS (cu _)) (ak (mD (pR (ao 1) (aa (ao 2) am)))
   (aG (aU (i:=2) hJ.nd rfl (by walk_at "i") (fQ u (ao 0) (ao 2))))))
   (aG (Br (i:=1) rfl (by first|exact Or.inl rfl|exact Or.inr (Or.inl rfl)))))))
def xK:=ou P w base E.X E.G E.y3y 4 iK (tX E.z (ax P w)) (sQ E.z (ax P w)) fun hr u v=>(ak (aU (i:=2) iK.nd rfl (by walk_at "i") (DX u (gM (by rfl) T.k_START) BS))
   (ak (mD (aJ (uK E) hr.m (by rfl) (aa (ao 2) (aa (gM (by rfl) T.k_START) (aa (aJ (nJ E T) hr.m (by rfl) (aa (ao 0) am)) am)))))
   (ak (lD LF rfl (eJ (f8 (T:=AL0) (M:=An0) (a_ rfl (by kernel_rfl)) (fun cl C s₀ H₀ fp=>⟨(aP (i:=0) rm rfl (by walk_at "i")),fj,oK⟩) (eJ (aJ (qQ E T) hr.m (by rfl) (aa (ao 1) am))))) (aP (i:=3) iK.nd rfl (by walk_at "i")) cP)
   (aG (aW (aJ (AL E T) hr.m (by rfl) (aa (ao 2) am)))))))
def qP:=ou P w base E.X E.G E.y3z 0 zI (xm E.z (ax P w)) (wN E.z (ax P w)) fun hr u v=>(aG (aW (DW u rfl (by rfl) T.b_dict (f8 (T:=["key"]) (M:=["keys"]) (a_ rfl (by kernel_rfl)) (fun cl C s₀ H₀ fp=>⟨(aP (i:=0) vD rfl (by walk_at "i")),fj,(dD (aa (ao 0) (aa BW am)))⟩) (eJ (ao 0))))))
def wp:=ou P w base E.X E.G E.y40 4 g_ (rq E.z (ax P w)) (qY E.z (ax P w)) fun hr u v=>(ak (aU (i:=3) g_.nd rfl (by walk_at "i") (aJ (qP E T) hr.m (by rfl) (aa (ao 1) am)))
   (ak (Bs (T:=AL0) (M:=Ag0) (i:=4) (a_ rfl (by kernel_rfl)) g_.nd rfl rfl (fun cl C s₀ H₀ fp=>⟨(aP (i:=0) pX rfl (by walk_at "i")),(mf pK),oK⟩) (eJ (aJ (qQ E T) hr.m (by rfl) (aa (ao 0) am))))
   (aG (aW (f8 (T:=["stroke"]) (M:=Ag0) (a_ rfl (by kernel_rfl)) (fun cl C s₀ H₀ fp=>⟨(aP (i:=0) pW rfl (by walk_at "i")),(mf pK),oK⟩) (eJ (ao 4)))))))
def oC:=ou P w base E.X E.G E.y41 2 d7 (lL E.z (ax P w)) (lh E.z (ax P w)) fun hr u v=>(ak (aU (i:=2) d7.nd rfl (by walk_at "i") (DV u rfl (by rfl) T.b_dict (by rfl) T.b_zip (aa (aJ (nJ E T) hr.m (by rfl) (aa (ao 0) am)) (aa (ao 0) am))))
   (ak (lD LF rfl (eJ (ao 1)) (aP (i:=3) d7.nd rfl (by walk_at "i")) cP)
   (aG (aW (ao 2)))))
def qO:=ou P w base E.X E.G E.y42 0 eO (mM E.z (ax P w)) (ms E.z (ax P w)) fun hr u v=>(ak (aU (i:=1) eO.nd rfl (by walk_at "i") i4)
   (ak (lD LF rfl (eJ (ao 0)) (aP (i:=2) eO.nd rfl (by walk_at "i")) cP)
   (aG (aW (ao 1)))))
def rN:=ou P w base E.X E.G E.y43 0 fm (nY E.z (ax P w)) (nN E.z (ax P w)) fun hr u v=>(ak (aU (i:=1) fm.nd rfl (by walk_at "i") i4)
   (ak (lD LF rfl (eJ (ao 0)) (aP (i:=2) fm.nd rfl (by walk_at "i")) cP)
   (aG (aW (ao 1)))))
def uI:=ou P w base E.X E.G E.y44 0 fY (p8 E.z (ax P w)) (pj E.z (ax P w)) fun hr u v=>(ak (aU (i:=1) fY.nd rfl (by walk_at "i") i4)
   (ak (lD LF rfl (eJ (ao 0)) (aP (i:=2) fY.nd rfl (by walk_at "i")) cP)
   (aG (aW (ao 1)))))
def CZ:=ou P w base E.X E.G E.y45 5 cF (xl E.z (ax P w)) (wM E.z (ax P w)) fun hr u v=>(ak (aU (i:=3) cF.nd rfl (by walk_at "i") (aJ (xK E T) hr.m (by rfl) (aa (ao 0) (aa (ao 1) am))))
   (ak (aU (i:=4) cF.nd rfl (by walk_at "i") (aJ (wp E T) hr.m (by rfl) (aa (ao 1) (aa (ao 2) (aa (aJ (qP E T) hr.m (by rfl) (aa (ao 3) am)) am)))))
   (ak (aU (i:=5) cF.nd rfl (by walk_at "i") (aJ (oC E T) hr.m (by rfl) (aa (ao 0) (aa (ao 4) am))))
   (ak (aU (i:=6) cF.nd rfl (by walk_at "i") (aJ (qO E) hr.m (by rfl) (aa (ao 4) am)))
   (ak (aU (i:=7) cF.nd rfl (by walk_at "i") (aJ (rN E) hr.m (by rfl) (aa (ao 4) am)))
   (ak (aU (i:=8) cF.nd rfl (by walk_at "i") (aJ (uI E) hr.m (by rfl) (aa (ao 4) am)))
   (ak (aU (i:=9) cF.nd rfl (by walk_at "i") i4)
   (ak (FC LF rfl (ao 5) (aP (i:=10) cF.nd rfl (by walk_at "i")) (aG (jG (jr u (ao 10) (ao 6)) (aG (h9 u (ao 9) (tL u (ao 7) (ao 10) (ao 10)) (ao 10))) cz)))
   (ak (Bs (T:=["slot"]) (M:=Ab0) (i:=11) (a_ rfl (by kernel_rfl)) cF.nd rfl rfl (fun cl C s₀ H₀ fp=>⟨(aP (i:=0) vC rfl (by walk_at "i")),(mf (BR u (ao 0) (ao 10))),(dD (aa (ao 0) (aa (fQ u (ao 10) (ao 0)) am)))⟩) (eJ (ao 3)))
   (aG (aW (f8 (T:=["slot","name"]) (M:=Al0) (a_ rfl (by kernel_rfl)) (fun cl C s₀ H₀ fp=>⟨(vZ (n:=2) rfl (ee (aP (i:=0) nz rfl (by walk_at "i")) (ee (aP (i:=1) nz rfl (by walk_at "i")) v0))),fj,(dD (aa (ao 0) (aa (ao 1) (aa (fQ u (ao 7) (ao 1)) (aa (tL u (ao 10) (ao 1) bv) am)))))⟩) (eJ (ao 11))))))))))))))
def AK:=ou P w base E.X E.G E.y46 6 wK (vN E.z (ax P w)) (u7 E.z (ax P w)) fun hr u v=>(aG (aW (f8 (T:=["seat"]) (M:=Am0) (a_ rfl (by kernel_rfl)) (fun cl C s₀ H₀ fp=>⟨(aP (i:=0) tT rfl (by walk_at "i")),fj,(js zt (ao 0) (i5 aA) tO)⟩) (eJ (aJ (CZ E T) hr.m (by rfl) (aa (ao 0) (aa (ao 1) (aa (ao 2) am))))))))
def m9:=B6 P w base mg T.cl_Paper E.y47 0 ml (lN E.z (ax P w)) (lj E.z (ax P w)) fun hr u v=>(aG (aW (oM (T:=AL0) (M:=Aq0) (a_ rfl (by kernel_rfl)) (fun cl C s₀ H₀ fp=>⟨(aP (i:=0) kE rfl (by walk_at "i")),(mf pK),oK⟩) (fB T.cl_Paper T.na_Paper_drawn jg (ao 0)))))
def gf:=B6 P w base mg T.cl_Paper E.y48 7 qW (qd E.z (ax P w)) (pC E.z (ax P w)) fun hr u v=>(aG (aW (aJ (AK E T) hr.m (by rfl) (aa (fB T.cl_Paper T.na_Paper_old uA (ao 0)) (aa (fB T.cl_Paper T.na_Paper_drawn jg (ao 0)) (aa (fP (m9 E T) mG hr.m (ao 0)) am))))))
def kN:=B6 P w base mg T.cl_Note E.y49 1 fo (jJ E.z (ax P w)) (jE E.z (ax P w)) fun hr u v=>(ak (aU (i:=2) fo.nd rfl (by walk_at "i") (aJ (qP E T) hr.m (by rfl) (aa (cR T.fb_names (ao 0)) am)))
   (aG (aW (f8 (T:=["number","row"]) (M:=AA0) (a_ rfl (by kernel_rfl)) (fun cl C s₀ H₀ fp=>⟨(vZ (n:=2) rfl (ee (aP (i:=0) eG rfl (by walk_at "i")) (ee (aP (i:=1) eG rfl (by walk_at "i")) v0))),(mf (BR u (vp (ao 1) aA) (ao 4))),(ao 0)⟩) (Gf (by rfl) T.b_enumerate (aa (ao 1) am))))))
theorem dU:∀ n:Nat,Mt3 P w K mg base (n+1) C_Answer "answers_told" [] (aE E.z (ax P w) n)
 | 0=>B6 P w base mg T.cl_Answer E.y4a 0 cr (b_ E.z (ax P w) 0) (f6 E.z (ax P w)) fun hr u v=>cP
 | n+1=>B6 P w base mg T.cl_Answer E.y4a (n+1) cr (b_ E.z (ax P w) (n+1)) (dB E.z (ax P w) n) fun hr u v=>(aG (aW (oM (T:=["answer"]) (M:=Aq0) (a_ rfl (by kernel_rfl)) (fun cl C s₀ H₀ fp=>⟨(aP (i:=0) df rfl (by walk_at "i")),fj,(dD (aa (cR T.fb_name (ao 0)) (aa (cR T.fb_words (ao 0)) (aa (fP (dU n) dN hr (ao 0)) am))))⟩) (cR T.fb_answers (ao 0)))))
def jj:=B6 P w base mg T.cl_Note E.y4b (10+1) cr (b_ E.z (ax P w) (10+1)) (dB E.z (ax P w) 10) fun hr u v=>(aG (aW (oM (T:=["answer"]) (M:=Aq0) (a_ rfl (by kernel_rfl)) (fun cl C s₀ H₀ fp=>⟨(aP (i:=0) df rfl (by walk_at "i")),fj,(dD (aa (cR T.fb_name (ao 0)) (aa (cR T.fb_words (ao 0)) (aa (fP (dU E T 10) dN hr (ao 0)) am))))⟩) (cR T.fb_answers (ao 0)))))
def qM:=B6 P w base mg T.cl_Margin E.y4c 12 iN (n_ E.z (ax P w)) (nQ E.z (ax P w)) fun hr u v=>(ak (aU (i:=1) iN.nd rfl (by walk_at "i") (fP (gf E T) f9 hr.m (fB T.cl_Margin T.na_Margin_paper eW (ao 0))))
   (aG (aW (oM (T:=["note"]) (M:=AG0) (a_ rfl (by kernel_rfl)) (fun cl C s₀ H₀ fp=>⟨(aP (i:=0) mI rfl (by walk_at "i")),fj,(dD (aa (cR T.fb_name (ao 0)) (aa (i3 (kN E T) kC hr.m (ao 0) (aa (ao 2) am)) (aa (cR T.fb_words (ao 0)) (aa (fP (jj E T) i7 hr.m (ao 0)) am)))))⟩) (fB T.cl_Margin T.na_Margin_laid jh (ao 0))))))
def ke:=ou P w base E.X E.G E.y4d 13 o7 (nZ E.z (ax P w)) (nO E.z (ax P w)) fun hr u v=>(aG (aW (f8 (T:=As0) (M:=AF0) (a_ rfl (by kernel_rfl)) (fun cl C s₀ H₀ fp=>⟨(vZ (n:=4) rfl (ee (aP (i:=0) c6 rfl (by walk_at "i")) (ee (aP (i:=1) c6 rfl (by walk_at "i")) (ee (aP (i:=2) c6 rfl (by walk_at "i")) (ee (aP (i:=3) c6 rfl (by walk_at "i")) v0))))),fj,(dD (aa (ao 0) (aa (vq b_list (by rfl) T.b_list PyProof.Rows.boot_list (aa (ao 1) am)) (aa (ao 2) (aa (aJ (qR E T) hr.m (by rfl) (aa (ao 3) am)) am)))))⟩) (eJ (fP (qM E T) pT hr.m (ao 0))))))
def d4:=B6 P w base mg T.cl_Margin E.y4e 0 iC (ic E.z (ax P w)) (hZ E.z (ax P w)) fun hr u v=>(aG (aW (dD (aa (ao 1) (aa (bK cb (tL u (fB T.cl_Margin T.na_Margin_greatest fJ (ao 0)) (ao 1) aA) aA) am)))))
def jl:=B6 P w base mg T.cl_Margin E.y4f 0 o8 (og E.z (ax P w)) (nT E.z (ax P w)) fun hr u v=>(ak (h9 u (fB T.cl_Margin T.na_Margin_known cA (ao 0)) (cR T.fb_name (ao 1)) (ao 1))
   (ak (h9 u (fB T.cl_Margin T.na_Margin_greatest fJ (ao 0)) (vp (cR T.fb_name (ao 1)) aA) (vp (cR T.fb_name (ao 1)) aA))
   (aG (aW (cR T.fb_name (ao 1))))))
def kP:=Ks P w base E.X E.G E.y5 E.y4h fun F=>E1 0 F fq (e7 E.z (ax P w)) (eX E.z (ax P w)) fun hr u v=>(ak (ia T.fb_name (ao 0) (ao 1))
   (ak (ia T.fb_words (ao 0) (ao 2))
   (ak (ia T.fb_depth (ao 0) (ao 3))
   (aG (ia T.fb_answers (ao 0) (tJ (pQ am)))))))
def CY:=IS P w base E.X E.G E.y5 E.y2f E.y2g E.y4g fun F=>E1 0 F fq (e7 E.z (ax P w)) (eX E.z (ax P w)) fun hr u v=>(ak (ia T.fb_name (ao 0) (ao 1))
   (ak (ia T.fb_words (ao 0) (ao 2))
   (ak (ia T.fb_depth (ao 0) (ao 3))
   (aG (ia T.fb_answers (ao 0) (tJ (pQ am)))))))
def m_:=B6 P w base mg T.cl_Margin E.y4i 2 b9 (lP E.z (ax P w)) (lr E.z (ax P w)) fun hr u v=>(ak (jG (jr u (ao 2) (fB T.cl_Margin T.na_Margin_known cA (ao 0))) (aG oH) cz)
   (ak (aU (i:=4) b9.nd rfl (by walk_at "i") (fQ u (fB T.cl_Margin T.na_Margin_known cA (ao 0)) (ao 2)))
   (ak (jG (dh (oU u) (cR T.fb_depth (ao 4)) (gM (by rfl) T.k_DEEPEST) (cu _)) (aG oH) cz)
   (ak (aU (i:=5) b9.nd rfl (by walk_at "i") (tK (CY E T) hr.m (by rfl) (aa (i3 (d4 E T) dZ hr.m (ao 0) (aa (ao 1) am)) (aa (ao 3) (aa (bK cb (cR T.fb_depth (ao 4)) aA) am)))))
   (ak (mD (pR (cR T.fb_answers (ao 4)) (aa (ao 5) am)))
   (aG (aW (i3 (jl E T) i8 hr.m (ao 0) (aa (ao 5) am)))))))))
theorem J9:L2.XMk K Qs e0f "at":=⟨⟨_,_,_,_,_,_,_,_,_,_,_,_,_,_,_,_,E.ye,E.yf,E.yg⟩,E.yh,E.yi,E.yj,E.yk,⟨_,E.yl,E.ym,E.yn,E.yo,E.yp⟩,E.yq⟩
theorem kg:ErX P w K mg base 1 "OutOfPlace" Qs "at":=⟨_,_,_,(J9 E T),SU E.X E.G E.ya,t_ (er (st:=bo) E.yr E.ys) hV (J9 E T) rfl (Or.inl rfl) (Or.inl rfl),(.all fun us hl=>by obtain⟨_,_,rfl⟩:=Dj (us:=us) hl;rfl)⟩
theorem J8:L2.XMk K Qu e1f "name":=⟨⟨_,_,_,_,_,_,_,_,_,_,_,_,_,_,_,_,E.y04,E.y05,E.y06⟩,E.y07,E.y08,E.y09,E.y0a,⟨_,E.y0b,E.y0c,E.y0d,E.y0e,E.y0f⟩,E.y0g⟩
theorem AM:ErX P w K mg base 1 "NoNote" Qu "name":=⟨_,_,_,(J8 E T),SU E.X E.G E.yc,t_ (er (st:=bW) E.y0h E.y0i) ko (J8 E T) rfl (Or.inl rfl) (Or.inl rfl),(.all fun us hl=>by obtain⟨_,_,rfl⟩:=Dj (us:=us) hl;rfl)⟩
theorem J7:L2.XMk K Qt e2f "name":=⟨⟨_,_,_,_,_,_,_,_,_,_,_,_,_,_,_,_,E.y0u,E.y0v,E.y0w⟩,E.y0x,E.y0y,E.y0z,E.y10,⟨_,E.y11,E.y12,E.y13,E.y14,E.y15⟩,E.y16⟩
theorem xL:ErX P w K mg base 1 "TooDeep" Qt "name":=⟨_,_,_,(J7 E T),SU E.X E.G E.yd,t_ (er (st:=bO) E.y17 E.y18) jD (J7 E T) rfl (Or.inl rfl) (Or.inl rfl),(.all fun us hl=>by obtain⟨_,_,rfl⟩:=Dj (us:=us) hl;rfl)⟩
def ng:=HJ P w base mg T.cl_Margin E.y4i 2 b9 (kI E.z (ax P w) Qs Qu Qt) (kz E.z (ax P w) Qs Qu Qt) fun hr u v=>(me (Di (jr u (ao 2) (fB T.cl_Margin T.na_Margin_known cA (ao 0))) (uS (oF qC (AM E T) hr.m (by rfl) (aa (ao 2) am))) (rO cz))
   (me (GR (aU (i:=4) b9.nd rfl (by walk_at "i") (fQ u (fB T.cl_Margin T.na_Margin_known cA (ao 0)) (ao 2))))
   (me (Di (dh (oU u) (cR T.fb_depth (ao 4)) (gM (by rfl) T.k_DEEPEST) (cu _)) (uS (oF qC (xL E T) hr.m (by rfl) (aa (ao 2) am))) (rO cz))
   (rO cP))))
def uL:=ou P w base E.X E.G E.y4j 3 fZ (qa E.z (ax P w)) (pA E.z (ax P w) Qv Qs Qw Qu Qt) fun hr u v=>(ak (Bq rfl rfl (AT (ng E T) gP hr.m (ao 0) (aa (ao 1) (aa (ao 2) (aa (ao 3) am)))) (sV (wV (by rfl) T.xm_QuillError T.xe_NoNote_QuillError fZ.nd rfl rfl fun v x o dx od hx=>(mW (Ap (PW.pt (wB (bB (bw (fU hx T.xa_NoNote (.inl ⟨_,rfl⟩) T.xk_NoNote_NoStroke) (by rfl) T.b_isinstance Lp (aa (ao 4) (aa (eT (by rfl) T.xm_NoStroke) am)))) (wB (bB (bw (fU hx T.xa_NoNote (.inl ⟨_,rfl⟩) T.xk_NoNote_OutOfPlace) (by rfl) T.b_isinstance Lp (aa (ao 4) (aa (eT (by rfl) T.xm_OutOfPlace) am)))) (uU (eR (bB (bw (fU hx T.xa_NoNote (.inr ⟨_,rfl⟩) T.xk_NoNote_ValueError) (by rfl) T.b_isinstance Lp (aa (ao 4) (aa (HA (by rfl) T.b_ValueError zb) am))))))))) (lT (yT (aW (dD (aa bv (aa (ao 2) am)))))) (mU cz))
   (mW (Ap (PW.pt (xP (bB (bw (fU hx T.xa_NoNote (.inl ⟨_,rfl⟩) T.xk_NoNote_TooDeep) (by rfl) T.b_isinstance Lp (aa (ao 4) (aa (eT (by rfl) T.xm_TooDeep) am)))) (sD (eR (bB (bw (fU hx T.xa_NoNote (.inl ⟨_,rfl⟩) T.xk_NoNote_NoNote) (by rfl) T.b_isinstance Lp (aa (ao 4) (aa (eT (by rfl) T.xm_NoNote) am)))))))) (lT (uc hx T.xa_NoNote rfl rfl)) (mU cz))
   (mW (Ap (PW.pt (xP (bB (bw (fU hx T.xa_NoNote (.inl ⟨_,rfl⟩) T.xk_NoNote_NoNote) (by rfl) T.b_isinstance Lp (aa (ao 4) (aa (eT (by rfl) T.xm_NoNote) am)))) (sD (eR (bB (bw (fU hx T.xa_NoNote (.inl ⟨_,rfl⟩) T.xk_NoNote_TooDeep) (by rfl) T.b_isinstance Lp (aa (ao 4) (aa (eT (by rfl) T.xm_TooDeep) am)))))))) (lT (uc hx T.xa_NoNote rfl rfl)) (mU cz))
   (lT (yT (aW (dD (aa bv (aa (ao 2) am)))))))))) (sV (wV (by rfl) T.xm_QuillError T.xe_TooDeep_QuillError fZ.nd rfl rfl fun v x o dx od hx=>(mW (Ap (PW.pt (wB (bB (bw (fU hx T.xa_TooDeep (.inl ⟨_,rfl⟩) T.xk_TooDeep_NoStroke) (by rfl) T.b_isinstance Lp (aa (ao 4) (aa (eT (by rfl) T.xm_NoStroke) am)))) (wB (bB (bw (fU hx T.xa_TooDeep (.inl ⟨_,rfl⟩) T.xk_TooDeep_OutOfPlace) (by rfl) T.b_isinstance Lp (aa (ao 4) (aa (eT (by rfl) T.xm_OutOfPlace) am)))) (uU (eR (bB (bw (fU hx T.xa_TooDeep (.inr ⟨_,rfl⟩) T.xk_TooDeep_ValueError) (by rfl) T.b_isinstance Lp (aa (ao 4) (aa (HA (by rfl) T.b_ValueError zb) am))))))))) (lT (yT (aW (dD (aa bv (aa (ao 2) am)))))) (mU cz))
   (mW (Ap (PW.pt (xP (bB (bw (fU hx T.xa_TooDeep (.inl ⟨_,rfl⟩) T.xk_TooDeep_TooDeep) (by rfl) T.b_isinstance Lp (aa (ao 4) (aa (eT (by rfl) T.xm_TooDeep) am)))) (sD (eR (bB (bw (fU hx T.xa_TooDeep (.inl ⟨_,rfl⟩) T.xk_TooDeep_NoNote) (by rfl) T.b_isinstance Lp (aa (ao 4) (aa (eT (by rfl) T.xm_NoNote) am)))))))) (lT (uc hx T.xa_TooDeep rfl rfl)) (mU cz))
   (mW (Ap (PW.pt (xP (bB (bw (fU hx T.xa_TooDeep (.inl ⟨_,rfl⟩) T.xk_TooDeep_NoNote) (by rfl) T.b_isinstance Lp (aa (ao 4) (aa (eT (by rfl) T.xm_NoNote) am)))) (sD (eR (bB (bw (fU hx T.xa_TooDeep (.inl ⟨_,rfl⟩) T.xk_TooDeep_TooDeep) (by rfl) T.b_isinstance Lp (aa (ao 4) (aa (eT (by rfl) T.xm_TooDeep) am)))))))) (lT (uc hx T.xa_TooDeep rfl rfl)) (mU cz))
   (lT (yT (aW (dD (aa bv (aa (ao 2) am)))))))))) (fun _ h=>nomatch h))))
   (aG (aW (dD (aa bv (aa (ao 2) am))))))
def nK:=ou P w base E.X E.G E.y4k 14 cZ (rB E.z (ax P w)) (q_ E.z (ax P w)) fun hr u v=>(ak (aU (i:=6) cZ.nd rfl (by walk_at "i") bv)
   (ak (jG (jr u (ao 4) (ao 1)) (aG (aU (i:=6) cZ.nd rfl (by walk_at "i") bv)) (aG (jG (w_ IY (fQ u (ao 1) (ao 4)) aA (cu _)) (aG (aU (i:=6) cZ.nd rfl (by walk_at "i") bv)) cz)))
   (ak (jG (dh (oU u) (ao 6) bv (cu _)) (ak (aU (i:=7) cZ.nd rfl (by walk_at "i") (i3 (m_ E T) gP hr.m (ao 0) (aa (ao 3) (aa (ao 4) (aa (ao 5) am)))))
   (ak (h9 u (ao 2) (ao 3) (bK cb (fQ u (ao 2) (ao 3)) aA))
   (ak (h9 u (ao 1) (ao 7) (bK cb (fQ u (ao 1) (ao 4)) aA))
   (aG (aW (tM (oU u) (ao 7) (dD (aa (ao 3) (aa (fQ u (ao 2) (ao 3)) am))) (cu _))))))) cz)
   (ak (aU (i:=8) cZ.nd rfl (by walk_at "i") (aJ (ke E T) hr.m (by rfl) (aa (ao 0) am)))
   (aG (aW (HC (tM (oU u) (aJ (uL E T) hr.m (by rfl) (aa (ao 0) (aa (ao 3) (aa (ao 4) (aa (ao 5) am))))) (dD (aa (ao 6) (aa (ao 4) am))) (cu _)) (HB (tM (GS (m:=40) (Nat.lt_of_le_of_lt (Nat.add_le_add_left (by decide:40<=64) _) hr.units)) (aJ (ke E T) hr.m (by rfl) (aa (ao 0) am)) (ao 8) (cu _))))))))))
def jn:=ou P w base E.X E.G E.y4l 0 eP (mN E.z (ax P w)) (mv E.z (ax P w)) fun hr u v=>(ak (aU (i:=2) eP.nd rfl (by walk_at "i") (FP rfl (by rfl) T.b_max (ao 0)))
   (ak (DC (T:=["_law_name_here","_law_depth"]) (M:=Ak0) (i:=3) (a_ rfl (by kernel_rfl)) eP.nd rfl rfl (fun cl C s₀ H₀ fp=>⟨(vZ (n:=2) rfl (ee (aP (i:=0) fR rfl (by walk_at "i")) (ee (aP (i:=1) fR rfl (by walk_at "i")) v0))),(mf (PW.pt (wB (dh (oU u) (ao 1) (ao 4) (cu _)) (uU (dh (oU u) (ao 1) aA (cu _)))))),(ao 0)⟩) (ao 0))
   (aG (aW (vp (ao 3) (bK fL (ao 1) (bw b_len (by rfl) T.b_len PySem.boot_len (aa (ao 3) am))))))))
def wq:=ou P w base E.X E.G E.y4m 1 hU (rA E.z (ax P w)) (qZ E.z (ax P w)) fun hr u v=>(ak (aU (i:=3) hU.nd rfl (by walk_at "i") (bK fL (aJ (cx E) hr.m (by rfl) (aa (ao 2) (aa aA am))) aA))
   (ak (jG (w_ AV (ao 3) aA (cu _)) (aG (aW (aJ (jn E T) hr.m (by rfl) (aa (ao 0) (aa (aJ (cx E) hr.m (by rfl) (aa (ao 2) (aa aA am))) am))))) cz)
   (ak (jG (dh (oU u) (ao 3) aA (cu _)) (aG (aW (dD (aa bv (aa (bK cb (bK cb (fQ u (ao 1) bv) aA) (bK fL (aJ (cx E) hr.m (by rfl) (aa (ao 2) (aa aA am))) aA)) am))))) cz)
   (ak (jG (dh (oU u) (ao 3) aA (cu _)) (aG (aW (dD (aa (vp (pQ (aa bv (aa bv (aa bv am)))) (bK fL (aJ (cx E) hr.m (by rfl) (aa (ao 2) (aa aA am))) aA)) (aa aA am))))) cz)
   (ak (aU (i:=4) hU.nd rfl (by walk_at "i") (BU rfl (by rfl) T.b_list (ao 0)))
   (aG (aW (vp (ao 4) (bK fL (aJ (cx E) hr.m (by rfl) (aa (ao 2) (aa aA am))) (bw b_len (by rfl) T.b_len PySem.boot_len (aa (ao 4) am)))))))))))
def oE:=ou P w base E.X E.G E.y4n 0 gv (lM E.z (ax P w)) (li E.z (ax P w)) fun hr u v=>(ak (jG (eR (lH Dh AV aA (ao 0) (ao 2))) (aG oH) cz)
   (aG (jG (eR (lH AV Dh (ao 0) (ao 1) (ao 2))) (aG oH) cz)))
def GE:=IS P w base E.X E.G E.y6 E.y2n E.y2o E.y4o fun F=>E1 1 F mm (lO E.z (ax P w)) (lq E.z (ax P w)) fun hr u v=>(ak (mD (z9 (kP E T) hr.m (by rfl) (aa (ao 0) (aa (ao 1) (aa (ao 2) (aa aA am))))))
   (aG (ia T.fb_names (ao 0) (ao 3))))
def jk:=B6 P w base mg T.cl_Margin E.y4p 8 cN (oa E.z (ax P w)) (nR E.z (ax P w)) fun hr u v=>(ak (aU (i:=5) cN.nd rfl (by walk_at "i") (fP (gf E T) f9 hr.m (fB T.cl_Margin T.na_Margin_paper eW (ao 0))))
   (ak (mD (aJ (oE E) hr.m (by rfl) (aa (ao 2) (aa (ao 3) (aa (bw b_len (by rfl) T.b_len PySem.boot_len (aa (ao 5) am)) am)))))
   (ak (aU (i:=6) cN.nd rfl (by walk_at "i") (tK (GE E T) hr.m (by rfl) (aa (i3 (d4 E T) dZ hr.m (ao 0) (aa (ao 1) am)) (aa (ao 4) (aa (f8 (T:=AL0) (M:=Aj0) (a_ rfl (by kernel_rfl)) (fun cl C s₀ H₀ fp=>⟨(aP (i:=0) mJ rfl (by walk_at "i")),fj,(vp (ao 0) aA)⟩) (eJ (js zt (ao 5) (i5 (ao 2)) (i5 (ao 3))))) am)))))
   (ak (mD (pR (fB T.cl_Margin T.na_Margin_laid jh (ao 0)) (aa (ao 6) am)))
   (aG (aW (i3 (jl E T) i8 hr.m (ao 0) (aa (ao 6) am))))))))
def ni:=JK P w base E.X E.G E.y4n 2 gv (kH E.z (ax P w) Qs Qu Qt) (kt E.z (ax P w) Qs Qu Qt) fun hr u v=>(me (Di (eR (lH Dh AV aA (ao 0) (ao 2))) (uS (oF qC (kg E T) hr.m (by rfl) (aa (ao 0) am))) (rO cz))
   (uS (Di (eR (lH AV Dh (ao 0) (ao 1) (ao 2))) (uS (oF qC (kg E T) hr.m (by rfl) (aa (ao 1) am))) (rO cz))))
def qN:=HJ P w base mg T.cl_Margin E.y4p 8 cN (mL E.z (ax P w) Qs Qu Qt) (mr E.z (ax P w) Qs Qu Qt) fun hr u v=>(me (GR (aU (i:=5) cN.nd rfl (by walk_at "i") (fP (gf E T) f9 hr.m (fB T.cl_Margin T.na_Margin_paper eW (ao 0)))))
   (me (Fg qC (ni E T) hr.m (by rfl) (aa (ao 2) (aa (ao 3) (aa (bw b_len (by rfl) T.b_len PySem.boot_len (aa (ao 5) am)) am))))
   (rO cP)))
def eE:=ou P w base E.X E.G E.y4q 9 iM (n8 E.z (ax P w)) (nP E.z (ax P w) Qv Qs Qw Qu Qt) fun hr u v=>(ak (Bq rfl rfl (AT (qN E T) fC hr.m (ao 0) (aa (ao 1) (aa (ao 2) (aa (ao 3) (aa bv am))))) (sV (wV (by rfl) T.xm_OutOfPlace T.xe_OutOfPlace_OutOfPlace iM.nd rfl rfl fun v x o dx od hx=>(lT (Gg hx T.xa_OutOfPlace rfl rfl))) (fun _ h=>nomatch h)))
   (aG (aW BS)))
def CW:=IS P w base E.X E.G E.y7 E.y2v E.y2w E.y4r fun F=>E1 0 F kq (jK E.z (ax P w)) (jF E.z (ax P w)) fun hr u v=>(ak (h_ (L:=[]) T.cl_Margin T.na_Margin_paper (by decide +kernel) (by decide) (ao 0) (ao 1))
   (ak (h_ (L:=["paper"]) T.cl_Margin T.na_Margin_laid (by decide +kernel) (by decide) (ao 0) (tJ (pQ am)))
   (ak (h_ (L:=["paper","laid"]) T.cl_Margin T.na_Margin_known (by decide +kernel) (by decide) (ao 0) i4)
   (aG (h_ (L:=["paper","laid","known"]) T.cl_Margin T.na_Margin_greatest (by decide +kernel) (by decide) (ao 0) BV)))))
def EL:=IS P w base E.X E.G E.y8 E.y32 E.y33 E.y4s fun F=>E1 0 F kX (kJ E.z (ax P w)) (kA E.z (ax P w)) fun hr u v=>(ak (h_ (L:=[]) T.cl_Paper T.na_Paper_old (by decide +kernel) (by decide) (ao 0) (ao 1))
   (ak (h_ (L:=["old"]) T.cl_Paper T.na_Paper_drawn (by decide +kernel) (by decide) (ao 0) (tJ (pQ am)))
   (ak (h_ (L:=["old","drawn"]) T.cl_Paper T.na_Paper_states (by decide +kernel) (by decide) (ao 0) i4)
   (ak (h_ (L:=AK0) T.cl_Paper T.na_Paper_greatest (by decide +kernel) (by decide) (ao 0) BV)
   (aG (h_ (L:=["old","drawn","states","greatest"]) T.cl_Paper T.na_Paper_time (by decide +kernel) (by decide) (ao 0) aA))))))
omit T
theorem all_mk{fa:KE}(hfa:mg "law"=some (.ref fa)):
  ∃ fd:Lz,(∀ (s:KF) (v:KC),OD s fd ⟨[v],[]⟩ [("_law_script",v)])/\∀ base:K1,K.In base->base.Ns KR mg->FnOk P w K mg base l_ 16 fa fd ["_law_script"] (bC K sH):=by
 have T:=Km E;obtain⟨f,a,⟨⟨_,_,an,_,kV,dc,pm,cd,ct,l,c⟩⟩,_⟩:=E.y4t.ex;have e:=hfa.symm.trans (SU E.X E.G a);cases e;have F:=er (st:=rX) l c;refine⟨SV "law" "law" (cw rX) (bn rX) (ah rX) .none kV dc pm an cd ct,fun s v=>.of_eq rfl,fun base _ _=>?_⟩;exact E1 15 F dH (Ed E.z (ax P w)) (Dw E.z (ax P w)) fun hr u v=>(ak (aU (i:=1) dH.nd rfl (by walk_at "i") (bw (b_sum rfl) (by rfl) T.b_sum boot_sum (aa (js zt (ao 0) tO (i5 aA)) am)))
   (ak (aU (i:=2) dH.nd rfl (by walk_at "i") (bK cb aA (bK fL (ao 1) aA)))
   (ak (aU (i:=3) dH.nd rfl (by walk_at "i") (tK (CW E T) hr.m (by rfl) (aa (tK (EL E T) hr.m (by rfl) (aa (bK xO bv (ao 2)) am)) am)))
   (ak (aU (i:=4) dH.nd rfl (by walk_at "i") (FQ (by decide)))
   (ak (aU (i:=5) dH.nd rfl (by walk_at "i") i4)
   (ak (lD LF rfl (vX (by rfl) T.b_range (aa (bK cb aA (bK fL (bK AW (ao 1) aA) aA)) am)) (aP (i:=6) dH.nd rfl (by walk_at "i")) (ak (aU (i:=7) dH.nd rfl (by walk_at "i") (bK fL (aJ (cx E) hr.m (by rfl) (aa (ao 1) (aa (bK cb aA (ao 6)) am))) (ao 2)))
   (ak (aU (i:=8) dH.nd rfl (by walk_at "i") (i3 (jk E T) fC hr.m (ao 3) (aa bv (aa (ao 7) (aa (ao 2) (aa (bK cb bv (vq Gz (by rfl) T.b_str AE (aa (ao 6) am))) am))))))
   (ak (h9 u (ao 4) bv (bK cb (fQ u (ao 4) bv) aA))
   (aG (h9 u (ao 5) (ao 8) aA))))))
   (ak (jG (dh (oU u) (bK fL (bK AW (ao 1) aA) aA) aA (cu _)) (aG (lD LF rfl (vX (by rfl) T.b_range (aa aA am)) (aP (i:=6) dH.nd rfl (by walk_at "i")) (aG (jG (eR (bB (aJ (nK E T) hr.m (by rfl) (aa (ao 3) (aa (ao 5) (aa (ao 4) (aa bv (aa (aJ (jn E T) hr.m (by rfl) (aa (ao 5) (aa aA am))) (aa bv am))))))))) (aG (aW BW)) cz)))) cz)
   (ak (lD LF rfl (eJ (js zt (ao 0) (i5 aA) (i5 aA))) (aP (i:=9) dH.nd rfl (by walk_at "i")) (ak (aU (i:=10) dH.nd rfl (by walk_at "i") (vp (pQ (aa bv (aa bv am))) (bK fL (aJ (cx E) hr.m (by rfl) (aa (ao 9) (aa aA am))) aA)))
   (ak (aU (i:=11) dH.nd rfl (by walk_at "i") (aJ (wq E T) hr.m (by rfl) (aa (ao 5) (aa (ao 4) (aa (ao 9) am)))))
   (aG (jG (eR (bB (aJ (nK E T) hr.m (by rfl) (aa (ao 3) (aa (ao 5) (aa (ao 4) (aa (ao 10) (aa (ao 11) (aa (js zt bv tO (i5 (bK cb aA (bK fL (ao 9) aA)))) am))))))))) (aG (aW BW)) cz)))))
   (ak (aU (i:=12) dH.nd rfl (by walk_at "i") (bK fL (ao 1) (bK GQ aA aA)))
   (ak (jG (PW.pt (wB (dh (Dg u) (aJ (eE E T) hr.m (by rfl) (aa (ao 3) (aa bv (aa (bK cb (ao 2) (ao 12)) (aa (bK cb (bK cb (ao 2) (ao 12)) aA) am))))) (bK cb (ao 2) (ao 12)) (cu _)) (uU (dh (Dg u) (aJ (eE E T) hr.m (by rfl) (aa (ao 3) (aa bv (aa (EY aA) (aa aA am))))) (EY aA) (cu _))))) (aG (aW BW)) cz)
   (ak (jG (PW.pt (wB (dh (Dg u) (aJ (eE E T) hr.m (by rfl) (aa (ao 3) (aa bv (aa aA (aa (bK cb (bK cb (ao 2) aA) (ao 12)) am))))) (bK cb (bK cb (ao 2) aA) (ao 12)) (cu _)) (uU (dh (Dg u) (aJ (eE E T) hr.m (by rfl) (aa (ao 3) (aa bv (aa aA (aa aA am))))) aA (cu _))))) (aG (aW BW)) cz)
   (aG (aW (tM (oU u) (i3 (jk E T) fC hr.m (ao 3) (aa bv (aa aA (aa aA (aa bv am))))) (dD (aa bv (aa (bK cb (fQ u (ao 4) bv) aA) am))) (cu _)))))))))))))))
end
end RQ
open PySem PySem.W PyProof.Rows
local macro_rules | `(tactic| walk_at "gq") => `(tactic| first | k_is | kernel_rfl | (intro _; kernel_rfl) | (refine' L3.fnG_mk ?a ?l ?c ?k; (case a => k_is); (case l => k_is); (case c => k_is); (case k => k_is)) | (refine' L3.mtG_mk ?a ?i ?l ?c ?k; (case a => k_is); (case i => k_is); (case l => k_is); (case c => k_is); (case k => k_is)) | (refine' L2.Cls.mk ?a ?b ?c ?d; (case a => k_is); (case b => k_is); (case c => k_is); (case d => k_is)) | (refine' L3.mtD_mk ?a ?i ?l ?c ?k ?d; (case a => k_is); (case i => k_is); (case l => k_is); (case c => k_is); (case k => k_is); (case d => k_is)) | (refine' L3.cfG_mk ?g ?r ?a ?l ?c ?k; (case g => k_is); (case r => k_is); (case a => k_is); (case l => k_is); (case c => k_is); (case k => k_is)) | skip)
namespace PySem.W.Fast
def tw6383653314057683688:=0
def tw17199306769071171041:=0
def tw2856708608734257918:=0
def tw15265351506540101310:=0
def tw2032447318452294164:=0
def tw8185811177778463647:=0
def tw8039666655246242589:=0
def tw16586810568767496233:=0
def tw13941403107603151999:=0
def tw11611310002682269059:=0
def tw4992002905335714567:=0
def tw8460155158199162057:=0
def tw5744501810130981642:=0
def tw5328637287069902842:=0
def tw6112028823101456004:=0
def tw15554240812936647499:=0
def tw9924369086589830226:=0
def tw11026141889832833105:=0
def tw3761334427808967383:=0
def tw9850509377093782423:=0
def tw18357954889877285064:=0
def tw12247361591257460069:=0
def tw4361443180311664159:=0
def tw10343087227773778926:=0
def tw4470032966060889194:=0
def tw10739340261511717940:=0
def tw9780351938667044077:=0
def tw14865483540498421645:=0
def tw5048084367079161735:=0
def tw2999477484425468013:=0
def tw10574976529792347079:=0
def tw4930820799661573778:=0
def tw309116697733732594:=0
def tw18332486586859288693:=0
def tw18060539511457323689:=0
def tw3181105186692600995:=0
def tw2912105056307050634:=0
def tw12146661544157537398:=0
def tw12938620011166592632:=0
def tw17084997772351929087:=0
def tw7956295875349687253:=0
def tw6859849031325030183:=0
def tw11052305218916589068:=0
def tw9685947046968088177:=0
def tw17120199003854204549:=0
def tw11479870077229411287:=0
def tw7626190309343597346:=0
def tw9652995350117827036:=0
def tw6726609393442349594:=0
def tw3993589482785461663:=0
def tw3173686461765513343:=0
def tw9339647693312184822:=0
def tw4741828110007179252:=0
def tw12115781135293504194:=0
def tw13812992141893957312:=0
def tw1299903307956334644:=0
def tw7118356039747501609:=0
def tw17374137930626265837:=0
def tw14848370628886708157:=0
def tw11508770713428613936:=0
def tw13720137336896755886:=0
def tw8442708102865488710:=0
def tw13012508586084873183:=0
def tw5839308217798266460:=0
def tw15077678406342678555:=0
def tw13004353183948175026:=0
def tw2270933255516555646:=0
def tw9949660780347206746:=0
def tw5008543875630125212:=0
def tw11289584420951751790:=0
def tw18414733454658736032:=0
def tw14420519896237230338:=0
def tw12505448474977308559:=0
def tw5598440963264943357:=0
def tw11679194964511360500:=0
def tw11675709966200866033:=0
def tw3604358092668264090:=0
def tw5642995541250472306:=0
def tw18052021964401307421:=0
def tw667950128729763807:=0
def tw1014046798710994118:=0
def tw8234949674376363356:=0
def tw9132900011060895845:=0
def tw12126534146163653312:=0
def tw7534906102924188757:=0
def tw11394596504071961289:=0
def tw1289153549094246865:=0
def tw9226833453265686654:=0
def tw1500362435442941643:=0
def tw13893352753491632837:=0
def tw15760916581799018588:=0
def tw8511842867138507964:=0
def tw14498092810593395566:=0
def tw15294756092851822283:=0
def tw8518753143684576753:=0
def tw4879825528400711782:=0
def tw7677080861750469685:=0
def tw1113863484867815947:=0
def tw18391285835105284053:=0
def tw10624978012687185301:=0
def tw10557775031066633377:=0
def tw15016567923014684366:=0
def tw14484110858720239532:=0
def tw17631103567842356873:=0
def tw12752825635126040686:=0
def tw15444276325051732899:=0
def tw7589315401156095877:=0
def tw8454755150392157848:=0
def tw4832006516835400905:=0
def tw9672489958645142154:=0
def tw16641082898096961122:=0
def tw16432583585628800552:=0
def tw16230626155700213453:=0
def tw7159708322340948948:=0
def tw15537635850081954127:=0
def tw10361929591333164371:=0
def tw11645004227659854335:=0
def tw10813406097674571186:=0
def tw9724872264459809694:=0
def tw8859012306533199438:=0
def tw14018781147290602784:=0
def tw2200596963348719104:=0
def tw249677028612000659:=0
def tw16431115755368769211:=0
def tw2686519755197204545:=0
def tw4265719550801511660:=0
def tw6046897782969034078:=0
def tw9272341465314931517:=0
def tw7849239791496183848:=0
def tw3291933786622006061:=0
def tw5688462507135837048:=0
def tw5051414122452827649:=0
def tw13649232694819411481:=0
def tw11763956381958286882:=0
def tw8812277759971274365:=0
def tw7192988929185241722:=0
def tw9722081824474955422:=0
def tw16470091178791908772:=0
def tw17193530597334293865:=0
def tw3394945870638678569:=0
def tw6710471639520034874:=0
def tw13810211790428548676:=0
def tw12815681791847152936:=0
def tw7075364663456345290:=0
def tw9879894405537657703:=0
def tw4014285341745244754:=0
def tw18355861638259963575:=0
def tw744738787104269629:=0
def tw8911614332087630340:=0
def tw6461397729932185726:=0
def tw11204705462431317661:=0
def tw10318427982197220695:=0
def tw14292359983330789904:=0
def tw6044607524995693662:=0
def tw7682080954560583643:=0
def tw4494316362311587231:=0
def tw11524497059418576906:=0
def tw13525922184416485647:=0
def tw16895540321385813825:=0
def tw12452061956002709129:=0
def tw4072555495512583631:=0
def tw17467185400357741279:=0
def tw1109959875515506890:=0
def tw14515924047616521845:=0
def tw9674450013806552640:=0
def tw4173366440211547595:=0
def tw14471824060801457036:=0
def tw3617404987210483562:=0
def tw3445859542136263783:=0
def tw2837692894266887580:=0
def tw17723129222108144948:=0
def tw8604053615745340696:=0
def tw6734549947718744193:=0
def tw7798744269874995005:=0
def tw5900210628505264231:=0
def tw14648596601986567972:=0
def tw9912026082227419920:=0
def tw4511801297803526246:=0
def tw11723717103330780207:=0
def tw1526503621774522184:=0
def tw10929102431081844364:=0
def tw10334934714256107082:=0
def tw10140438725317024364:=0
def tw13625516960560553536:=0
def tw17789693065564212497:=0
def tw4409708676875054125:=0
def tw14291758749568468287:=0
def tw5303956397419382282:=0
def tw1704735674824639278:=0
def tw6827128865092926508:=0
def tw12678554620137607630:=0
def tw18307070495644092341:=0
def tw10992861210783065198:=0
def tw14945982124712008211:=0
def tw13188618267747059128:=0
def tw6396178432944090650:=0
def tw14439467346350807938:=0
def tw682679320365127396:=0
def tw14372921972328655905:=0
def tw6634193385847617757:=0
def tw15854244897679786265:=0
def tw3326128753977893534:=0
def tw94778327336391608:=0
def tw5129831620370896019:=0
def tw17960371589117816344:=0
def tw5787987195493924292:=0
def tw11647000812685649605:=0
def tw5731630012843626334:=0
def tw6871563965419594462:=0
def tw14830457515011582050:=0
def tw9343381130952093777:=0
def tw9312889717473488880:=0
def tw7167611372181955368:=0
def tw5682752819098572482:=0
def tw493363958894215583:=0
def tw3607043728063002227:=0
def tw7998719934444274423:=0
def tw286621664085584151:=0
def tw12981982426660892232:=0
def tw6232868924055108374:=0
def tw5954600227387203728:=0
def tw5800418683262124401:=0
def tw17258039049238642547:=0
def tw11139930142096320973:=0
def tw5869356020195328300:=0
def tw279661480571390156:=0
def tw11958466228264628093:=0
def tw16246925870655446149:=0
def tw15576669875288367354:=0
def tw12655666174862178262:=0
def tw3808431085395342602:=0
def tw4512389549810762526:=0
def tw1018217651185633802:=0
def tw11937331657690344989:=0
def tw14722246510381325385:=0
def tw13231682715724765234:=0
def tw9496609763487552374:=0
def tw18371610865684211607:=0
def tw16169322229929785538:=0
def tw2907996155028187049:=0
def tw6652887095803791025:=0
def tw229602132245364725:=0
def tw2025691009252275238:=0
def tw17801290574282853907:=0
def tw416966631858243216:=0
def tw5019557850732041313:=0
def tw13696459626761397163:=0
def tw3780915773824041211:=0
def tw1687750225913170683:=0
def tw2332943641944815345:=0
def tw8974616603475779948:=0
def tw5225463265382119188:=0
def tw8198034266793701486:=0
def tw16933265298287392737:=0
def tw6695497882256442511:=0
def tw16858966729697327498:=0
def tw7017758833639059622:=0
def tw9105275553492782399:=0
def tw8989764706604124931:=0
def tw6534733788698272195:=0
def tw12177870191033275468:=0
def tw10013257011033692178:=0
def tw5574269927046698176:=0
def tw6912598097568800561:=0
def tw3957422683987295929:=0
def tw5163887474310497889:=0
def tw15701743100459374435:=0
def tw4506693407409982519:=0
def tw7520902816282027931:=0
def tw4604257908816464394:=0
def tw3914410105085405619:=0
def tw17997591019536012244:=0
def tw10700672789753785333:=0
def tw10831586049907030380:=0
def tw4914808948560731991:=0
def tw3038829520877411135:=0
def tw6436986826553758729:=0
def tw16208458660060934516:=0
def tw13792420577598326248:=0
def tw4657316225996802338:=0
def tw9852212723889419747:=0
def tw6910537841890329951:=0
def tw215274610377267232:=0
def tw14775088795152826817:=0
def tw10444579832376263076:=0
def tw10269371560397098325:=0
def tw6042413432118248232:=0
def tw13405620633059542501:=0
def tw11148639910614335392:=0
def tw1670697721586409984:=0
def tw5791285096113997085:=0
def tw16447004639294990524:=0
def tw13423532387098201301:=0
def tw9774063588574824805:=0
def tw1532740586202172464:=0
def tw12299687186010927298:=0
def tw18428596806381834639:=0
def tw1311189148190146187:=0
def tw9858611423180753283:=0
def tw8496622587757135281:=0
def tw17627195496240430144:=0
def tw1025477460607339155:=0
def tw2207093101474066389:=0
def tw14649789063699611096:=0
def tw8719515206540410483:=0
def tw12621289605272463293:=0
def tw2905696161222069799:=0
def tw15986133169174814859:=0
def tw15570847738621710352:=0
def tw13221339809037017713:=0
def tw10671735043558835105:=0
def tw16311360513894839388:=0
def tw645861127407687304:=0
def tw2447218778680780165:=0
def tw128129181599305067:=0
def tw17388651452515502290:=0
def tw8877035552377076837:=0
def tw4171433631943464516:=0
def tw9059443765524690108:=0
def tw962774195111937950:=0
def tw782719959171482959:=0
def tw1627637839694529405:=0
def tw6601193208280286539:=0
def tw3392359155947907763:=0
def tw16513841411060215733:=0
def tw11600896895677282185:=0
def tw8703510924122427580:=0
def tw9139420881775273828:=0
def tw768876279777491832:=0
def tw4767475793024347658:=0
def tw309272201835511377:=0
def tw14772132257119134986:=0
def tw10867787749229839799:=0
def tw11691783594210158954:=0
def tw5372074173088982261:=0
def tw1732244618719685528:=0
def tw13830198555390553387:=0
def tw491454792678183790:=0
def tw15450316389673456436:=0
def tw14236738315891435362:=0
def tw10304114552881773806:=0
def tw7555763806948837144:=0
def tw5274629100189200510:=0
def tw3702425324031105444:=0
def tw14332296556007750816:=0
def tw1533504053419548842:=0
def tw15306382722195895888:=0
def tw13326390950139611579:=0
def tw17673345986607298742:=0
def tw10824434303997355588:=0
def tw1042215540917271998:=0
def tw9680846527526443228:=0
def tw9348286995879841066:=0
def tw821953248660714270:=0
def tw6255109650214257996:=0
def tw4462977684632319475:=0
def tw4095894541672663672:=0
def tw357425035464923868:=0
def tw17570830495070115642:=0
def tw16985417708488845993:=0
def tw16065182731976749354:=0
def tw14097216636488005085:=0
def tw11977285414416132806:=0
def tw6873601318320213757:=0
def tw8988075959091048485:=0
def tw6825390718537479839:=0
def tw5985919508788236833:=0
def tw16753565930005406244:=0
def tw15167284507503704179:=0
def tw10850406548384160347:=0
def tw8965063221979334687:=0
def tw6305932306585361847:=0
def tw1071340256371623558:=0
def tw12807319883544070977:=0
def tw5618326325109079652:=0
def tw5401045737083344098:=0
def tw12085371098175844841:=0
def tw12596597129372977851:=0
def tw1110097820095551461:=0
def tw11022664075919165727:=0
def tw9379926678014005997:=0
def tw6858294207752822661:=0
def tw5778621422291500558:=0
def tw17773071053510520301:=0
def tw15567784657578394640:=0
def tw15210029287582352089:=0
def tw15016398659032573650:=0
def tw14213283716208998481:=0
def tw12477869562171417136:=0
def tw4605875620185668346:=0
def tw7175665474347963667:=0
def tw25986456663589742:=0
def tw17906832489192786060:=0
def tw1567413103151765452:=0
def tw15607748893072479288:=0
def tw957556969463473376:=0
def tw8235160357680152802:=0
def tw6137201706961737740:=0
def tw4663854784415235196:=0
def tw18350980426257464591:=0
def tw17515449308555824688:=0
def tw15749411076339095119:=0
def tw9330238625318964556:=0
def tw5374525152828230507:=0
def tw5013056522696958219:=0
def tw3022096269073524600:=0
def tw14345751883965574760:=0
def tw10020957894590133111:=0
def tw6362142432977499795:=0
def tw6208238123118671154:=0
def tw4991697545177423619:=0
def tw8248430164187599427:=0
def tw11524644119766854586:=0
def tw4502307367963410978:=0
def tw1710417604822824547:=0
def tw7736183226910487576:=0
def tw5944600063043191516:=0
def tw7379251020053979555:=0
def tw6113972574210447298:=0
def tw4983546875122458970:=0
def tw9404488009425186428:=0
def tw17080888305404822677:=0
def tw15172469667958437397:=0
def tw15587609574189871850:=0
def tw11832376905866066203:=0
def tw3847669343308693415:=0
def tw14471502172065162029:=0
def tw10295613352603328156:=0
def tw7233287753724314111:=0
def tw4936720185060689316:=0
def tw14988617417092462893:=0
def tw5219325525466519123:=0
def tw1248044338121034746:=0
def tw17269959567608485375:=0
def tw672488756584952725:=0
def tw2174433795789295113:=0
def tw1298441107130838717:=0
def tw12372934470699770478:=0
def tw837258386837110910:=0
def tw3712459004175910051:=0
def tw14521039858205959302:=0
def tw11272445780934696481:=0
def tw8234925758527403915:=0
def tw6095384911736197392:=0
def tw16481921476085197426:=0
def tw8990672941177141122:=0
def tw8529207102652015219:=0
def tw4633514136564290554:=0
def tw13339154588403632001:=0
def tw1085017643296713934:=0
def tw8290923230782359889:=0
def tw4358189785924571872:=0
def tw15433517786245071208:=0
def tw14048755327532850113:=0
def tw13230942039084763377:=0
def tw9232804125960376229:=0
def tw7327763470841906049:=0
def tw18203181771848744420:=0
def tw1340463265395826793:=0
def tw8285914333462361492:=0
def tw10815395538403666030:=0
def tw7553528570664676172:=0
def tw10421798709738091412:=0
def tw7633131683309936871:=0
def tw1787309849774450126:=0
def tw2264381768855191187:=0
def tw14737049950111889397:=0
def tw11751808291694161022:=0
def tw3351328182079521636:=0
def tw12215133599670904688:=0
def tw17092995602074012035:=0
def tw9172315076991498158:=0
def tw4333333314015436554:=0
def tw3913390899810446867:=0
def tw6710021108952344903:=0
def tw17478798012257404902:=0
def tw11323183277759347272:=0
def tw14327994182023111569:=0
def tw13240433765661298631:=0
def tw16028865968158127130:=0
def tw1839260712332217056:=0
def tw14191807163299287154:=0
def tw77360716668201482:=0
def tw12871563027791856420:=0
def tw16087463385495805739:=0
def tw11965362654773761146:=0
def tw11446304587191414670:=0
def tw1599224245228294150:=0
def tw1571913309362053392:=0
def tw2431072158684031557:=0
def tw14912633972033916139:=0
def tw2041413106281185994:=0
def tw6088865686909000779:=0
def tw7624879829255486298:=0
def tw15353457079010817012:=0
def tw1373344646715077589:=0
def tw11172967673167954211:=0
def tw5169654142517615235:=0
def tw15645052850753978911:=0
def tw14829874990778400822:=0
def tw9397100736437211497:=0
def tw13332767227222937229:=0
def tw596500626711902263:=0
def tw2210376372879429478:=0
def tw10134978946571981550:=0
def tw7861013834696854243:=0
def tw221365120501972083:=0
def tw1933261990485918969:=0
def tw16751243856654414975:=0
def tw1118399580370845183:=0
def tw9485829547574644677:=0
def tw4571625044797967123:=0
def tw1879810492100903166:=0
def tw6853186013937512818:=0
def tw352982616675008395:=0
def tw3281400799571978789:=0
def tw18048866895022433554:=0
def tw16635752259311156806:=0
def tw7900253985295379319:=0
def tw7089269571263505811:=0
def tw14186339766267754178:=0
def tw7881479688895418920:=0
def tw14637489525331142783:=0
def tw12641506046168573150:=0
def tw11219416064796023358:=0
def tw7728347545649722532:=0
def tw4555162950872774221:=0
def tw1829858785680243418:=0
def tw8875478703798994358:=0
def tw5659980089088863973:=0
def tw5141159651373193307:=0
def tw4083699158462514811:=0
def tw4202023584021502717:=0
def tw3427883196450944936:=0
def tw2421541721024196396:=0
def tw17732633658452025550:=0
def tw12091376205709444729:=0
def tw14369985404794028991:=0
def tw8937388397291518472:=0
def tw8211077689320150395:=0
def tw5614932525759566769:=0
def tw5434571846154460731:=0
def tw5113521055949026957:=0
def tw4295080209629994678:=0
def tw355950299168516882:=0
def tw3291533966667990804:=0
def tw18393974862839377782:=0
def tw18372528680173152088:=0
def tw18188999557998384382:=0
def tw15939625293017848247:=0
def tw14645335491009570103:=0
def tw13904327730610128969:=0
def tw831480064921274445:=0
def tw7994599639331825545:=0
def tw6034884971289855414:=0
def tw14732875471731019289:=0
def tw12082757798564518233:=0
def tw7577433402096960060:=0
def tw17276474583698612528:=0
def tw11403384379251831088:=0
def tw7597639267526808830:=0
def tw11834491505843413300:=0
def tw8203208615343000802:=0
def tw7103847350591840556:=0
def tw15497225578752689734:=0
def tw2813928552777528589:=0
def tw9565637213400842595:=0
def tw6581491798549469558:=0
def tw512091635593873028:=0
def tw4242368905032492410:=0
def tw4012652139618969601:=0
def tw2802360366359731022:=0
def tw2646876428639765906:=0
def tw2542576769371162300:=0
def tw2189649953279423822:=0
def tw17718738369142315196:=0
def tw17393468538555595440:=0
def tw17109110004335327891:=0
def tw16373565841172684305:=0
def tw16336688292663008909:=0
def tw15971574002545406588:=0
def tw15896538596607001070:=0
def tw15239950298613053854:=0
def tw15157958582207559423:=0
def tw14855201887695934639:=0
def tw14035537216357575210:=0
def tw13935623403503080843:=0
def tw13820620633650169038:=0
def tw1364747925913832195:=0
def tw12670870527080352323:=0
def tw12104352670051821408:=0
def tw1181731785456255172:=0
def tw11185116075679189748:=0
def tw10880214348319787973:=0
def tw1066222934351295474:=0
def tw8261713550865655263:=0
def tw10290201761020218631:=0
def tw18413386330482967251:=0
def tw2473885703709040426:=0
def tw12529099709819406792:=0
def tw15677450631490676255:=0
def tw10833779291438904489:=0
def tw9444297918068646053:=0
def tw8896541646920438011:=0
def tw5098768796002694167:=0
def tw413633591234532059:=0
def tw2401964676449027340:=0
def tw18264279888792187183:=0
def tw18231261059142017462:=0
def tw17831985416362935048:=0
def tw15974746261468210567:=0
def tw14589991889359398527:=0
def tw14311631004805756126:=0
def tw10880124028910135347:=0
def tw10860269529515253195:=0
def tw1039408361351081590:=0
def tw10389724259575773113:=0
def tw9415571525634922464:=0
def tw9088194608160546163:=0
def tw7547062707922988174:=0
def tw7381959539750134562:=0
def tw6978679442942263096:=0
def tw555571362628653966:=0
def tw5028086068814616600:=0
def tw327313810114669210:=0
def tw2451327679255296020:=0
def tw2380735318971136336:=0
def tw1638401470342661958:=0
def tw10743673244300232345:=0
def tw10486232542901855788:=0
def tw10055047981985101589:=0
def tw12686447878025430910:=0
def tw9460302704142155136:=0
def tw5493915836593396379:=0
def tw515809816576509031:=0
def tw3281551482775111142:=0
def tw16279557548364948635:=0
def tw15967092637320625515:=0
def tw15203326123883519217:=0
def tw13267557779285274768:=0
def tw10446484673877124217:=0
def tw9514546509774074328:=0
def tw9047628247200725492:=0
def tw8024090339173344184:=0
def tw7998051920210437692:=0
def tw7872995940440912801:=0
def tw6435457700126266855:=0
def tw4731917152802387332:=0
def tw4354769987136375278:=0
def tw3957578523428016926:=0
def tw3598688402861264554:=0
def tw3383831366613700084:=0
def tw2775547537554940434:=0
def tw17179483398985833964:=0
def tw15015006586947041272:=0
def tw9959555570513201729:=0
def tw9816587987408155383:=0
def tw9750297294183431589:=0
def tw9659403014749894186:=0
def tw9653539739016511258:=0
def tw9608590762227484462:=0
def tw9605575571605635663:=0
def tw9516729955640989433:=0
def tw9355358083426264938:=0
def tw9192807297186749144:=0
def tw9169873724254404813:=0
def tw9114297215604043250:=0
def tw9023253026624266436:=0
def tw8955957748700493403:=0
def tw8594571906130567841:=0
def tw8547320016439079063:=0
def tw8481882722118334000:=0
def tw8414157916503568355:=0
def tw8402087138167748339:=0
def tw8216848526030989337:=0
def tw819354522165392905:=0
def tw8181210928095568103:=0
def tw7768390686340661182:=0
def tw7696690879830962898:=0
def tw7656206977458542887:=0
def tw7610437213464489060:=0
def tw7598366885224733624:=0
def tw7550802744431710203:=0
def tw7452814448399067494:=0
def tw7204459364498812548:=0
def tw7071084373479702853:=0
def tw700136437487099604:=0
def tw6828276311734745020:=0
def tw6562387909385944922:=0
def tw6529449455913353986:=0
def tw6322925308154173451:=0
def tw6316239130347551532:=0
def tw6292140698128695141:=0
def tw6227102866930240631:=0
def tw6177486721653450822:=0
def tw6163534101115911393:=0
def tw6127139933382746845:=0
def tw6012017850435458324:=0
def tw5817040525880328816:=0
def tw580645515143247710:=0
def tw5790728143162457236:=0
def tw5732821224842381057:=0
def tw549634994650019096:=0
def tw5495254556527584525:=0
def tw5438769494093919804:=0
def tw5418926351587491773:=0
def tw5318827795982806128:=0
def tw5256009515669112622:=0
def tw523312215167018455:=0
def tw5201961039661125468:=0
def tw515448046376880963:=0
def tw515370071252887679:=0
def tw5125824674629580077:=0
def tw5057711334084103358:=0
def tw4981106355954460882:=0
def tw489042502545144613:=0
def tw4871187230961796851:=0
def tw4786079756944020604:=0
def tw4736640376533338591:=0
def tw4661847146702152275:=0
def tw4576429257937556464:=0
def tw4551976948757192551:=0
def tw4483261299096618590:=0
def tw4456704968285780005:=0
def tw4435102499043850764:=0
def tw440740674474029434:=0
def tw4307063593846832744:=0
def tw4253366190608684097:=0
def tw4249435620855624646:=0
def tw3907328014417443433:=0
def tw3834111947249464776:=0
def tw3795851036273695300:=0
def tw3750196812910411191:=0
def tw3727987077983983470:=0
def tw3678178908569685058:=0
def tw3664946489385762084:=0
def tw3659937001303737715:=0
def tw3649133440722302393:=0
def tw3643365833991434936:=0
def tw3568700010519013027:=0
def tw3539873992140815718:=0
def tw3519617765043772666:=0
def tw3503210414012671509:=0
def tw3390008139802458940:=0
def tw3386878581120908937:=0
def tw2912440672715386360:=0
def tw2678965849620544705:=0
def tw2592902154726486885:=0
def tw2584865462401978444:=0
def tw2478710478448975121:=0
def tw2436581179799324305:=0
def tw2391595217876128208:=0
def tw2235935702473285107:=0
def tw2171306342073507173:=0
def tw2147269407775119083:=0
def tw2111798270225862670:=0
def tw2043721688256615296:=0
def tw2034197150641208803:=0
def tw2013601550136372798:=0
def tw1889662439564934817:=0
def tw1842660614174757157:=0
def tw18399292669467063053:=0
def tw18324345964854167160:=0
def tw18264147852635114701:=0
def tw18136638666440357104:=0
def tw18101811379621134633:=0
def tw18087081825221755573:=0
def tw18069849671295024838:=0
def tw18032297813369923639:=0
def tw18006293806704049333:=0
def tw17878440126142987151:=0
def tw17864531294172817513:=0
def tw17651885261077401619:=0
def tw17618514865315220332:=0
def tw17246573256034819050:=0
def tw17155174686336213754:=0
def tw17151104626063562413:=0
def tw17104761907032344160:=0
def tw1709673641111426963:=0
def tw17087572394820683760:=0
def tw16990417836953689534:=0
def tw16981632883981239034:=0
def tw16979108640862052542:=0
def tw16931431223537912891:=0
def tw16880198457306479902:=0
def tw16862918329225139036:=0
def tw16771470393377033988:=0
def tw16755799998160842484:=0
def tw16566598123669013180:=0
def tw16408857809672201740:=0
def tw16329583101367646134:=0
def tw16329297666769888704:=0
def tw16268864264004439529:=0
def tw1608843782729191630:=0
def tw16041634452038842134:=0
def tw15950812552309345039:=0
def tw15704287419886432531:=0
def tw1569391575314711294:=0
def tw15691945543784437823:=0
def tw15686956598545345309:=0
def tw15583989471528204307:=0
def tw15566451324859025023:=0
def tw15536200287958818231:=0
def tw15315493917385507972:=0
def tw15254054707831088635:=0
def tw15230995703260767195:=0
def tw15213539310664585302:=0
def tw15089571848307860704:=0
def tw15062290469434371888:=0
def tw15031109420527323818:=0
def tw15006800325103393098:=0
def tw14959775325521996003:=0
def tw14803353026010554125:=0
def tw14780060651160654087:=0
def tw14761167281301450903:=0
def tw14446682529045484665:=0
def tw14390273557653620923:=0
def tw14334960856532746175:=0
def tw1428948786613439418:=0
def tw14262409889406740927:=0
def tw14234136455953801244:=0
def tw14202840083240197142:=0
def tw14187974538338156800:=0
def tw14154358277895516399:=0
def tw13999197811132439300:=0
def tw13950804520030750123:=0
def tw1385139156979356524:=0
def tw13703233085707685825:=0
def tw13670438637286830809:=0
def tw13585819562592704612:=0
def tw13383107636349205683:=0
def tw13360767098981504891:=0
def tw13322822951989455426:=0
def tw13298193309250387209:=0
def tw13230638819601337759:=0
def tw13218714819127160883:=0
def tw13206088693158091813:=0
def tw13085713151773218898:=0
def tw13062082531947269147:=0
def tw13048450601583341301:=0
def tw13016207994650067031:=0
def tw1299930071573528905:=0
def tw12920379488164611968:=0
def tw12794296601055090355:=0
def tw12724718357918541533:=0
def tw12721075076903739134:=0
def tw12705330159105068411:=0
def tw12671069647410199735:=0
def tw12637714837801992101:=0
def tw12616349843060849408:=0
def tw12597763312695166425:=0
def tw12522905949700309860:=0
def tw12468930037173379601:=0
def tw12301586876421389138:=0
def tw12109681443947158748:=0
def tw11929862172396714455:=0
def tw11921800076645450829:=0
def tw11867346260493527257:=0
def tw1186448651774908785:=0
def tw11670972605071958026:=0
def tw1163282964966578187:=0
def tw11550715675072978654:=0
def tw11447677551815070861:=0
def tw11409197707229503027:=0
def tw1140185858497901175:=0
def tw11365954989310928841:=0
def tw1133944671480986569:=0
def tw11145546174513639147:=0
def tw10980123738762854876:=0
def tw10965302918601719411:=0
def tw10834947623307414832:=0
def tw10825169682971292970:=0
def tw1079021227938320789:=0
def tw10769824685711103283:=0
def tw1072088852201363553:=0
def tw10685680330893140390:=0
def tw10558584478399045484:=0
def tw10530471912458018529:=0
def tw10339305955623600706:=0
def tw10263625089684899910:=0
def tw10245654555425066108:=0
def tw10182495796210166403:=0
end PySem.W.Fast
set_option maxRecDepth 100000 in
set_option maxHeartbeats 0 in
theorem PySem.Challenge.cw_redquill_k87_answers_ten_deep_holds : PySem.Challenge.rw_redquill_k87_answers_ten_deep.Holds := by
 w_on;o_law;k_head;(case hw=>w_witness2)
 k_fill
 refine L3.walk3 (l:=PySem.Challenge.rw_redquill_k87_answers_ten_deep) (k:=16) (x:="_law_script") rfl rfl ⟨rfl,by decide,by decide⟩ (fun w h Y=>PySem.W.kIn_of Y) ?F
 case F=>
  intro w mg fa h KX G hmg;refine' RQ.all_mk (.mk KX G ..) hmg
  all_goals walk_at "gq"
